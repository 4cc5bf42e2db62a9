import Derived.Test.YtiamjjonoeaggaaGreatDoorGA
import Derived.Test.YtiamjjonoeaggaaGreatDoorG00
import Derived.Test.YtiamjjonoeaggaaGreatDoorG01
import Derived.Deep.Trees
import Derived.Deep.QuietTactic
import Derived.BigQuiet
import Derived.Deep.LoopGhost
import Derived.Laws.AppendOwnNone
import Derived.Deep.RegionWith
import Derived.Deep.CutRange
import Derived.Deep.RegionHeld
namespace Go.Proofs.YtiamjjonoeaggaaGreatDoor
open Go.RowKit
structure Tok where
 text:By
 pos:Nat
def q0g (c:UInt8):By→Nat
 | []=>0
 |d::r=>if q5f (c.toNat:Int) (d.toNat:Int)then q0g d r+1 else 0
def qq (s:By)(i:Nat):Nat:=i+1+q0g (s.getD i 0) (s.drop (i+1))
def cut (s:By)(i k:Nat):By:=(s.drop i).take (k-i)
def q2b (c:UInt8):Bool:=c==32 || c==10
def q3F (c:UInt8)(t:By):Bool:=inB t q1j || (zQ (c.toNat:Int)&&decide (t.length≤3)) || (q0n (c.toNat:Int)&&decide (t.length≤8))
def q2a (s:By):Nat→Nat→List Tok→List Tok × Int
 | 0,_,acc=>(acc,-1)
 |f+1,i,acc =>
  if s.length≤i then(acc,-1)
  else if q2b (s.getD i 0)then q2a s f (i+1) acc
  else if q3F (s.getD i 0) (cut s i (qq s i))then q2a s f (qq s i) (acc++[⟨cut s i (qq s i),i⟩])
  else([],(i:Int))
theorem q5D (s:By):∀(f g i:Nat) (acc:List Tok),s.length-i≤f→s.length-i≤g→q2a s f i acc=q2a s g i acc:=by
 intro f
 induction f with
 |zero =>
  intro g i acc hf hg
  cases g with
  |zero=>rfl
  |succ g=>rw[q2a,q2a,if_pos (by omega)]
 |succ f ih =>
  intro g i acc hf hg
  cases g with
  |zero=>rw[q2a,q2a,if_pos (by omega)]
  |succ g =>
   rw[q2a,q2a]
   by_cases h1:s.length≤i
   ·rw[if_pos h1,if_pos h1]
   ·rw[if_neg h1,if_neg h1]
    by_cases h2:q2b (s.getD i 0)=true
    ·rw[if_pos h2,if_pos h2];exact ih g (i+1) acc (by omega) (by omega)
    ·rw[if_neg h2,if_neg h2]
     by_cases h3:q3F (s.getD i 0) (cut s i (qq s i))=true
     ·rw[if_pos h3,if_pos h3]
      have:i+1≤qq s i:=by unfold qq;omega
      exact ih g _ _ (by omega) (by omega)
     ·rw[if_neg h3,if_neg h3]
def q0S (s:By):List Tok × Int:=q2a s s.length 0 []
theorem j1I (c:UInt8)(l:By):q0g c l≤l.length:=by
 induction l generalizing c with
 |nil=>simp[q0g]
 |cons d r ih =>
  rw[q0g]
  have:=ih d
  split
  ·simp;omega
  ·simp
theorem q9Q (s:By)(i:Nat)(h:i<s.length):qq s i≤s.length:=by
 unfold qq
 have:=j1I (s.getD i 0) (s.drop (i+1))
 rw[List.length_drop]at this
 omega
theorem j6z (s:By)(i k:Nat):(ByteArray.mk s.toArray).extract i k=ByteArray.mk (cut s i k).toArray:=by
 apply ByteArray.ext
 unfold cut
 simp
theorem j5o {s:By}{i:Nat}{acc:List Tok}{R:List Tok × Int}(h:q2a s (s.length-i) i acc=R)(hi:s.length≤i):R=(acc,-1):=by
 rw[←h,q5D s (s.length-i) 1 i acc (by omega) (by omega),q2a,if_pos hi]
theorem j2y {s:By}{i:Nat}{acc:List Tok}{R:List Tok × Int}(h:q2a s (s.length-i) i acc=R)(hi:i<s.length)(hb:q2b (s.getD i 0)=true):q2a s (s.length-(i+1)) (i+1) acc=R:=by
 rw[←h,q5D s (s.length-i) (s.length-(i+1)+1) i acc (by omega) (by omega),q2a,if_neg (by omega),if_pos hb]
theorem j8h {s:By}{i:Nat}{acc:List Tok}{R:List Tok × Int}(h:q2a s (s.length-i) i acc=R)(hi:i<s.length)(hb:q2b (s.getD i 0)=false)
  (ho:q3F (s.getD i 0) (cut s i (qq s i))=true):q2a s (s.length-qq s i) (qq s i) (acc++[⟨cut s i (qq s i),i⟩])=R:=by
 have:i+1≤qq s i:=by unfold qq;omega
 rw[←h,q5D s (s.length-i) (s.length-(i+1)+1) i acc (by omega) (by omega),q2a,if_neg (by omega),if_neg (by rw[hb];simp),if_pos ho]
 exact q5D s _ _ _ _ (by omega) (by omega)
theorem j8g {s:By}{i:Nat}{acc:List Tok}{R:List Tok × Int}(h:q2a s (s.length-i) i acc=R)(hi:i<s.length)(hb:q2b (s.getD i 0)=false)
  (ho:q3F (s.getD i 0) (cut s i (qq s i))=false):R=([],(i:Int)):=by
 rw[←h,q5D s (s.length-i) (s.length-(i+1)+1) i acc (by omega) (by omega),q2a,if_neg (by omega),if_neg (by rw[hb];simp),if_neg (by rw[ho];simp)]
theorem zo {w w':World}{base:Nat}{e:TypeId}{size:Nat}{v:Value}{n:Nat}{xs:List Value}(h:w.ownsRow base e size v n xs)(hb:Below w.heap.size w w'):w'.ownsRow base e size v n xs:=by
 obtain⟨h1,h2⟩:=h
 refine⟨h1,?_⟩
 rcases h2 with h2|⟨g,cap,cur,e1,e2,e3,e4⟩
 ·exact .inl h2
 ·refine .inr ⟨g,cap,cur,e1,e2,?_,e4⟩
  have hg:g<w.heap.size:=by
   rcases Nat.lt_or_ge g w.heap.size with h'|h'
   ·exact h'
   ·simp[Array.getElem?_eq_none h']at e3
  rw[hb.block g hg]
  exact e3
structure Hp where
 nm:By
 ds:List Nat
def cI (s:By)(i:Nat):Int:=((s.getD i 0).toNat:Int)
def dI (s:By)(i:Nat):Nat:=(s.getD i 0).toNat-48
def stF (s:By):Nat→Nat→Nat→Bool × Nat × Nat
 | 0,n,i=>(true,n,i)
 |f+1,n,i=>if zQ (cI s i)=true then(if 65535<10*n+dI s i then(false,n,i)else stF s f (10*n+dI s i) (i+1))else(true,n,i)
def nmF (s:By):Nat→Nat→Nat
 | 0,i=>i
 |f+1,i=>if q0n (cI s i)=true then nmF s f (i+1)else i
def q7D (s:By)(nm:By)(d j:Nat):Bool × Nat × Hp:=
 if cI s j=44 then
  if zQ (cI s (j+1))=true then
   if cI s (j+2)=41 then(true,j+3,⟨nm,[d,dI s (j+1)]⟩)else(false,j+2,⟨[],[]⟩)
  else(false,j+1,⟨[],[]⟩)
 else if cI s j=41 then(true,j+1,⟨nm,[d]⟩)else(false,j,⟨[],[]⟩)
def q2H (s:By)(i:Nat):Bool × Nat × Hp:=
 if cI s i=32 then
  if i+1<nmF s 8 (i+1)then
   if cI s (nmF s 8 (i+1))=40 then
    if zQ (cI s (nmF s 8 (i+1)+1))=true then q7D s (cut s (i+1) (nmF s 8 (i+1))) (dI s (nmF s 8 (i+1)+1)) (nmF s 8 (i+1)+2)
    else(false,nmF s 8 (i+1)+1,⟨[],[]⟩)
   else(false,nmF s 8 (i+1),⟨[],[]⟩)
  else(false,i+1,⟨[],[]⟩)
 else(false,i,⟨[],[]⟩)
def q2g (s:By):Nat→Nat→List Hp→Sum Nat (List Hp)
 | 0,_,acc=>.inr acc
 |f+1,i,acc=>if i<s.length then(if (q2H s i).1=true then q2g s f (q2H s i).2.1 (acc++[(q2H s i).2.2])else .inl (q2H s i).2.1)else .inr acc
def q3D (s:By):Sum Nat (Nat × List Hp):=
 if cI s 0=64 then
  if (stF s 5 0 1).1=true∧1<(stF s 5 0 1).2.2 then
   match q2g s s.length (stF s 5 0 1).2.2 []with
   | .inl p=>.inl p
   | .inr l=>.inr ((stF s 5 0 1).2.1,l)
  else .inl (stF s 5 0 1).2.2
 else .inl 0
theorem j6y {s:By}{i:Nat}(h:s.length≤i):cI s i=0:=by
 unfold cI
 simp[List.getD,List.getElem?_eq_none h]
theorem q2I {s:By}{i:Nat}(h:cI s i≠0):i<s.length:=by
 rcases Nat.lt_or_ge i s.length with g|g
 ·exact g
 ·exact absurd (j6y g) h
theorem q3o {s:By}{i:Nat}(h:zQ (cI s i)=true):i<s.length∧48≤cI s i∧cI s i≤57:=by
 have h2:48≤cI s i∧cI s i≤57:=by simpa[zQ]using h
 exact⟨q2I (by omega),h2⟩
theorem j1b {s:By}{i:Nat}(h:q0n (cI s i)=true):i<s.length∧97≤cI s i∧cI s i≤122:=by
 have h2:97≤cI s i∧cI s i≤122:=by simpa[q0n]using h
 exact⟨q2I (by omega),h2⟩
theorem dI_eq {s:By}{i:Nat}(h:zQ (cI s i)=true):(dI s i:Int)=cI s i-48:=by
 have:=(q3o h).2
 unfold dI cI at *
 omega
theorem q9N (s:By):∀(f n i:Nat),i≤s.length→n≤65535→i≤(stF s f n i).2.2∧(stF s f n i).2.2≤s.length∧(stF s f n i).2.2≤i+f∧(stF s f n i).2.1≤65535:=by
 intro f
 induction f with
 |zero=>intro n i h hn;exact⟨zL _,h,zL _,hn⟩
 |succ f ih =>
  intro n i h hn
  rw[stF]
  by_cases hd:zQ (cI s i)=true
  ·rw[if_pos hd]
   by_cases hb:65535<10*n+dI s i
   ·rw[if_pos hb];exact⟨zL _,h,by simp,hn⟩
   ·rw[if_neg hb]
    have:=ih (10*n+dI s i) (i+1) (by have:=(q3o hd).1;omega) (by omega)
    omega
  ·rw[if_neg hd];exact⟨zL _,h,by simp,hn⟩
theorem q9y (s:By):∀(f i:Nat),i≤s.length→i≤nmF s f i∧nmF s f i≤s.length∧nmF s f i≤i+f:=by
 intro f
 induction f with
 |zero=>intro i h;exact⟨zL _,h,zL _⟩
 |succ f ih =>
  intro i h
  rw[nmF]
  by_cases hd:q0n (cI s i)=true
  ·rw[if_pos hd]
   have:=ih (i+1) (by have:=(j1b hd).1;omega)
   omega
  ·rw[if_neg hd];omega
theorem j7Y (s:By)(nm:By)(d j:Nat)(h:j≤s.length):j≤(q7D s nm d j).2.1∧(q7D s nm d j).2.1≤s.length:=by
 unfold q7D
 by_cases h1:cI s j=44
 ·rw[if_pos h1]
  have:=q2I (s:=s) (i:=j) (by omega)
  by_cases h2:zQ (cI s (j+1))=true
  ·rw[if_pos h2]
   have:=(q3o h2).1
   by_cases h3:cI s (j+2)=41
   ·rw[if_pos h3]
    have:=q2I (s:=s) (i:=j+2) (by omega)
    simp only[];omega
   ·rw[if_neg h3];simp only[];omega
  ·rw[if_neg h2];simp only[];omega
 ·rw[if_neg h1]
  by_cases h2:cI s j=41
  ·rw[if_pos h2]
   have:=q2I (s:=s) (i:=j) (by omega)
   simp only[];omega
  ·rw[if_neg h2];simp only[];omega
theorem j0s (s:By)(i:Nat)(h:i≤s.length):i≤(q2H s i).2.1∧(q2H s i).2.1≤s.length∧((q2H s i).1=true→i<(q2H s i).2.1):=by
 unfold q2H
 by_cases h1:cI s i=32
 ·rw[if_pos h1]
  have hi:=q2I (s:=s) (i:=i) (by omega)
  have hn:=q9y s 8 (i+1) (by omega)
  generalize nmF s 8 (i+1)=e at *
  by_cases h2:i+1<e
  ·rw[if_pos h2]
   by_cases h3:cI s e=40
   ·rw[if_pos h3]
    have he:=q2I (s:=s) (i:=e) (by omega)
    by_cases h4:zQ (cI s (e+1))=true
    ·rw[if_pos h4]
     have h5:=(q3o h4).1
     have:=j7Y s (cut s (i+1) e) (dI s (e+1)) (e+2) (by omega)
     exact⟨by omega,this.2,fun _=>by omega⟩
    ·rw[if_neg h4];exact⟨by simp only[];omega,by simp only[];omega,fun e=>by simp at e⟩
   ·rw[if_neg h3];exact⟨by simp only[];omega,by simp only[];omega,fun e=>by simp at e⟩
  ·rw[if_neg h2];exact⟨by simp only[];omega,by simp only[];omega,fun e=>by simp at e⟩
 ·rw[if_neg h1];exact⟨zL _,h,fun e=>by simp at e⟩
def q4a (h:Hp):By:=h.nm++40::(match h.ds with
 | [d]=>[UInt8.ofNat (48+d),41]
 | [d,d']=>[UInt8.ofNat (48+d),44,UInt8.ofNat (48+d'),41]
 |_=>[])
structure HpOk (h:Hp):Prop where
 nm:0<h.nm.length∧h.nm.length≤8∧∀c∈h.nm,q0n (c.toNat:Int)=true
 ds:(h.ds.length=1∨h.ds.length=2)∧∀d∈h.ds,d≤9
theorem q3C {s:By}{i e:Nat}(h:i<e)(he:e≤s.length):cut s i e=s.getD i 0::cut s (i+1) e:=by
 unfold cut
 have e0:s.getD i 0=s[i]:=by simp[List.getD,show i<s.length by omega]
 rw[e0,List.drop_eq_getElem_cons (by omega),show e-i=(e-(i+1))+1 by omega,List.take_succ_cons]
theorem q5j (s:By)(i:Nat):cut s i i=[]:=by unfold cut;simp
theorem j4z {s:By}{i m e:Nat}(h:i≤m)(h2:m≤e)(_he:e≤s.length):cut s i e=cut s i m++cut s m e:=by
 unfold cut
 have e1:e-i=(m-i)+(e-m):=by omega
 rw[e1,List.take_add,List.drop_drop,show i+(m-i)=m by omega]
theorem q7e {s:By}{i c:Nat}(h:cI s i=(c:Int))(hc:c<256):s.getD i 0=UInt8.ofNat c:=by
 unfold cI at h
 apply UInt8.toNat_inj.1
 rw[UInt8.toNat_ofNat_of_lt' (by omega)]
 omega
theorem j0M {s:By}{i:Nat}(h:zQ (cI s i)=true):s.getD i 0=UInt8.ofNat (48+dI s i)∧dI s i≤9:=by
 have h1:=dI_eq h
 have h2:=(q3o h).2
 exact⟨q7e (by omega) (by omega),by omega⟩
theorem stF_cut (s:By):∀(f n i:Nat),i≤s.length→n≤65535→(stF s f n i).1=true→q2d (cut s i (stF s f n i).2.2)=true∧(cut s i (stF s f n i).2.2).foldl (fun n c=>10*n+(c.toNat-48)) n=(stF s f n i).2.1:=by
 intro f
 induction f with
 |zero=>intro n i h hn _;simp[stF,q5j,q2d]
 |succ f ih =>
  intro n i h hn
  rw[stF]
  by_cases hd:zQ (cI s i)=true
  ·rw[if_pos hd]
   by_cases hb:65535<10*n+dI s i
   ·rw[if_pos hb];intro e;simp at e
   ·rw[if_neg hb]
    intro e
    have hin:=q3o hd
    have:=ih (10*n+dI s i) (i+1) (by omega) (by omega) e
    have hle:=q9N s f (10*n+dI s i) (i+1) (by omega) (by omega)
    rw[q3C (by omega) hle.2.1]
    refine⟨?_,this.2⟩
    have:=this.1
    unfold q2d at this ⊢
    rw[List.all_cons,this,Bool.and_true]
    exact hd
  ·rw[if_neg hd]
   intro _
   simp[q5j,q2d]
theorem nmF_cut (s:By):∀(f i:Nat),i≤s.length→(∀j,i≤j→j<nmF s f i→q0n (cI s j)=true)∧∀c∈cut s i (nmF s f i),q0n (c.toNat:Int)=true:=by
 intro f
 induction f with
 |zero=>intro i h;exact⟨fun j h1 h2=>by simp[nmF]at h2;omega,by simp[nmF,q5j]⟩
 |succ f ih =>
  intro i h
  rw[nmF]
  by_cases hd:q0n (cI s i)=true
  ·rw[if_pos hd]
   have hin:=j1b hd
   have:=ih (i+1) (by omega)
   have hle:=q9y s f (i+1) (by omega)
   refine⟨fun j h1 h2=>?_,?_⟩
   ·by_cases e:j=i
    ·rw[e];exact hd
    ·exact this.1 j (by omega) h2
   ·rw[q3C (by omega) hle.2.1]
    intro c hc
    rcases List.mem_cons.1 hc with rfl|hc
    ·exact hd
    ·exact this.2 c hc
  ·rw[if_neg hd]
   exact⟨fun j h1 h2=>by omega,by simp[q5j]⟩
theorem hapT_cut (s:By)(nm:By)(d j:Nat)(_hj:j≤s.length)(ho:(q7D s nm d j).1=true) :
  ∃ds,(q7D s nm d j).2.2=⟨nm,d::ds⟩∧(ds.length=0∨ds.length=1)∧(∀d∈ds,d≤9)∧cut s j (q7D s nm d j).2.1=(match ds with
   | []=>[41]
   |d::_=>[44,UInt8.ofNat (48+d),41])∧∀m,j≤m→m<(q7D s nm d j).2.1→cI s m≠32:=by
 unfold q7D at ho ⊢
 by_cases h1:cI s j=44
 ·rw[if_pos h1]at ho ⊢
  have i1:=q2I (s:=s) (i:=j) (by omega)
  by_cases h2:zQ (cI s (j+1))=true
  ·rw[if_pos h2]at ho ⊢
   have i2:=q3o h2
   by_cases h3:cI s (j+2)=41
   ·rw[if_pos h3]
    have i3:=q2I (s:=s) (i:=j+2) (by omega)
    have b2:=j0M h2
    refine⟨[dI s (j+1)],rfl,.inr rfl,?_,?_,?_⟩
    ·intro d hd;simp at hd;subst hd;exact b2.2
    ·simp only[]
     rw[q3C (by omega) (by omega),q3C (by omega) (by omega),q3C (by omega) (by omega),q5j,q7e (c:=44) h1 (by omega),q7e (c:=41) h3 (by omega),b2.1]
     rfl
    ·intro m m1 m2
     simp only[]at m2
     have:m=j∨m=j+1∨m=j+2:=by omega
     rcases this with rfl|rfl|rfl<;>omega
   ·rw[if_neg h3]at ho;simp at ho
  ·rw[if_neg h2]at ho;simp at ho
 ·rw[if_neg h1]at ho ⊢
  by_cases h2:cI s j=41
  ·rw[if_pos h2]
   have i1:=q2I (s:=s) (i:=j) (by omega)
   refine⟨[],rfl,.inl rfl,by simp,?_,?_⟩
   ·simp only[]
    rw[q3C (by omega) (by omega),q5j,q7e (c:=41) h2 (by omega)]
    rfl
   ·intro m m1 m2
    simp only[]at m2
    have:m=j:=by omega
    subst this;omega
  ·rw[if_neg h2]at ho;simp at ho
theorem hapR_cut (s:By)(i:Nat)(_hi:i≤s.length)(ho:(q2H s i).1=true):cI s i=32∧HpOk (q2H s i).2.2∧cut s (i+1) (q2H s i).2.1=q4a (q2H s i).2.2∧∀m,i+1≤m→m<(q2H s i).2.1→cI s m≠32:=by
 unfold q2H at ho ⊢
 by_cases h1:cI s i=32
 ·rw[if_pos h1]at ho ⊢
  have i1:=q2I (s:=s) (i:=i) (by omega)
  have hn:=q9y s 8 (i+1) (by omega)
  have hc:=nmF_cut s 8 (i+1) (by omega)
  generalize nmF s 8 (i+1)=e at *
  by_cases h2:i+1<e
  ·rw[if_pos h2]at ho ⊢
   by_cases h3:cI s e=40
   ·rw[if_pos h3]at ho ⊢
    have i3:=q2I (s:=s) (i:=e) (by omega)
    by_cases h4:zQ (cI s (e+1))=true
    ·rw[if_pos h4]at ho ⊢
     have i4:=q3o h4
     have b4:=j0M h4
     obtain⟨ds,e1,e2,e3,e4,e5⟩:=hapT_cut s (cut s (i+1) e) (dI s (e+1)) (e+2) (by omega) ho
     have hin:=j7Y s (cut s (i+1) e) (dI s (e+1)) (e+2) (by omega)
     refine⟨h1,?_,?_,?_⟩
     ·rw[e1]
      refine⟨⟨?_,?_,hc.2⟩,?_,?_⟩
      ·show 0<(cut s (i+1) e).length
       unfold cut;simp;omega
      ·show(cut s (i+1) e).length≤8
       unfold cut;simp;omega
      ·show(dI s (e+1)::ds).length=1∨(dI s (e+1)::ds).length=2
       simp only[List.length_cons];omega
      ·intro d hd
       rcases List.mem_cons.1 hd with rfl|hd
       ·exact b4.2
       ·exact e3 d hd
     ·rw[j4z (m:=e) (by omega) (by omega) hin.2,q3C (i:=e) (by omega) hin.2,q3C (i:=e+1) (by omega) hin.2,e4,e1,q7e (c:=40) h3 (by omega),b4.1]
      unfold q4a
      match ds,e2 with
      | [],_=>rfl
      | [d],_=>rfl
      |_::_::_,h=>simp at h
     ·intro m m1 m2
      rcases Nat.lt_or_ge m e with g|g
      ·have:=(j1b (hc.1 m m1 g)).2;omega
      ·rcases Nat.lt_or_ge m (e+2)with g2|g2
       ·have:m=e∨m=e+1:=by omega
        rcases this with rfl|rfl<;>omega
       ·exact e5 m g2 m2
    ·rw[if_neg h4]at ho;simp at ho
   ·rw[if_neg h3]at ho;simp at ho
  ·rw[if_neg h2]at ho;simp at ho
 ·rw[if_neg h1]at ho;simp at ho
structure Pay where
 word:By
 args:List (By)
 lo:By
 hi:By
abbrev zh:=Go.Deep.BT Pay
abbrev q6y (α:Type):=Sum (List Tok) (α × List Tok)
def qy {α β:Type}(x:q6y α)(f:α→List Tok→q6y β):q6y β:=match x with
 | .inl r=>.inl r
 | .inr (a,r)=>f a r
def q0p (p:By→Bool)(ts:List Tok):q6y Tok:=match ts with
 | []=>.inl []
 |t::r=>if p t.text then .inr (t,r)else .inl (t::r)
def hd (ts:List Tok):By:=match ts with
 | []=>[]
 |t::_=>t.text
def q4b (t:By):Bool:=match t with
 | []=>false
 |c::_=>zQ (c.toNat:Int)
def q1h (t:By):Bool:=t==[120] || t==[121]
def q5u (t:By):Bool:=(t.length==1&&q2d t) || q1h t
def q3Y (t:By):Bool:=t==[42] || q4b t
def qx (c:By)(t:By):Bool:=c==t
def q1J (ts:List Tok):q6y (List (By)):=
 if hd ts==[44]then qy (q0p (qx [44]) ts) fun _ r=>qy (q0p q5u r) fun a r=>.inr ([a.text],r)else .inr ([],ts)
def q2j (ts:List Tok):q6y (Nat × By × By):=
 qy (q0p (qx [91]) ts) fun o r=>qy (q0p q4b r) fun a r=>qy (q0p (qx [44]) r) fun _ r=>qy (q0p q3Y r) fun b r=>qy (q0p (qx [93]) r) fun _ r=>.inr ((o.pos,a.text,b.text),r)
def q7T (w:By):Pay:=⟨w,[],[],[]⟩
def q0x:Nat→List Tok→q6y zh
 | 0,ts=>.inl ts
 |n+1,ts =>
  if zx (hd ts)then
   qy (q0p zx ts) fun t r=>qy (q0p (qx [40]) r) fun _ r=>qy (q0p q5u r) fun a r=>qy (q1J r) fun b r=>qy (q0p (qx [41]) r) fun _ r =>
    .inr (.node t.pos 0 ⟨t.text,a.text::b,[],[]⟩ .nil .nil,r)
  else if hd ts==[101,120,105,115,116,115]then
   qy (q0p (qx (hd ts)) ts) fun t r=>qy (q0p q1h r) fun v r=>qy (q0p (qx [40]) r) fun _ r=>qy (q0x n r) fun A r=>qy (q0p (qx [41]) r) fun _ r =>
    .inr (.node t.pos 0 ⟨t.text,[v.text],[],[]⟩ A .nil,r)
  else if qh (hd ts)then
   qy (q0p (qx (hd ts)) ts) fun t r=>qy (q0p (qx [40]) r) fun _ r=>qy (q0x n r) fun A r=>qy (q0p (qx [44]) r) fun _ r=>qy (q0x n r) fun B r=>qy (q0p (qx [41]) r) fun _ r =>
    .inr (.node t.pos 0 (q7T t.text) A B,r)
  else if qE (hd ts)then
   qy (q0p (qx (hd ts)) ts) fun t r=>qy (q2j r) fun s r=>qy (q0p (qx [40]) r) fun _ r=>qy (q0x n r) fun A r=>qy (q0p (qx [41]) r) fun _ r =>
    .inr (.node t.pos s.1 ⟨t.text,[],s.2.1,s.2.2⟩ A .nil,r)
  else if qB (hd ts)then
   qy (q0p (qx (hd ts)) ts) fun t r=>qy (q2j r) fun s r=>qy (q0p (qx [40]) r) fun _ r=>qy (q0x n r) fun A r=>qy (q0p (qx [44]) r) fun _ r=>qy (q0x n r) fun B r=>qy (q0p (qx [41]) r) fun _ r =>
    .inr (.node t.pos s.1 ⟨t.text,[],s.2.1,s.2.2⟩ A B,r)
  else qy (q0p (qx [116,114,117,101]) ts) fun t r=>.inr (.node t.pos 0 (q7T t.text) .nil .nil,r)
def plc (L:Nat)(ts:List Tok):Nat:=match ts with
 | []=>L
 |t::_=>t.pos
theorem q0w {p:By→Bool}{ts r:List Tok}{t:Tok}(h:q0p p ts=.inr (t,r)):ts=t::r∧p t.text=true:=by
 cases ts with
 |nil=>simp[q0p]at h
 |cons a q =>
  simp only[q0p]at h
  by_cases hp:p a.text=true
  ·rw[if_pos hp]at h
   simp at h
   obtain⟨rfl,rfl⟩:=h
   exact⟨rfl,hp⟩
  ·rw[if_neg hp]at h
   simp at h
def qG:zh→List Tok→Prop
 | .nil,_=>False
 | .node p sp y l r,ts =>
  (zx y.word=true∧y.lo=[]∧y.hi=[]∧l=.nil∧r=.nil∧∃q1 q2 q3 a,q5u a=true∧((y.args=[a]∧ts=[⟨y.word,p⟩,⟨[40],q1⟩,⟨a,q2⟩,⟨[41],q3⟩])∨∃b q4 q5,q5u b=true∧y.args=[a,b]∧ts=[⟨y.word,p⟩,⟨[40],q1⟩,⟨a,q2⟩,⟨[44],q4⟩,⟨b,q5⟩,⟨[41],q3⟩])) ∨
  (zx y.word=false∧y.word=[101,120,105,115,116,115]∧y.lo=[]∧y.hi=[]∧r=.nil∧∃v q1 q2 q3 u,q1h v=true∧y.args=[v]∧qG l u∧ts=⟨y.word,p⟩::⟨v,q1⟩::⟨[40],q2⟩::(u++[⟨[41],q3⟩])) ∨
  (zx y.word=false∧qh y.word=true∧y.args=[]∧y.lo=[]∧y.hi=[]∧∃q1 q2 q3 u u',qG l u∧qG r u'∧ts=⟨y.word,p⟩::⟨[40],q1⟩::(u++⟨[44],q2⟩::(u'++[⟨[41],q3⟩]))) ∨
  (zx y.word=false∧qE y.word=true∧y.args=[]∧r=.nil∧q4b y.lo=true∧q3Y y.hi=true∧∃q1 q2 q3 q4 q5 q6 u,qG l u∧ts=⟨y.word,p⟩::⟨[91],sp⟩::⟨y.lo,q1⟩::⟨[44],q2⟩::⟨y.hi,q3⟩::⟨[93],q4⟩::⟨[40],q5⟩::(u++[⟨[41],q6⟩])) ∨
  (zx y.word=false∧qB y.word=true∧y.args=[]∧q4b y.lo=true∧q3Y y.hi=true∧∃q1 q2 q3 q4 q5 q6 q7 u u',qG l u∧qG r u'∧ts=⟨y.word,p⟩::⟨[91],sp⟩::⟨y.lo,q1⟩::⟨[44],q2⟩::⟨y.hi,q3⟩::⟨[93],q4⟩::⟨[40],q5⟩::(u++⟨[44],q6⟩::(u'++[⟨[41],q7⟩]))) ∨
  (zx y.word=false∧y.word=[116,114,117,101]∧y.args=[]∧y.lo=[]∧y.hi=[]∧l=.nil∧r=.nil∧ts=[⟨y.word,p⟩])
theorem qm {α β:Type}{x:q6y α}{f:α→List Tok→q6y β}{c:β × List Tok}(h:qy x f=.inr c):∃a r,x=.inr (a,r)∧f a r=.inr c:=by
 cases x with
 |inl r=>simp[qy]at h
 |inr p=>exact⟨p.1,p.2,rfl,h⟩
theorem q4V {c t:By}(h:qx c t=true):t=c:=by
 unfold qx at h
 simp at h
 exact h.symm
theorem q1B {c:By}{ts r:List Tok}{t:Tok}(h:q0p (qx c) ts=.inr (t,r)):ts=⟨c,t.pos⟩::r:=by
 obtain⟨h1,h2⟩:=q0w h
 have:=q4V h2
 rw[h1,←this]
theorem q5d {ts r:List Tok}{x:Nat × By × By}(h:q2j ts=.inr (x,r)):q4b x.2.1=true∧q3Y x.2.2=true∧∃q1 q2 q3 q4,ts=⟨[91],x.1⟩::⟨x.2.1,q1⟩::⟨[44],q2⟩::⟨x.2.2,q3⟩::⟨[93],q4⟩::r:=by
 obtain⟨t1,r1,h1,h⟩:=qm h
 obtain⟨t2,r2,h2,h⟩:=qm h
 obtain⟨t3,r3,h3,h⟩:=qm h
 obtain⟨t4,r4,h4,h⟩:=qm h
 obtain⟨t5,r5,h5,h⟩:=qm h
 simp at h
 obtain⟨rfl,rfl⟩:=h
 have e1:=q1B h1
 obtain⟨e2,g2⟩:=q0w h2
 have e3:=q1B h3
 obtain⟨e4,g4⟩:=q0w h4
 have e5:=q1B h5
 exact⟨g2,g4,t2.pos,t3.pos,t4.pos,t5.pos,by rw[e1,e2,e3,e4,e5]⟩
theorem j1e {ts r:List Tok}{x:List (By)}(h:q1J ts=.inr (x,r)):(x=[]∧r=ts)∨∃b q1 q2,q5u b=true∧x=[b]∧ts=⟨[44],q1⟩::⟨b,q2⟩::r:=by
 unfold q1J at h
 by_cases hc:(hd ts==[44])=true
 ·rw[if_pos hc]at h
  obtain⟨t1,r1,h1,h⟩:=qm h
  obtain⟨t2,r2,h2,h⟩:=qm h
  simp at h
  obtain⟨rfl,rfl⟩:=h
  have e1:=q1B h1
  obtain⟨e2,g2⟩:=q0w h2
  exact .inr ⟨t2.text,t1.pos,t2.pos,g2,rfl,by rw[e1,e2]⟩
 ·rw[if_neg hc]at h
  simp at h
  exact .inl ⟨h.1,h.2.symm⟩
theorem q5p:∀(n:Nat) (ts r:List Tok) (F:zh),q0x n ts=.inr (F,r)→∃u,ts=u++r∧qG F u:=by
 intro n
 induction n with
 |zero=>intro ts r F h;simp[q0x]at h
 |succ n ih =>
  intro ts r F h
  rw[q0x]at h
  by_cases c1:zx (hd ts)=true
  ·rw[if_pos c1]at h
   obtain⟨t1,r1,h1,h⟩:=qm h
   obtain⟨t2,r2,h2,h⟩:=qm h
   obtain⟨t3,r3,h3,h⟩:=qm h
   obtain⟨x4,r4,h4,h⟩:=qm h
   obtain⟨t5,r5,h5,h⟩:=qm h
   simp at h
   obtain⟨rfl,rfl⟩:=h
   obtain⟨e1,g1⟩:=q0w h1
   have e2:=q1B h2
   obtain⟨e3,g3⟩:=q0w h3
   have e5:=q1B h5
   rcases j1e h4 with⟨rfl,rfl⟩|⟨b,q1,q2,gb,rfl,e4⟩
   ·exact⟨[t1,⟨[40],t2.pos⟩,t3,⟨[41],t5.pos⟩],by rw[e1,e2,e3,e5];rfl,.inl ⟨g1,rfl,rfl,rfl,rfl,t2.pos,t3.pos,t5.pos,t3.text,g3,.inl ⟨rfl,rfl⟩⟩⟩
   ·exact⟨[t1,⟨[40],t2.pos⟩,t3,⟨[44],q1⟩,⟨b,q2⟩,⟨[41],t5.pos⟩],by rw[e1,e2,e3,e4,e5];rfl,.inl ⟨g1,rfl,rfl,rfl,rfl,t2.pos,t3.pos,t5.pos,t3.text,g3,.inr ⟨b,q1,q2,gb,rfl,rfl⟩⟩⟩
  ·rw[if_neg c1]at h
   by_cases c2:(hd ts==[101,120,105,115,116,115])=true
   ·rw[if_pos c2]at h
    obtain⟨t1,r1,h1,h⟩:=qm h
    obtain⟨t2,r2,h2,h⟩:=qm h
    obtain⟨t3,r3,h3,h⟩:=qm h
    obtain⟨A,r4,h4,h⟩:=qm h
    obtain⟨t5,r5,h5,h⟩:=qm h
    simp at h
    obtain⟨rfl,rfl⟩:=h
    obtain⟨e1,g1⟩:=q0w h1
    have g1:=q4V g1
    obtain⟨e2,g2⟩:=q0w h2
    have e3:=q1B h3
    obtain⟨u,e4,hu⟩:=ih _ _ _ h4
    have e5:=q1B h5
    simp only[beq_iff_eq]at c2
    rw[c2]at g1 c1
    refine⟨t1::t2::⟨[40],t3.pos⟩::(u++[⟨[41],t5.pos⟩]),by rw[e1,e2,e3,e4,e5];simp,.inr (.inl ⟨?_,g1,rfl,rfl,rfl,t2.text,t2.pos,t3.pos,t5.pos,u,g2,rfl,hu,rfl⟩)⟩
    show zx t1.text=false
    rw[g1]
    simpa using c1
   ·rw[if_neg c2]at h
    by_cases c3:qh (hd ts)=true
    ·rw[if_pos c3]at h
     obtain⟨t1,r1,h1,h⟩:=qm h
     obtain⟨t2,r2,h2,h⟩:=qm h
     obtain⟨A,r3,h3,h⟩:=qm h
     obtain⟨t4,r4,h4,h⟩:=qm h
     obtain⟨B,r5,h5,h⟩:=qm h
     obtain⟨t6,r6,h6,h⟩:=qm h
     simp at h
     obtain⟨rfl,rfl⟩:=h
     obtain⟨e1,g1⟩:=q0w h1
     have g1:=q4V g1
     have e2:=q1B h2
     obtain⟨u,e3,hu⟩:=ih _ _ _ h3
     have e4:=q1B h4
     obtain⟨u',e5,hu'⟩:=ih _ _ _ h5
     have e6:=q1B h6
     rw[←g1]at c1 c3
     exact⟨t1::⟨[40],t2.pos⟩::(u++⟨[44],t4.pos⟩::(u'++[⟨[41],t6.pos⟩])),by rw[e1,e2,e3,e4,e5,e6];simp,.inr (.inr (.inl ⟨by simpa[q7T]using c1,c3,rfl,rfl,rfl,t2.pos,t4.pos,t6.pos,u,u',hu,hu',rfl⟩))⟩
    ·rw[if_neg c3]at h
     by_cases c4:qE (hd ts)=true
     ·rw[if_pos c4]at h
      obtain⟨t1,r1,h1,h⟩:=qm h
      obtain⟨x2,r2,h2,h⟩:=qm h
      obtain⟨t3,r3,h3,h⟩:=qm h
      obtain⟨A,r4,h4,h⟩:=qm h
      obtain⟨t5,r5,h5,h⟩:=qm h
      simp at h
      obtain⟨rfl,rfl⟩:=h
      obtain⟨e1,g1⟩:=q0w h1
      have g1:=q4V g1
      obtain⟨n1,n2,q1,q2,q3,q4,e2⟩:=q5d h2
      have e3:=q1B h3
      obtain⟨u,e4,hu⟩:=ih _ _ _ h4
      have e5:=q1B h5
      rw[←g1]at c1 c4
      exact⟨t1::⟨[91],x2.1⟩::⟨x2.2.1,q1⟩::⟨[44],q2⟩::⟨x2.2.2,q3⟩::⟨[93],q4⟩::⟨[40],t3.pos⟩::(u++[⟨[41],t5.pos⟩]),by rw[e1,e2,e3,e4,e5];simp,.inr (.inr (.inr (.inl ⟨by simpa using c1,c4,rfl,rfl,n1,n2,q1,q2,q3,q4,t3.pos,t5.pos,u,hu,rfl⟩)))⟩
     ·rw[if_neg c4]at h
      by_cases c5:qB (hd ts)=true
      ·rw[if_pos c5]at h
       obtain⟨t1,r1,h1,h⟩:=qm h
       obtain⟨x2,r2,h2,h⟩:=qm h
       obtain⟨t3,r3,h3,h⟩:=qm h
       obtain⟨A,r4,h4,h⟩:=qm h
       obtain⟨t5,r5,h5,h⟩:=qm h
       obtain⟨B,r6,h6,h⟩:=qm h
       obtain⟨t7,r7,h7,h⟩:=qm h
       simp at h
       obtain⟨rfl,rfl⟩:=h
       obtain⟨e1,g1⟩:=q0w h1
       have g1:=q4V g1
       obtain⟨n1,n2,q1,q2,q3,q4,e2⟩:=q5d h2
       have e3:=q1B h3
       obtain⟨u,e4,hu⟩:=ih _ _ _ h4
       have e5:=q1B h5
       obtain⟨u',e6,hu'⟩:=ih _ _ _ h6
       have e7:=q1B h7
       rw[←g1]at c1 c5
       exact⟨t1::⟨[91],x2.1⟩::⟨x2.2.1,q1⟩::⟨[44],q2⟩::⟨x2.2.2,q3⟩::⟨[93],q4⟩::⟨[40],t3.pos⟩::(u++⟨[44],t5.pos⟩::(u'++[⟨[41],t7.pos⟩])),by rw[e1,e2,e3,e4,e5,e6,e7];simp,.inr (.inr (.inr (.inr (.inl ⟨by simpa using c1,c5,rfl,n1,n2,q1,q2,q3,q4,t3.pos,t5.pos,t7.pos,u,u',hu,hu',rfl⟩))))⟩
      ·rw[if_neg c5]at h
       obtain⟨t1,r1,h1,h⟩:=qm h
       simp at h
       obtain⟨rfl,rfl⟩:=h
       obtain⟨e1,g1⟩:=q0w h1
       have g1:=q4V g1
       refine⟨[t1],by rw[e1];rfl,.inr (.inr (.inr (.inr (.inr ⟨?_,g1,rfl,rfl,rfl,rfl,rfl,rfl⟩))))⟩
       show zx t1.text=false
       rw[g1]
       decide
def q6j (L:Nat)(ts:List Tok):Option Nat:=match q0x 8 ts with
 | .inl r=>some (plc L r)
 | .inr (_,[])=>none
 | .inr (_,t::_)=>some t.pos
def q1u (t:Tok):Prop:=∃c r,t.text=c::r∧q3F c t.text=true∧(zQ (c.toNat:Int)=true→q2d t.text=true)
theorem q3s {n:Int}(h:zQ n=true):q0n n=false:=by
 simp[zQ]at h
 simp[q0n]
 omega
theorem j2U (l:By):∀c:UInt8,zQ (c.toNat:Int)=true→(l.take (q0g c l)).all (fun c=>zQ (c.toNat:Int))=true:=by
 induction l with
 |nil=>intro c _;simp
 |cons d r ih =>
  intro c hc
  rw[q0g]
  by_cases hr:q5f (c.toNat:Int) (d.toNat:Int)=true
  ·rw[if_pos hr]
   have hd:zQ (d.toNat:Int)=true:=by
    unfold q5f at hr
    rw[q3s hc,hc]at hr
    simpa using hr
   rw[List.take_succ_cons,List.all_cons,hd,ih d hd]
   rfl
  ·rw[if_neg hr];simp
theorem q8o (s:By)(i:Nat)(h:i<s.length):cut s i (qq s i)=s.getD i 0::(s.drop (i+1)).take (q0g (s.getD i 0) (s.drop (i+1))):=by
 unfold cut qq
 rw[List.drop_eq_getElem_cons h]
 have e:i+1+q0g (s.getD i 0) (s.drop (i+1))-i=q0g (s.getD i 0) (s.drop (i+1))+1:=by omega
 rw[e,List.take_succ_cons]
 simp[List.getD,h]
theorem j9i (s:By):∀(f i:Nat) (acc:List Tok),(∀t∈acc,q1u t)→∀t∈(q2a s f i acc).1,q1u t:=by
 intro f
 induction f with
 |zero=>intro i acc h;exact h
 |succ f ih =>
  intro i acc h
  rw[q2a]
  by_cases h1:s.length≤i
  ·rw[if_pos h1];exact h
  ·rw[if_neg h1]
   by_cases h2:q2b (s.getD i 0)=true
   ·rw[if_pos h2];exact ih _ _ h
   ·rw[if_neg h2]
    by_cases h3:q3F (s.getD i 0) (cut s i (qq s i))=true
    ·rw[if_pos h3]
     refine ih _ _ (fun t ht=>?_)
     rcases List.mem_append.1 ht with ht|ht
     ·exact h t ht
     ·have:=List.mem_singleton.1 ht
      subst this
      refine⟨_,_,q8o s i (by omega),h3,fun hd=>?_⟩
      show q2d (cut s i (qq s i))=true
      rw[q8o s i (by omega)]
      unfold q2d
      rw[List.all_cons,hd,j2U _ _ hd]
      rfl
    ·rw[if_neg h3];simp
theorem q5E (s:By):∀t∈(q0S s).1,q1u t:=j9i s _ _ _ (by simp)
theorem j7X {t:Tok}(h:q1u t):t.text≠[]:=by
 obtain⟨c,r,e,_⟩:=h
 rw[e];simp
theorem q9U (c:UInt8):(q2b c=true∧(c=32∨c=10))∨(q2b c=false∧((c.toNat:Int)==32)=false∧((c.toNat:Int)==10)=false):=by
 by_cases h1:c=32
 ·subst h1;exact .inl ⟨rfl,.inl rfl⟩
 ·by_cases h2:c=10
  ·subst h2;exact .inl ⟨rfl,.inr rfl⟩
  ·refine .inr ⟨by simp[q2b,h1,h2],beq_eq_false_iff_ne.2 fun e=>h1 (UInt8.toNat_inj.1 (by show c.toNat=32;omega)),beq_eq_false_iff_ne.2 fun e=>h2 (UInt8.toNat_inj.1 (by show c.toNat=10;omega))⟩
theorem q6p (s:By)(i:Nat)(h:i<s.length):((ByteArray.mk s.toArray)[i]'(by exact h))=s.getD i 0:=by
 show s[i]=_
 simp[List.getD,h]
theorem q2U {B:Nat}{a w:World}(m:Nat)(h:Below B a w):Below B a (w.drewN m):=below_drewN h m
def q4E (w:World)(v:Value)(l:List Tok):Prop:=
 (v=.slice none 0 0∧l=[])∨∃b o cap,v=.slice (some ⟨b,o,none⟩) l.length cap∧l.length≤cap∧cap≤maxLen∧b<w.heap.size∧∀i (h:i<l.length),w.cell? ⟨b,o+i*2,none⟩=some (bs (l[i]).text)∧w.cell? ⟨b,o+i*2+1,none⟩=some (.int .i64 (l[i]).pos)
theorem q4E.below {w w':World}{v:Value}{l:List Tok}{B:Nat}(h:q4E w v l)(hb:Below B w w')(hB:w.heap.size≤B):q4E w' v l:=by
 rcases h with h|⟨b,o,cap,e,h1,h2,h3,h4⟩
 ·exact .inl h
 ·refine .inr ⟨b,o,cap,e,h1,h2,zT h3 hb.size,fun i hi=>?_⟩
  rw[zw hb b _ (by omega),zw hb b _ (by omega)]
  exact h4 i hi
theorem j0R {t:Tok}(h:q1u t):t.text.length≤8:=by
 obtain⟨c,r,e,h,_⟩:=h
 unfold q3F at h
 simp only[Bool.or_eq_true,Bool.and_eq_true,decide_eq_true_eq]at h
 rcases h with(h|h)|h
 ·unfold inB q1j at h
  simp[List.any]at h
  rcases h with h|h|h|h|h|h<;>rw[←h]<;>decide
 ·omega
 ·omega
def outR (x:Option Nat):Int × Int:=match x with
 |none=>(0,0)
 |some p=>(3,(p:Int))
def q1p (s:By):Int × Int:=
 if 240<s.length then(1,0)else if 0≤(q0S s).2 then(2,(q0S s).2)else outR (q6j s.length (q0S s).1)
theorem j1u {s:By}(h1:¬240<s.length)(h2:¬0≤(q0S s).2):q1p s=outR (q6j s.length (q0S s).1):=by
 unfold q1p
 rw[if_neg h1,if_neg h2]
theorem q2q.cons {w:World}{v:Value}{s:By}{W:List (By)}(h:q2q w v (s::W)):∃b o cap,v=.slice (some ⟨b,o,none⟩) (W.length+1) cap∧W.length+1≤cap∧cap≤maxLen∧b<w.heap.size∧w.cell? ⟨b,o,none⟩=some (bs s)∧∀j u,(W.map bs)[j]?=some u→w.cell? ⟨b,o+1+j,none⟩=some u:=by
 rcases h with⟨_,h⟩|⟨b,o,cap,rfl,h1,h2,h3,h4⟩
 ·simp at h
 ·refine⟨b,o,cap,rfl,h1,h2,h3,by simpa using h4 0 (by simp),fun j u hj=>?_⟩
  simp at hj
  obtain⟨x,hx,rfl⟩:=hj
  have hlt:j<W.length:=by
   rcases Nat.lt_or_ge j W.length with g|g
   ·exact g
   ·rw[List.getElem?_eq_none g]at hx;exact absurd hx (by simp)
  have:=h4 (j+1) (by simp;omega)
  rw[show o+1+j=o+(j+1) from by omega,this]
  simp[List.getD,hx]
theorem q2q.tail {w:World}{b o cap:Nat}{W:List (By)}(h1:W.length+1≤cap)(h2:cap≤maxLen)(h3:b<w.heap.size)(h4:∀j u,(W.map bs)[j]?=some u→w.cell? ⟨b,o+1+j,none⟩=some u):q2q w (.slice (some ⟨b,o+1,none⟩) W.length (cap-1)) W:=
 .inr ⟨b,o+1,cap-1,rfl,by omega,by omega,h3,fun i hi=>h4 i _ (by simp[hi])⟩
def q4U (t:By):Bool:=t==[40] || t==[91]
def q4T (t:By):Bool:=t==[41] || t==[93]
def q9Z (t:By):Bool:=t==[44] || t==[41]
def depth (t:By)(d:Int):Int:=(if q4U t then d+1 else d)-(if q4T t then 1 else 0)
def plain (t:By):Bool:=!(q4U t || q4T t || q9Z t)
def q1t:zh→List zh
 | .nil=>[]
 | .node _ _ _ .nil _=>[]
 | .node _ _ _ l .nil=>[l]
 | .node _ _ _ l r=>[l,r]
def q1T (w:World)(v:Value)(u:List Tok):Prop:=∃b o cap,v=.agg #[.slice (some ⟨b,o,none⟩) u.length cap]∧q4E w (.slice (some ⟨b,o,none⟩) u.length cap) u∧0<u.length∧u.length≤1000
theorem q1T.below {w w':World}{v:Value}{u:List Tok}(h:q1T w v u)(hb:Below w.heap.size w w'):q1T w' v u:=by
 obtain⟨b,o,cap,e,ht,h0,h1⟩:=h
 exact⟨b,o,cap,e,ht.below hb (zL _),h0,h1⟩
def q6B (w:World)(v:Value)(us:List (List Tok)):Prop:=
 (v=.slice none 0 0∧us=[])∨∃g o cap,v=.slice (some ⟨g,o,none⟩) us.length cap∧us.length≤cap∧cap≤maxLen∧g<w.heap.size∧∀j (h:j<us.length),∃x,w.cell? ⟨g,o+j,none⟩=some x∧q1T w (.agg #[x]) us[j]
theorem q6B.below {w w':World}{v:Value}{us:List (List Tok)}(h:q6B w v us)(hb:Below w.heap.size w w'):q6B w' v us:=by
 rcases h with h|⟨g,o,cap,e,h1,h2,h3,h4⟩
 ·exact .inl h
 ·refine .inr ⟨g,o,cap,e,h1,h2,zT h3 hb.size,fun j hj=>?_⟩
  obtain⟨x,hx,hf⟩:=h4 j hj
  exact⟨x,by rw[zw hb g _ h3];exact hx,hf.below hb⟩
theorem q2w {F:zh}{u:List Tok}(h:qG F u):0<u.length:=by
 cases F with
 |nil=>exact h.elim
 |node p sp y l r =>
  rcases h with⟨_,_,_,_,_,q1,q2,q3,x,hx,hb⟩|⟨_,hw,_,_,_,v,q1,q2,q3,ul,hv,_,hl,rfl⟩|⟨_,hw,_,_,_,q1,q2,q3,ul,ur,hl,hr,rfl⟩|⟨_,hw,_,_,hlo,hhi,q1,q2,q3,q4,q5,q6,ul,hl,rfl⟩|⟨_,hw,_,hlo,hhi,q1,q2,q3,q4,q5,q6,q7,ul,ur,hl,hr,rfl⟩|⟨_,hw,_,_,_,_,_,rfl⟩
  ·rcases hb with⟨_,rfl⟩|⟨z,q4,q5,hz,_,rfl⟩<;>simp
  all_goals simp
def q2p:zh→By
 | .nil=>[]
 | .node _ _ y _ _=>y.word
def zg:zh→By→Bool
 | .nil,_=>false
 | .node _ _ y l r,x=>match l with
  | .nil=>y.args.any fun a=>a==x
  |_=>!(y.word==[101,120,105,115,116,115]&&y.args==[x])&&(zg l x || zg r x)
def q0y (t:By):Bool:=inB t q9d
def mxI (a c:Int):Int:=if a<c then c else a
def zf:zh→Int
 | .nil=>-1
 | .node _ _ y l r=>if q0y y.word then(if mxI (mxI (-1) (zf l)) (zf r)==-1 then 0 else mxI (mxI (-1) (zf l)) (zf r))+(q0e y.hi:Int)else mxI (mxI (-1) (zf l)) (zf r)
def q2B:zh→Bool
 | .nil=>true
 | .node _ _ y l r=>!(q0y y.word&&y.hi==[42])&&q2B l&&q2B r
def q5t (u:List Tok):Prop:=∀t∈u,q1u t
theorem q4r {t:Tok}(h:q1u t)(hn:q4b t.text=true):q2d t.text=true∧0<t.text.length∧t.text.length≤3:=by
 obtain⟨c,r,e,ho,hd⟩:=h
 rw[e]at hn
 have hd:=hd hn
 refine⟨hd,by rw[e];simp,?_⟩
 unfold q3F at ho
 have hn':zQ (c.toNat:Int)=true:=hn
 rw[hn',q3s hn']at ho
 simp only[Bool.true_and,Bool.false_and,Bool.or_false,Bool.or_eq_true,decide_eq_true_eq]at ho
 rcases ho with ho|ho
 ·exfalso
  rw[e]at ho
  unfold inB q1j at ho
  simp[List.any]at ho
  simp[zQ]at hn'
  rcases ho with⟨h,_⟩|⟨h,_⟩|⟨h,_⟩|⟨h,_⟩|⟨h,_⟩|⟨h,_⟩<;>subst h<;>revert hn'<;>decide
 ·exact ho
theorem q0X {u u':List Tok}(h:q5t u)(hs:∀t∈u',t∈u):q5t u':=fun t ht=>h t (hs t ht)
def q2k (word:By)(a c:Bool):Bool:=(word==[111,114]&&(a != c)) || (word==[98,117,116]&&c&&!a) || (qB word&&a&&!c)
def q1e:zh→Bool
 | .nil=>false
 | .node p sp y l r=>if y.word==[101,120,105,115,116,115]then !(zg l (y.args.headD []))else if (q1t (.node p sp y l r)).length<2 || y.word==[97,110,100]then false else q2k y.word (zg l [120]) (zg r [120]) || q2k y.word (zg l [121]) (zg r [121])
def zv:zh→List zh
 | .nil=>[]
 | .node p sp y l r=>.node p sp y l r::(zv l++zv r)
theorem j1N:∀(F:zh) (u:List Tok),qG F u→(zv F).length≤u.length:=by
 intro F
 induction F with
 |nil=>intro u h;exact h.elim
 |node p sp y l r ihl ihr =>
  intro u h
  have e:(zv (.node p sp y l r)).length=(zv l).length+(zv r).length+1:=by simp[zv]
  have hR:=h
  rw[e]
  have hnil:(zv (.nil:zh)).length=0:=rfl
  rcases h with⟨hn,_,_,rfl,rfl,_⟩|⟨hn,hw,_,_,rfl,v,q1,q2,q3,ul,hv,_,hl,rfl⟩|⟨hn,hw,_,_,_,q1,q2,q3,ul,ur,hl,hr,rfl⟩|⟨hn,hw,_,rfl,hlo,hhi,q1,q2,q3,q4,q5,q6,ul,hl,rfl⟩|⟨hn,hw,_,hlo,hhi,q1,q2,q3,q4,q5,q6,q7,ul,ur,hl,hr,rfl⟩|⟨_,hw,_,_,_,rfl,rfl,rfl⟩
  ·have:=q2w hR;rw[hnil];omega
  ·have:=ihl ul hl;rw[hnil];simp;omega
  ·have:=ihl ul hl;have:=ihr ur hr;simp;omega
  ·have:=ihl ul hl;rw[hnil];simp;omega
  ·have:=ihl ul hl;have:=ihr ur hr;simp;omega
  ·rw[hnil];simp
def q4k (b:Nat)(w:World)(v:Value)(u:List Tok):Prop:=∃o cap,v=.agg #[.slice (some ⟨b,o,none⟩) u.length cap]∧q4E w (.slice (some ⟨b,o,none⟩) u.length cap) u∧0<u.length∧u.length≤1000
theorem q4k.keep {b B:Nat}{w w':World}{v:Value}{u:List Tok}(h:q4k b w v u)(hb:Below B w w')(hB:b<B):q4k b w' v u:=by
 obtain⟨o,cap,e,ht,h0,h1⟩:=h
 refine⟨o,cap,e,?_,h0,h1⟩
 rcases ht with⟨e,_⟩|⟨b',o',cap',e,c1,c2,c3,c4⟩
 ·simp at e
 ·simp at e
  obtain⟨⟨rfl,rfl⟩,rfl⟩:=e
  refine .inr ⟨b,o,cap,rfl,c1,c2,zT c3 hb.size,fun i hi=>?_⟩
  rw[zw hb b _ hB,zw hb b _ hB]
  exact c4 i hi
def KidB (b:Nat)(w:World)(v:Value)(us:List (List Tok)):Prop:=
 (v=.slice none 0 0∧us=[])∨∃g o cap,v=.slice (some ⟨g,o,none⟩) us.length cap∧us.length≤cap∧cap≤maxLen∧g<w.heap.size∧∀j (h:j<us.length),∃x,w.cell? ⟨g,o+j,none⟩=some x∧q4k b w (.agg #[x]) us[j]
theorem KidB.keep {b B:Nat}{w w':World}{v:Value}{us:List (List Tok)}(h:KidB b w v us)(hb:Below B w w')(hB:b<B)(hB2:w.heap.size≤B):KidB b w' v us:=by
 rcases h with h|⟨g,o,cap,e,h1,h2,h3,h4⟩
 ·exact .inl h
 ·refine .inr ⟨g,o,cap,e,h1,h2,zT h3 hb.size,fun j hj=>?_⟩
  obtain⟨x,hx,hf⟩:=h4 j hj
  exact⟨x,by rw[zw hb g _ (by omega)];exact hx,hf.keep hb hB⟩
def q3m (b:Nat)(w:World)(base:Nat)(v:Value)(ks:List (zh × List Tok)):Prop:=∃xs:List Value,xs.length=ks.length∧w.ownsRow base 149 1 v ks.length xs∧∀j (h:j<ks.length) (h':j<xs.length),q4k b w (.agg #[xs[j]]) (ks[j]).2
theorem q3m.below {b:Nat}{w w':World}{base:Nat}{v:Value}{ks:List (zh × List Tok)}(h:q3m b w base v ks)(hb:Below w.heap.size w w')(hB:b<w.heap.size):q3m b w' base v ks:=by
 obtain⟨xs,hl,hown,hf⟩:=h
 exact⟨xs,hl,zo hown hb,fun j h h'=>(hf j h h').keep hb hB⟩
def q6s:zh→Pay
 | .nil=>q7T []
 | .node _ _ y _ _=>y
def j2J:zh→Nat
 | .nil=>0
 | .node p _ _ _ _=>p
def q5c:zh→Nat
 | .nil=>0
 | .node _ s _ _ _=>s
def qv (F:zh):Bool:=(qE (q2p F) || qB (q2p F))&&!((q6s F).hi==[42])&&decide (q0e (q6s F).hi<q0e (q6s F).lo)
def qF (F:zh):Bool:=q0y (q2p F)&&((q6s F).hi==[42])
def q0F (F:zh):Int × Int:=match (zv F).find? qv with
 |some k=>(4,(q5c k:Int))
 |none=>match (zv F).find? qF with
  |some k=>(5,(q5c k:Int))
  |none=>match (zv F).find? q1e with
   |some k=>(6,(j2J k:Int))
   |none=>(0,0)
def qK (s:By):zh:=match q0x 8 (q0S s).1 with
 | .inl _=>.nil
 | .inr (F,_)=>F
def qe (s:By):Int × Int:=if (q1p s).1≠0 then q1p s else q0F (qK s)
theorem q7u {s:By}(h:(q1p s).1=0):qG (qK s) (q0S s).1:=by
 unfold q1p at h
 by_cases h1:240<s.length
 ·rw[if_pos h1]at h;simp at h
 ·rw[if_neg h1]at h
  by_cases h2:0≤(q0S s).2
  ·rw[if_pos h2]at h;simp at h
  ·rw[if_neg h2]at h
   unfold q6j at h
   unfold qK
   cases hp:q0x 8 (q0S s).1 with
   |inl r=>rw[hp]at h;simp[outR]at h
   |inr p =>
    obtain⟨F,r⟩:=p
    rw[hp]at h
    cases r with
    |nil =>
     obtain⟨u,e,hr⟩:=q5p _ _ _ _ hp
     rw[List.append_nil]at e
     rw[e]
     exact hr
    |cons t r=>simp[outR]at h
theorem lexF_len (s:By):∀(f i:Nat) (acc:List Tok),acc.length≤i→i≤s.length→(q2a s f i acc).1.length≤s.length:=by
 intro f
 induction f with
 |zero=>intro i acc h h';rw[q2a];simp;omega
 |succ f ih =>
  intro i acc h h'
  rw[q2a]
  by_cases h1:s.length≤i
  ·rw[if_pos h1];simp;omega
  ·rw[if_neg h1]
   by_cases h2:q2b (s.getD i 0)=true
   ·rw[if_pos h2];exact ih _ _ (by omega) (by omega)
   ·rw[if_neg h2]
    by_cases h3:q3F (s.getD i 0) (cut s i (qq s i))=true
    ·rw[if_pos h3]
     have hl:=q9Q s i (by omega)
     have:i+1≤qq s i:=by unfold qq;omega
     exact ih _ _ (by simp;omega) hl
    ·rw[if_neg h3];simp
theorem j3H (s:By):(q0S s).1.length≤s.length:=lexF_len s _ _ _ (by simp) (by omega)
theorem j7h:∀F:zh,(∀k∈zv F,qF k=false)→q2B F=true:=by
 intro F
 induction F with
 |nil=>intro _;rfl
 |node p sp y l r ihl ihr =>
  intro h
  rw[q2B]
  have h0:=h (.node p sp y l r) (by simp[zv])
  have h1:=ihl (fun k hk=>h k (by simp[zv,hk]))
  have h2:=ihr (fun k hk=>h k (by simp[zv,hk]))
  have h0':(q0y y.word&&(y.hi==[42]))=false:=h0
  rw[h0',h1,h2]
  rfl
theorem j4F {F:zh}(h:(q0F F).1=0):q2B F=true:=by
 refine j7h F (fun k hk=>?_)
 unfold q0F at h
 cases h1:(zv F).find? qv with
 |some k=>rw[h1]at h;simp at h
 |none =>
  rw[h1]at h
  simp only[]at h
  cases h2:(zv F).find? qF with
  |some k=>rw[h2]at h;simp at h
  |none =>
   rw[List.find?_eq_none]at h2
   simpa using h2 k hk
def j2s (s:By):Bool:=decide ((qe s).1=0)&&zg (qK s) [120]
def j2t (s:By):Bool:=decide ((qe s).1=0)&&zg (qK s) [121]
def j2r (s:By):Int:=if (qe s).1=0 then zf (qK s)else 0
theorem j0J {s:By}(h:(qe s).1=0):(q1p s).1=0∧q2B (qK s)=true:=by
 unfold qe at h
 by_cases hr:(q1p s).1=0
 ·rw[if_neg (by simp[hr])]at h
  exact⟨hr,j4F h⟩
 ·rw[if_pos hr]at h
  exact absurd h hr
theorem q9W {F:zh}(h:(q0F F).1=0):(q0F F).2=0:=by
 unfold q0F at h ⊢
 cases h1:(zv F).find? qv with
 |some k=>rw[h1]at h;simp at h
 |none =>
  rw[h1]at h
  simp only[]at h ⊢
  cases h2:(zv F).find? qF with
  |some k=>rw[h2]at h;simp at h
  |none =>
   rw[h2]at h
   simp only[]at h ⊢
   cases h3:(zv F).find? q1e with
   |some k=>rw[h3]at h;simp at h
   |none=>rfl
theorem q5i {s:By}(h:(qe s).1=0):(qe s).2=0:=by
 unfold qe at h ⊢
 by_cases hr:(q1p s).1=0
 ·rw[if_neg (by simp[hr])]at h ⊢
  exact q9W h
 ·rw[if_pos hr]at h
  exact absurd h hr
def q8X (s:By):Nat→Nat→Nat→List (By)→List (By)
 | 0,_,_,acc=>acc
 |f+1,i,a,acc=>if i=s.length∨s.getD i 0=32 then q8X s f (i+1) (i+1) (acc++[cut s a i])else q8X s f (i+1) a acc
def splR (s:By):List (By):=q8X s s.length 1 1 []
end Go.Proofs.YtiamjjonoeaggaaGreatDoor
