import Derived.Test.YtiamjjonoeaggaaGreatDoorGA
import Derived.Test.YtiamjjonoeaggaaGreatDoorG00
import Derived.Test.YtiamjjonoeaggaaGreatDoorG01
import Derived.Test.YtiamjjonoeaggaaGreatDoorG04
import Derived.Test.YtiamjjonoeaggaaGreatDoorG05
import Derived.Test.YtiamjjonoeaggaaGreatDoorG08
set_option maxRecDepth 100000
set_option maxHeartbeats 16000000
namespace Go.Proofs.YtiamjjonoeaggaaGreatDoor
open Go.RowKit
structure Hp where
 nm:By
 ds:List Nat
def cI (s:By)(i:Nat):Int:=((s.getD i 0).toNat:Int)
def dI (s:By)(i:Nat):Nat:=(s.getD i 0).toNat-48
def stF (s:By):Nat→Nat→Nat→Bool × Nat × Nat
 | 0,n,i=>(true,n,i)
 |f+1,n,i=>if zQ (cI s i)=true then(if 65535<10*n+dI s i then(false,n,i)else stF s f (10*n+dI s i) (i+1))else(true,n,i)
def nmF (s:By):Nat→Nat→Nat
 | 0,i=>i
 |f+1,i=>if q0n (cI s i)=true then nmF s f (i+1)else i
def q7D (s:By)(nm:By)(d j:Nat):Bool × Nat × Hp:=
 if cI s j=44 then
  if zQ (cI s (j+1))=true then
   if cI s (j+2)=41 then(true,j+3,⟨nm,[d,dI s (j+1)]⟩)else(false,j+2,⟨[],[]⟩)
  else(false,j+1,⟨[],[]⟩)
 else if cI s j=41 then(true,j+1,⟨nm,[d]⟩)else(false,j,⟨[],[]⟩)
def q2H (s:By)(i:Nat):Bool × Nat × Hp:=
 if cI s i=32 then
  if i+1<nmF s 8 (i+1)then
   if cI s (nmF s 8 (i+1))=40 then
    if zQ (cI s (nmF s 8 (i+1)+1))=true then q7D s (cut s (i+1) (nmF s 8 (i+1))) (dI s (nmF s 8 (i+1)+1)) (nmF s 8 (i+1)+2)
    else(false,nmF s 8 (i+1)+1,⟨[],[]⟩)
   else(false,nmF s 8 (i+1),⟨[],[]⟩)
  else(false,i+1,⟨[],[]⟩)
 else(false,i,⟨[],[]⟩)
def q2g (s:By):Nat→Nat→List Hp→Sum Nat (List Hp)
 | 0,_,acc=>.inr acc
 |f+1,i,acc=>if i<s.length then(if (q2H s i).1=true then q2g s f (q2H s i).2.1 (acc++[(q2H s i).2.2])else .inl (q2H s i).2.1)else .inr acc
def q3D (s:By):Sum Nat (Nat × List Hp):=
 if cI s 0=64 then
  if (stF s 5 0 1).1=true∧1<(stF s 5 0 1).2.2 then
   match q2g s s.length (stF s 5 0 1).2.2 []with
   | .inl p=>.inl p
   | .inr l=>.inr ((stF s 5 0 1).2.1,l)
  else .inl (stF s 5 0 1).2.2
 else .inl 0
theorem j6y {s:By}{i:Nat}(h:s.length≤i):cI s i=0:=by
 unfold cI
 simp[List.getD,List.getElem?_eq_none h]
theorem q2I {s:By}{i:Nat}(h:cI s i≠0):i<s.length:=by
 rcases Nat.lt_or_ge i s.length with g|g
 ·exact g
 ·exact absurd (j6y g) h
theorem q3o {s:By}{i:Nat}(h:zQ (cI s i)=true):i<s.length∧48≤cI s i∧cI s i≤57:=by
 have h2:48≤cI s i∧cI s i≤57:=by simpa[zQ]using h
 exact⟨q2I (by omega),h2⟩
theorem j1b {s:By}{i:Nat}(h:q0n (cI s i)=true):i<s.length∧97≤cI s i∧cI s i≤122:=by
 have h2:97≤cI s i∧cI s i≤122:=by simpa[q0n]using h
 exact⟨q2I (by omega),h2⟩
theorem dI_eq {s:By}{i:Nat}(h:zQ (cI s i)=true):(dI s i:Int)=cI s i-48:=by
 have:=(q3o h).2
 unfold dI cI at *
 omega
theorem q9N (s:By):∀(f n i:Nat),i≤s.length→n≤65535→i≤(stF s f n i).2.2∧(stF s f n i).2.2≤s.length∧(stF s f n i).2.2≤i+f∧(stF s f n i).2.1≤65535:=by
 intro f
 induction f with
 |zero=>intro n i h hn;exact⟨zL _,h,zL _,hn⟩
 |succ f ih =>
  intro n i h hn
  rw[stF]
  by_cases hd:zQ (cI s i)=true
  ·rw[if_pos hd]
   by_cases hb:65535<10*n+dI s i
   ·rw[if_pos hb];exact⟨zL _,h,by simp,hn⟩
   ·rw[if_neg hb]
    have:=ih (10*n+dI s i) (i+1) (by have:=(q3o hd).1;omega) (by omega)
    omega
  ·rw[if_neg hd];exact⟨zL _,h,by simp,hn⟩
theorem q9y (s:By):∀(f i:Nat),i≤s.length→i≤nmF s f i∧nmF s f i≤s.length∧nmF s f i≤i+f:=by
 intro f
 induction f with
 |zero=>intro i h;exact⟨zL _,h,zL _⟩
 |succ f ih =>
  intro i h
  rw[nmF]
  by_cases hd:q0n (cI s i)=true
  ·rw[if_pos hd]
   have:=ih (i+1) (by have:=(j1b hd).1;omega)
   omega
  ·rw[if_neg hd];omega
theorem j7Y (s:By)(nm:By)(d j:Nat)(h:j≤s.length):j≤(q7D s nm d j).2.1∧(q7D s nm d j).2.1≤s.length:=by
 unfold q7D
 by_cases h1:cI s j=44
 ·rw[if_pos h1]
  have:=q2I (s:=s) (i:=j) (by omega)
  by_cases h2:zQ (cI s (j+1))=true
  ·rw[if_pos h2]
   have:=(q3o h2).1
   by_cases h3:cI s (j+2)=41
   ·rw[if_pos h3]
    have:=q2I (s:=s) (i:=j+2) (by omega)
    simp only[];omega
   ·rw[if_neg h3];simp only[];omega
  ·rw[if_neg h2];simp only[];omega
 ·rw[if_neg h1]
  by_cases h2:cI s j=41
  ·rw[if_pos h2]
   have:=q2I (s:=s) (i:=j) (by omega)
   simp only[];omega
  ·rw[if_neg h2];simp only[];omega
theorem j0s (s:By)(i:Nat)(h:i≤s.length):i≤(q2H s i).2.1∧(q2H s i).2.1≤s.length∧((q2H s i).1=true→i<(q2H s i).2.1):=by
 unfold q2H
 by_cases h1:cI s i=32
 ·rw[if_pos h1]
  have hi:=q2I (s:=s) (i:=i) (by omega)
  have hn:=q9y s 8 (i+1) (by omega)
  generalize nmF s 8 (i+1)=e at *
  by_cases h2:i+1<e
  ·rw[if_pos h2]
   by_cases h3:cI s e=40
   ·rw[if_pos h3]
    have he:=q2I (s:=s) (i:=e) (by omega)
    by_cases h4:zQ (cI s (e+1))=true
    ·rw[if_pos h4]
     have h5:=(q3o h4).1
     have:=j7Y s (cut s (i+1) e) (dI s (e+1)) (e+2) (by omega)
     exact⟨by omega,this.2,fun _=>by omega⟩
    ·rw[if_neg h4];exact⟨by simp only[];omega,by simp only[];omega,fun e=>by simp at e⟩
   ·rw[if_neg h3];exact⟨by simp only[];omega,by simp only[];omega,fun e=>by simp at e⟩
  ·rw[if_neg h2];exact⟨by simp only[];omega,by simp only[];omega,fun e=>by simp at e⟩
 ·rw[if_neg h1];exact⟨zL _,h,fun e=>by simp at e⟩
def q4a (h:Hp):By:=h.nm++40::(match h.ds with
 | [d]=>[UInt8.ofNat (48+d),41]
 | [d,d']=>[UInt8.ofNat (48+d),44,UInt8.ofNat (48+d'),41]
 |_=>[])
structure HpOk (h:Hp):Prop where
 nm:0<h.nm.length∧h.nm.length≤8∧∀c∈h.nm,q0n (c.toNat:Int)=true
 ds:(h.ds.length=1∨h.ds.length=2)∧∀d∈h.ds,d≤9
theorem q3C {s:By}{i e:Nat}(h:i<e)(he:e≤s.length):cut s i e=s.getD i 0::cut s (i+1) e:=by
 unfold cut
 have e0:s.getD i 0=s[i]:=by simp[List.getD,show i<s.length by omega]
 rw[e0,List.drop_eq_getElem_cons (by omega),show e-i=(e-(i+1))+1 by omega,List.take_succ_cons]
theorem q5j (s:By)(i:Nat):cut s i i=[]:=by unfold cut;simp
theorem j4z {s:By}{i m e:Nat}(h:i≤m)(h2:m≤e)(_he:e≤s.length):cut s i e=cut s i m++cut s m e:=by
 unfold cut
 have e1:e-i=(m-i)+(e-m):=by omega
 rw[e1,List.take_add,List.drop_drop,show i+(m-i)=m by omega]
theorem q7e {s:By}{i c:Nat}(h:cI s i=(c:Int))(hc:c<256):s.getD i 0=UInt8.ofNat c:=by
 unfold cI at h
 apply UInt8.toNat_inj.1
 rw[UInt8.toNat_ofNat_of_lt' (by omega)]
 omega
theorem j0M {s:By}{i:Nat}(h:zQ (cI s i)=true):s.getD i 0=UInt8.ofNat (48+dI s i)∧dI s i≤9:=by
 have h1:=dI_eq h
 have h2:=(q3o h).2
 exact⟨q7e (by omega) (by omega),by omega⟩
theorem stF_cut (s:By):∀(f n i:Nat),i≤s.length→n≤65535→(stF s f n i).1=true→q2d (cut s i (stF s f n i).2.2)=true∧(cut s i (stF s f n i).2.2).foldl (fun n c=>10*n+(c.toNat-48)) n=(stF s f n i).2.1:=by
 intro f
 induction f with
 |zero=>intro n i h hn _;simp[stF,q5j,q2d]
 |succ f ih =>
  intro n i h hn
  rw[stF]
  by_cases hd:zQ (cI s i)=true
  ·rw[if_pos hd]
   by_cases hb:65535<10*n+dI s i
   ·rw[if_pos hb];intro e;simp at e
   ·rw[if_neg hb]
    intro e
    have hin:=q3o hd
    have:=ih (10*n+dI s i) (i+1) (by omega) (by omega) e
    have hle:=q9N s f (10*n+dI s i) (i+1) (by omega) (by omega)
    rw[q3C (by omega) hle.2.1]
    refine⟨?_,this.2⟩
    have:=this.1
    unfold q2d at this ⊢
    rw[List.all_cons,this,Bool.and_true]
    exact hd
  ·rw[if_neg hd]
   intro _
   simp[q5j,q2d]
theorem nmF_cut (s:By):∀(f i:Nat),i≤s.length→(∀j,i≤j→j<nmF s f i→q0n (cI s j)=true)∧∀c∈cut s i (nmF s f i),q0n (c.toNat:Int)=true:=by
 intro f
 induction f with
 |zero=>intro i h;exact⟨fun j h1 h2=>by simp[nmF]at h2;omega,by simp[nmF,q5j]⟩
 |succ f ih =>
  intro i h
  rw[nmF]
  by_cases hd:q0n (cI s i)=true
  ·rw[if_pos hd]
   have hin:=j1b hd
   have:=ih (i+1) (by omega)
   have hle:=q9y s f (i+1) (by omega)
   refine⟨fun j h1 h2=>?_,?_⟩
   ·by_cases e:j=i
    ·rw[e];exact hd
    ·exact this.1 j (by omega) h2
   ·rw[q3C (by omega) hle.2.1]
    intro c hc
    rcases List.mem_cons.1 hc with rfl|hc
    ·exact hd
    ·exact this.2 c hc
  ·rw[if_neg hd]
   exact⟨fun j h1 h2=>by omega,by simp[q5j]⟩
theorem hapT_cut (s:By)(nm:By)(d j:Nat)(_hj:j≤s.length)(ho:(q7D s nm d j).1=true) :
  ∃ds,(q7D s nm d j).2.2=⟨nm,d::ds⟩∧(ds.length=0∨ds.length=1)∧(∀d∈ds,d≤9)∧cut s j (q7D s nm d j).2.1=(match ds with
   | []=>[41]
   |d::_=>[44,UInt8.ofNat (48+d),41])∧∀m,j≤m→m<(q7D s nm d j).2.1→cI s m≠32:=by
 unfold q7D at ho ⊢
 by_cases h1:cI s j=44
 ·rw[if_pos h1]at ho ⊢
  have i1:=q2I (s:=s) (i:=j) (by omega)
  by_cases h2:zQ (cI s (j+1))=true
  ·rw[if_pos h2]at ho ⊢
   have i2:=q3o h2
   by_cases h3:cI s (j+2)=41
   ·rw[if_pos h3]
    have i3:=q2I (s:=s) (i:=j+2) (by omega)
    have b2:=j0M h2
    refine⟨[dI s (j+1)],rfl,.inr rfl,?_,?_,?_⟩
    ·intro d hd;simp at hd;subst hd;exact b2.2
    ·simp only[]
     rw[q3C (by omega) (by omega),q3C (by omega) (by omega),q3C (by omega) (by omega),q5j,q7e (c:=44) h1 (by omega),q7e (c:=41) h3 (by omega),b2.1]
     rfl
    ·intro m m1 m2
     simp only[]at m2
     have:m=j∨m=j+1∨m=j+2:=by omega
     rcases this with rfl|rfl|rfl<;>omega
   ·rw[if_neg h3]at ho;simp at ho
  ·rw[if_neg h2]at ho;simp at ho
 ·rw[if_neg h1]at ho ⊢
  by_cases h2:cI s j=41
  ·rw[if_pos h2]
   have i1:=q2I (s:=s) (i:=j) (by omega)
   refine⟨[],rfl,.inl rfl,by simp,?_,?_⟩
   ·simp only[]
    rw[q3C (by omega) (by omega),q5j,q7e (c:=41) h2 (by omega)]
    rfl
   ·intro m m1 m2
    simp only[]at m2
    have:m=j:=by omega
    subst this;omega
  ·rw[if_neg h2]at ho;simp at ho
theorem hapR_cut (s:By)(i:Nat)(_hi:i≤s.length)(ho:(q2H s i).1=true):cI s i=32∧HpOk (q2H s i).2.2∧cut s (i+1) (q2H s i).2.1=q4a (q2H s i).2.2∧∀m,i+1≤m→m<(q2H s i).2.1→cI s m≠32:=by
 unfold q2H at ho ⊢
 by_cases h1:cI s i=32
 ·rw[if_pos h1]at ho ⊢
  have i1:=q2I (s:=s) (i:=i) (by omega)
  have hn:=q9y s 8 (i+1) (by omega)
  have hc:=nmF_cut s 8 (i+1) (by omega)
  generalize nmF s 8 (i+1)=e at *
  by_cases h2:i+1<e
  ·rw[if_pos h2]at ho ⊢
   by_cases h3:cI s e=40
   ·rw[if_pos h3]at ho ⊢
    have i3:=q2I (s:=s) (i:=e) (by omega)
    by_cases h4:zQ (cI s (e+1))=true
    ·rw[if_pos h4]at ho ⊢
     have i4:=q3o h4
     have b4:=j0M h4
     obtain⟨ds,e1,e2,e3,e4,e5⟩:=hapT_cut s (cut s (i+1) e) (dI s (e+1)) (e+2) (by omega) ho
     have hin:=j7Y s (cut s (i+1) e) (dI s (e+1)) (e+2) (by omega)
     refine⟨h1,?_,?_,?_⟩
     ·rw[e1]
      refine⟨⟨?_,?_,hc.2⟩,?_,?_⟩
      ·show 0<(cut s (i+1) e).length
       unfold cut;simp;omega
      ·show(cut s (i+1) e).length≤8
       unfold cut;simp;omega
      ·show(dI s (e+1)::ds).length=1∨(dI s (e+1)::ds).length=2
       simp only[List.length_cons];omega
      ·intro d hd
       rcases List.mem_cons.1 hd with rfl|hd
       ·exact b4.2
       ·exact e3 d hd
     ·rw[j4z (m:=e) (by omega) (by omega) hin.2,q3C (i:=e) (by omega) hin.2,q3C (i:=e+1) (by omega) hin.2,e4,e1,q7e (c:=40) h3 (by omega),b4.1]
      unfold q4a
      match ds,e2 with
      | [],_=>rfl
      | [d],_=>rfl
      |_::_::_,h=>simp at h
     ·intro m m1 m2
      rcases Nat.lt_or_ge m e with g|g
      ·have:=(j1b (hc.1 m m1 g)).2;omega
      ·rcases Nat.lt_or_ge m (e+2)with g2|g2
       ·have:m=e∨m=e+1:=by omega
        rcases this with rfl|rfl<;>omega
       ·exact e5 m g2 m2
    ·rw[if_neg h4]at ho;simp at ho
   ·rw[if_neg h3]at ho;simp at ho
  ·rw[if_neg h2]at ho;simp at ho
 ·rw[if_neg h1]at ho;simp at ho
structure LPt where
 stamp:Nat
 time:Nat
 haps:List Hp
def tmL (L:List LPt)(i:Nat):Nat:=match L[i]? with
 |some p=>p.time
 |none=>0
def q5n (L:List LPt)(i:Nat):List Hp:=match L[i]? with
 |some p=>p.haps
 |none=>[]
def q0C (L:List LPt)(i j:Nat):Nat:=(tmL L j-tmL L i)+(tmL L i-tmL L j)
def q1H (nd:PNode)(t:Nat):Bool:=decide (nd.slo≤(t:Int))&&(nd.sop || decide ((t:Int)≤nd.shi))
def q4n (k:Int):Bool:=k==10 || k==12 || k==14 || k==15
def q4m (k v:Int)(d x y:Nat):Bool:=if k=3 then x==d else if k=4 then y==d else decide (v=(d:Int))
def j2B (a c:By):Bool:=(List.range 8).all fun j=>zn a j==zn c j
def evP (nd:PNode)(x y:Nat)(h:Hp):Bool:=
 j2B h.nm nd.name&&decide ((h.ds.length:Int)=nd.cnt)&&(!decide (0<nd.cnt) || q4m nd.k0 nd.v0 (h.ds.getD 0 0) x y)&&(!decide (1<nd.cnt) || q4m nd.k1 nd.v1 (h.ds.getD 1 0) x y)
def q7P (W:Nat→Bool)(pos:Nat→Nat)(k:Nat):Bool:=(List.range k).all fun q=>W (pos q)
def q4q (S G W:Nat→Bool)(pos:Nat→Nat)(k:Nat):Bool:=(List.range k).any fun m=>S (pos m)&&(q7P W pos m&&G (pos m))
def q1L (nd:PNode)(A B:Nat→Nat→Nat→Bool)(x y j:Nat):Bool:=if nd.kind=12∨nd.kind=13 then A j x y else B j x y
def q0N (nd:PNode)(A:Nat→Nat→Nat→Bool)(x y j:Nat):Bool:=if nd.kind=14∨nd.kind=16 then A j x y else if nd.kind=15∨nd.kind=17 then !A j x y else true
def qz (nd:PNode)(L:List LPt)(A B:Nat→Nat→Nat→Bool)(i x y:Nat):Bool:=
 if nd.kind=5 then true
 else if nd.kind=2 then(q5n L i).any (evP nd x y)
 else if nd.kind=6 then A i x y&&B i x y
 else if nd.kind=7 then A i x y&&!B i x y
 else if nd.kind=8 then A i x y || B i x y
 else if nd.kind=9 then(List.range 10).any (fun v=>if nd.var=3 then A i v y else A i x v)
 else if nd.kind=10 then decide (0<i)&&(q1H nd (q0C L i (i-1))&&A (i-1) x y)
 else if nd.kind=11 then decide (i+1<L.length)&&(q1H nd (q0C L i (i+1))&&A (i+1) x y)
 else if q4n nd.kind=true then q4q (fun j=>q1H nd (q0C L i j)) (q1L nd A B x y) (q0N nd A x y) (fun m=>i-m) (i+1)
 else q4q (fun j=>q1H nd (q0C L i j)) (q1L nd A B x y) (q0N nd A x y) (fun m=>i+m) (L.length-i)
def zs (L:List LPt):zh→Nat→Nat→Nat→Bool
 | .nil,_,_,_=>false
 | .node p sp y l r,i,x,z=>decide (i<L.length)&&qz (zz 0 p sp y l r) L (zs L l) (zs L r) i x z
theorem j7d (m p sp:Nat)(y:Pay)(l r:zh)(L:List LPt)(A B:Nat→Nat→Nat→Bool)(i x z:Nat):qz (zz m p sp y l r) L A B i x z=qz (zz 0 p sp y l r) L A B i x z:=rfl
theorem j6V (W:Nat→Bool)(pos:Nat→Nat)(k:Nat):q7P W pos (k+1)=(q7P W pos k&&W (pos k)):=by
 unfold q7P
 rw[List.range_succ,List.all_append]
 simp
theorem q7h (S G W:Nat→Bool)(pos:Nat→Nat)(k:Nat):q4q S G W pos (k+1)=(q4q S G W pos k || (S (pos k)&&(q7P W pos k&&G (pos k)))):=by
 unfold q4q
 rw[List.range_succ,List.any_append]
 simp
def q3S (L:List LPt)(reach:Int):Nat→Nat→Nat
 | 0,c=>c
 |f+1,c=>if c+1≤L.length∧reach<(q0C L c (L.length-1):Int)then q3S L reach f (c+1)else c
def q0u (L:List LPt)(reach:Int):Nat:=q3S L reach L.length 0
structure Rdr (w:World)(br:Nat)(s:By)(i:Nat):Prop where
 text:w.cell? ⟨br,0,none⟩=some (bs s)
 at':w.cell? ⟨br,1,none⟩=some (.int .i64 i)
 free:∀o,w.frozen? ⟨br,o,none⟩=false
 lt:br<w.heap.size
theorem Rdr.only {w w':World}{bl:List Nat}{br:Nat}{s:By}{i:Nat}(h:Rdr w br s i)(ho:OnlyB bl w w')(h1:br∉bl):Rdr w' br s i:=
 ⟨by rw[ho.cell h.lt h1];exact h.text,by rw[ho.cell h.lt h1];exact h.at',fun o=>by rw[ho.frozen h.lt h1];exact h.free o,zT h.lt ho.size⟩
theorem Rdr.step {w:World}{br:Nat}{s:By}{i:Nat}(h:Rdr w br s i)(n:Nat):Rdr (w.setCell ⟨br,1,none⟩ (.int .i64 n)) br s n:=by
 refine⟨?_,zS w _ _ h.at',fun o=>by rw[World.frozen?_setCell];exact h.free o,by simpa using h.lt⟩
 rw[zX w _ _ _ (by intro e;injection e with e1 e2;simp at e2)]
 exact h.text
theorem cI_at {s:By}{i:Nat}(h:i<s.length):(((ByteArray.mk s.toArray)[i]'(by exact h)).toNat:Int)=cI s i:=by
 unfold cI
 simp only[List.getD,zG h,Option.getD_some]
 rfl
theorem q5F (s:By)(_hs:s.length≤80)(br i:Nat)(hi:i≤1000)(w:World)(h:Rdr w br s i) :
  Calls Tryz.prog 78 #[.pointer (some ⟨br,0,none⟩)] w fun e w'=>e=.returned (.int .u8 (cI s i))∧Below w.heap.size w w':=by
 have c0:=h.text
 have c1:=h.at'
 have hlt:=h.lt
 clear h
 by_cases hl:i<s.length
 ·have hc:=cI_at hl
  generalize cI s i=c at *
  go_enter Tryz.func78,Tryz.ntmps78
  go_wp2_with fail
  go_quiet (fail)
  go_wp2_with fail
  go_region
  go_wp2_with fail
  go_ret
  exact⟨by first|rfl|(rw[←hc];rfl),q2U _ (zB _ _)⟩
 ·have hc:=j6y (s:=s) (i:=i) (by omega)
  rw[hc]
  clear hc
  go_enter Tryz.func78,Tryz.ntmps78
  go_wp2_with fail
  go_quiet (fail)
  go_wp2_with fail
  go_ret
  exact⟨rfl,q2U _ (zB _ _)⟩
theorem q1V (s:By)(hs:s.length≤80)(br i:Nat)(hi:i≤1000)(c:Int)(hc:cI s i=c)(w:World)(h:Rdr w br s i) :
  Calls Tryz.prog 53 #[.pointer (some ⟨br,0,none⟩),.int .u8 c] w fun e w'=>e=.returned (.bool true)∧Rdr w' br s (i+1)∧OnlyB [br] w w':=by
 have hh:=q5F s hs br i hi w h
 have H:=zb h
 rw[hc]at hh
 clear h hc
 go_enter Tryz.func53,Tryz.ntmps53
 go_wp2_with fail
 refine hh.mono ?_
 rintro e w1 ⟨rfl,b1⟩
 have O1:OnlyB [br] w w1:=.of_below b1
 have R1:=H.out.only (OnlyB.of_below (bl:=[]) b1) (by simp)
 have c1:=R1.at'
 have f1:=R1.free 1
 have hlt:=R1.lt
 have HO:=zb O1
 have HR:=zb R1
 clear b1 O1 R1
 go_wp2_with fail
 go_ret
 exact⟨rfl,by have:=HR.out.step (i+1);simpa using this,HO.out.setCell (by simp) _⟩
theorem q3v (s:By)(hs:s.length≤80)(br i:Nat)(hi:i≤1000)(c:Int)(hc:¬cI s i=c)(w:World)(h:Rdr w br s i) :
  Calls Tryz.prog 53 #[.pointer (some ⟨br,0,none⟩),.int .u8 c] w fun e w'=>e=.returned (.bool false)∧Below w.heap.size w w':=by
 have hh:=q5F s hs br i hi w h
 generalize cI s i=d at *
 have hd:(d==c)=false:=by simpa using hc
 clear h
 go_enter Tryz.func53,Tryz.ntmps53
 go_wp2_with fail
 refine hh.mono ?_
 rintro e w1 ⟨rfl,b1⟩
 go_wp2_with fail
 go_ret
 exact⟨rfl,b1⟩
theorem q7R (s:By)(hs:s.length≤80)(br i:Nat)(hi:i≤1000)(hd:zQ (cI s i)=true)(w:World)(h:Rdr w br s i) :
  Calls Tryz.prog 81 #[.pointer (some ⟨br,0,none⟩)] w fun e w'=>e=.returned (.tuple #[.int .i64 (dI s i),.bool true])∧Rdr w' br s (i+1)∧OnlyB [br] w w':=by
 have hh:=q5F s hs br i hi w h
 have H:=zb h
 rw[dI_eq hd]
 have hb:=(q3o hd).2
 have hdg:=q4x (cI s i)
 rw[hd]at hdg
 generalize cI s i=d at *
 clear h hd
 go_enter Tryz.func81,Tryz.ntmps81
 go_wp2_with fail
 refine hh.mono ?_
 rintro e w1 ⟨rfl,b1⟩
 have O1:OnlyB [br] w w1:=.of_below b1
 have R1:=H.out.only (OnlyB.of_below (bl:=[]) b1) (by simp)
 have c1:=R1.at'
 have f1:=R1.free 1
 have hlt:=R1.lt
 have HO:=zb O1
 have HR:=zb R1
 clear b1 O1 R1
 go_wp2_with fail
 refine(hdg _).mono ?_
 rintro e w2 ⟨rfl,rfl⟩
 go_wp2_with fail
 go_ret2
 exact⟨by first|rfl|go_num,by have:=HR.out.step (i+1);simpa using this,HO.out.setCell (by simp) _⟩
theorem q8I (s:By)(hs:s.length≤80)(br i:Nat)(hi:i≤1000)(hd:zQ (cI s i)=false)(w:World)(h:Rdr w br s i) :
  Calls Tryz.prog 81 #[.pointer (some ⟨br,0,none⟩)] w fun e w'=>e=.returned (.tuple #[.int .i64 0,.bool false])∧Below w.heap.size w w':=by
 have hh:=q5F s hs br i hi w h
 have hdg:=q4x (cI s i)
 rw[hd]at hdg
 generalize cI s i=d at *
 clear h hd
 go_enter Tryz.func81,Tryz.ntmps81
 go_wp2_with fail
 refine hh.mono ?_
 rintro e w1 ⟨rfl,b1⟩
 go_wp2_with fail
 refine(hdg _).mono ?_
 rintro e w2 ⟨rfl,rfl⟩
 go_wp2_with fail
 go_ret2
 exact⟨rfl,b1⟩
def StRel (s:By)(br i0:Nat)(w:World)(R:Bool × Nat × Nat)(g:Nat)(vs vk:Value)(wr:World):Prop:=
 ∃k n i:Nat,k≤5∧5-k≤g∧n≤65535∧i≤s.length∧i=i0+k∧vs=.int .i64 n∧vk=.int .i64 k∧stF s (5-k) n i=R∧Rdr wr br s i∧OnlyB [br] w wr
theorem q9x (s:By)(hs:s.length≤80)(br i0:Nat)(hi:i0≤s.length)(w:World)(h:Rdr w br s i0)(R:Bool × Nat × Nat)(hR:stF s 5 0 i0=R) :
  Calls Tryz.prog 54 #[.pointer (some ⟨br,0,none⟩)] w fun e w'=>(∃v:Int,e=.returned (.tuple #[.int .u16 v,.bool (R.1&&decide (i0<R.2.2))])∧(R.1=true→v=R.2.1))∧Rdr w' br s R.2.2∧OnlyB [br] w w':=by
 have H:=zb h
 have HR:=zb hR
 have hlt:=h.lt
 clear h hR
 go_enter Tryz.func54,Tryz.ntmps54
 go_wp2_with fail
 go_loopg [4,5] 5 (fun g vs vk wr=>StRel s br i0 w R g vs vk wr)
 case atStart=>exact⟨0,0,i0,by omega,by omega,by omega,hi,rfl,rfl,rfl,HR.out,H.out,OnlyB.refl _ _⟩
 case round =>
  obtain⟨k,n,i,hk,hg,hn,hil,hik,rfl,rfl,hst,hrd,hob⟩:=hrel
  have HG:=zb hg
  have HRD:=zb hrd
  have HO:=zb hob
  have hlr:=hrd.lt
  have hdg:=q4x (cI s i)
  have HH:Hid (∀W,Rdr W br s i→Calls Tryz.prog 78 #[.pointer (some ⟨br,0,none⟩)] W fun e w'=>e=.returned (.int .u8 (cI s i))∧Below W.heap.size W w'):=zb (fun W h=>q5F s hs br i (by omega) W h)
  clear hg hrd hob HR H
  have fin:(R=(true,n,i)→∀b:Bool,b=decide (0<k)→(∃v:Int,Ending.returned (.tuple #[.int .u16 (n:Int),.bool b])=.returned (.tuple #[.int .u16 v,.bool (R.1&&decide (i0<R.2.2))])∧(R.1=true→v=R.2.1))):=fun e1 b hb=>by
   refine⟨n,?_,fun _=>by rw[e1]⟩
   rw[e1,hik,Bool.true_and,hb]
   have:decide (0<k)=decide (i0<i0+k):=by
    rw[Bool.eq_iff_iff]
    simp
   rw[this]
  have FIN:=zb fin
  have HIK:=zb hik
  clear fin hik
  by_cases hk5:k=5
  ·subst hk5
   rw[Nat.sub_self,stF]at hst
   have HE:=zb hst.symm
   clear hst
   go_wp2_with fail
   go_ret2
   exact⟨FIN.out HE.out _ (by simp),by rw[HE.out];exact HRD.out,HO.out⟩
  ·have hk4:k<5:=by omega
   rw[show 5-k=(5-(k+1))+1 by omega,stF]at hst
   by_cases hd:zQ (cI s i)=true
   ·rw[if_pos hd]at hst
    have hin:=q3o hd
    have hdi:=dI_eq hd
    rw[hd]at hdg
    clear hd
    by_cases hov:65535<10*n+dI s i
    ·rw[if_pos hov]at hst
     have HE:=zb hst.symm
     clear hst
     have hc1:48≤cI s i:=hin.2.1
     have hc2:cI s i≤57:=hin.2.2
     generalize cI s i=c at *
     have hov':65535<10*(n:Int)+(c-48):=by omega
     clear hdi hin hov
     go_wp2_with fail
     refine(HH.out _ HRD.out).mono ?_
     rintro e w1 ⟨rfl,b1⟩
     have HR1:=zb (HRD.out.only (OnlyB.of_below (bl:=[]) b1) (by simp))
     have HO1:Hid (OnlyB [br] w w1):=zb (HO.out.trans (.of_below b1))
     clear b1
     go_wp2_with fail
     refine(hdg _).mono ?_
     rintro e w1 ⟨rfl,rfl⟩
     go_wp2_with fail
     refine(HH.out _ HR1.out).mono ?_
     rintro e w2 ⟨rfl,b2⟩
     have HR2:=zb (HR1.out.only (OnlyB.of_below (bl:=[]) b2) (by simp))
     have HO2:Hid (OnlyB [br] w w2):=zb (HO1.out.trans (.of_below b2))
     clear b2
     go_wp2_with fail
     go_ret2
     exact⟨⟨0,by rw[HE.out];rfl,by rw[HE.out];intro e;simp at e⟩,by rw[HE.out];exact HR2.out,HO2.out⟩
    ·rw[if_neg hov]at hst
     have HE:=zb hst
     clear hst
     have hc1:48≤cI s i:=hin.2.1
     have hc2:cI s i≤57:=hin.2.2
     have hi1:=hin.1
     have HD:=zb hdi
     generalize cI s i=c at *
     have hov':10*(n:Int)+(c-48)≤65535:=by omega
     have HOV:=zb hov
     clear hdi hin hov
     go_wp2_with fail
     refine(HH.out _ HRD.out).mono ?_
     rintro e w1 ⟨rfl,b1⟩
     have HR1:=zb (HRD.out.only (OnlyB.of_below (bl:=[]) b1) (by simp))
     have HO1:Hid (OnlyB [br] w w1):=zb (HO.out.trans (.of_below b1))
     clear b1
     go_wp2_with fail
     refine(hdg _).mono ?_
     rintro e w1 ⟨rfl,rfl⟩
     go_wp2_with fail
     refine(HH.out _ HR1.out).mono ?_
     rintro e w2 ⟨rfl,b2⟩
     have R2:=HR1.out.only (OnlyB.of_below (bl:=[]) b2) (by simp)
     have c1:=R2.at'
     have f1:=R2.free 1
     have hl2:=R2.lt
     have HR2:=zb R2
     have HO2:Hid (OnlyB [br] w w2):=zb (HO1.out.trans (.of_below b2))
     clear b2 R2
     go_wp2_with fail
     have hg1:0<gk:=by have:=HG.out;omega
     go_roundg (gk-1)
     case measure=>omega
     case rel=>exact⟨k+1,10*n+dI s i,i+1,by omega,by have:=HG.out;omega,by have:=HOV.out;omega,by omega,by have:=HIK.out;omega,by have:=HD.out;first|go_num|(congr 1;omega),by go_num,HE.out,by have:=HR2.out.step (i+1);simpa using this,HO2.out.setCell (by simp) _⟩
   ·rw[if_neg hd]at hst
    have HE:=zb hst.symm
    have hd':zQ (cI s i)=false:=by simpa using hd
    rw[hd']at hdg
    clear hst hd hd'
    generalize cI s i=c at *
    go_wp2_with fail
    refine(HH.out _ HRD.out).mono ?_
    rintro e w1 ⟨rfl,b1⟩
    have HR1:=zb (HRD.out.only (OnlyB.of_below (bl:=[]) b1) (by simp))
    have HO1:Hid (OnlyB [br] w w1):=zb (HO.out.trans (.of_below b1))
    clear b1
    go_wp2_with fail
    refine(hdg _).mono ?_
    rintro e w1 ⟨rfl,rfl⟩
    go_wp2_with fail
    go_ret2
    exact⟨FIN.out HE.out _ (by simp),by rw[HE.out];exact HR1.out,HO1.out⟩
theorem pad_cut {s:By}{i0 i:Nat}(h0:i0≤i)(hi:i<s.length)(j:Nat):zn (cut s i0 (i+1)) j=if j=i-i0 then cI s i else zn (cut s i0 i) j:=by
 have e:cut s i0 (i+1)=cut s i0 i++[s.getD i 0]:=by
  rw[j4z (m:=i) h0 (by omega) (by omega),q3C (i:=i) (by omega) (by omega),q5j]
 have hl:(cut s i0 i).length=i-i0:=by unfold cut;simp;omega
 unfold zn
 rw[e]
 by_cases hj:j=i-i0
 ·rw[if_pos hj]
  simp only[List.getD]
  rw[List.getElem?_append_right (by omega),hl,hj,Nat.sub_self]
  rfl
 ·rw[if_neg hj]
  simp only[List.getD]
  rcases Nat.lt_or_ge j (i-i0)with g|g
  ·rw[List.getElem?_append_left (by omega)]
  ·rw[List.getElem?_eq_none (by simp;omega),List.getElem?_eq_none (by omega)]
abbrev q8h (t:By):List Value:=[.int .u8 (zn t 0),.int .u8 (zn t 1),.int .u8 (zn t 2),.int .u8 (zn t 3),.int .u8 (zn t 4),.int .u8 (zn t 5),.int .u8 (zn t 6),.int .u8 (zn t 7)]
theorem j3g (t:By)(j:Nat)(h:j<8):(q8h t)[j]?=some (.int .u8 (zn t j)):=by
 rcases(by omega:j=0∨j=1∨j=2∨j=3∨j=4∨j=5∨j=6∨j=7)with rfl|rfl|rfl|rfl|rfl|rfl|rfl|rfl<;>rfl
structure WArr (w:World)(b:Nat)(t:By):Prop where
 cells:∀j,j<8→w.cell? ⟨b,j,none⟩=some (.int .u8 (zn t j))
 free:∀j,w.frozen? ⟨b,j,none⟩=false
 lt:b<w.heap.size
theorem WArr.of_row {w:World}{b:Nat}{f:By}{t:TypeId}(h:w.heap[b]?=some (.cells (q8h f).toArray t (0,0))):WArr w b f:=by
 refine⟨fun j hj=>?_,fun j=>zF _ _ j _ _ h,?_⟩
 ·rw[zC _ _ j _ _ _ h,List.getElem?_toArray]
  exact j3g f j hj
 ·rcases Nat.lt_or_ge b w.heap.size with g|g
  ·exact g
  ·rw[Array.getElem?_eq_none g]at h;simp at h
theorem WArr.range {w:World}{b:Nat}{t:By}(h:WArr w b t):w.rangeAt b 0 (q8h t):=fun j v hv=>by
 have hj:j<8:=(List.getElem?_eq_some_iff.1 hv).1
 rw[j3g t j hj]at hv
 rw[Nat.zero_add,h.cells j hj,hv]
theorem WArr.load {w:World}{b:Nat}{t:By}(h:WArr w b t):(Instr.loadAt 127 (.pointer (some ⟨b,0,none⟩))).run Tryz.prog w=.ok (q3U t) w:=
 run_loadAt_mid w b 0 127 (q8h t) _ h.range Tryz.underlying127 rfl (by kernel_rfl)
theorem WArr.loadV {w:World}{b:Nat}{t:By}(h:WArr w b t):(loadVar 127 ⟨b,0,none⟩).run Tryz.prog w=.ok (q3U t) w:=
 run_loadVar_mid w b 0 127 (q8h t) _ h.range Tryz.underlying127 rfl (by kernel_rfl)
theorem warr_in (W:World)(b:Nat)(old:Array Value)(t:By)(hg:W.heap[b]?=some (.cells old 127 (0,0)))(ho:old.size=8) :
  ∃W',(Instr.storeAt 127 (.pointer (some ⟨b,0,none⟩)) (q3U t)).run Tryz.prog W=.ok () W'∧W'.heap[b]?=some (.cells (q8h t).toArray 127 (0,0))∧(∀k,k≠b→W'.heap[k]?=W.heap[k]?)∧W'.heap.size=W.heap.size∧W'.os=W.os∧W'.tape=W.tape∧W'.output=W.output:=
 q0j (P:=Tryz.prog) 127 127 W b old #[.int .u8 (zn t 0),.int .u8 (zn t 1),.int .u8 (zn t 2),.int .u8 (zn t 3),.int .u8 (zn t 4),.int .u8 (zn t 5),.int .u8 (zn t 6),.int .u8 (zn t 7)] hg (by kernel_rfl) (by rw[ho];rfl) (by simp[Value.oneCell'])
theorem WArr.put {w:World}{b k:Nat}{t t':By}{c:Int}(h:∀j,j<8→w.cell? ⟨b,j,none⟩=some (.int .u8 (zn t j)))(hf:∀j,w.frozen? ⟨b,j,none⟩=false)(hl:b<w.heap.size)(hk:k<8)(ht:∀j,zn t' j=if j=k then c else zn t j):WArr (w.setCell ⟨b,k,none⟩ (.int .u8 c)) b t':=by
 refine⟨fun j hj=>?_,fun j=>by rw[World.frozen?_setCell];exact hf j,by simpa using hl⟩
 rw[ht j]
 by_cases e:j=k
 ·subst e
  rw[if_pos rfl]
  exact zS w _ _ (h j hk)
 ·rw[if_neg e,zX w _ _ _ (by intro q;injection q with q1 q2;exact e q2.symm)]
  exact h j hj
theorem WArr.other {w:World}{b b' o:Nat}{t:By}(h:WArr w b t)(hb:b≠b')(v:Value):WArr (w.setCell ⟨b',o,none⟩ v) b t:=by
 refine⟨fun i hi=>?_,fun i=>by rw[World.frozen?_setCell];exact h.free i,by simpa using h.lt⟩
 rw[zX w _ _ _ (by intro q;injection q with q1 _;exact hb q1.symm)]
 exact h.cells i hi
theorem Rdr.other {w:World}{br b' o i:Nat}{s:By}(h:Rdr w br s i)(hb:br≠b')(v:Value):Rdr (w.setCell ⟨b',o,none⟩ v) br s i:=
 ⟨by rw[zX w _ _ _ (by intro q;injection q with q1 _;exact hb q1.symm)];exact h.text,by rw[zX w _ _ _ (by intro q;injection q with q1 _;exact hb q1.symm)];exact h.at',fun o=>by rw[World.frozen?_setCell];exact h.free o,by simpa using h.lt⟩
abbrev z8:Array Value:=#[.int .u8 0,.int .u8 0,.int .u8 0,.int .u8 0,.int .u8 0,.int .u8 0,.int .u8 0,.int .u8 0]
def NmRel (s:By)(br i0:Nat)(w:World)(R:Nat)(g:Nat)(vk:Value)(wr:World):Prop:=
 ∃k i:Nat,k≤8∧8-k≤g∧i≤s.length∧i=i0+k∧vk=.int .i64 k∧nmF s (8-k) i=R∧Rdr wr br s i∧WArr wr (w.heap.size+1) (cut s i0 i)∧wr.heap[w.heap.size]?=some (.cells z8 127 (0,0))∧OnlyB [br] w wr
theorem log_name (s:By)(hs:s.length≤80)(br i0:Nat)(hi:i0≤s.length)(w:World)(h:Rdr w br s i0)(R:Nat)(hR:nmF s 8 i0=R) :
  Calls Tryz.prog 80 #[.pointer (some ⟨br,0,none⟩)] w fun e w'=>e=.returned (.tuple #[q3U (cut s i0 R),.bool (decide (i0<R))])∧Rdr w' br s R∧OnlyB [br] w w':=by
 have H:=zb h
 have HR:=zb hR
 have hlt:=h.lt
 clear h hR
 go_enter Tryz.func80,Tryz.ntmps80
 go_wp2_with fail
 go_loopg [5] 8 (fun g vk wr=>NmRel s br i0 w R g vk wr)
 case atStart =>
  have B:Below w.heap.size w ((w.alloc (.cells z8 127)).alloc (.cells z8 127)):=((zB _ _).alloc (zL _) _).alloc (by simp) _
  refine⟨0,i0,by omega,by omega,hi,rfl,rfl,HR.out,H.out.only (OnlyB.of_below (bl:=[]) B) (by simp),WArr.of_row (t:=127) ?_,?_,.of_below B⟩
  ·have e9:(q8h []).toArray=z8:=rfl
   rw[q5j,e9]
   have:=zN (w.alloc (.cells z8 127)) (.cells z8 127)
   simpa using this
  ·rw[zO _ _ (by simp)];exact zN _ _
 case round =>
  obtain⟨k,i,hk,hg,hil,hik,rfl,hst,hrd,ha,hz,hob⟩:=hrel
  have HG:=zb hg
  have HRD:=zb hrd
  have HO:=zb hob
  have HA:=zb ha
  have HZ:=zb hz
  have hlr:=hrd.lt
  have hdg:=q6o (cI s i)
  have HH:Hid (∀W,Rdr W br s i→Calls Tryz.prog 78 #[.pointer (some ⟨br,0,none⟩)] W fun e w'=>e=.returned (.int .u8 (cI s i))∧Below W.heap.size W w'):=zb (fun W h=>q5F s hs br i (by omega) W h)
  have HIK:=zb hik
  have hsz:w.heap.size+1<wr.heap.size:=ha.lt
  clear hg hrd hob HR H ha hz hik
  have fin:R=i→∀W,Below wr.heap.size wr W→(Instr.loadAt 127 (.pointer (some ⟨w.heap.size+1,0,none⟩))).run Tryz.prog W=.ok (q3U (cut s i0 R)) W∧∃W',(Instr.storeAt 127 (.pointer (some ⟨w.heap.size,0,none⟩)) (q3U (cut s i0 R))).run Tryz.prog W=.ok () W'∧(loadVar 127 ⟨w.heap.size,0,none⟩).run Tryz.prog W'=.ok (q3U (cut s i0 R)) W'∧Rdr W' br s R∧OnlyB [br] w W':=fun e W hb=>by
   rw[e]
   have ha:WArr W (w.heap.size+1) (cut s i0 i):=⟨fun j hj=>by rw[zK (w:=wr) (hb.block _ hsz)];exact HA.out.cells j hj,fun j=>by rw[World.frozen?_of_block (w:=wr) (hb.block _ hsz)];exact HA.out.free j,zT hsz hb.size⟩
   refine⟨ha.load,?_⟩
   have hz:W.heap[w.heap.size]?=_:=(hb.block w.heap.size (by omega)).trans HZ.out
   obtain⟨W',s1,s2,s3,s4,s5,s6,s7⟩:=warr_in W w.heap.size _ (cut s i0 i) hz rfl
   have O2:OnlyB [br] w W:=HO.out.trans (.of_below hb)
   have hne:br≠w.heap.size:=by have:=hlt;omega
   refine⟨W',s1,(WArr.of_row s2).loadV,?_,⟨s5.trans O2.os,s6.trans O2.tape,s7.trans O2.output,by rw[s4];exact O2.size,fun q hq hn=>by rw[s3 q (by omega)];exact O2.block q hq hn⟩⟩
   have hr:=HRD.out.only (OnlyB.of_below (bl:=[]) hb) (by simp)
   exact⟨by rw[zK (w:=W) (s3 br hne)];exact hr.text,by rw[zK (w:=W) (s3 br hne)];exact hr.at',fun o=>by rw[World.frozen?_of_block (w:=W) (s3 br hne)];exact hr.free o,by rw[s4];exact hr.lt⟩
  have FIN:=zb fin
  clear fin
  by_cases hk8:k=8
  ·subst hk8
   rw[Nat.sub_self,nmF]at hst
   have HE:=zb hst.symm
   clear hst
   obtain⟨L1,W',S1,S2,S3,S4⟩:=FIN.out HE.out wr (zB _ _)
   have HB:Hid (decide (i0<R)=true):=zb (by have:=HE.out;have:=HIK.out;simp;omega)
   obtain⟨V,hV⟩:∃V,V=q3U (cut s i0 R):=⟨_,rfl⟩
   rw[←hV]at L1 S1 S2
   have HV:=zb hV
   clear hV
   go_wp2_with (first|(refine ze rfl 127 (.tmp 2) (.tmp 26) rfl ⟨w.heap.size,0,none⟩ V rfl rfl W' S1 ?_)|(refine zj rfl 127 (.tmp 4) rfl ⟨w.heap.size+1,0,none⟩ V rfl L1 ?_))
   exact zP (v:=.tuple #[V,.bool true]) (qg rfl _ _ _ _ _ rfl rfl S2) rfl ⟨by rw[HB.out,HV.out],S3,S4⟩
  ·have hk4:k<8:=by omega
   rw[show 8-k=(8-(k+1))+1 by omega,nmF]at hst
   by_cases hd:q0n (cI s i)=true
   ·rw[if_pos hd]at hst
    have hin:=(j1b hd).1
    have HPC:Hid (∀j,zn (cut s i0 (i+1)) j=if j=k then cI s i else zn (cut s i0 i) j):=zb (fun j=>by rw[pad_cut (by have:=HIK.out;omega) hin j];rw[show i-i0=k by have:=HIK.out;omega])
    rw[hd]at hdg
    have HE:=zb hst
    clear hst hd FIN
    generalize cI s i=c at *
    go_wp2_with fail
    refine(HH.out _ HRD.out).mono ?_
    rintro e w1 ⟨rfl,b1⟩
    have HB1:=zb b1
    have HR1:=zb (HRD.out.only (OnlyB.of_below (bl:=[]) b1) (by simp))
    clear b1
    go_wp2_with fail
    refine(hdg _).mono ?_
    rintro e w1 ⟨rfl,rfl⟩
    go_wp2_with fail
    refine(HH.out _ HR1.out).mono ?_
    rintro e w2 ⟨rfl,b2⟩
    have B2:Below wr.heap.size wr w2:=HB1.out.trans (b2.mono HB1.out.size)
    have R2:=HR1.out.only (OnlyB.of_below (bl:=[]) b2) (by simp)
    have c1:=R2.at'
    have f1:=R2.free 1
    have hl2:=R2.lt
    have hal:w.heap.size+1<w2.heap.size:=zT hsz B2.size
    have cx:∀j,j<8→w2.cell? ⟨w.heap.size+1,j,none⟩=some (.int .u8 (zn (cut s i0 i) j)):=fun j hj=>by rw[zK (w:=wr) (B2.block _ hsz)];exact HA.out.cells j hj
    have fx:∀j,w2.frozen? ⟨w.heap.size+1,j,none⟩=false:=fun j=>by rw[World.frozen?_of_block (w:=wr) (B2.block _ hsz)];exact HA.out.free j
    have ck:=cx k hk4
    have fk:=fx k
    have hbr:br≠w.heap.size+1:=by omega
    have hbr0:br≠w.heap.size:=by omega
    have HZ2:Hid (w2.heap[w.heap.size]?=some (.cells z8 127 (0,0))):=zb ((B2.block w.heap.size (by omega)).trans HZ.out)
    have HCX:=zb cx
    have HFX:=zb fx
    have HR2:=zb R2
    have HO2:Hid (OnlyB [br] w w2):=zb (HO.out.trans (.of_below B2))
    generalize zn (cut s i0 i) k=old at ck
    clear b2 R2 B2 cx fx
    go_wp2_with fail
    have hg1:0<gk:=by have:=HG.out;omega
    go_roundg (gk-1)
    case measure=>omega
    case rel =>
     refine⟨k+1,i+1,by omega,by have:=HG.out;omega,by omega,by have:=HIK.out;omega,by go_num,HE.out,?_,(WArr.put HCX.out HFX.out hal hk4 HPC.out).other (fun e=>hbr e.symm) _,?_,(HO2.out.setNew (by omega) _).setCell (by simp) _⟩
     ·have:=(HR2.out.other hbr (o:=k) (.int .u8 c)).step (i+1)
      simpa using this
     ·rw[Below.heap_setCell _ _ _ _ (by simp;omega),Below.heap_setCell _ _ _ _ (by simp)]
      exact HZ2.out
   ·rw[if_neg hd]at hst
    have HE:=zb hst.symm
    have hd':q0n (cI s i)=false:=by simpa using hd
    rw[hd']at hdg
    clear hst hd hd'
    generalize cI s i=c at *
    go_wp2_with fail
    refine(HH.out _ HRD.out).mono ?_
    rintro e w1 ⟨rfl,b1⟩
    obtain⟨L1,W',S1,S2,S3,S4⟩:=FIN.out HE.out w1 b1
    have HB:Hid (decide (0<k)=decide (i0<R)):=zb (by have:=HE.out;have:=HIK.out;rw[Bool.eq_iff_iff];simp;omega)
    obtain⟨V,hV⟩:∃V,V=q3U (cut s i0 R):=⟨_,rfl⟩
    rw[←hV]at L1 S1 S2
    have HV:=zb hV
    clear hV b1
    go_wp2_with fail
    refine(hdg _).mono ?_
    rintro e w1 ⟨rfl,rfl⟩
    go_wp2_with (first|(refine ze rfl 127 (.tmp 2) (.tmp 26) rfl ⟨w.heap.size,0,none⟩ V rfl rfl W' S1 ?_)|(refine zj rfl 127 (.tmp 4) rfl ⟨w.heap.size+1,0,none⟩ V rfl L1 ?_))
    exact zP (v:=.tuple #[V,.bool (decide (0<k))]) (qg rfl _ _ _ _ _ rfl (by first|rfl|simp) S2) rfl ⟨by rw[HB.out,HV.out],S3,S4⟩
abbrev Pl (s:By)(a k n:Int)(i:Nat):Int:=q4d s.length (s.drop i) i a k n
theorem j6d (s:By)(a:Nat)(acc:List (By)):∀(k i f:Nat),i+k≤s.length→(∀m,i≤m→m<i+k→cI s m≠32)→q8X s (f+k) i a acc=q8X s f (i+k) a acc:=by
 intro k
 induction k with
 |zero=>intro i f _ _;rfl
 |succ k ih =>
  intro i f h hm
  rw[show f+(k+1)=(f+k)+1 by omega,q8X,if_neg]
  ·rw[ih (i+1) f (by omega) (fun m h1 h2=>hm m (by omega) (by omega)),show i+1+k=i+(k+1)by omega]
  ·intro h'
   rcases h' with h'|h'
   ·omega
   ·exact hm i (by omega) (by omega) (by unfold cI;rw[h'];rfl)
theorem spl_haps (s:By):∀(f i:Nat) (hl R:List Hp),i≤s.length→s.length-i≤f→q2g s f i hl=.inr R→∃l,R=hl++l∧(∀h∈l,HpOk h)∧∀a acc,q8X s (s.length+1-i) i a acc=acc++cut s a i::l.map q4a:=by
 have last:∀(i:Nat),i=s.length→∀a acc,q8X s (s.length+1-i) i a acc=acc++[cut s a i]:=by
  intro i h a acc
  rw[show s.length+1-i=0+1 by omega,q8X,if_pos (.inl h)]
  rfl
 intro f
 induction f with
 |zero =>
  intro i hl R h hf e
  simp[q2g]at e
  exact⟨[],by simp[e],by simp,fun a acc=>last i (by omega) a acc⟩
 |succ f ih =>
  intro i hl R h hf e
  rw[q2g]at e
  by_cases g:i<s.length
  ·rw[if_pos g]at e
   by_cases ho:(q2H s i).1=true
   ·rw[if_pos ho]at e
    have hin:=j0s s i h
    have hlt:=hin.2.2 ho
    obtain⟨c1,c2,c3,c4⟩:=hapR_cut s i h ho
    generalize (q2H s i).2.1=j at *
    generalize (q2H s i).2.2=hp at *
    obtain⟨l,e1,e2,e3⟩:=ih j (hl++[hp]) R hin.2.1 (by omega) e
    refine⟨hp::l,by simp[e1],?_,fun a acc=>?_⟩
    ·intro h' hm
     rcases List.mem_cons.1 hm with rfl|hm
     ·exact c2
     ·exact e2 h' hm
    ·rw[show s.length+1-i=(s.length-i)+1 by omega,q8X,if_pos (.inr (q7e (c:=32) c1 (by omega)))]
     have sk:=j6d s (i+1) (acc++[cut s a i]) (j-(i+1)) (i+1) (s.length+1-j) (by omega) (fun m h1 h2=>c4 m h1 (by omega))
     rw[show s.length-i=s.length+1-j+(j-(i+1))by omega,sk,show i+1+(j-(i+1))=j by omega,e3,c3]
     simp
   ·rw[if_neg ho]at e;simp at e
  ·rw[if_neg g]at e
   simp at e
   exact⟨[],by simp[e],by simp,fun a acc=>last i (by omega) a acc⟩
theorem j1c {s:By}{n:Nat}{l:List Hp}(h:q3D s=.inr (n,l)):0<s.length∧(∀h∈l,HpOk h)∧n≤65535∧∃d,splR s=d::l.map q4a∧q2d d=true∧0<d.length∧d.length≤5∧q0e d=n:=by
 unfold q3D at h
 by_cases h1:cI s 0=64
 ·rw[if_pos h1]at h
  have i1:=q2I (s:=s) (i:=0) (by omega)
  have hi:=q9N s 5 0 1 (by omega) (by omega)
  have hc:=stF_cut s 5 0 1 (by omega) (by omega)
  by_cases h2:(stF s 5 0 1).1=true∧1<(stF s 5 0 1).2.2
  ·rw[if_pos h2]at h
   have hc:=hc h2.1
   generalize (stF s 5 0 1).2.2=e at *
   generalize (stF s 5 0 1).2.1=v at *
   cases hh:q2g s s.length e []with
   |inl p=>rw[hh]at h;simp at h
   |inr R =>
    rw[hh]at h
    simp only[Sum.inr.injEq,Prod.mk.injEq]at h
    obtain⟨rfl,rfl⟩:=h
    obtain⟨l,e1,e2,e3⟩:=spl_haps s s.length e [] R hi.2.1 (by omega) hh
    simp at e1
    subst e1
    refine⟨i1,e2,hi.2.2.2,cut s 1 e,?_,hc.1,by unfold cut;simp;omega,by unfold cut;simp;omega,hc.2⟩
    unfold splR
    have hdig:∀m,1≤m→m<1+(e-1)→cI s m≠32:=by
     intro m m1 m2 hm
     have hd:=hc.1
     unfold q2d at hd
     rw[List.all_eq_true]at hd
     have hmem:s.getD m 0∈cut s 1 e:=by
      have e9:(cut s 1 e)[m-1]?=some (s.getD m 0):=by
       unfold cut
       rw[List.getElem?_take_of_lt (by omega),List.getElem?_drop,show 1+(m-1)=m by omega]
       simp[List.getD,show m<s.length by omega]
      exact zI e9
     have:=hd _ hmem
     rw[show((s.getD m 0).toNat:Int)=cI s m from rfl,hm]at this
     simp[zQ]at this
    have sk:=j6d s 1 [] (e-1) 1 (s.length+1-e) (by omega) hdig
    rw[show s.length+1-e+(e-1)=s.length by omega,show 1+(e-1)=e by omega]at sk
    rw[sk,e3]
    rfl
  ·rw[if_neg h2]at h;simp at h
 ·rw[if_neg h1]at h;simp at h
end Go.Proofs.YtiamjjonoeaggaaGreatDoor
