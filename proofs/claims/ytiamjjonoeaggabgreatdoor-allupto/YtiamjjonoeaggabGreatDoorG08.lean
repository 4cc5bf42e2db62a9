import Derived.Test.YtiamjjonoeaggabGreatDoorGA
import Derived.Test.YtiamjjonoeaggabGreatDoorG00
import Derived.Test.YtiamjjonoeaggabGreatDoorG02
import Derived.Test.YtiamjjonoeaggabGreatDoorG07
set_option maxRecDepth 100000
set_option maxHeartbeats 16000000
namespace Go.Proofs.YtiamjjonoeaggabGreatDoor
open Go.RowKit
structure Hp where
 nm:By
 ds:List Nat
def cI (s:By)(i:Nat):Int:=((s.getD i 0).toNat:Int)
def dI (s:By)(i:Nat):Nat:=(s.getD i 0).toNat-48
def stF (s:By):Nat→Nat→Nat→Bool × Nat × Nat
 | 0,n,i=>(true,n,i)
 |f+1,n,i=>if qp (cI s i)=true then(if 65535<10*n+dI s i then(false,n,i)else stF s f (10*n+dI s i) (i+1))else(true,n,i)
def nmF (s:By):Nat→Nat→Nat
 | 0,i=>i
 |f+1,i=>if q0e (cI s i)=true then nmF s f (i+1)else i
def q7z (s:By)(nm:By)(d j:Nat):Bool × Nat × Hp:=
 if cI s j=44 then
  if qp (cI s (j+1))=true then
   if cI s (j+2)=41 then(true,j+3,⟨nm,[d,dI s (j+1)]⟩)else(false,j+2,⟨[],[]⟩)
  else(false,j+1,⟨[],[]⟩)
 else if cI s j=41 then(true,j+1,⟨nm,[d]⟩)else(false,j,⟨[],[]⟩)
def q2K (s:By)(i:Nat):Bool × Nat × Hp:=
 if cI s i=32 then
  if i+1<nmF s 8 (i+1)then
   if cI s (nmF s 8 (i+1))=40 then
    if qp (cI s (nmF s 8 (i+1)+1))=true then q7z s (cut s (i+1) (nmF s 8 (i+1))) (dI s (nmF s 8 (i+1)+1)) (nmF s 8 (i+1)+2)
    else(false,nmF s 8 (i+1)+1,⟨[],[]⟩)
   else(false,nmF s 8 (i+1),⟨[],[]⟩)
  else(false,i+1,⟨[],[]⟩)
 else(false,i,⟨[],[]⟩)
def q2i (s:By):Nat→Nat→List Hp→Sum Nat (List Hp)
 | 0,_,acc=>.inr acc
 |f+1,i,acc=>if i<s.length then(if (q2K s i).1=true then q2i s f (q2K s i).2.1 (acc++[(q2K s i).2.2])else .inl (q2K s i).2.1)else .inr acc
def q2n (s:By):Sum Nat (Nat × List Hp):=
 if cI s 0=64 then
  if (stF s 5 0 1).1=true∧1<(stF s 5 0 1).2.2 then
   match q2i s s.length (stF s 5 0 1).2.2 []with
   | .inl p=>.inl p
   | .inr l=>.inr ((stF s 5 0 1).2.1,l)
  else .inl (stF s 5 0 1).2.2
 else .inl 0
theorem j4H {s:By}{i:Nat}(h:s.length≤i):cI s i=0:=by
 unfold cI
 simp[List.getD,List.getElem?_eq_none h]
theorem q2h {s:By}{i:Nat}(h:cI s i≠0):i<s.length:=by
 rcases Nat.lt_or_ge i s.length with g|g
 ·exact g
 ·exact absurd (j4H g) h
theorem q2U {s:By}{i:Nat}(h:qp (cI s i)=true):i<s.length∧48≤cI s i∧cI s i≤57:=by
 have h2:48≤cI s i∧cI s i≤57:=by simpa[qp]using h
 exact⟨q2h (by omega),h2⟩
theorem q9Z {s:By}{i:Nat}(h:q0e (cI s i)=true):i<s.length∧97≤cI s i∧cI s i≤122:=by
 have h2:97≤cI s i∧cI s i≤122:=by simpa[q0e]using h
 exact⟨q2h (by omega),h2⟩
theorem dI_eq {s:By}{i:Nat}(h:qp (cI s i)=true):(dI s i:Int)=cI s i-48:=by
 have:=(q2U h).2
 unfold dI cI at *
 omega
theorem q8Q (s:By):∀(f n i:Nat),i≤s.length→n≤65535→i≤(stF s f n i).2.2∧(stF s f n i).2.2≤s.length∧(stF s f n i).2.2≤i+f∧(stF s f n i).2.1≤65535:=by
 intro f
 induction f with
 |zero=>intro n i h hn;exact⟨zL _,h,zL _,hn⟩
 |succ f ih =>
  intro n i h hn
  rw[stF]
  by_cases hd:qp (cI s i)=true
  ·rw[if_pos hd]
   by_cases hb:65535<10*n+dI s i
   ·rw[if_pos hb];exact⟨zL _,h,by simp,hn⟩
   ·rw[if_neg hb]
    have:=ih (10*n+dI s i) (i+1) (by have:=(q2U hd).1;omega) (by omega)
    omega
  ·rw[if_neg hd];exact⟨zL _,h,by simp,hn⟩
theorem q8B (s:By):∀(f i:Nat),i≤s.length→i≤nmF s f i∧nmF s f i≤s.length∧nmF s f i≤i+f:=by
 intro f
 induction f with
 |zero=>intro i h;exact⟨zL _,h,zL _⟩
 |succ f ih =>
  intro i h
  rw[nmF]
  by_cases hd:q0e (cI s i)=true
  ·rw[if_pos hd]
   have:=ih (i+1) (by have:=(q9Z hd).1;omega)
   omega
  ·rw[if_neg hd];omega
theorem j5Q (s:By)(nm:By)(d j:Nat)(h:j≤s.length):j≤(q7z s nm d j).2.1∧(q7z s nm d j).2.1≤s.length:=by
 unfold q7z
 by_cases h1:cI s j=44
 ·rw[if_pos h1]
  have:=q2h (s:=s) (i:=j) (by omega)
  by_cases h2:qp (cI s (j+1))=true
  ·rw[if_pos h2]
   have:=(q2U h2).1
   by_cases h3:cI s (j+2)=41
   ·rw[if_pos h3]
    have:=q2h (s:=s) (i:=j+2) (by omega)
    simp only[];omega
   ·rw[if_neg h3];simp only[];omega
  ·rw[if_neg h2];simp only[];omega
 ·rw[if_neg h1]
  by_cases h2:cI s j=41
  ·rw[if_pos h2]
   have:=q2h (s:=s) (i:=j) (by omega)
   simp only[];omega
  ·rw[if_neg h2];simp only[];omega
theorem q9z (s:By)(i:Nat)(h:i≤s.length):i≤(q2K s i).2.1∧(q2K s i).2.1≤s.length∧((q2K s i).1=true→i<(q2K s i).2.1):=by
 unfold q2K
 by_cases h1:cI s i=32
 ·rw[if_pos h1]
  have hi:=q2h (s:=s) (i:=i) (by omega)
  have hn:=q8B s 8 (i+1) (by omega)
  generalize nmF s 8 (i+1)=e at *
  by_cases h2:i+1<e
  ·rw[if_pos h2]
   by_cases h3:cI s e=40
   ·rw[if_pos h3]
    have he:=q2h (s:=s) (i:=e) (by omega)
    by_cases h4:qp (cI s (e+1))=true
    ·rw[if_pos h4]
     have h5:=(q2U h4).1
     have:=j5Q s (cut s (i+1) e) (dI s (e+1)) (e+2) (by omega)
     exact⟨by omega,this.2,fun _=>by omega⟩
    ·rw[if_neg h4];exact⟨by simp only[];omega,by simp only[];omega,fun e=>by simp at e⟩
   ·rw[if_neg h3];exact⟨by simp only[];omega,by simp only[];omega,fun e=>by simp at e⟩
  ·rw[if_neg h2];exact⟨by simp only[];omega,by simp only[];omega,fun e=>by simp at e⟩
 ·rw[if_neg h1];exact⟨zL _,h,fun e=>by simp at e⟩
def q5D (h:Hp):By:=h.nm++40::(match h.ds with
 | [d]=>[UInt8.ofNat (48+d),41]
 | [d,d']=>[UInt8.ofNat (48+d),44,UInt8.ofNat (48+d'),41]
 |_=>[])
structure HpOk (h:Hp):Prop where
 nm:0<h.nm.length∧h.nm.length≤8∧∀c∈h.nm,q0e (c.toNat:Int)=true
 ds:(h.ds.length=1∨h.ds.length=2)∧∀d∈h.ds,d≤9
theorem q3f {s:By}{i e:Nat}(h:i<e)(he:e≤s.length):cut s i e=s.getD i 0::cut s (i+1) e:=by
 unfold cut
 have e0:s.getD i 0=s[i]:=by simp[List.getD,show i<s.length by omega]
 rw[e0,List.drop_eq_getElem_cons (by omega),show e-i=(e-(i+1))+1 by omega,List.take_succ_cons]
theorem q4H (s:By)(i:Nat):cut s i i=[]:=by unfold cut;simp
theorem j2Z {s:By}{i m e:Nat}(h:i≤m)(h2:m≤e)(_he:e≤s.length):cut s i e=cut s i m++cut s m e:=by
 unfold cut
 have e1:e-i=(m-i)+(e-m):=by omega
 rw[e1,List.take_add,List.drop_drop,show i+(m-i)=m by omega]
theorem q6v {s:By}{i c:Nat}(h:cI s i=(c:Int))(hc:c<256):s.getD i 0=UInt8.ofNat c:=by
 unfold cI at h
 apply UInt8.toNat_inj.1
 rw[UInt8.toNat_ofNat_of_lt' (by omega)]
 omega
theorem q9O {s:By}{i:Nat}(h:qp (cI s i)=true):s.getD i 0=UInt8.ofNat (48+dI s i)∧dI s i≤9:=by
 have h1:=dI_eq h
 have h2:=(q2U h).2
 exact⟨q6v (by omega) (by omega),by omega⟩
theorem stF_cut (s:By):∀(f n i:Nat),i≤s.length→n≤65535→(stF s f n i).1=true→q1H (cut s i (stF s f n i).2.2)=true∧(cut s i (stF s f n i).2.2).foldl (fun n c=>10*n+(c.toNat-48)) n=(stF s f n i).2.1:=by
 intro f
 induction f with
 |zero=>intro n i h hn _;simp[stF,q4H,q1H]
 |succ f ih =>
  intro n i h hn
  rw[stF]
  by_cases hd:qp (cI s i)=true
  ·rw[if_pos hd]
   by_cases hb:65535<10*n+dI s i
   ·rw[if_pos hb];intro e;simp at e
   ·rw[if_neg hb]
    intro e
    have hin:=q2U hd
    have:=ih (10*n+dI s i) (i+1) (by omega) (by omega) e
    have hle:=q8Q s f (10*n+dI s i) (i+1) (by omega) (by omega)
    rw[q3f (by omega) hle.2.1]
    refine⟨?_,this.2⟩
    have:=this.1
    unfold q1H at this ⊢
    rw[List.all_cons,this,Bool.and_true]
    exact hd
  ·rw[if_neg hd]
   intro _
   simp[q4H,q1H]
theorem nmF_cut (s:By):∀(f i:Nat),i≤s.length→(∀j,i≤j→j<nmF s f i→q0e (cI s j)=true)∧∀c∈cut s i (nmF s f i),q0e (c.toNat:Int)=true:=by
 intro f
 induction f with
 |zero=>intro i h;exact⟨fun j h1 h2=>by simp[nmF]at h2;omega,by simp[nmF,q4H]⟩
 |succ f ih =>
  intro i h
  rw[nmF]
  by_cases hd:q0e (cI s i)=true
  ·rw[if_pos hd]
   have hin:=q9Z hd
   have:=ih (i+1) (by omega)
   have hle:=q8B s f (i+1) (by omega)
   refine⟨fun j h1 h2=>?_,?_⟩
   ·by_cases e:j=i
    ·rw[e];exact hd
    ·exact this.1 j (by omega) h2
   ·rw[q3f (by omega) hle.2.1]
    intro c hc
    rcases List.mem_cons.1 hc with rfl|hc
    ·exact hd
    ·exact this.2 c hc
  ·rw[if_neg hd]
   exact⟨fun j h1 h2=>by omega,by simp[q4H]⟩
theorem hapT_cut (s:By)(nm:By)(d j:Nat)(_hj:j≤s.length)(ho:(q7z s nm d j).1=true) :
  ∃ds,(q7z s nm d j).2.2=⟨nm,d::ds⟩∧(ds.length=0∨ds.length=1)∧(∀d∈ds,d≤9)∧cut s j (q7z s nm d j).2.1=(match ds with
   | []=>[41]
   |d::_=>[44,UInt8.ofNat (48+d),41])∧∀m,j≤m→m<(q7z s nm d j).2.1→cI s m≠32:=by
 unfold q7z at ho ⊢
 by_cases h1:cI s j=44
 ·rw[if_pos h1]at ho ⊢
  have i1:=q2h (s:=s) (i:=j) (by omega)
  by_cases h2:qp (cI s (j+1))=true
  ·rw[if_pos h2]at ho ⊢
   have i2:=q2U h2
   by_cases h3:cI s (j+2)=41
   ·rw[if_pos h3]
    have i3:=q2h (s:=s) (i:=j+2) (by omega)
    have b2:=q9O h2
    refine⟨[dI s (j+1)],rfl,.inr rfl,?_,?_,?_⟩
    ·intro d hd;simp at hd;subst hd;exact b2.2
    ·simp only[]
     rw[q3f (by omega) (by omega),q3f (by omega) (by omega),q3f (by omega) (by omega),q4H,q6v (c:=44) h1 (by omega),q6v (c:=41) h3 (by omega),b2.1]
     rfl
    ·intro m m1 m2
     simp only[]at m2
     have:m=j∨m=j+1∨m=j+2:=by omega
     rcases this with rfl|rfl|rfl<;>omega
   ·rw[if_neg h3]at ho;simp at ho
  ·rw[if_neg h2]at ho;simp at ho
 ·rw[if_neg h1]at ho ⊢
  by_cases h2:cI s j=41
  ·rw[if_pos h2]
   have i1:=q2h (s:=s) (i:=j) (by omega)
   refine⟨[],rfl,.inl rfl,by simp,?_,?_⟩
   ·simp only[]
    rw[q3f (by omega) (by omega),q4H,q6v (c:=41) h2 (by omega)]
    rfl
   ·intro m m1 m2
    simp only[]at m2
    have:m=j:=by omega
    subst this;omega
  ·rw[if_neg h2]at ho;simp at ho
theorem hapR_cut (s:By)(i:Nat)(_hi:i≤s.length)(ho:(q2K s i).1=true):cI s i=32∧HpOk (q2K s i).2.2∧cut s (i+1) (q2K s i).2.1=q5D (q2K s i).2.2∧∀m,i+1≤m→m<(q2K s i).2.1→cI s m≠32:=by
 unfold q2K at ho ⊢
 by_cases h1:cI s i=32
 ·rw[if_pos h1]at ho ⊢
  have i1:=q2h (s:=s) (i:=i) (by omega)
  have hn:=q8B s 8 (i+1) (by omega)
  have hc:=nmF_cut s 8 (i+1) (by omega)
  generalize nmF s 8 (i+1)=e at *
  by_cases h2:i+1<e
  ·rw[if_pos h2]at ho ⊢
   by_cases h3:cI s e=40
   ·rw[if_pos h3]at ho ⊢
    have i3:=q2h (s:=s) (i:=e) (by omega)
    by_cases h4:qp (cI s (e+1))=true
    ·rw[if_pos h4]at ho ⊢
     have i4:=q2U h4
     have b4:=q9O h4
     obtain⟨ds,e1,e2,e3,e4,e5⟩:=hapT_cut s (cut s (i+1) e) (dI s (e+1)) (e+2) (by omega) ho
     have hin:=j5Q s (cut s (i+1) e) (dI s (e+1)) (e+2) (by omega)
     refine⟨h1,?_,?_,?_⟩
     ·rw[e1]
      refine⟨⟨?_,?_,hc.2⟩,?_,?_⟩
      ·show 0<(cut s (i+1) e).length
       unfold cut;simp;omega
      ·show(cut s (i+1) e).length≤8
       unfold cut;simp;omega
      ·show(dI s (e+1)::ds).length=1∨(dI s (e+1)::ds).length=2
       simp only[List.length_cons];omega
      ·intro d hd
       rcases List.mem_cons.1 hd with rfl|hd
       ·exact b4.2
       ·exact e3 d hd
     ·rw[j2Z (m:=e) (by omega) (by omega) hin.2,q3f (i:=e) (by omega) hin.2,q3f (i:=e+1) (by omega) hin.2,e4,e1,q6v (c:=40) h3 (by omega),b4.1]
      unfold q5D
      match ds,e2 with
      | [],_=>rfl
      | [d],_=>rfl
      |_::_::_,h=>simp at h
     ·intro m m1 m2
      rcases Nat.lt_or_ge m e with g|g
      ·have:=(q9Z (hc.1 m m1 g)).2;omega
      ·rcases Nat.lt_or_ge m (e+2)with g2|g2
       ·have:m=e∨m=e+1:=by omega
        rcases this with rfl|rfl<;>omega
       ·exact e5 m g2 m2
    ·rw[if_neg h4]at ho;simp at ho
   ·rw[if_neg h3]at ho;simp at ho
  ·rw[if_neg h2]at ho;simp at ho
 ·rw[if_neg h1]at ho;simp at ho
structure Rdr (w:World)(br:Nat)(s:By)(i:Nat):Prop where
 text:w.cell? ⟨br,0,none⟩=some (bs s)
 at':w.cell? ⟨br,1,none⟩=some (.int .i64 i)
 free:∀o,w.frozen? ⟨br,o,none⟩=false
 lt:br<w.heap.size
theorem Rdr.only {w w':World}{bl:List Nat}{br:Nat}{s:By}{i:Nat}(h:Rdr w br s i)(ho:OnlyB bl w w')(h1:br∉bl):Rdr w' br s i:=
 ⟨by rw[ho.cell h.lt h1];exact h.text,by rw[ho.cell h.lt h1];exact h.at',fun o=>by rw[ho.frozen h.lt h1];exact h.free o,zT h.lt ho.size⟩
theorem Rdr.step {w:World}{br:Nat}{s:By}{i:Nat}(h:Rdr w br s i)(n:Nat):Rdr (w.setCell ⟨br,1,none⟩ (.int .i64 n)) br s n:=by
 refine⟨?_,zS w _ _ h.at',fun o=>by rw[World.frozen?_setCell];exact h.free o,by simpa using h.lt⟩
 rw[zX w _ _ _ (by intro e;injection e with e1 e2;simp at e2)]
 exact h.text
theorem cI_at {s:By}{i:Nat}(h:i<s.length):(((ByteArray.mk s.toArray)[i]'(by exact h)).toNat:Int)=cI s i:=by
 unfold cI
 simp only[List.getD,zG h,Option.getD_some]
 rfl
theorem q5i (s:By)(_hs:s.length≤80)(br i:Nat)(hi:i≤1000)(w:World)(h:Rdr w br s i) :
  Calls Tryz.prog 67 #[.pointer (some ⟨br,0,none⟩)] w fun e w'=>e=.returned (.int .u8 (cI s i))∧Below w.heap.size w w':=by
 have c0:=h.text
 have c1:=h.at'
 have hlt:=h.lt
 clear h
 by_cases hl:i<s.length
 ·have hc:=cI_at hl
  generalize cI s i=c at *
  go_enter Tryz.func67,Tryz.ntmps67
  go_wp2_with fail
  go_quiet (fail)
  go_wp2_with fail
  go_region
  go_wp2_with fail
  go_ret
  exact⟨by first|rfl|(rw[←hc];rfl),q2v _ (zB _ _)⟩
 ·have hc:=j4H (s:=s) (i:=i) (by omega)
  rw[hc]
  clear hc
  go_enter Tryz.func67,Tryz.ntmps67
  go_wp2_with fail
  go_quiet (fail)
  go_wp2_with fail
  go_ret
  exact⟨rfl,q2v _ (zB _ _)⟩
theorem q1A (s:By)(hs:s.length≤80)(br i:Nat)(hi:i≤1000)(c:Int)(hc:cI s i=c)(w:World)(h:Rdr w br s i) :
  Calls Tryz.prog 48 #[.pointer (some ⟨br,0,none⟩),.int .u8 c] w fun e w'=>e=.returned (.bool true)∧Rdr w' br s (i+1)∧OnlyB [br] w w':=by
 have hh:=q5i s hs br i hi w h
 have H:=zb h
 rw[hc]at hh
 clear h hc
 go_enter Tryz.func48,Tryz.ntmps48
 go_wp2_with fail
 refine hh.mono ?_
 rintro e w1 ⟨rfl,b1⟩
 have O1:OnlyB [br] w w1:=.of_below b1
 have R1:=H.out.only (OnlyB.of_below (bl:=[]) b1) (by simp)
 have c1:=R1.at'
 have f1:=R1.free 1
 have hlt:=R1.lt
 have HO:=zb O1
 have HR:=zb R1
 clear b1 O1 R1
 go_wp2_with fail
 go_ret
 exact⟨rfl,by have:=HR.out.step (i+1);simpa using this,HO.out.setCell (by simp) _⟩
theorem q2Y (s:By)(hs:s.length≤80)(br i:Nat)(hi:i≤1000)(c:Int)(hc:¬cI s i=c)(w:World)(h:Rdr w br s i) :
  Calls Tryz.prog 48 #[.pointer (some ⟨br,0,none⟩),.int .u8 c] w fun e w'=>e=.returned (.bool false)∧Below w.heap.size w w':=by
 have hh:=q5i s hs br i hi w h
 generalize cI s i=d at *
 have hd:(d==c)=false:=by simpa using hc
 clear h
 go_enter Tryz.func48,Tryz.ntmps48
 go_wp2_with fail
 refine hh.mono ?_
 rintro e w1 ⟨rfl,b1⟩
 go_wp2_with fail
 go_ret
 exact⟨rfl,b1⟩
theorem q6V (s:By)(hs:s.length≤80)(br i:Nat)(hi:i≤1000)(hd:qp (cI s i)=true)(w:World)(h:Rdr w br s i) :
  Calls Tryz.prog 70 #[.pointer (some ⟨br,0,none⟩)] w fun e w'=>e=.returned (.tuple #[.int .i64 (dI s i),.bool true])∧Rdr w' br s (i+1)∧OnlyB [br] w w':=by
 have hh:=q5i s hs br i hi w h
 have H:=zb h
 rw[dI_eq hd]
 have hb:=(q2U hd).2
 have hdg:=q3N (cI s i)
 rw[hd]at hdg
 generalize cI s i=d at *
 clear h hd
 go_enter Tryz.func70,Tryz.ntmps70
 go_wp2_with fail
 refine hh.mono ?_
 rintro e w1 ⟨rfl,b1⟩
 have O1:OnlyB [br] w w1:=.of_below b1
 have R1:=H.out.only (OnlyB.of_below (bl:=[]) b1) (by simp)
 have c1:=R1.at'
 have f1:=R1.free 1
 have hlt:=R1.lt
 have HO:=zb O1
 have HR:=zb R1
 clear b1 O1 R1
 go_wp2_with fail
 refine(hdg _).mono ?_
 rintro e w2 ⟨rfl,rfl⟩
 go_wp2_with fail
 go_ret2
 exact⟨by first|rfl|go_num,by have:=HR.out.step (i+1);simpa using this,HO.out.setCell (by simp) _⟩
theorem q7I (s:By)(hs:s.length≤80)(br i:Nat)(hi:i≤1000)(hd:qp (cI s i)=false)(w:World)(h:Rdr w br s i) :
  Calls Tryz.prog 70 #[.pointer (some ⟨br,0,none⟩)] w fun e w'=>e=.returned (.tuple #[.int .i64 0,.bool false])∧Below w.heap.size w w':=by
 have hh:=q5i s hs br i hi w h
 have hdg:=q3N (cI s i)
 rw[hd]at hdg
 generalize cI s i=d at *
 clear h hd
 go_enter Tryz.func70,Tryz.ntmps70
 go_wp2_with fail
 refine hh.mono ?_
 rintro e w1 ⟨rfl,b1⟩
 go_wp2_with fail
 refine(hdg _).mono ?_
 rintro e w2 ⟨rfl,rfl⟩
 go_wp2_with fail
 go_ret2
 exact⟨rfl,b1⟩
def StRel (s:By)(br i0:Nat)(w:World)(R:Bool × Nat × Nat)(g:Nat)(vs vk:Value)(wr:World):Prop:=
 ∃k n i:Nat,k≤5∧5-k≤g∧n≤65535∧i≤s.length∧i=i0+k∧vs=.int .i64 n∧vk=.int .i64 k∧stF s (5-k) n i=R∧Rdr wr br s i∧OnlyB [br] w wr
theorem q8A (s:By)(hs:s.length≤80)(br i0:Nat)(hi:i0≤s.length)(w:World)(h:Rdr w br s i0)(R:Bool × Nat × Nat)(hR:stF s 5 0 i0=R) :
  Calls Tryz.prog 49 #[.pointer (some ⟨br,0,none⟩)] w fun e w'=>(∃v:Int,e=.returned (.tuple #[.int .u16 v,.bool (R.1&&decide (i0<R.2.2))])∧(R.1=true→v=R.2.1))∧Rdr w' br s R.2.2∧OnlyB [br] w w':=by
 have H:=zb h
 have HR:=zb hR
 have hlt:=h.lt
 clear h hR
 go_enter Tryz.func49,Tryz.ntmps49
 go_wp2_with fail
 go_loopg [4,5] 5 (fun g vs vk wr=>StRel s br i0 w R g vs vk wr)
 case atStart=>exact⟨0,0,i0,by omega,by omega,by omega,hi,rfl,rfl,rfl,HR.out,H.out,OnlyB.refl _ _⟩
 case round =>
  obtain⟨k,n,i,hk,hg,hn,hil,hik,rfl,rfl,hst,hrd,hob⟩:=hrel
  have HG:=zb hg
  have HRD:=zb hrd
  have HO:=zb hob
  have hlr:=hrd.lt
  have hdg:=q3N (cI s i)
  have HH:Hid (∀W,Rdr W br s i→Calls Tryz.prog 67 #[.pointer (some ⟨br,0,none⟩)] W fun e w'=>e=.returned (.int .u8 (cI s i))∧Below W.heap.size W w'):=zb (fun W h=>q5i s hs br i (by omega) W h)
  clear hg hrd hob HR H
  have fin:(R=(true,n,i)→∀b:Bool,b=decide (0<k)→(∃v:Int,Ending.returned (.tuple #[.int .u16 (n:Int),.bool b])=.returned (.tuple #[.int .u16 v,.bool (R.1&&decide (i0<R.2.2))])∧(R.1=true→v=R.2.1))):=fun e1 b hb=>by
   refine⟨n,?_,fun _=>by rw[e1]⟩
   rw[e1,hik,Bool.true_and,hb]
   have:decide (0<k)=decide (i0<i0+k):=by
    rw[Bool.eq_iff_iff]
    simp
   rw[this]
  have FIN:=zb fin
  have HIK:=zb hik
  clear fin hik
  by_cases hk5:k=5
  ·subst hk5
   rw[Nat.sub_self,stF]at hst
   have HE:=zb hst.symm
   clear hst
   go_wp2_with fail
   go_ret2
   exact⟨FIN.out HE.out _ (by simp),by rw[HE.out];exact HRD.out,HO.out⟩
  ·have hk4:k<5:=by omega
   rw[show 5-k=(5-(k+1))+1 by omega,stF]at hst
   by_cases hd:qp (cI s i)=true
   ·rw[if_pos hd]at hst
    have hin:=q2U hd
    have hdi:=dI_eq hd
    rw[hd]at hdg
    clear hd
    by_cases hov:65535<10*n+dI s i
    ·rw[if_pos hov]at hst
     have HE:=zb hst.symm
     clear hst
     have hc1:48≤cI s i:=hin.2.1
     have hc2:cI s i≤57:=hin.2.2
     generalize cI s i=c at *
     have hov':65535<10*(n:Int)+(c-48):=by omega
     clear hdi hin hov
     go_wp2_with fail
     refine(HH.out _ HRD.out).mono ?_
     rintro e w1 ⟨rfl,b1⟩
     have HR1:=zb (HRD.out.only (OnlyB.of_below (bl:=[]) b1) (by simp))
     have HO1:Hid (OnlyB [br] w w1):=zb (HO.out.trans (.of_below b1))
     clear b1
     go_wp2_with fail
     refine(hdg _).mono ?_
     rintro e w1 ⟨rfl,rfl⟩
     go_wp2_with fail
     refine(HH.out _ HR1.out).mono ?_
     rintro e w2 ⟨rfl,b2⟩
     have HR2:=zb (HR1.out.only (OnlyB.of_below (bl:=[]) b2) (by simp))
     have HO2:Hid (OnlyB [br] w w2):=zb (HO1.out.trans (.of_below b2))
     clear b2
     go_wp2_with fail
     go_ret2
     exact⟨⟨0,by rw[HE.out];rfl,by rw[HE.out];intro e;simp at e⟩,by rw[HE.out];exact HR2.out,HO2.out⟩
    ·rw[if_neg hov]at hst
     have HE:=zb hst
     clear hst
     have hc1:48≤cI s i:=hin.2.1
     have hc2:cI s i≤57:=hin.2.2
     have hi1:=hin.1
     have HD:=zb hdi
     generalize cI s i=c at *
     have hov':10*(n:Int)+(c-48)≤65535:=by omega
     have HOV:=zb hov
     clear hdi hin hov
     go_wp2_with fail
     refine(HH.out _ HRD.out).mono ?_
     rintro e w1 ⟨rfl,b1⟩
     have HR1:=zb (HRD.out.only (OnlyB.of_below (bl:=[]) b1) (by simp))
     have HO1:Hid (OnlyB [br] w w1):=zb (HO.out.trans (.of_below b1))
     clear b1
     go_wp2_with fail
     refine(hdg _).mono ?_
     rintro e w1 ⟨rfl,rfl⟩
     go_wp2_with fail
     refine(HH.out _ HR1.out).mono ?_
     rintro e w2 ⟨rfl,b2⟩
     have R2:=HR1.out.only (OnlyB.of_below (bl:=[]) b2) (by simp)
     have c1:=R2.at'
     have f1:=R2.free 1
     have hl2:=R2.lt
     have HR2:=zb R2
     have HO2:Hid (OnlyB [br] w w2):=zb (HO1.out.trans (.of_below b2))
     clear b2 R2
     go_wp2_with fail
     have hg1:0<gk:=by have:=HG.out;omega
     go_roundg (gk-1)
     case measure=>omega
     case rel=>exact⟨k+1,10*n+dI s i,i+1,by omega,by have:=HG.out;omega,by have:=HOV.out;omega,by omega,by have:=HIK.out;omega,by have:=HD.out;first|go_num|(congr 1;omega),by go_num,HE.out,by have:=HR2.out.step (i+1);simpa using this,HO2.out.setCell (by simp) _⟩
   ·rw[if_neg hd]at hst
    have HE:=zb hst.symm
    have hd':qp (cI s i)=false:=by simpa using hd
    rw[hd']at hdg
    clear hst hd hd'
    generalize cI s i=c at *
    go_wp2_with fail
    refine(HH.out _ HRD.out).mono ?_
    rintro e w1 ⟨rfl,b1⟩
    have HR1:=zb (HRD.out.only (OnlyB.of_below (bl:=[]) b1) (by simp))
    have HO1:Hid (OnlyB [br] w w1):=zb (HO.out.trans (.of_below b1))
    clear b1
    go_wp2_with fail
    refine(hdg _).mono ?_
    rintro e w1 ⟨rfl,rfl⟩
    go_wp2_with fail
    go_ret2
    exact⟨FIN.out HE.out _ (by simp),by rw[HE.out];exact HR1.out,HO1.out⟩
theorem pad_cut {s:By}{i0 i:Nat}(h0:i0≤i)(hi:i<s.length)(j:Nat):zj (cut s i0 (i+1)) j=if j=i-i0 then cI s i else zj (cut s i0 i) j:=by
 have e:cut s i0 (i+1)=cut s i0 i++[s.getD i 0]:=by
  rw[j2Z (m:=i) h0 (by omega) (by omega),q3f (i:=i) (by omega) (by omega),q4H]
 have hl:(cut s i0 i).length=i-i0:=by unfold cut;simp;omega
 unfold zj
 rw[e]
 by_cases hj:j=i-i0
 ·rw[if_pos hj]
  simp only[List.getD]
  rw[List.getElem?_append_right (by omega),hl,hj,Nat.sub_self]
  rfl
 ·rw[if_neg hj]
  simp only[List.getD]
  rcases Nat.lt_or_ge j (i-i0)with g|g
  ·rw[List.getElem?_append_left (by omega)]
  ·rw[List.getElem?_eq_none (by simp;omega),List.getElem?_eq_none (by omega)]
abbrev q7o (t:By):List Value:=[.int .u8 (zj t 0),.int .u8 (zj t 1),.int .u8 (zj t 2),.int .u8 (zj t 3),.int .u8 (zj t 4),.int .u8 (zj t 5),.int .u8 (zj t 6),.int .u8 (zj t 7)]
theorem j1X (t:By)(j:Nat)(h:j<8):(q7o t)[j]?=some (.int .u8 (zj t j)):=by
 rcases(by omega:j=0∨j=1∨j=2∨j=3∨j=4∨j=5∨j=6∨j=7)with rfl|rfl|rfl|rfl|rfl|rfl|rfl|rfl<;>rfl
structure WArr (w:World)(b:Nat)(t:By):Prop where
 cells:∀j,j<8→w.cell? ⟨b,j,none⟩=some (.int .u8 (zj t j))
 free:∀j,w.frozen? ⟨b,j,none⟩=false
 lt:b<w.heap.size
theorem WArr.of_row {w:World}{b:Nat}{f:By}{t:TypeId}(h:w.heap[b]?=some (.cells (q7o f).toArray t (0,0))):WArr w b f:=by
 refine⟨fun j hj=>?_,fun j=>zF _ _ j _ _ h,?_⟩
 ·rw[zC _ _ j _ _ _ h,List.getElem?_toArray]
  exact j1X f j hj
 ·rcases Nat.lt_or_ge b w.heap.size with g|g
  ·exact g
  ·rw[Array.getElem?_eq_none g]at h;simp at h
theorem WArr.range {w:World}{b:Nat}{t:By}(h:WArr w b t):w.rangeAt b 0 (q7o t):=fun j v hv=>by
 have hj:j<8:=(List.getElem?_eq_some_iff.1 hv).1
 rw[j1X t j hj]at hv
 rw[Nat.zero_add,h.cells j hj,hv]
theorem WArr.load {w:World}{b:Nat}{t:By}(h:WArr w b t):(Instr.loadAt 126 (.pointer (some ⟨b,0,none⟩))).run Tryz.prog w=.ok (q3s t) w:=
 run_loadAt_mid w b 0 126 (q7o t) _ h.range Tryz.underlying126 rfl (by kernel_rfl)
theorem WArr.loadV {w:World}{b:Nat}{t:By}(h:WArr w b t):(loadVar 126 ⟨b,0,none⟩).run Tryz.prog w=.ok (q3s t) w:=
 run_loadVar_mid w b 0 126 (q7o t) _ h.range Tryz.underlying126 rfl (by kernel_rfl)
theorem warr_in (W:World)(b:Nat)(old:Array Value)(t:By)(hg:W.heap[b]?=some (.cells old 126 (0,0)))(ho:old.size=8) :
  ∃W',(Instr.storeAt 126 (.pointer (some ⟨b,0,none⟩)) (q3s t)).run Tryz.prog W=.ok () W'∧W'.heap[b]?=some (.cells (q7o t).toArray 126 (0,0))∧(∀k,k≠b→W'.heap[k]?=W.heap[k]?)∧W'.heap.size=W.heap.size∧W'.os=W.os∧W'.tape=W.tape∧W'.output=W.output:=
 q3b (P:=Tryz.prog) 126 126 W b old #[.int .u8 (zj t 0),.int .u8 (zj t 1),.int .u8 (zj t 2),.int .u8 (zj t 3),.int .u8 (zj t 4),.int .u8 (zj t 5),.int .u8 (zj t 6),.int .u8 (zj t 7)] hg (by kernel_rfl) (by rw[ho];rfl) (by simp[Value.oneCell'])
theorem WArr.put {w:World}{b k:Nat}{t t':By}{c:Int}(h:∀j,j<8→w.cell? ⟨b,j,none⟩=some (.int .u8 (zj t j)))(hf:∀j,w.frozen? ⟨b,j,none⟩=false)(hl:b<w.heap.size)(hk:k<8)(ht:∀j,zj t' j=if j=k then c else zj t j):WArr (w.setCell ⟨b,k,none⟩ (.int .u8 c)) b t':=by
 refine⟨fun j hj=>?_,fun j=>by rw[World.frozen?_setCell];exact hf j,by simpa using hl⟩
 rw[ht j]
 by_cases e:j=k
 ·subst e
  rw[if_pos rfl]
  exact zS w _ _ (h j hk)
 ·rw[if_neg e,zX w _ _ _ (by intro q;injection q with q1 q2;exact e q2.symm)]
  exact h j hj
theorem WArr.other {w:World}{b b' o:Nat}{t:By}(h:WArr w b t)(hb:b≠b')(v:Value):WArr (w.setCell ⟨b',o,none⟩ v) b t:=by
 refine⟨fun i hi=>?_,fun i=>by rw[World.frozen?_setCell];exact h.free i,by simpa using h.lt⟩
 rw[zX w _ _ _ (by intro q;injection q with q1 _;exact hb q1.symm)]
 exact h.cells i hi
theorem Rdr.other {w:World}{br b' o i:Nat}{s:By}(h:Rdr w br s i)(hb:br≠b')(v:Value):Rdr (w.setCell ⟨b',o,none⟩ v) br s i:=
 ⟨by rw[zX w _ _ _ (by intro q;injection q with q1 _;exact hb q1.symm)];exact h.text,by rw[zX w _ _ _ (by intro q;injection q with q1 _;exact hb q1.symm)];exact h.at',fun o=>by rw[World.frozen?_setCell];exact h.free o,by simpa using h.lt⟩
abbrev z8:Array Value:=#[.int .u8 0,.int .u8 0,.int .u8 0,.int .u8 0,.int .u8 0,.int .u8 0,.int .u8 0,.int .u8 0]
def NmRel (s:By)(br i0:Nat)(w:World)(R:Nat)(g:Nat)(vk:Value)(wr:World):Prop:=
 ∃k i:Nat,k≤8∧8-k≤g∧i≤s.length∧i=i0+k∧vk=.int .i64 k∧nmF s (8-k) i=R∧Rdr wr br s i∧WArr wr (w.heap.size+1) (cut s i0 i)∧wr.heap[w.heap.size]?=some (.cells z8 126 (0,0))∧OnlyB [br] w wr
theorem log_name (s:By)(hs:s.length≤80)(br i0:Nat)(hi:i0≤s.length)(w:World)(h:Rdr w br s i0)(R:Nat)(hR:nmF s 8 i0=R) :
  Calls Tryz.prog 69 #[.pointer (some ⟨br,0,none⟩)] w fun e w'=>e=.returned (.tuple #[q3s (cut s i0 R),.bool (decide (i0<R))])∧Rdr w' br s R∧OnlyB [br] w w':=by
 have H:=zb h
 have HR:=zb hR
 have hlt:=h.lt
 clear h hR
 go_enter Tryz.func69,Tryz.ntmps69
 go_wp2_with fail
 go_loopg [5] 8 (fun g vk wr=>NmRel s br i0 w R g vk wr)
 case atStart =>
  have B:Below w.heap.size w ((w.alloc (.cells z8 126)).alloc (.cells z8 126)):=((zB _ _).alloc (zL _) _).alloc (by simp) _
  refine⟨0,i0,by omega,by omega,hi,rfl,rfl,HR.out,H.out.only (OnlyB.of_below (bl:=[]) B) (by simp),WArr.of_row (t:=126) ?_,?_,.of_below B⟩
  ·have e9:(q7o []).toArray=z8:=rfl
   rw[q4H,e9]
   have:=zN (w.alloc (.cells z8 126)) (.cells z8 126)
   simpa using this
  ·rw[zO _ _ (by simp)];exact zN _ _
 case round =>
  obtain⟨k,i,hk,hg,hil,hik,rfl,hst,hrd,ha,hz,hob⟩:=hrel
  have HG:=zb hg
  have HRD:=zb hrd
  have HO:=zb hob
  have HA:=zb ha
  have HZ:=zb hz
  have hlr:=hrd.lt
  have hdg:=q5O (cI s i)
  have HH:Hid (∀W,Rdr W br s i→Calls Tryz.prog 67 #[.pointer (some ⟨br,0,none⟩)] W fun e w'=>e=.returned (.int .u8 (cI s i))∧Below W.heap.size W w'):=zb (fun W h=>q5i s hs br i (by omega) W h)
  have HIK:=zb hik
  have hsz:w.heap.size+1<wr.heap.size:=ha.lt
  clear hg hrd hob HR H ha hz hik
  have fin:R=i→∀W,Below wr.heap.size wr W→(Instr.loadAt 126 (.pointer (some ⟨w.heap.size+1,0,none⟩))).run Tryz.prog W=.ok (q3s (cut s i0 R)) W∧∃W',(Instr.storeAt 126 (.pointer (some ⟨w.heap.size,0,none⟩)) (q3s (cut s i0 R))).run Tryz.prog W=.ok () W'∧(loadVar 126 ⟨w.heap.size,0,none⟩).run Tryz.prog W'=.ok (q3s (cut s i0 R)) W'∧Rdr W' br s R∧OnlyB [br] w W':=fun e W hb=>by
   rw[e]
   have ha:WArr W (w.heap.size+1) (cut s i0 i):=⟨fun j hj=>by rw[zK (w:=wr) (hb.block _ hsz)];exact HA.out.cells j hj,fun j=>by rw[World.frozen?_of_block (w:=wr) (hb.block _ hsz)];exact HA.out.free j,zT hsz hb.size⟩
   refine⟨ha.load,?_⟩
   have hz:W.heap[w.heap.size]?=_:=(hb.block w.heap.size (by omega)).trans HZ.out
   obtain⟨W',s1,s2,s3,s4,s5,s6,s7⟩:=warr_in W w.heap.size _ (cut s i0 i) hz rfl
   have O2:OnlyB [br] w W:=HO.out.trans (.of_below hb)
   have hne:br≠w.heap.size:=by have:=hlt;omega
   refine⟨W',s1,(WArr.of_row s2).loadV,?_,⟨s5.trans O2.os,s6.trans O2.tape,s7.trans O2.output,by rw[s4];exact O2.size,fun q hq hn=>by rw[s3 q (by omega)];exact O2.block q hq hn⟩⟩
   have hr:=HRD.out.only (OnlyB.of_below (bl:=[]) hb) (by simp)
   exact⟨by rw[zK (w:=W) (s3 br hne)];exact hr.text,by rw[zK (w:=W) (s3 br hne)];exact hr.at',fun o=>by rw[World.frozen?_of_block (w:=W) (s3 br hne)];exact hr.free o,by rw[s4];exact hr.lt⟩
  have FIN:=zb fin
  clear fin
  by_cases hk8:k=8
  ·subst hk8
   rw[Nat.sub_self,nmF]at hst
   have HE:=zb hst.symm
   clear hst
   obtain⟨L1,W',S1,S2,S3,S4⟩:=FIN.out HE.out wr (zB _ _)
   have HB:Hid (decide (i0<R)=true):=zb (by have:=HE.out;have:=HIK.out;simp;omega)
   obtain⟨V,hV⟩:∃V,V=q3s (cut s i0 R):=⟨_,rfl⟩
   rw[←hV]at L1 S1 S2
   have HV:=zb hV
   clear hV
   go_wp2_with (first|(refine ze rfl 126 (.tmp 2) (.tmp 26) rfl ⟨w.heap.size,0,none⟩ V rfl rfl W' S1 ?_)|(refine zg rfl 126 (.tmp 4) rfl ⟨w.heap.size+1,0,none⟩ V rfl L1 ?_))
   exact zP (v:=.tuple #[V,.bool true]) (qi rfl _ _ _ _ _ rfl rfl S2) rfl ⟨by rw[HB.out,HV.out],S3,S4⟩
  ·have hk4:k<8:=by omega
   rw[show 8-k=(8-(k+1))+1 by omega,nmF]at hst
   by_cases hd:q0e (cI s i)=true
   ·rw[if_pos hd]at hst
    have hin:=(q9Z hd).1
    have HPC:Hid (∀j,zj (cut s i0 (i+1)) j=if j=k then cI s i else zj (cut s i0 i) j):=zb (fun j=>by rw[pad_cut (by have:=HIK.out;omega) hin j];rw[show i-i0=k by have:=HIK.out;omega])
    rw[hd]at hdg
    have HE:=zb hst
    clear hst hd FIN
    generalize cI s i=c at *
    go_wp2_with fail
    refine(HH.out _ HRD.out).mono ?_
    rintro e w1 ⟨rfl,b1⟩
    have HB1:=zb b1
    have HR1:=zb (HRD.out.only (OnlyB.of_below (bl:=[]) b1) (by simp))
    clear b1
    go_wp2_with fail
    refine(hdg _).mono ?_
    rintro e w1 ⟨rfl,rfl⟩
    go_wp2_with fail
    refine(HH.out _ HR1.out).mono ?_
    rintro e w2 ⟨rfl,b2⟩
    have B2:Below wr.heap.size wr w2:=HB1.out.trans (b2.mono HB1.out.size)
    have R2:=HR1.out.only (OnlyB.of_below (bl:=[]) b2) (by simp)
    have c1:=R2.at'
    have f1:=R2.free 1
    have hl2:=R2.lt
    have hal:w.heap.size+1<w2.heap.size:=zT hsz B2.size
    have cx:∀j,j<8→w2.cell? ⟨w.heap.size+1,j,none⟩=some (.int .u8 (zj (cut s i0 i) j)):=fun j hj=>by rw[zK (w:=wr) (B2.block _ hsz)];exact HA.out.cells j hj
    have fx:∀j,w2.frozen? ⟨w.heap.size+1,j,none⟩=false:=fun j=>by rw[World.frozen?_of_block (w:=wr) (B2.block _ hsz)];exact HA.out.free j
    have ck:=cx k hk4
    have fk:=fx k
    have hbr:br≠w.heap.size+1:=by omega
    have hbr0:br≠w.heap.size:=by omega
    have HZ2:Hid (w2.heap[w.heap.size]?=some (.cells z8 126 (0,0))):=zb ((B2.block w.heap.size (by omega)).trans HZ.out)
    have HCX:=zb cx
    have HFX:=zb fx
    have HR2:=zb R2
    have HO2:Hid (OnlyB [br] w w2):=zb (HO.out.trans (.of_below B2))
    generalize zj (cut s i0 i) k=old at ck
    clear b2 R2 B2 cx fx
    go_wp2_with fail
    have hg1:0<gk:=by have:=HG.out;omega
    go_roundg (gk-1)
    case measure=>omega
    case rel =>
     refine⟨k+1,i+1,by omega,by have:=HG.out;omega,by omega,by have:=HIK.out;omega,by go_num,HE.out,?_,(WArr.put HCX.out HFX.out hal hk4 HPC.out).other (fun e=>hbr e.symm) _,?_,(HO2.out.setNew (by omega) _).setCell (by simp) _⟩
     ·have:=(HR2.out.other hbr (o:=k) (.int .u8 c)).step (i+1)
      simpa using this
     ·rw[Below.heap_setCell _ _ _ _ (by simp;omega),Below.heap_setCell _ _ _ _ (by simp)]
      exact HZ2.out
   ·rw[if_neg hd]at hst
    have HE:=zb hst.symm
    have hd':q0e (cI s i)=false:=by simpa using hd
    rw[hd']at hdg
    clear hst hd hd'
    generalize cI s i=c at *
    go_wp2_with fail
    refine(HH.out _ HRD.out).mono ?_
    rintro e w1 ⟨rfl,b1⟩
    obtain⟨L1,W',S1,S2,S3,S4⟩:=FIN.out HE.out w1 b1
    have HB:Hid (decide (0<k)=decide (i0<R)):=zb (by have:=HE.out;have:=HIK.out;rw[Bool.eq_iff_iff];simp;omega)
    obtain⟨V,hV⟩:∃V,V=q3s (cut s i0 R):=⟨_,rfl⟩
    rw[←hV]at L1 S1 S2
    have HV:=zb hV
    clear hV b1
    go_wp2_with fail
    refine(hdg _).mono ?_
    rintro e w1 ⟨rfl,rfl⟩
    go_wp2_with (first|(refine ze rfl 126 (.tmp 2) (.tmp 26) rfl ⟨w.heap.size,0,none⟩ V rfl rfl W' S1 ?_)|(refine zg rfl 126 (.tmp 4) rfl ⟨w.heap.size+1,0,none⟩ V rfl L1 ?_))
    exact zP (v:=.tuple #[V,.bool (decide (0<k))]) (qi rfl _ _ _ _ _ rfl (by first|rfl|simp) S2) rfl ⟨by rw[HB.out,HV.out],S3,S4⟩
end Go.Proofs.YtiamjjonoeaggabGreatDoor
