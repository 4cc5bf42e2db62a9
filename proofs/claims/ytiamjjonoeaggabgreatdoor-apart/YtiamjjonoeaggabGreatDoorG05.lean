import Derived.Test.YtiamjjonoeaggabGreatDoorGA
import Derived.Test.YtiamjjonoeaggabGreatDoorG01
namespace Go.Proofs.YtiamjjonoeaggabGreatDoor
open Go.RowKit
structure Hp where
 nm:By
 ds:List Nat
def cI (s:By)(i:Nat):Int:=((s.getD i 0).toNat:Int)
def dI (s:By)(i:Nat):Nat:=(s.getD i 0).toNat-48
def stF (s:By):Nat→Nat→Nat→Bool × Nat × Nat
 | 0,n,i=>(true,n,i)
 |f+1,n,i=>if qd (cI s i)=true then(if 65535<10*n+dI s i then(false,n,i)else stF s f (10*n+dI s i) (i+1))else(true,n,i)
def nmF (s:By):Nat→Nat→Nat
 | 0,i=>i
 |f+1,i=>if q0s (cI s i)=true then nmF s f (i+1)else i
def q7U (s:By)(nm:By)(d j:Nat):Bool × Nat × Hp:=
 if cI s j=44 then
  if qd (cI s (j+1))=true then
   if cI s (j+2)=41 then(true,j+3,⟨nm,[d,dI s (j+1)]⟩)else(false,j+2,⟨[],[]⟩)
  else(false,j+1,⟨[],[]⟩)
 else if cI s j=41 then(true,j+1,⟨nm,[d]⟩)else(false,j,⟨[],[]⟩)
def q2R (s:By)(i:Nat):Bool × Nat × Hp:=
 if cI s i=32 then
  if i+1<nmF s 8 (i+1)then
   if cI s (nmF s 8 (i+1))=40 then
    if qd (cI s (nmF s 8 (i+1)+1))=true then q7U s (cut s (i+1) (nmF s 8 (i+1))) (dI s (nmF s 8 (i+1)+1)) (nmF s 8 (i+1)+2)
    else(false,nmF s 8 (i+1)+1,⟨[],[]⟩)
   else(false,nmF s 8 (i+1),⟨[],[]⟩)
  else(false,i+1,⟨[],[]⟩)
 else(false,i,⟨[],[]⟩)
def q2n (s:By):Nat→Nat→List Hp→Sum Nat (List Hp)
 | 0,_,acc=>.inr acc
 |f+1,i,acc=>if i<s.length then(if (q2R s i).1=true then q2n s f (q2R s i).2.1 (acc++[(q2R s i).2.2])else .inl (q2R s i).2.1)else .inr acc
def q2N (s:By):Sum Nat (Nat × List Hp):=
 if cI s 0=64 then
  if (stF s 5 0 1).1=true∧1<(stF s 5 0 1).2.2 then
   match q2n s s.length (stF s 5 0 1).2.2 []with
   | .inl p=>.inl p
   | .inr l=>.inr ((stF s 5 0 1).2.1,l)
  else .inl (stF s 5 0 1).2.2
 else .inl 0
theorem j6M {s:By}{i:Nat}(h:s.length≤i):cI s i=0:=by
 unfold cI
 simp[List.getD,List.getElem?_eq_none h]
theorem q2S {s:By}{i:Nat}(h:cI s i≠0):i<s.length:=by
 rcases Nat.lt_or_ge i s.length with g|g
 ·exact g
 ·exact absurd (j6M g) h
theorem q3A {s:By}{i:Nat}(h:qd (cI s i)=true):i<s.length∧48≤cI s i∧cI s i≤57:=by
 have h2:48≤cI s i∧cI s i≤57:=by simpa[qd]using h
 exact⟨q2S (by omega),h2⟩
theorem j1t {s:By}{i:Nat}(h:q0s (cI s i)=true):i<s.length∧97≤cI s i∧cI s i≤122:=by
 have h2:97≤cI s i∧cI s i≤122:=by simpa[q0s]using h
 exact⟨q2S (by omega),h2⟩
theorem dI_eq {s:By}{i:Nat}(h:qd (cI s i)=true):(dI s i:Int)=cI s i-48:=by
 have:=(q3A h).2
 unfold dI cI at *
 omega
theorem j0a (s:By):∀(f n i:Nat),i≤s.length→n≤65535→i≤(stF s f n i).2.2∧(stF s f n i).2.2≤s.length∧(stF s f n i).2.2≤i+f∧(stF s f n i).2.1≤65535:=by
 intro f
 induction f with
 |zero=>intro n i h hn;exact⟨zL _,h,zL _,hn⟩
 |succ f ih =>
  intro n i h hn
  rw[stF]
  by_cases hd:qd (cI s i)=true
  ·rw[if_pos hd]
   by_cases hb:65535<10*n+dI s i
   ·rw[if_pos hb];exact⟨zL _,h,by simp,hn⟩
   ·rw[if_neg hb]
    have:=ih (10*n+dI s i) (i+1) (by have:=(q3A hd).1;omega) (by omega)
    omega
  ·rw[if_neg hd];exact⟨zL _,h,by simp,hn⟩
theorem q9M (s:By):∀(f i:Nat),i≤s.length→i≤nmF s f i∧nmF s f i≤s.length∧nmF s f i≤i+f:=by
 intro f
 induction f with
 |zero=>intro i h;exact⟨zL _,h,zL _⟩
 |succ f ih =>
  intro i h
  rw[nmF]
  by_cases hd:q0s (cI s i)=true
  ·rw[if_pos hd]
   have:=ih (i+1) (by have:=(j1t hd).1;omega)
   omega
  ·rw[if_neg hd];omega
theorem j8q (s:By)(nm:By)(d j:Nat)(h:j≤s.length):j≤(q7U s nm d j).2.1∧(q7U s nm d j).2.1≤s.length:=by
 unfold q7U
 by_cases h1:cI s j=44
 ·rw[if_pos h1]
  have:=q2S (s:=s) (i:=j) (by omega)
  by_cases h2:qd (cI s (j+1))=true
  ·rw[if_pos h2]
   have:=(q3A h2).1
   by_cases h3:cI s (j+2)=41
   ·rw[if_pos h3]
    have:=q2S (s:=s) (i:=j+2) (by omega)
    simp only[];omega
   ·rw[if_neg h3];simp only[];omega
  ·rw[if_neg h2];simp only[];omega
 ·rw[if_neg h1]
  by_cases h2:cI s j=41
  ·rw[if_pos h2]
   have:=q2S (s:=s) (i:=j) (by omega)
   simp only[];omega
  ·rw[if_neg h2];simp only[];omega
theorem j0I (s:By)(i:Nat)(h:i≤s.length):i≤(q2R s i).2.1∧(q2R s i).2.1≤s.length∧((q2R s i).1=true→i<(q2R s i).2.1):=by
 unfold q2R
 by_cases h1:cI s i=32
 ·rw[if_pos h1]
  have hi:=q2S (s:=s) (i:=i) (by omega)
  have hn:=q9M s 8 (i+1) (by omega)
  generalize nmF s 8 (i+1)=e at *
  by_cases h2:i+1<e
  ·rw[if_pos h2]
   by_cases h3:cI s e=40
   ·rw[if_pos h3]
    have he:=q2S (s:=s) (i:=e) (by omega)
    by_cases h4:qd (cI s (e+1))=true
    ·rw[if_pos h4]
     have h5:=(q3A h4).1
     have:=j8q s (cut s (i+1) e) (dI s (e+1)) (e+2) (by omega)
     exact⟨by omega,this.2,fun _=>by omega⟩
    ·rw[if_neg h4];exact⟨by simp only[];omega,by simp only[];omega,fun e=>by simp at e⟩
   ·rw[if_neg h3];exact⟨by simp only[];omega,by simp only[];omega,fun e=>by simp at e⟩
  ·rw[if_neg h2];exact⟨by simp only[];omega,by simp only[];omega,fun e=>by simp at e⟩
 ·rw[if_neg h1];exact⟨zL _,h,fun e=>by simp at e⟩
def q4l (h:Hp):By:=h.nm++40::(match h.ds with
 | [d]=>[UInt8.ofNat (48+d),41]
 | [d,d']=>[UInt8.ofNat (48+d),44,UInt8.ofNat (48+d'),41]
 |_=>[])
structure HpOk (h:Hp):Prop where
 nm:0<h.nm.length∧h.nm.length≤8∧∀c∈h.nm,q0s (c.toNat:Int)=true
 ds:(h.ds.length=1∨h.ds.length=2)∧∀d∈h.ds,d≤9
theorem q3Q {s:By}{i e:Nat}(h:i<e)(he:e≤s.length):cut s i e=s.getD i 0::cut s (i+1) e:=by
 unfold cut
 have e0:s.getD i 0=s[i]:=by simp[List.getD,show i<s.length by omega]
 rw[e0,List.drop_eq_getElem_cons (by omega),show e-i=(e-(i+1))+1 by omega,List.take_succ_cons]
theorem q5u (s:By)(i:Nat):cut s i i=[]:=by unfold cut;simp
theorem j4G {s:By}{i m e:Nat}(h:i≤m)(h2:m≤e)(_he:e≤s.length):cut s i e=cut s i m++cut s m e:=by
 unfold cut
 have e1:e-i=(m-i)+(e-m):=by omega
 rw[e1,List.take_add,List.drop_drop,show i+(m-i)=m by omega]
theorem q7s {s:By}{i c:Nat}(h:cI s i=(c:Int))(hc:c<256):s.getD i 0=UInt8.ofNat c:=by
 unfold cI at h
 apply UInt8.toNat_inj.1
 rw[UInt8.toNat_ofNat_of_lt' (by omega)]
 omega
theorem j1c {s:By}{i:Nat}(h:qd (cI s i)=true):s.getD i 0=UInt8.ofNat (48+dI s i)∧dI s i≤9:=by
 have h1:=dI_eq h
 have h2:=(q3A h).2
 exact⟨q7s (by omega) (by omega),by omega⟩
theorem stF_cut (s:By):∀(f n i:Nat),i≤s.length→n≤65535→(stF s f n i).1=true→q2k (cut s i (stF s f n i).2.2)=true∧(cut s i (stF s f n i).2.2).foldl (fun n c=>10*n+(c.toNat-48)) n=(stF s f n i).2.1:=by
 intro f
 induction f with
 |zero=>intro n i h hn _;simp[stF,q5u,q2k]
 |succ f ih =>
  intro n i h hn
  rw[stF]
  by_cases hd:qd (cI s i)=true
  ·rw[if_pos hd]
   by_cases hb:65535<10*n+dI s i
   ·rw[if_pos hb];intro e;simp at e
   ·rw[if_neg hb]
    intro e
    have hin:=q3A hd
    have:=ih (10*n+dI s i) (i+1) (by omega) (by omega) e
    have hle:=j0a s f (10*n+dI s i) (i+1) (by omega) (by omega)
    rw[q3Q (by omega) hle.2.1]
    refine⟨?_,this.2⟩
    have:=this.1
    unfold q2k at this ⊢
    rw[List.all_cons,this,Bool.and_true]
    exact hd
  ·rw[if_neg hd]
   intro _
   simp[q5u,q2k]
theorem nmF_cut (s:By):∀(f i:Nat),i≤s.length→(∀j,i≤j→j<nmF s f i→q0s (cI s j)=true)∧∀c∈cut s i (nmF s f i),q0s (c.toNat:Int)=true:=by
 intro f
 induction f with
 |zero=>intro i h;exact⟨fun j h1 h2=>by simp[nmF]at h2;omega,by simp[nmF,q5u]⟩
 |succ f ih =>
  intro i h
  rw[nmF]
  by_cases hd:q0s (cI s i)=true
  ·rw[if_pos hd]
   have hin:=j1t hd
   have:=ih (i+1) (by omega)
   have hle:=q9M s f (i+1) (by omega)
   refine⟨fun j h1 h2=>?_,?_⟩
   ·by_cases e:j=i
    ·rw[e];exact hd
    ·exact this.1 j (by omega) h2
   ·rw[q3Q (by omega) hle.2.1]
    intro c hc
    rcases List.mem_cons.1 hc with rfl|hc
    ·exact hd
    ·exact this.2 c hc
  ·rw[if_neg hd]
   exact⟨fun j h1 h2=>by omega,by simp[q5u]⟩
theorem hapT_cut (s:By)(nm:By)(d j:Nat)(_hj:j≤s.length)(ho:(q7U s nm d j).1=true) :
  ∃ds,(q7U s nm d j).2.2=⟨nm,d::ds⟩∧(ds.length=0∨ds.length=1)∧(∀d∈ds,d≤9)∧cut s j (q7U s nm d j).2.1=(match ds with
   | []=>[41]
   |d::_=>[44,UInt8.ofNat (48+d),41])∧∀m,j≤m→m<(q7U s nm d j).2.1→cI s m≠32:=by
 unfold q7U at ho ⊢
 by_cases h1:cI s j=44
 ·rw[if_pos h1]at ho ⊢
  have i1:=q2S (s:=s) (i:=j) (by omega)
  by_cases h2:qd (cI s (j+1))=true
  ·rw[if_pos h2]at ho ⊢
   have i2:=q3A h2
   by_cases h3:cI s (j+2)=41
   ·rw[if_pos h3]
    have i3:=q2S (s:=s) (i:=j+2) (by omega)
    have b2:=j1c h2
    refine⟨[dI s (j+1)],rfl,.inr rfl,?_,?_,?_⟩
    ·intro d hd;simp at hd;subst hd;exact b2.2
    ·simp only[]
     rw[q3Q (by omega) (by omega),q3Q (by omega) (by omega),q3Q (by omega) (by omega),q5u,q7s (c:=44) h1 (by omega),q7s (c:=41) h3 (by omega),b2.1]
     rfl
    ·intro m m1 m2
     simp only[]at m2
     have:m=j∨m=j+1∨m=j+2:=by omega
     rcases this with rfl|rfl|rfl<;>omega
   ·rw[if_neg h3]at ho;simp at ho
  ·rw[if_neg h2]at ho;simp at ho
 ·rw[if_neg h1]at ho ⊢
  by_cases h2:cI s j=41
  ·rw[if_pos h2]
   have i1:=q2S (s:=s) (i:=j) (by omega)
   refine⟨[],rfl,.inl rfl,by simp,?_,?_⟩
   ·simp only[]
    rw[q3Q (by omega) (by omega),q5u,q7s (c:=41) h2 (by omega)]
    rfl
   ·intro m m1 m2
    simp only[]at m2
    have:m=j:=by omega
    subst this;omega
  ·rw[if_neg h2]at ho;simp at ho
theorem hapR_cut (s:By)(i:Nat)(_hi:i≤s.length)(ho:(q2R s i).1=true):cI s i=32∧HpOk (q2R s i).2.2∧cut s (i+1) (q2R s i).2.1=q4l (q2R s i).2.2∧∀m,i+1≤m→m<(q2R s i).2.1→cI s m≠32:=by
 unfold q2R at ho ⊢
 by_cases h1:cI s i=32
 ·rw[if_pos h1]at ho ⊢
  have i1:=q2S (s:=s) (i:=i) (by omega)
  have hn:=q9M s 8 (i+1) (by omega)
  have hc:=nmF_cut s 8 (i+1) (by omega)
  generalize nmF s 8 (i+1)=e at *
  by_cases h2:i+1<e
  ·rw[if_pos h2]at ho ⊢
   by_cases h3:cI s e=40
   ·rw[if_pos h3]at ho ⊢
    have i3:=q2S (s:=s) (i:=e) (by omega)
    by_cases h4:qd (cI s (e+1))=true
    ·rw[if_pos h4]at ho ⊢
     have i4:=q3A h4
     have b4:=j1c h4
     obtain⟨ds,e1,e2,e3,e4,e5⟩:=hapT_cut s (cut s (i+1) e) (dI s (e+1)) (e+2) (by omega) ho
     have hin:=j8q s (cut s (i+1) e) (dI s (e+1)) (e+2) (by omega)
     refine⟨h1,?_,?_,?_⟩
     ·rw[e1]
      refine⟨⟨?_,?_,hc.2⟩,?_,?_⟩
      ·show 0<(cut s (i+1) e).length
       unfold cut;simp;omega
      ·show(cut s (i+1) e).length≤8
       unfold cut;simp;omega
      ·show(dI s (e+1)::ds).length=1∨(dI s (e+1)::ds).length=2
       simp only[List.length_cons];omega
      ·intro d hd
       rcases List.mem_cons.1 hd with rfl|hd
       ·exact b4.2
       ·exact e3 d hd
     ·rw[j4G (m:=e) (by omega) (by omega) hin.2,q3Q (i:=e) (by omega) hin.2,q3Q (i:=e+1) (by omega) hin.2,e4,e1,q7s (c:=40) h3 (by omega),b4.1]
      unfold q4l
      match ds,e2 with
      | [],_=>rfl
      | [d],_=>rfl
      |_::_::_,h=>simp at h
     ·intro m m1 m2
      rcases Nat.lt_or_ge m e with g|g
      ·have:=(j1t (hc.1 m m1 g)).2;omega
      ·rcases Nat.lt_or_ge m (e+2)with g2|g2
       ·have:m=e∨m=e+1:=by omega
        rcases this with rfl|rfl<;>omega
       ·exact e5 m g2 m2
    ·rw[if_neg h4]at ho;simp at ho
   ·rw[if_neg h3]at ho;simp at ho
  ·rw[if_neg h2]at ho;simp at ho
 ·rw[if_neg h1]at ho;simp at ho
abbrev Pl (s:By)(a k n:Int)(i:Nat):Int:=q4o s.length (s.drop i) i a k n
theorem j2W {s:By}{a k n:Int}{i:Nat}(h:i<s.length):Pl s a k n i=match qo a k n (cI s i)with
  |none=>(i:Int)
  |some q=>Pl s q.1 q.2.1 q.2.2 (i+1):=by
 unfold Pl
 rw[List.drop_eq_getElem_cons h,q4o]
 have e:cI s i=(s[i].toNat:Int):=by unfold cI;simp[List.getD,h]
 rw[e]<;>rfl
theorem j7C {s:By}{a k n:Int}{i:Nat}(h:s.length=i):Pl s a k n i=if a=7∨(a=1∧0<k)then -1 else(i:Int):=by
 unfold Pl
 rw[List.drop_eq_nil_of_le (by omega),q4o,h]
theorem z0k (a k n:Int):qo a k n 0=none:=by
 unfold qo qd q0s
 repeat' split
 all_goals simp_all
theorem q6y {s:By}{a k n:Int}{i:Nat}(h:i≤s.length)(ha:¬(a=7∨(a=1∧0<k))):Pl s a k n i=match qo a k n (cI s i)with
  |none=>(i:Int)
  |some q=>Pl s q.1 q.2.1 q.2.2 (i+1):=by
 rcases Nat.lt_or_ge i s.length with g|g
 ·exact j2W g
 ·rw[j7C (by omega),if_neg ha,j6M g,z0k]
def Qd (s:By)(n:Int)(i:Nat):Int:=if i<s.length then(if cI s i=32 then Pl s 2 0 n (i+1)else(i:Int))else -1
theorem j5J {s:By}{k n:Int}{i:Nat}(h:i≤s.length):Pl s 7 k n i=Qd s n i:=by
 unfold Qd
 rcases Nat.lt_or_ge i s.length with g|g
 ·rw[if_pos g,j2W g]
  by_cases hc:cI s i=32
  ·rw[if_pos hc,hc];rfl
  ·rw[if_neg hc]
   have e:qo 7 k n (cI s i)=none:=by unfold qo;simp[hc]
   rw[e]
 ·rw[j7C (by omega),if_pos (.inl rfl),if_neg (by omega)]
theorem pl_stamp (s:By):∀(f k n i:Nat),i≤s.length→k+f=5→n≤65535 →
  ((stF s f n i).1=false→Pl s 1 k n i=(stF s f n i).2.2)∧((stF s f n i).1=true→Pl s 1 k n i=if 0<k+((stF s f n i).2.2-i)then Qd s (stF s f n i).2.1 (stF s f n i).2.2 else((stF s f n i).2.2:Int)):=by
 have base:∀(k n i:Nat),i≤s.length→(qd (cI s i)=true→k=5)→Pl s 1 k n i=if 0<k then Qd s n i else(i:Int):=by
  intro k n i h hd
  have hs:qo 1 (k:Int) (n:Int) (cI s i)=if 0<k∧cI s i=32 then some (2,0,(n:Int))else none:=by
   unfold qo
   rw[if_neg (by decide),if_pos rfl,if_neg (by intro h';have:=hd h'.1;omega)]
   by_cases hk:0<k∧cI s i=32
   ·rw[if_pos hk,if_pos (by omega)]
   ·rw[if_neg hk,if_neg (by omega)]
  by_cases hk:0<k
  ·rw[if_pos hk]
   unfold Qd
   rcases Nat.lt_or_ge i s.length with g|g
   ·rw[if_pos g,j2W g,hs]
    by_cases hc:cI s i=32
    ·rw[if_pos ⟨hk,hc⟩,if_pos hc]
    ·rw[if_neg (fun h'=>hc h'.2),if_neg hc]
   ·rw[j7C (by omega),if_pos (.inr ⟨rfl,by omega⟩),if_neg (by omega)]
  ·rw[if_neg hk,q6y h (by omega),hs,if_neg (fun h'=>hk h'.1)]
 intro f
 induction f with
 |zero =>
  intro k n i h hk hn
  refine⟨fun e=>by simp[stF]at e,fun _=>?_⟩
  have:=base k n i h (fun _=>by omega)
  simpa[stF]using this
 |succ f ih =>
  intro k n i h hk hn
  rw[stF]
  by_cases hd:qd (cI s i)=true
  ·rw[if_pos hd]
   have hdi:=dI_eq hd
   have hin:=q3A hd
   by_cases hb:65535<10*n+dI s i
   ·rw[if_pos hb]
    refine⟨fun _=>?_,fun e=>by simp at e⟩
    have e:qo 1 (k:Int) (n:Int) (cI s i)=none:=by
     unfold qo
     rw[if_neg (by decide),if_pos rfl,if_neg (by omega),if_neg (by omega)]
    show Pl s 1 k n i=(i:Int)
    rw[j2W hin.1,e]
   ·rw[if_neg hb]
    have e:qo 1 (k:Int) (n:Int) (cI s i)=some (1,((k+1:Nat):Int),((10*n+dI s i:Nat):Int)):=by
     unfold qo
     rw[if_neg (by decide),if_pos rfl,if_pos ⟨hd,by omega,by omega⟩]
     simp only[Option.some.injEq,Prod.mk.injEq,true_and]
     omega
    have hp:Pl s 1 k n i=Pl s 1 ((k+1:Nat):Int) ((10*n+dI s i:Nat):Int) (i+1):=by rw[j2W hin.1,e]
    rw[hp]
    have:=ih (k+1) (10*n+dI s i) (i+1) (by omega) (by omega) (by omega)
    have hle:=(j0a s f (10*n+dI s i) (i+1) (by omega) (by omega)).1
    refine⟨this.1,fun e=>?_⟩
    rw[this.2 e]
    rw[show k+1+((stF s f (10*n+dI s i) (i+1)).2.2-(i+1))=k+((stF s f (10*n+dI s i) (i+1)).2.2-i)by omega]
  ·rw[if_neg hd]
   refine⟨fun e=>by simp at e,fun _=>?_⟩
   have:=base k n i h (fun e=>absurd e hd)
   simpa using this
theorem pl_name (s:By)(n:Int):∀(f k i:Nat),i≤s.length→k+f=8 →
  Pl s 2 k n i=if 0<k+(nmF s f i-i)∧cI s (nmF s f i)=40 then Pl s 3 ((k+(nmF s f i-i):Nat):Int) n (nmF s f i+1)else(nmF s f i:Int):=by
 have base:∀(k i:Nat),i≤s.length→(q0s (cI s i)=true→k=8)→Pl s 2 k n i=if 0<k∧cI s i=40 then Pl s 3 k n (i+1)else(i:Int):=by
  intro k i h hd
  rw[q6y h (by omega)]
  have hs:qo 2 (k:Int) n (cI s i)=if 0<k∧cI s i=40 then some (3,(k:Int),n)else none:=by
   unfold qo
   rw[if_neg (by decide),if_neg (by decide),if_pos rfl,if_neg (by intro h';have:=hd h'.1;omega)]
   by_cases hk:0<k∧cI s i=40
   ·rw[if_pos hk,if_pos (by omega)]
   ·rw[if_neg hk,if_neg (by omega)]
  rw[hs]
  by_cases hk:0<k∧cI s i=40
  ·rw[if_pos hk,if_pos hk]
  ·rw[if_neg hk,if_neg hk]
 intro f
 induction f with
 |zero =>
  intro k i h hk
  have:=base k i h (fun _=>by omega)
  simpa[nmF]using this
 |succ f ih =>
  intro k i h hk
  rw[nmF]
  by_cases hd:q0s (cI s i)=true
  ·rw[if_pos hd]
   have hin:=j1t hd
   have e:qo 2 (k:Int) n (cI s i)=some (2,((k+1:Nat):Int),n):=by
    unfold qo
    rw[if_neg (by decide),if_neg (by decide),if_pos rfl,if_pos ⟨hd,by omega⟩]
    simp
   have hp:Pl s 2 k n i=Pl s 2 ((k+1:Nat):Int) n (i+1):=by rw[j2W hin.1,e]
   rw[hp,ih (k+1) (i+1) (by omega) (by omega)]
   have hle:=(q9M s f (i+1) (by omega)).1
   rw[show k+1+(nmF s f (i+1)-(i+1))=k+(nmF s f (i+1)-i)by omega]
  ·rw[if_neg hd]
   have:=base k i h (fun e=>absurd e hd)
   simpa using this
theorem pl_hapT (s:By)(nm:By)(d j:Nat)(k n:Int)(h:j≤s.length):Pl s 4 k n j=if (q7U s nm d j).1=true then Qd s n (q7U s nm d j).2.1 else((q7U s nm d j).2.1:Int):=by
 rw[q6y h (by omega)]
 unfold q7U
 by_cases h1:cI s j=44
 ·rw[if_pos h1,h1]
  have h0:=q2S (s:=s) (i:=j) (by omega)
  show Pl s 5 k n (j+1)=_
  rw[q6y (by omega) (by omega)]
  by_cases h2:qd (cI s (j+1))=true
  ·rw[if_pos h2]
   have e:qo 5 k n (cI s (j+1))=some (6,k,n):=by unfold qo;simp[h2]
   rw[e]
   have h5:=(q3A h2).1
   show Pl s 6 k n (j+1+1)=_
   rw[q6y (by omega) (by omega)]
   by_cases h3:cI s (j+2)=41
   ·have h6:=q2S (s:=s) (i:=j+2) (by omega)
    rw[if_pos h3,show j+1+1=j+2 from rfl,h3]
    show Pl s 7 k n (j+2+1)=_
    rw[j5J (by omega)]
    rfl
   ·rw[if_neg h3]
    have e:qo 6 k n (cI s (j+1+1))=none:=by unfold qo;simp[h3]
    rw[e]
    rfl
  ·rw[if_neg h2]
   have e:qo 5 k n (cI s (j+1))=none:=by unfold qo;simp[h2]
   rw[e]
   rfl
 ·rw[if_neg h1]
  by_cases h2:cI s j=41
  ·rw[if_pos h2,h2]
   have h0:=q2S (s:=s) (i:=j) (by omega)
   show Pl s 7 k n (j+1)=_
   rw[j5J (by omega)]
   rfl
  ·rw[if_neg h2]
   have e:qo 4 k n (cI s j)=none:=by unfold qo;simp[h1,h2]
   rw[e]
   rfl
theorem pl_hap (s:By)(n:Int)(i:Nat)(h:i<s.length):Qd s n i=if (q2R s i).1=true then Qd s n (q2R s i).2.1 else((q2R s i).2.1:Int):=by
 have e1:Qd s n i=if cI s i=32 then Pl s 2 0 n (i+1)else(i:Int):=by
  conv=>lhs;unfold Qd
  rw[if_pos h]
 rw[e1]
 unfold q2R
 by_cases h1:cI s i=32
 ·rw[if_pos h1,if_pos h1]
  have hp:=pl_name s n 8 0 (i+1) (by omega) rfl
  rw[show((0:Nat):Int)=0 from rfl]at hp
  rw[hp]
  have hn:=q9M s 8 (i+1) (by omega)
  generalize nmF s 8 (i+1)=e at *
  by_cases h2:i+1<e
  ·rw[if_pos h2]
   by_cases h3:cI s e=40
   ·have he:=q2S (s:=s) (i:=e) (by omega)
    rw[if_pos ⟨by omega,h3⟩,if_pos h3,q6y (by omega) (by omega)]
    by_cases h4:qd (cI s (e+1))=true
    ·rw[if_pos h4]
     have q:qo 3 ((0+(e-(i+1)):Nat):Int) n (cI s (e+1))=some (4,((0+(e-(i+1)):Nat):Int),n):=by unfold qo;simp[h4]
     rw[q]
     exact pl_hapT s _ _ (e+2) _ n (by have:=(q3A h4).1;omega)
    ·rw[if_neg h4]
     have q:qo 3 ((0+(e-(i+1)):Nat):Int) n (cI s (e+1))=none:=by unfold qo;simp[h4]
     rw[q]
     rfl
   ·rw[if_neg (fun h'=>h3 h'.2),if_neg h3];rfl
  ·rw[if_neg h2,if_neg (by omega),show e=i+1 by omega];rfl
 ·rw[if_neg h1,if_neg h1];rfl
theorem pl_haps (s:By)(n:Int):∀(f i:Nat) (acc:List Hp),i≤s.length→s.length-i≤f→Qd s n i=match q2n s f i acc with
  | .inl p=>(p:Int)
  | .inr _=>-1:=by
 intro f
 induction f with
 |zero =>
  intro i acc h hf
  unfold Qd
  rw[if_neg (by omega)]
  rfl
 |succ f ih =>
  intro i acc h hf
  rw[q2n]
  by_cases g:i<s.length
  ·rw[if_pos g,pl_hap s n i g]
   have hr:=j0I s i h
   by_cases ho:(q2R s i).1=true
   ·rw[if_pos ho,if_pos ho]
    have:=hr.2.2 ho
    exact ih _ _ hr.2.1 (by omega)
   ·rw[if_neg ho,if_neg ho]
  ·rw[if_neg g]
   unfold Qd
   rw[if_neg g]
theorem place_line (s:By):j1H s=match q2N s with
  | .inl p=>(p:Int)
  | .inr _=>-1:=by
 have e:j1H s=Pl s 0 0 0 0:=rfl
 rw[e,q6y (by omega) (by omega)]
 unfold q2N
 by_cases h1:cI s 0=64
 ·rw[if_pos h1,h1]
  have h0:=q2S (s:=s) (i:=0) (by omega)
  show Pl s 1 0 0 1=_
  have hp:=pl_stamp s 5 0 0 1 (by omega) rfl (by omega)
  have hi:=j0a s 5 0 1 (by omega) (by omega)
  rw[show((0:Nat):Int)=0 from rfl]at hp
  by_cases ho:(stF s 5 0 1).1=true
  ·by_cases h2:1<(stF s 5 0 1).2.2
   ·rw[if_pos ⟨ho,h2⟩,hp.2 ho,if_pos (by omega),pl_haps s _ s.length _ [] hi.2.1 (by omega)]
    cases q2n s s.length (stF s 5 0 1).2.2 []<;>rfl
   ·rw[if_neg (fun h'=>h2 h'.2),hp.2 ho,if_neg (by omega)]
  ·have ho':(stF s 5 0 1).1=false:=by simpa using ho
   rw[if_neg (fun h'=>ho h'.1),hp.1 ho']
 ·rw[if_neg h1]
  have e:qo 0 0 0 (cI s 0)=none:=by unfold qo;simp[h1]
  rw[e]
theorem j6o (s:By)(a:Nat)(acc:List (By)):∀(k i f:Nat),i+k≤s.length→(∀m,i≤m→m<i+k→cI s m≠32)→q9o s (f+k) i a acc=q9o s f (i+k) a acc:=by
 intro k
 induction k with
 |zero=>intro i f _ _;rfl
 |succ k ih =>
  intro i f h hm
  rw[show f+(k+1)=(f+k)+1 by omega,q9o,if_neg]
  ·rw[ih (i+1) f (by omega) (fun m h1 h2=>hm m (by omega) (by omega)),show i+1+k=i+(k+1)by omega]
  ·intro h'
   rcases h' with h'|h'
   ·omega
   ·exact hm i (by omega) (by omega) (by unfold cI;rw[h'];rfl)
theorem spl_haps (s:By):∀(f i:Nat) (hl R:List Hp),i≤s.length→s.length-i≤f→q2n s f i hl=.inr R→∃l,R=hl++l∧(∀h∈l,HpOk h)∧∀a acc,q9o s (s.length+1-i) i a acc=acc++cut s a i::l.map q4l:=by
 have last:∀(i:Nat),i=s.length→∀a acc,q9o s (s.length+1-i) i a acc=acc++[cut s a i]:=by
  intro i h a acc
  rw[show s.length+1-i=0+1 by omega,q9o,if_pos (.inl h)]
  rfl
 intro f
 induction f with
 |zero =>
  intro i hl R h hf e
  simp[q2n]at e
  exact⟨[],by simp[e],by simp,fun a acc=>last i (by omega) a acc⟩
 |succ f ih =>
  intro i hl R h hf e
  rw[q2n]at e
  by_cases g:i<s.length
  ·rw[if_pos g]at e
   by_cases ho:(q2R s i).1=true
   ·rw[if_pos ho]at e
    have hin:=j0I s i h
    have hlt:=hin.2.2 ho
    obtain⟨c1,c2,c3,c4⟩:=hapR_cut s i h ho
    generalize (q2R s i).2.1=j at *
    generalize (q2R s i).2.2=hp at *
    obtain⟨l,e1,e2,e3⟩:=ih j (hl++[hp]) R hin.2.1 (by omega) e
    refine⟨hp::l,by simp[e1],?_,fun a acc=>?_⟩
    ·intro h' hm
     rcases List.mem_cons.1 hm with rfl|hm
     ·exact c2
     ·exact e2 h' hm
    ·rw[show s.length+1-i=(s.length-i)+1 by omega,q9o,if_pos (.inr (q7s (c:=32) c1 (by omega)))]
     have sk:=j6o s (i+1) (acc++[cut s a i]) (j-(i+1)) (i+1) (s.length+1-j) (by omega) (fun m h1 h2=>c4 m h1 (by omega))
     rw[show s.length-i=s.length+1-j+(j-(i+1))by omega,sk,show i+1+(j-(i+1))=j by omega,e3,c3]
     simp
   ·rw[if_neg ho]at e;simp at e
  ·rw[if_neg g]at e
   simp at e
   exact⟨[],by simp[e],by simp,fun a acc=>last i (by omega) a acc⟩
theorem q8u {s:By}{n:Nat}{l:List Hp}(h:q2N s=.inr (n,l)):0<s.length∧(∀h∈l,HpOk h)∧n≤65535∧∃d,splR s=d::l.map q4l∧q2k d=true∧0<d.length∧d.length≤5∧q0h d=n:=by
 unfold q2N at h
 by_cases h1:cI s 0=64
 ·rw[if_pos h1]at h
  have i1:=q2S (s:=s) (i:=0) (by omega)
  have hi:=j0a s 5 0 1 (by omega) (by omega)
  have hc:=stF_cut s 5 0 1 (by omega) (by omega)
  by_cases h2:(stF s 5 0 1).1=true∧1<(stF s 5 0 1).2.2
  ·rw[if_pos h2]at h
   have hc:=hc h2.1
   generalize (stF s 5 0 1).2.2=e at *
   generalize (stF s 5 0 1).2.1=v at *
   cases hh:q2n s s.length e []with
   |inl p=>rw[hh]at h;simp at h
   |inr R =>
    rw[hh]at h
    simp only[Sum.inr.injEq,Prod.mk.injEq]at h
    obtain⟨rfl,rfl⟩:=h
    obtain⟨l,e1,e2,e3⟩:=spl_haps s s.length e [] R hi.2.1 (by omega) hh
    simp at e1
    subst e1
    refine⟨i1,e2,hi.2.2.2,cut s 1 e,?_,hc.1,by unfold cut;simp;omega,by unfold cut;simp;omega,hc.2⟩
    unfold splR
    have hdig:∀m,1≤m→m<1+(e-1)→cI s m≠32:=by
     intro m m1 m2 hm
     have hd:=hc.1
     unfold q2k at hd
     rw[List.all_eq_true]at hd
     have hmem:s.getD m 0∈cut s 1 e:=by
      have e9:(cut s 1 e)[m-1]?=some (s.getD m 0):=by
       unfold cut
       rw[List.getElem?_take_of_lt (by omega),List.getElem?_drop,show 1+(m-1)=m by omega]
       simp[List.getD,show m<s.length by omega]
      exact zI e9
     have:=hd _ hmem
     rw[show((s.getD m 0).toNat:Int)=cI s m from rfl,hm]at this
     simp[qd]at this
    have sk:=j6o s 1 [] (e-1) 1 (s.length+1-e) (by omega) hdig
    rw[show s.length+1-e+(e-1)=s.length by omega,show 1+(e-1)=e by omega]at sk
    rw[sk,e3]
    rfl
  ·rw[if_neg h2]at h;simp at h
 ·rw[if_neg h1]at h;simp at h
end Go.Proofs.YtiamjjonoeaggabGreatDoor
