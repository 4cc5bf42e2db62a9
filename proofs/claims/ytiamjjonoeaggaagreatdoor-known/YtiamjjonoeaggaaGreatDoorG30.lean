import Derived.Test.YtiamjjonoeaggaaGreatDoorGA
import Derived.Test.YtiamjjonoeaggaaGreatDoorG02
import Derived.Test.YtiamjjonoeaggaaGreatDoorG04
import Derived.Test.YtiamjjonoeaggaaGreatDoorG14
import Derived.Test.YtiamjjonoeaggaaGreatDoorG27
import Derived.Test.YtiamjjonoeaggaaGreatDoorG28
import Derived.Test.YtiamjjonoeaggaaGreatDoorG29
import Derived.Deep.LoopGhost
set_option maxRecDepth 100000
set_option maxHeartbeats 16000000
namespace Go.Proofs.YtiamjjonoeaggaaGreatDoor
open Go.RowKit
def qk (a k n c:Int):Option (Int × Int × Int):=
 if a=0 then(if c=64 then some (1,0,n)else none)
 else if a=1 then(if zQ c=true∧k<5∧10*n+(c-48)≤65535 then some (1,k+1,10*n+(c-48))else if 0<k∧c=32 then some (2,0,n)else none)
 else if a=2 then(if q0n c=true∧k<8 then some (2,k+1,n)else if 0<k∧c=40 then some (3,k,n)else none)
 else if a=3 then(if zQ c=true then some (4,k,n)else none)
 else if a=4 then(if c=44 then some (5,k,n)else if c=41 then some (7,k,n)else none)
 else if a=5 then(if zQ c=true then some (6,k,n)else none)
 else if a=6 then(if c=41 then some (7,k,n)else none)
 else(if c=32 then some (2,0,n)else none)
def q4d (L:Nat):By→Nat→Int→Int→Int→Int
 | [],_,a,k,_=>if a=7∨(a=1∧0<k)then -1 else(L:Int)
 |c::r,i,a,k,n=>match qk a k n (c.toNat:Int)with
  |none=>(i:Int)
  |some q=>q4d L r (i+1) q.1 q.2.1 q.2.2
def j1p (s:By):Int:=q4d s.length s 0 0 0 0
abbrev Pl (s:By)(a k n:Int)(i:Nat):Int:=q4d s.length (s.drop i) i a k n
theorem j2I {s:By}{a k n:Int}{i:Nat}(h:i<s.length):Pl s a k n i=match qk a k n (cI s i)with
  |none=>(i:Int)
  |some q=>Pl s q.1 q.2.1 q.2.2 (i+1):=by
 unfold Pl
 rw[List.drop_eq_getElem_cons h,q4d]
 have e:cI s i=(s[i].toNat:Int):=by unfold cI;simp[List.getD,h]
 rw[e]<;>rfl
theorem j7m {s:By}{a k n:Int}{i:Nat}(h:s.length=i):Pl s a k n i=if a=7∨(a=1∧0<k)then -1 else(i:Int):=by
 unfold Pl
 rw[List.drop_eq_nil_of_le (by omega),q4d,h]
theorem j9Q (a k n:Int):qk a k n 0=none:=by
 unfold qk zQ q0n
 repeat' split
 all_goals simp_all
theorem q6k {s:By}{a k n:Int}{i:Nat}(h:i≤s.length)(ha:¬(a=7∨(a=1∧0<k))):Pl s a k n i=match qk a k n (cI s i)with
  |none=>(i:Int)
  |some q=>Pl s q.1 q.2.1 q.2.2 (i+1):=by
 rcases Nat.lt_or_ge i s.length with g|g
 ·exact j2I g
 ·rw[j7m (by omega),if_neg ha,j6y g,j9Q]
def Qd (s:By)(n:Int)(i:Nat):Int:=if i<s.length then(if cI s i=32 then Pl s 2 0 n (i+1)else(i:Int))else -1
theorem j5y {s:By}{k n:Int}{i:Nat}(h:i≤s.length):Pl s 7 k n i=Qd s n i:=by
 unfold Qd
 rcases Nat.lt_or_ge i s.length with g|g
 ·rw[if_pos g,j2I g]
  by_cases hc:cI s i=32
  ·rw[if_pos hc,hc];rfl
  ·rw[if_neg hc]
   have e:qk 7 k n (cI s i)=none:=by unfold qk;simp[hc]
   rw[e]
 ·rw[j7m (by omega),if_pos (.inl rfl),if_neg (by omega)]
theorem pl_stamp (s:By):∀(f k n i:Nat),i≤s.length→k+f=5→n≤65535 →
  ((stF s f n i).1=false→Pl s 1 k n i=(stF s f n i).2.2)∧((stF s f n i).1=true→Pl s 1 k n i=if 0<k+((stF s f n i).2.2-i)then Qd s (stF s f n i).2.1 (stF s f n i).2.2 else((stF s f n i).2.2:Int)):=by
 have base:∀(k n i:Nat),i≤s.length→(zQ (cI s i)=true→k=5)→Pl s 1 k n i=if 0<k then Qd s n i else(i:Int):=by
  intro k n i h hd
  have hs:qk 1 (k:Int) (n:Int) (cI s i)=if 0<k∧cI s i=32 then some (2,0,(n:Int))else none:=by
   unfold qk
   rw[if_neg (by decide),if_pos rfl,if_neg (by intro h';have:=hd h'.1;omega)]
   by_cases hk:0<k∧cI s i=32
   ·rw[if_pos hk,if_pos (by omega)]
   ·rw[if_neg hk,if_neg (by omega)]
  by_cases hk:0<k
  ·rw[if_pos hk]
   unfold Qd
   rcases Nat.lt_or_ge i s.length with g|g
   ·rw[if_pos g,j2I g,hs]
    by_cases hc:cI s i=32
    ·rw[if_pos ⟨hk,hc⟩,if_pos hc]
    ·rw[if_neg (fun h'=>hc h'.2),if_neg hc]
   ·rw[j7m (by omega),if_pos (.inr ⟨rfl,by omega⟩),if_neg (by omega)]
  ·rw[if_neg hk,q6k h (by omega),hs,if_neg (fun h'=>hk h'.1)]
 intro f
 induction f with
 |zero =>
  intro k n i h hk hn
  refine⟨fun e=>by simp[stF]at e,fun _=>?_⟩
  have:=base k n i h (fun _=>by omega)
  simpa[stF]using this
 |succ f ih =>
  intro k n i h hk hn
  rw[stF]
  by_cases hd:zQ (cI s i)=true
  ·rw[if_pos hd]
   have hdi:=dI_eq hd
   have hin:=q3o hd
   by_cases hb:65535<10*n+dI s i
   ·rw[if_pos hb]
    refine⟨fun _=>?_,fun e=>by simp at e⟩
    have e:qk 1 (k:Int) (n:Int) (cI s i)=none:=by
     unfold qk
     rw[if_neg (by decide),if_pos rfl,if_neg (by omega),if_neg (by omega)]
    show Pl s 1 k n i=(i:Int)
    rw[j2I hin.1,e]
   ·rw[if_neg hb]
    have e:qk 1 (k:Int) (n:Int) (cI s i)=some (1,((k+1:Nat):Int),((10*n+dI s i:Nat):Int)):=by
     unfold qk
     rw[if_neg (by decide),if_pos rfl,if_pos ⟨hd,by omega,by omega⟩]
     simp only[Option.some.injEq,Prod.mk.injEq,true_and]
     omega
    have hp:Pl s 1 k n i=Pl s 1 ((k+1:Nat):Int) ((10*n+dI s i:Nat):Int) (i+1):=by rw[j2I hin.1,e]
    rw[hp]
    have:=ih (k+1) (10*n+dI s i) (i+1) (by omega) (by omega) (by omega)
    have hle:=(q9N s f (10*n+dI s i) (i+1) (by omega) (by omega)).1
    refine⟨this.1,fun e=>?_⟩
    rw[this.2 e]
    rw[show k+1+((stF s f (10*n+dI s i) (i+1)).2.2-(i+1))=k+((stF s f (10*n+dI s i) (i+1)).2.2-i)by omega]
  ·rw[if_neg hd]
   refine⟨fun e=>by simp at e,fun _=>?_⟩
   have:=base k n i h (fun e=>absurd e hd)
   simpa using this
theorem pl_name (s:By)(n:Int):∀(f k i:Nat),i≤s.length→k+f=8 →
  Pl s 2 k n i=if 0<k+(nmF s f i-i)∧cI s (nmF s f i)=40 then Pl s 3 ((k+(nmF s f i-i):Nat):Int) n (nmF s f i+1)else(nmF s f i:Int):=by
 have base:∀(k i:Nat),i≤s.length→(q0n (cI s i)=true→k=8)→Pl s 2 k n i=if 0<k∧cI s i=40 then Pl s 3 k n (i+1)else(i:Int):=by
  intro k i h hd
  rw[q6k h (by omega)]
  have hs:qk 2 (k:Int) n (cI s i)=if 0<k∧cI s i=40 then some (3,(k:Int),n)else none:=by
   unfold qk
   rw[if_neg (by decide),if_neg (by decide),if_pos rfl,if_neg (by intro h';have:=hd h'.1;omega)]
   by_cases hk:0<k∧cI s i=40
   ·rw[if_pos hk,if_pos (by omega)]
   ·rw[if_neg hk,if_neg (by omega)]
  rw[hs]
  by_cases hk:0<k∧cI s i=40
  ·rw[if_pos hk,if_pos hk]
  ·rw[if_neg hk,if_neg hk]
 intro f
 induction f with
 |zero =>
  intro k i h hk
  have:=base k i h (fun _=>by omega)
  simpa[nmF]using this
 |succ f ih =>
  intro k i h hk
  rw[nmF]
  by_cases hd:q0n (cI s i)=true
  ·rw[if_pos hd]
   have hin:=j1b hd
   have e:qk 2 (k:Int) n (cI s i)=some (2,((k+1:Nat):Int),n):=by
    unfold qk
    rw[if_neg (by decide),if_neg (by decide),if_pos rfl,if_pos ⟨hd,by omega⟩]
    simp
   have hp:Pl s 2 k n i=Pl s 2 ((k+1:Nat):Int) n (i+1):=by rw[j2I hin.1,e]
   rw[hp,ih (k+1) (i+1) (by omega) (by omega)]
   have hle:=(q9y s f (i+1) (by omega)).1
   rw[show k+1+(nmF s f (i+1)-(i+1))=k+(nmF s f (i+1)-i)by omega]
  ·rw[if_neg hd]
   have:=base k i h (fun e=>absurd e hd)
   simpa using this
theorem pl_hapT (s:By)(nm:By)(d j:Nat)(k n:Int)(h:j≤s.length):Pl s 4 k n j=if (q7D s nm d j).1=true then Qd s n (q7D s nm d j).2.1 else((q7D s nm d j).2.1:Int):=by
 rw[q6k h (by omega)]
 unfold q7D
 by_cases h1:cI s j=44
 ·rw[if_pos h1,h1]
  have h0:=q2I (s:=s) (i:=j) (by omega)
  show Pl s 5 k n (j+1)=_
  rw[q6k (by omega) (by omega)]
  by_cases h2:zQ (cI s (j+1))=true
  ·rw[if_pos h2]
   have e:qk 5 k n (cI s (j+1))=some (6,k,n):=by unfold qk;simp[h2]
   rw[e]
   have h5:=(q3o h2).1
   show Pl s 6 k n (j+1+1)=_
   rw[q6k (by omega) (by omega)]
   by_cases h3:cI s (j+2)=41
   ·have h6:=q2I (s:=s) (i:=j+2) (by omega)
    rw[if_pos h3,show j+1+1=j+2 from rfl,h3]
    show Pl s 7 k n (j+2+1)=_
    rw[j5y (by omega)]
    rfl
   ·rw[if_neg h3]
    have e:qk 6 k n (cI s (j+1+1))=none:=by unfold qk;simp[h3]
    rw[e]
    rfl
  ·rw[if_neg h2]
   have e:qk 5 k n (cI s (j+1))=none:=by unfold qk;simp[h2]
   rw[e]
   rfl
 ·rw[if_neg h1]
  by_cases h2:cI s j=41
  ·rw[if_pos h2,h2]
   have h0:=q2I (s:=s) (i:=j) (by omega)
   show Pl s 7 k n (j+1)=_
   rw[j5y (by omega)]
   rfl
  ·rw[if_neg h2]
   have e:qk 4 k n (cI s j)=none:=by unfold qk;simp[h1,h2]
   rw[e]
   rfl
theorem pl_hap (s:By)(n:Int)(i:Nat)(h:i<s.length):Qd s n i=if (q2H s i).1=true then Qd s n (q2H s i).2.1 else((q2H s i).2.1:Int):=by
 have e1:Qd s n i=if cI s i=32 then Pl s 2 0 n (i+1)else(i:Int):=by
  conv=>lhs;unfold Qd
  rw[if_pos h]
 rw[e1]
 unfold q2H
 by_cases h1:cI s i=32
 ·rw[if_pos h1,if_pos h1]
  have hp:=pl_name s n 8 0 (i+1) (by omega) rfl
  rw[show((0:Nat):Int)=0 from rfl]at hp
  rw[hp]
  have hn:=q9y s 8 (i+1) (by omega)
  generalize nmF s 8 (i+1)=e at *
  by_cases h2:i+1<e
  ·rw[if_pos h2]
   by_cases h3:cI s e=40
   ·have he:=q2I (s:=s) (i:=e) (by omega)
    rw[if_pos ⟨by omega,h3⟩,if_pos h3,q6k (by omega) (by omega)]
    by_cases h4:zQ (cI s (e+1))=true
    ·rw[if_pos h4]
     have q:qk 3 ((0+(e-(i+1)):Nat):Int) n (cI s (e+1))=some (4,((0+(e-(i+1)):Nat):Int),n):=by unfold qk;simp[h4]
     rw[q]
     exact pl_hapT s _ _ (e+2) _ n (by have:=(q3o h4).1;omega)
    ·rw[if_neg h4]
     have q:qk 3 ((0+(e-(i+1)):Nat):Int) n (cI s (e+1))=none:=by unfold qk;simp[h4]
     rw[q]
     rfl
   ·rw[if_neg (fun h'=>h3 h'.2),if_neg h3];rfl
  ·rw[if_neg h2,if_neg (by omega),show e=i+1 by omega];rfl
 ·rw[if_neg h1,if_neg h1];rfl
theorem pl_haps (s:By)(n:Int):∀(f i:Nat) (acc:List Hp),i≤s.length→s.length-i≤f→Qd s n i=match q2g s f i acc with
  | .inl p=>(p:Int)
  | .inr _=>-1:=by
 intro f
 induction f with
 |zero =>
  intro i acc h hf
  unfold Qd
  rw[if_neg (by omega)]
  rfl
 |succ f ih =>
  intro i acc h hf
  rw[q2g]
  by_cases g:i<s.length
  ·rw[if_pos g,pl_hap s n i g]
   have hr:=j0s s i h
   by_cases ho:(q2H s i).1=true
   ·rw[if_pos ho,if_pos ho]
    have:=hr.2.2 ho
    exact ih _ _ hr.2.1 (by omega)
   ·rw[if_neg ho,if_neg ho]
  ·rw[if_neg g]
   unfold Qd
   rw[if_neg g]
theorem place_line (s:By):j1p s=match q3D s with
  | .inl p=>(p:Int)
  | .inr _=>-1:=by
 have e:j1p s=Pl s 0 0 0 0:=rfl
 rw[e,q6k (by omega) (by omega)]
 unfold q3D
 by_cases h1:cI s 0=64
 ·rw[if_pos h1,h1]
  have h0:=q2I (s:=s) (i:=0) (by omega)
  show Pl s 1 0 0 1=_
  have hp:=pl_stamp s 5 0 0 1 (by omega) rfl (by omega)
  have hi:=q9N s 5 0 1 (by omega) (by omega)
  rw[show((0:Nat):Int)=0 from rfl]at hp
  by_cases ho:(stF s 5 0 1).1=true
  ·by_cases h2:1<(stF s 5 0 1).2.2
   ·rw[if_pos ⟨ho,h2⟩,hp.2 ho,if_pos (by omega),pl_haps s _ s.length _ [] hi.2.1 (by omega)]
    cases q2g s s.length (stF s 5 0 1).2.2 []<;>rfl
   ·rw[if_neg (fun h'=>h2 h'.2),hp.2 ho,if_neg (by omega)]
  ·have ho':(stF s 5 0 1).1=false:=by simpa using ho
   rw[if_neg (fun h'=>ho h'.1),hp.1 ho']
 ·rw[if_neg h1]
  have e:qk 0 0 0 (cI s 0)=none:=by unfold qk;simp[h1]
  rw[e]
theorem j6d (s:By)(a:Nat)(acc:List (By)):∀(k i f:Nat),i+k≤s.length→(∀m,i≤m→m<i+k→cI s m≠32)→q8X s (f+k) i a acc=q8X s f (i+k) a acc:=by
 intro k
 induction k with
 |zero=>intro i f _ _;rfl
 |succ k ih =>
  intro i f h hm
  rw[show f+(k+1)=(f+k)+1 by omega,q8X,if_neg]
  ·rw[ih (i+1) f (by omega) (fun m h1 h2=>hm m (by omega) (by omega)),show i+1+k=i+(k+1)by omega]
  ·intro h'
   rcases h' with h'|h'
   ·omega
   ·exact hm i (by omega) (by omega) (by unfold cI;rw[h'];rfl)
theorem spl_haps (s:By):∀(f i:Nat) (hl R:List Hp),i≤s.length→s.length-i≤f→q2g s f i hl=.inr R→∃l,R=hl++l∧(∀h∈l,HpOk h)∧∀a acc,q8X s (s.length+1-i) i a acc=acc++cut s a i::l.map q4a:=by
 have last:∀(i:Nat),i=s.length→∀a acc,q8X s (s.length+1-i) i a acc=acc++[cut s a i]:=by
  intro i h a acc
  rw[show s.length+1-i=0+1 by omega,q8X,if_pos (.inl h)]
  rfl
 intro f
 induction f with
 |zero =>
  intro i hl R h hf e
  simp[q2g]at e
  exact⟨[],by simp[e],by simp,fun a acc=>last i (by omega) a acc⟩
 |succ f ih =>
  intro i hl R h hf e
  rw[q2g]at e
  by_cases g:i<s.length
  ·rw[if_pos g]at e
   by_cases ho:(q2H s i).1=true
   ·rw[if_pos ho]at e
    have hin:=j0s s i h
    have hlt:=hin.2.2 ho
    obtain⟨c1,c2,c3,c4⟩:=hapR_cut s i h ho
    generalize (q2H s i).2.1=j at *
    generalize (q2H s i).2.2=hp at *
    obtain⟨l,e1,e2,e3⟩:=ih j (hl++[hp]) R hin.2.1 (by omega) e
    refine⟨hp::l,by simp[e1],?_,fun a acc=>?_⟩
    ·intro h' hm
     rcases List.mem_cons.1 hm with rfl|hm
     ·exact c2
     ·exact e2 h' hm
    ·rw[show s.length+1-i=(s.length-i)+1 by omega,q8X,if_pos (.inr (q7e (c:=32) c1 (by omega)))]
     have sk:=j6d s (i+1) (acc++[cut s a i]) (j-(i+1)) (i+1) (s.length+1-j) (by omega) (fun m h1 h2=>c4 m h1 (by omega))
     rw[show s.length-i=s.length+1-j+(j-(i+1))by omega,sk,show i+1+(j-(i+1))=j by omega,e3,c3]
     simp
   ·rw[if_neg ho]at e;simp at e
  ·rw[if_neg g]at e
   simp at e
   exact⟨[],by simp[e],by simp,fun a acc=>last i (by omega) a acc⟩
theorem j1c {s:By}{n:Nat}{l:List Hp}(h:q3D s=.inr (n,l)):0<s.length∧(∀h∈l,HpOk h)∧n≤65535∧∃d,splR s=d::l.map q4a∧q2d d=true∧0<d.length∧d.length≤5∧q0e d=n:=by
 unfold q3D at h
 by_cases h1:cI s 0=64
 ·rw[if_pos h1]at h
  have i1:=q2I (s:=s) (i:=0) (by omega)
  have hi:=q9N s 5 0 1 (by omega) (by omega)
  have hc:=stF_cut s 5 0 1 (by omega) (by omega)
  by_cases h2:(stF s 5 0 1).1=true∧1<(stF s 5 0 1).2.2
  ·rw[if_pos h2]at h
   have hc:=hc h2.1
   generalize (stF s 5 0 1).2.2=e at *
   generalize (stF s 5 0 1).2.1=v at *
   cases hh:q2g s s.length e []with
   |inl p=>rw[hh]at h;simp at h
   |inr R =>
    rw[hh]at h
    simp only[Sum.inr.injEq,Prod.mk.injEq]at h
    obtain⟨rfl,rfl⟩:=h
    obtain⟨l,e1,e2,e3⟩:=spl_haps s s.length e [] R hi.2.1 (by omega) hh
    simp at e1
    subst e1
    refine⟨i1,e2,hi.2.2.2,cut s 1 e,?_,hc.1,by unfold cut;simp;omega,by unfold cut;simp;omega,hc.2⟩
    unfold splR
    have hdig:∀m,1≤m→m<1+(e-1)→cI s m≠32:=by
     intro m m1 m2 hm
     have hd:=hc.1
     unfold q2d at hd
     rw[List.all_eq_true]at hd
     have hmem:s.getD m 0∈cut s 1 e:=by
      have e9:(cut s 1 e)[m-1]?=some (s.getD m 0):=by
       unfold cut
       rw[List.getElem?_take_of_lt (by omega),List.getElem?_drop,show 1+(m-1)=m by omega]
       simp[List.getD,show m<s.length by omega]
      exact zI e9
     have:=hd _ hmem
     rw[show((s.getD m 0).toNat:Int)=cI s m from rfl,hm]at this
     simp[zQ]at this
    have sk:=j6d s 1 [] (e-1) 1 (s.length+1-e) (by omega) hdig
    rw[show s.length+1-e+(e-1)=s.length by omega,show 1+(e-1)=e by omega]at sk
    rw[sk,e3]
    rfl
  ·rw[if_neg h2]at h;simp at h
 ·rw[if_neg h1]at h;simp at h
theorem settF_le (L:List LPt)(rc:Int):∀f c,c≤L.length→q3S L rc f c≤L.length:=by
 intro f
 induction f with
 |zero=>intro c h;exact h
 |succ f ih =>
  intro c h
  rw[q3S]
  split
  ·rename_i hh
   exact ih (c+1) hh.1
  ·exact h
theorem q5O (L:List LPt)(rc:Int):q0u L rc≤L.length:=settF_le L rc _ 0 (zZ _)
theorem hapsF_le (s:By):∀(f i:Nat) (acc R:List Hp),q2g s f i acc=.inr R→R.length≤acc.length+f:=by
 intro f
 induction f with
 |zero =>
  intro i acc R h
  rw[q2g]at h
  have:acc=R:=by simpa using h
  rw[this]
  omega
 |succ f ih =>
  intro i acc R h
  rw[q2g]at h
  split at h
  ·split at h
   ·have:=ih _ _ _ h
    simp at this
    omega
   ·exact absurd h (by simp)
  ·have:acc=R:=by simpa using h
   rw[this]
   omega
theorem line_few {s:By}{n:Nat}{l:List Hp}(h:q3D s=.inr (n,l)):l.length≤s.length:=by
 unfold q3D at h
 split at h
 ·split at h
  ·split at h
   ·exact absurd h (by simp)
   ·rename_i l' he
    have:l'=l:=by simpa using (by simpa using h:_∧_).2
    subst this
    have:=hapsF_le s _ _ _ _ he
    simpa using this
  ·exact absurd h (by simp)
 ·exact absurd h (by simp)
def q3Q (L:List LPt)(ended:Bool)(s:By):Int × Int:=
 if ended=true then(9,0)else if 80<s.length then(1,0)else match q3D s with
  | .inl p=>(3,p)
  | .inr (st,_)=>if toR L st<32768∧L.length<40 then(0,0)else(if 32768≤toR L st then 7 else 8,0)
def q6G (L:List LPt)(ended:Bool)(s:By):List LPt:=
 if (q3Q L ended s).1=0 then(match q3D s with
  | .inl _=>L
  | .inr (st,l)=>L++[⟨st,q7B L st,l⟩])else L
def j2l (F:zh)(L:List LPt)(told:Nat)(ended:Bool)(s:By):Nat:=if (q3Q L ended s).1=0 then max told (q0u (q6G L ended s) (qi F).reach)else told
def j0N (F:zh)(L:List LPt)(told:Nat)(ended:Bool)(s:By):List Ver:=if (q3Q L ended s).1=0 then q0D F (q6G L ended s) told (q0u (q6G L ended s) (qi F).reach)else []
def j2f (w w':World)(b gn cn:Nat)(ao:OA)(F:zh)(L:List LPt)(told:Nat)(ended:Bool):Prop:=
 ∃ao' cap' PL',MonAt w' b gn cn ao' cap' F PL' told ended∧zA PL'=L∧OnlyB (b::q1Z ao) w w'∧(∀k∈q1Z ao',k∈q1Z ao∨w.heap.size≤k)
theorem j2f.same {w w':World}{b gn cn:Nat}{ao:OA}{cap:Nat}{F:zh}{PL:List PPt}{told:Nat}{ended:Bool}(h:MonAt w b gn cn ao cap F PL told ended)(hb:Below w.heap.size w w'):j2f w w' b gn cn ao F (zA PL) told ended:=
 ⟨ao,cap,PL,h.below hb,rfl,.of_below hb,fun _ hk=>.inl hk⟩
def endE (ended:Bool):Int:=if ended=true then 9 else 0
def endN (L:List LPt)(told:Nat)(ended:Bool):Nat:=if ended=true then told else L.length
def endV (F:zh)(L:List LPt)(told:Nat)(ended:Bool):List Ver:=if ended=true then []else q0D F L told L.length
theorem vig_End (b gn cn:Nat)(ao:OA)(cap:Nat)(F:zh)(hF:FormGood F)(PL:List PPt)(told:Nat)(ended:Bool)(w:World)(h:MonAt w b gn cn ao cap F PL told ended) :
  Calls Tryz.prog 19 #[.pointer (some ⟨b,0,none⟩)] w fun e w'=>∃v,e=.returned (.tuple #[v,.int .i64 (endE ended)])∧w'.ownsRow w.heap.size 49 12 v (endV F (zA PL) told ended).length (qn (endV F (zA PL) told ended))∧j2f w w' b gn cn ao F (zA PL) (endN (zA PL) told ended) true:=by
 obtain⟨c0,c1,c2,c3,c4,c5,c6⟩:=h.cells
 have hlt:=h.lt
 have hfz:=h.frozen 6
 have HM:=zb h
 cases ended with
 |true =>
  clear h c0 c1 c2 c3 c4 c5
  go_enter Tryz.func19,Tryz.ntmps19
  go_wp2_with fail
  go_ret2
  exact⟨.slice none 0 0,rfl,zW _ _ _ _,j2f.same HM.out (zB _ _)⟩
 |false =>
  have HM1:=zb (h.setEnded true)
  have HC:=zb (q7r b 4 ao cap PL _ HM1.out.log)
  have HT:=zb (j6t b gn cn ao cap F hF PL told true PL.length (zL _) _ HM1.out)
  have hfew:=h.few
  clear h c0 c1 c2 c3 c4 c5
  go_enter Tryz.func19,Tryz.ntmps19
  go_wp2_with fail
  refine HC.out.mono ?_
  rintro e w1 ⟨rfl,rfl⟩
  go_wp2_with fail
  refine HT.out.mono ?_
  rintro e w2 ⟨v,rfl,hO,hM2,hb2⟩
  obtain⟨va,vc,rfl⟩:=q1i hO
  go_wp2_with fail
  go_ret2
  have e1:endV F (zA PL) told false=q0D F (zA PL) told PL.length:=by unfold endV;rw[if_neg (by decide),List.length_map]
  have e2:endN (zA PL) told false=PL.length:=by unfold endN;rw[if_neg (by decide),List.length_map]
  refine⟨.slice va (PL.length-told) vc,rfl,?_,ao,cap,PL,?_,rfl,?_,fun _ hk=>.inl hk⟩
  ·rw[e1,q1W]
   simpa using hO
  ·rw[Nat.max_eq_right hfew]at hM2
   rw[e2]
   exact hM2
  ·exact((OnlyB.refl [b] w).setCell (by simp) _).trans hb2 |>.wide (by simp)
def q7Y (w:World)(b gn cn:Nat)(ao:OA)(F:zh)(PL:List PPt)(told:Nat)(ended:Bool)(s:By)(e:Ending)(w':World):Prop:=
 ∃v,e=.returned (.tuple #[v,.int .i64 (q3Q (zA PL) ended s).1,.int .i64 (q3Q (zA PL) ended s).2])∧w'.ownsRow w.heap.size 49 12 v (j0N F (zA PL) told ended s).length (qn (j0N F (zA PL) told ended s))∧j2f w w' b gn cn ao F (q6G (zA PL) ended s) (j2l F (zA PL) told ended s) ended
theorem j0p {w w':World}{b gn cn:Nat}{ao:OA}{cap:Nat}{F:zh}{PL:List PPt}{told:Nat}{ended:Bool}{s:By}{er at':Int}(h:MonAt w b gn cn ao cap F PL told ended)(he:q3Q (zA PL) ended s=(er,at'))(h0:er≠0)(hb:Below w.heap.size w w') :
  q7Y w b gn cn ao F PL told ended s (.returned (.tuple #[.slice none 0 0,.int .i64 er,.int .i64 at'])) w':=by
 have hne:¬(q3Q (zA PL) ended s).1=0:=by rw[he];exact h0
 refine⟨_,by rw[he],?_,?_⟩
 ·unfold j0N
  rw[if_neg hne]
  exact zW _ _ _ _
 ·unfold q6G j2l
  rw[if_neg hne,if_neg hne]
  exact j2f.same h hb
theorem j4k (b gn cn:Nat)(ao:OA)(cap:Nat)(F:zh)(PL:List PPt)(told:Nat)(s:By)(w:World)(h:MonAt w b gn cn ao cap F PL told true) :
  Calls Tryz.prog 16 #[.pointer (some ⟨b,0,none⟩),bs s] w fun e w'=>q7Y w b gn cn ao F PL told true s e w':=by
 obtain⟨c0,c1,c2,c3,c4,c5,c6⟩:=h.cells
 have hlt:=h.lt
 have HM:=zb h
 clear h c0 c1 c2 c3 c4 c5
 go_enter Tryz.func16,Tryz.ntmps16
 go_wp2_with fail
 go_ret3
 exact j0p HM.out rfl (by decide) (zB _ _)
theorem j4l (b gn cn:Nat)(ao:OA)(cap:Nat)(F:zh)(PL:List PPt)(told:Nat)(s:By)(hs64:s.length≤maxLen)(hl:80<s.length)(w:World)(h:MonAt w b gn cn ao cap F PL told false) :
  Calls Tryz.prog 16 #[.pointer (some ⟨b,0,none⟩),bs s] w fun e w'=>q7Y w b gn cn ao F PL told false s e w':=by
 obtain⟨c0,c1,c2,c3,c4,c5,c6⟩:=h.cells
 have hlt:=h.lt
 have HM:=zb h
 have HE:Hid (q3Q (zA PL) false s=(1,0)):=zb (by unfold q3Q;rw[if_neg (by decide),if_pos hl])
 unfold maxLen at hs64
 clear h c0 c1 c2 c3 c4 c5
 go_enter Tryz.func16,Tryz.ntmps16
 go_wp2_with fail
 go_ret3
 exact j0p HM.out HE.out (by decide) (zB _ _)
theorem j4m (b gn cn:Nat)(ao:OA)(cap:Nat)(F:zh)(PL:List PPt)(told:Nat)(s:By)(hl:s.length≤80)(p:Nat)(hp:q3D s=.inl p)(w:World)(h:MonAt w b gn cn ao cap F PL told false) :
  Calls Tryz.prog 16 #[.pointer (some ⟨b,0,none⟩),bs s] w fun e w'=>q7Y w b gn cn ao F PL told false s e w':=by
 obtain⟨c0,c1,c2,c3,c4,c5,c6⟩:=h.cells
 have hlt:=h.lt
 have HM:=zb h
 have HE:Hid (q3Q (zA PL) false s=(3,(p:Int))):=zb (by unfold q3Q;rw[if_neg (by decide),if_neg (by omega),hp])
 have HR:=zb (j5q s hl p hp)
 clear h c0 c1 c2 c3 c4 c5 hp
 go_enter Tryz.func16,Tryz.ntmps16
 go_wp2_with fail
 refine(HR.out _).mono ?_
 rintro e w1 ⟨rfl,b1⟩
 have HB1:=zb b1
 clear b1
 go_wp2_with fail
 go_ret3
 exact j0p HM.out HE.out (by decide) (by first|exact(HB1.out.alloc HB1.out.size _).setCells _|exact HB1.out.alloc HB1.out.size _)
theorem j4n (b gn cn:Nat)(ao:OA)(cap:Nat)(F:zh)(PL:List PPt)(told:Nat)(s:By)(hl:s.length≤80)(st:Nat)(l:List Hp)(hp:q3D s=.inr (st,l))(hno:¬(toR (zA PL) st<32768∧PL.length<40))(w:World)(h:MonAt w b gn cn ao cap F PL told false) :
  Calls Tryz.prog 16 #[.pointer (some ⟨b,0,none⟩),bs s] w fun e w'=>q7Y w b gn cn ao F PL told false s e w':=by
 obtain⟨c0,c1,c2,c3,c4,c5,c6⟩:=h.cells
 have hlt:=h.lt
 have HM:=zb h
 have hst:=(j1c hp).2.2.1
 have HR:=zb (q8H s hl st l hp)
 have HAD:=zb (fun va vn vc W q=>j7o st hst va vn vc b 4 ao cap PL W q hno)
 obtain⟨er,her⟩:∃er:Int,er=if 32768≤toR (zA PL) st then 7 else 8:=⟨_,rfl⟩
 have HE:Hid (q3Q (zA PL) false s=(er,0)):=zb (by unfold q3Q;rw[if_neg (by decide),if_neg (by omega),hp];simp only[];rw[if_neg (by rw[List.length_map];exact hno),her])
 rw[←her]at HAD
 have her2:(er != 0)=true:=by rw[her];split<;>decide
 have HNE:Hid (er≠0):=zb (by simpa using her2)
 clear h c0 c1 c2 c3 c4 c5 hp her hno
 go_enter Tryz.func16,Tryz.ntmps16
 go_wp2_with fail
 refine(HR.out _).mono ?_
 rintro e w1 ⟨hv,rfl,hO,b1⟩
 obtain⟨va,vc,rfl⟩:=q1i hO
 have HB1:=zb b1
 clear b1 hO
 go_wp2_with fail
 obtain⟨W1,hW1⟩:∃W1,W1=w1.alloc (.cells #[.int .u16 st,.slice va l.length vc] 92):=⟨_,rfl⟩
 have BW1:Below w.heap.size w W1:=by rw[hW1];exact HB1.out.alloc HB1.out.size _
 have G1:W1.heap[w1.heap.size]?=some (.cells #[.int .u16 st,.slice va l.length vc] 92 (0,0)):=by rw[hW1];exact zN _ _
 rw[←hW1]
 have z0:=zC _ _ 0 _ _ _ G1
 have z1:=zC _ _ 1 _ _ _ G1
 simp only[gz]at z0 z1
 have hz1:=zd G1
 have HBW:=zb BW1
 clear hW1 BW1 G1
 go_region_held3 (fun w'=>w'.cell? ⟨w1.heap.size,0,none⟩=some (.int .u16 st)∧w'.cell? ⟨w1.heap.size,1,none⟩=some (.slice va l.length vc)) (first|go_keep|(exact⟨z0,z1⟩)|(exact⟨(zK (a:=⟨w1.heap.size,0,none⟩) (b3.block _ hz1)).trans z0,(zK (a:=⟨w1.heap.size,1,none⟩) (b3.block _ hz1)).trans z1⟩)) ((go_at_call 39;refine(HAD.out _ _ _ _ ((HM.out.below HBW.out).below (by exact(zB _ _).drew)).log).mono ?_;rintro e w3 ⟨rfl,b3⟩))
 have B3:Below w.heap.size w w3:=HBW.out.trans ((((zB _ _).drew).trans b3).mono HBW.out.size)
 have HB3:=zb B3
 clear B3 b3
 go_wp2_with fail
 go_ret3
 exact j0p HM.out HE.out HNE.out HB3.out
theorem MonAt.added {w w':World}{b gn cn:Nat}{ao:OA}{cap:Nat}{F:zh}{PL:List PPt}{told:Nat}{ended:Bool}{g' cap':Nat}{pt:LPt}{hv':Value}(h:MonAt w b gn cn ao cap F PL told ended)(ho:OnlyB (b::q1Z ao) w w')(hl:LogAt w' b 4 (some ⟨g',0,none⟩) cap' (PL++[(pt,hv')]))
  (hb:w'.heap[b]?=some (.cells ((j2A (.slice (some ⟨gn,0,none⟩) (zu F) cn) (qi F).x (qi F).y (qi F).reach (.slice ao PL.length cap) told ended).setIfInBounds 4 (.slice (some ⟨g',0,none⟩) (PL.length+1) cap')) 89 (0,0)))
  (hr:w'.ownsRow 0 130 11 hv' pt.haps.length (qH pt.haps))(h80:pt.haps.length≤80)(hd:∀h∈pt.haps,∀d∈h.ds,d≤9):MonAt w' b gn cn (some ⟨g',0,none⟩) cap' F (PL++[(pt,hv')]) told ended:=by
 refine⟨?_,q6V h.nodes ho h.kinds (by decide) (by decide),hl,fun p hp=>?_,by have:=h.few;simp;omega⟩
 ·rw[hb,List.length_append]
  rfl
 ·rcases List.mem_append.1 hp with hp|hp
  ·exact⟨q6V (h.haps p hp).1 ho h.kinds (by decide) (by decide),(h.haps p hp).2⟩
  ·have:p=(pt,hv'):=by simpa using hp
   subst this
   exact⟨hr,h80,hd⟩
theorem j4o (b gn cn:Nat)(ao:OA)(cap:Nat)(F:zh)(hF:FormGood F)(PL:List PPt)(told:Nat)(s:By)(hl:s.length≤80)(st:Nat)(l:List Hp)(hp:q3D s=.inr (st,l))(hyes:toR (zA PL) st<32768∧PL.length<40)(w:World)(h:MonAt w b gn cn ao cap F PL told false) :
  Calls Tryz.prog 16 #[.pointer (some ⟨b,0,none⟩),bs s] w fun e w'=>q7Y w b gn cn ao F PL told false s e w':=by
 obtain⟨c0,c1,c2,c3,c4,c5,c6⟩:=h.cells
 have hlt:=h.lt
 have HM:=zb h
 obtain⟨_,hok,hst,_⟩:=j1c hp
 have hfew:=line_few hp
 have HR:=zb (q8H s hl st l hp)
 have HAD:=zb (fun va vc W (q:MonAt W b gn cn ao cap F PL told false) (hr:W.ownsRow 0 130 11 (.slice va l.length vc) l.length (qH l))=>j5A st hst (.slice va l.length vc) l b 4 ao cap PL W q.log _ _ q.blk (by decide) (by decide) hr (by omega) hyes.1 hyes.2)
 have HE:Hid (q3Q (zA PL) false s=(0,0)):=zb (by unfold q3Q;rw[if_neg (by decide),if_neg (by omega),hp];simp only[];rw[if_pos (by rw[List.length_map];exact hyes)])
 have HLL:Hid (q6G (zA PL) false s=zA PL++[⟨st,q7B (zA PL) st,l⟩]):=zb (by unfold q6G;rw[if_pos (by rw[HE.out]),hp])
 have HD:Hid (∀h∈l,∀d∈h.ds,d≤9):=zb (fun h hh=>(hok h hh).ds.2)
 have HFE:=zb hfew
 clear h c0 c1 c2 c3 c4 c5 hp hok
 go_enter Tryz.func16,Tryz.ntmps16
 go_wp2_with fail
 refine(HR.out _).mono ?_
 rintro e w1 ⟨hv,rfl,hO,b1⟩
 obtain⟨va,vc,rfl⟩:=q1i hO
 have HB1:=zb b1
 have HO:=zb hO
 clear b1 hO
 go_wp2_with fail
 obtain⟨W1,hW1⟩:∃W1,W1=w1.alloc (.cells #[.int .u16 st,.slice va l.length vc] 92):=⟨_,rfl⟩
 have BW1:Below w.heap.size w W1:=by rw[hW1];exact HB1.out.alloc HB1.out.size _
 have G1:W1.heap[w1.heap.size]?=some (.cells #[.int .u16 st,.slice va l.length vc] 92 (0,0)):=by rw[hW1];exact zN _ _
 have HO1:Hid (W1.ownsRow 0 130 11 (.slice va l.length vc) l.length (qH l)):=zb (by rw[hW1];exact q4B (zZ _) (HO.out.alloc _))
 rw[←hW1]
 have z0:=zC _ _ 0 _ _ _ G1
 have z1:=zC _ _ 1 _ _ _ G1
 simp only[gz]at z0 z1
 have hz1:=zd G1
 have HBW:=zb BW1
 have HG1:=zb G1
 have M1:MonAt W1.drew b gn cn ao cap F PL told false:=(HM.out.below HBW.out).below (by exact(zB _ _).drew)
 have HM1:=zb M1
 have HK1:Hid (w1.heap.size∉b::q1Z ao):=zb (by
  intro hm
  obtain⟨cs,t,hc,ht⟩:=M1.kinds _ hm
  have hc':W1.heap[w1.heap.size]?=some (.cells cs t (0,0)):=hc
  rw[G1]at hc'
  simp at hc'
  rcases ht with rfl|rfl
  ·exact absurd hc'.2 (by decide)
  ·exact absurd hc'.2 (by decide))
 clear hW1 BW1 G1 M1
 go_region_held3 (fun w'=>w'.cell? ⟨w1.heap.size,0,none⟩=some (.int .u16 st)∧w'.cell? ⟨w1.heap.size,1,none⟩=some (.slice va l.length vc)) (first|go_keep|(exact⟨z0,z1⟩)|(exact⟨(o3.cell hz1 HK1.out).trans z0,(o3.cell hz1 HK1.out).trans z1⟩)) ((go_at_call 39;refine(HAD.out _ _ _ HM1.out HO1.out.drew).mono ?_;rintro e w3 ⟨rfl,g',cap',hv',hlog,hrow,hblk,o3,hwh⟩))
 have M3:=HM1.out.added o3 hlog hblk (q4B (zZ _) hrow) (by show l.length≤80;have:=HFE.out;omega) HD.out
 have O3:OnlyB (b::q1Z ao) w w3:=(OnlyB.of_below (HBW.out.drew)).trans o3
 have hzw:w.heap.size≤W1.heap.size:=HBW.out.size
 have WH:Hid (∀k∈q1Z (some ⟨g',0,none⟩),k∈q1Z ao∨w.heap.size≤k):=zb (by
  intro k hk
  have:k=g':=by simpa[q1Z]using hk
  subst this
  rcases hwh with h|h
  ·exact .inl h
  ·exact .inr (zM hzw h))
 have HPL:Hid (zA (PL++[({stamp:=st,time:=q7B (zA PL) st,haps:=l},hv')])=q6G (zA PL) false s):=zb (by rw[HLL.out];exact List.map_append)
 obtain⟨PL',hPL'⟩:∃PL',PL'=PL++[(({stamp:=st,time:=q7B (zA PL) st,haps:=l}:LPt),hv')]:=⟨_,rfl⟩
 rw[←hPL']at M3 HPL
 have HM3:=zb M3
 have HO3:=zb O3
 have d3:=M3.cells.2.2.2.1
 have hl3:=M3.lt
 have HSE:=zb (fun W (q:MonAt W b gn cn (some ⟨g',0,none⟩) cap' F PL' told false)=>j5B b 4 (some ⟨g',0,none⟩) cap' PL' (qi F).reach W q.log)
 have hle:=q5O (zA PL') (qi F).reach
 rw[List.length_map]at hle
 have HT:=zb (fun W (q:MonAt W b gn cn (some ⟨g',0,none⟩) cap' F PL' told false)=>j6t b gn cn _ cap' F hF PL' told false (q0u (zA PL') (qi F).reach) hle W q)
 generalize hsr:q0u (zA PL') (qi F).reach=sr at *
 have HSR:=zb hsr
 clear hPL' hsr M3 O3 hlog hrow hblk hwh z0 z1 HM1 HO1 HG1 HAD HR HB1 HO o3
 generalize hrc:(qi F).reach=rc at *
 have HRC:=zb hrc
 clear hrc
 go_wp2_with fail
 go_region_held3 (fun w'=>w'.cell? ⟨b,3,none⟩=some (.int .i64 rc)) (first|go_keep|(exact d3)|(exact(zK (a:=⟨b,3,none⟩) (b4.block _ hl3)).trans d3)) ((go_at_call 40;refine(HSE.out _ (HM3.out.below (by exact(zB _ _).drew))).mono ?_;rintro e w4 ⟨rfl,b4⟩))
 have B4:Below w3.heap.size w3 w4:=((zB _ _).drew).trans b4
 have HM4:=zb (HM3.out.below B4)
 have HO4:Hid (OnlyB (b::q1Z ao) w w4):=zb (HO3.out.trans (.of_below B4))
 clear b4 B4 d3
 go_wp2_with fail
 refine(HT.out _ HM4.out).mono ?_
 rintro e w5 ⟨v,rfl,hrow5,M5,o5⟩
 obtain⟨va5,vc5,rfl⟩:=q1i hrow5
 have HR5:=zb hrow5
 have HM5:=zb M5
 have HO5:=zb o5
 clear hrow5 M5 o5
 go_wp2_with fail
 go_ret3
 have ev:j0N F (zA PL) told false s=q0D F (zA PL') told sr:=by
  unfold j0N
  rw[HE.out,if_pos rfl,←HPL.out,HRC.out,HSR.out]
 have en:j2l F (zA PL) told false s=max told sr:=by
  unfold j2l
  rw[HE.out,if_pos rfl,←HPL.out,HRC.out,HSR.out]
 refine⟨.slice va5 (sr-told) vc5,by rw[HE.out];rfl,?_,some ⟨g',0,none⟩,cap',PL',?_,HPL.out,?_,WH.out⟩
 ·rw[ev,q1W]
  exact q4B HO4.out.size HR5.out
 ·rw[en]
  exact HM5.out
 ·exact HO4.out.trans (HO5.out.wide (by simp))
theorem vig_Feed (b gn cn:Nat)(ao:OA)(cap:Nat)(F:zh)(hF:FormGood F)(PL:List PPt)(told:Nat)(ended:Bool)(s:By)(hs64:s.length≤maxLen)(w:World)(h:MonAt w b gn cn ao cap F PL told ended) :
  Calls Tryz.prog 16 #[.pointer (some ⟨b,0,none⟩),bs s] w fun e w'=>q7Y w b gn cn ao F PL told ended s e w':=by
 cases ended with
 |true=>exact j4k b gn cn ao cap F PL told s w h
 |false =>
  by_cases hl:80<s.length
  ·exact j4l b gn cn ao cap F PL told s hs64 hl w h
  ·cases hp:q3D s with
   |inl p=>exact j4m b gn cn ao cap F PL told s (by omega) p hp w h
   |inr q =>
    obtain⟨st,l⟩:=q
    by_cases hy:toR (zA PL) st<32768∧PL.length<40
    ·exact j4o b gn cn ao cap F hF PL told s (by omega) st l hp hy w h
    ·exact j4n b gn cn ao cap F PL told s (by omega) st l hp hy w h
theorem j3t {s:By}(h:(qe s).1=0):FormGood (qK s)∧q2B (qK s)=true∧q3R s=qi (qK s):=by
 obtain⟨h0,ha⟩:=j0J h
 have hrd:=q7u h0
 have hg:q5t (q0S s).1:=q5E s
 have h240:¬240<s.length:=by
  intro hl
  unfold q1p at h0
  rw[if_pos hl]at h0
  simp at h0
 have hll:=j3H s
 have hsz:=j1N _ _ hrd
 rw[q0c]at hsz
 refine⟨⟨j5J _ _ hrd hg,q3y hrd,by omega⟩,ha,?_⟩
 have hgd:=j0I h0
 have e1:q3R s=(q3I (qK s)).1:=by rw[hgd]
 have e2:(q3I (qK s)).2.1=0:=by rw[hgd];exact h
 rw[e1]
 unfold q3I at e2 ⊢
 by_cases hf:(q0F (qK s)).1=0
 ·rw[if_pos hf]
 ·rw[if_neg hf]at e2
  exact absurd e2 hf
theorem j0C (L:List LPt):∀F:zh,zs L (q1f F)=zs L F:=by
 intro F
 induction F with
 |nil=>rfl
 |node p sp y l r ihl ihr =>
  funext i x z
  simp only[q1f,zs]
  rw[ihl,ihr]
  rfl
theorem j1V {F F':zh}(h:q1f F'=q1f F)(L:List LPt):zs L F'=zs L F:=by rw[←j0C,h,j0C]
theorem j8W (L M:List LPt)(hL:Mono (L++M)):∀F:zh,q1K F→q2B F=true→∀i,i<L.length→zf F<(tmL L (L.length-1):Int)-tmL L i→∀x z,zs (L++M) F i x z=zs L F i x z:=by
 intro F
 induction F with
 |nil=>intros;rfl
 |node p sp y l r ihl ihr =>
  intro hF ha i hi hs x z
  obtain⟨hn,hl,hr⟩:=hF
  simp only[q2B,Bool.and_eq_true]at ha
  obtain⟨⟨ha1,ha2⟩,ha3⟩:=ha
  have hk:=(j8e 0 p sp hn).1
  have hR:zf (.node p sp y l r)=if q1R (zz 0 p sp y l r).kind=true then q4e (zz 0 p sp y l r).shi (if zf r > zf l then zf r else zf l)else(if zf r > zf l then zf r else zf l):=(j5G 0 p sp hn).symm
  have e:=node_ext (zz 0 p sp y l r) L M hL (zs L l) (zs L r) (zs (L++M) l) (zs (L++M) r) (zf l) (zf r) _ (q2O l) (q2O r) (by
   show 0≤q3k y.hi
   rw[hn.hi]
   omega) (by
   intro hk
   show(y.hi==[42])=false
   have h1:q0y y.word=true:=by rw[hn.word.ahead];exact hk
   rw[h1]at ha1
   simpa using ha1) hk hR (fun j hj hs x y=>ihl hl ha2 j hj hs x y) (fun j hj hs x y=>ihr hr ha3 j hj hs x y) i hi hs x z
  rw[zs,zs,e]
  congr 1
  simp
  omega
theorem j2Y {L M:List LPt}{i:Nat}(h:i<L.length):q4C (L++M) i=q4C L i:=by
 unfold q4C
 rw[List.getElem?_append_left h]
theorem tell_ext {F:zh}(hF:q1K F)(ha:q2B F=true){L M:List LPt}(hL:Mono (L++M))(a c:Nat)(hc:c≤q0u L (zf F)):q0D F L a c=q0D F (L++M) a c:=by
 have hm:Mono L:=fun i j h1 h2=>by
  have:=hL i j h1 (by simp;omega)
  rw[q3N (by omega),q3N h2]at this
  exact this
 have hsl:=q5O L (zf F)
 unfold q0D
 refine List.map_congr_left (fun i hi=>?_)
 have hi2:=List.mem_range'_1.1 hi
 have hil:i<L.length:=by omega
 have e:zs (L++M) F i=zs L F i:=by
  funext x z
  exact j8W L M hL F hF ha i hil ((j3V hm _ hil).2 (by omega)) x z
 unfold verR
 rw[e,j2Y hil]
theorem j3c (F:zh)(L:List LPt)(a b c:Nat)(h1:a≤b)(h2:b≤c):q0D F L a b++q0D F L b c=q0D F L a c:=by
 unfold q0D
 rw[←List.map_append,show c-a=(b-a)+(c-b)by omega,←List.range'_append_1,show a+(b-a)=b by omega]
abbrev Lin:=Nat × List Hp
def q2G (L:List LPt)(a:Lin):List LPt:=L++[⟨a.1,q7B L a.1,a.2⟩]
def q0A (ls:List Lin):List LPt:=ls.foldl q2G []
theorem j9n (ls:List Lin)(a:Lin):q0A (ls++[a])=q2G (q0A ls) a:=by
 unfold q0A
 rw[List.foldl_append]
 rfl
theorem j0A (L:List LPt):∀ls:List Lin,∃M,ls.foldl q2G L=L++M∧M.length=ls.length:=by
 intro ls
 induction ls generalizing L with
 |nil=>exact⟨[],by simp,rfl⟩
 |cons a r ih =>
  obtain⟨M,e,l⟩:=ih (q2G L a)
  refine⟨[⟨a.1,q7B L a.1,a.2⟩]++M,?_,by simp[l]⟩
  rw[List.foldl_cons,e]
  unfold q2G
  rw[List.append_assoc]
theorem q8G (ls:List Lin):(q0A ls).length=ls.length:=by
 obtain⟨M,e,l⟩:=j0A [] ls
 unfold q0A
 rw[e]
 simpa using l
theorem logF_pre (ls:List Lin)(k:Nat):∃M,q0A ls=q0A (ls.take k)++M:=by
 obtain⟨M,e,_⟩:=j0A (q0A (ls.take k)) (ls.drop k)
 refine⟨M,?_⟩
 rw[←e]
 unfold q0A
 rw[←List.foldl_append,List.take_append_drop]
theorem addL_ok (ls:List Lin):∀L,LogOk L→LogOk (ls.foldl q2G L):=by
 induction ls with
 |nil=>intro L h;exact h
 |cons a r ih=>intro L h;exact ih _ (h.add a.1 a.2)
theorem j3I (ls:List Lin):LogOk (q0A ls):=addL_ok ls [] .nil
theorem q9v (ls:List Lin)(k:Nat)(h:k<ls.length):q0A (ls.take (k+1))=q2G (q0A (ls.take k)) ls[k]:=by
 rw[←j9n,List.take_append_getElem h]
structure LinOk (L:List LPt)(s:By)(a:Lin):Prop where
 line:q3D s=.inr a
 len:s.length≤80
 near:toR L a.1<32768
 few:L.length<40
theorem feed_ok {L:List LPt}{s:By}{a:Lin}(h:LinOk L s a)(F:zh)(told:Nat):q3Q L false s=(0,0)∧q6G L false s=q2G L a∧j2l F L told false s=max told (q0u (q2G L a) (zf F))∧j0N F L told false s=q0D F (q2G L a) told (q0u (q2G L a) (zf F)):=by
 have e1:q3Q L false s=(0,0):=by
  unfold q3Q
  rw[if_neg (by decide),if_neg (by have:=h.len;omega),h.line]
  simp only[]
  rw[if_pos ⟨h.near,h.few⟩]
 have e2:q6G L false s=q2G L a:=by
  unfold q6G
  rw[e1,if_pos rfl,h.line]
  rfl
 refine⟨e1,e2,?_,?_⟩
 ·unfold j2l
  rw[e1,if_pos rfl,e2]
  rfl
 ·unfold j0N
  rw[e1,if_pos rfl,e2]
  rfl
end Go.Proofs.YtiamjjonoeaggaaGreatDoor
