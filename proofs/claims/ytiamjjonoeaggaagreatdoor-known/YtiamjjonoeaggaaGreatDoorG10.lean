import Derived.Test.YtiamjjonoeaggaaGreatDoorGA
import Derived.Test.YtiamjjonoeaggaaGreatDoorG01
import Derived.Test.YtiamjjonoeaggaaGreatDoorG02
import Derived.Test.YtiamjjonoeaggaaGreatDoorG09
namespace Go.Proofs.YtiamjjonoeaggaaGreatDoor
open Go.RowKit
structure LPt where
 stamp:Nat
 time:Nat
 haps:List Hp
def tmL (L:List LPt)(i:Nat):Nat:=match L[i]? with
 |some p=>p.time
 |none=>0
def q5n (L:List LPt)(i:Nat):List Hp:=match L[i]? with
 |some p=>p.haps
 |none=>[]
def q0C (L:List LPt)(i j:Nat):Nat:=(tmL L j-tmL L i)+(tmL L i-tmL L j)
def q1H (nd:PNode)(t:Nat):Bool:=decide (nd.slo≤(t:Int))&&(nd.sop || decide ((t:Int)≤nd.shi))
def q4n (k:Int):Bool:=k==10 || k==12 || k==14 || k==15
def q4m (k v:Int)(d x y:Nat):Bool:=if k=3 then x==d else if k=4 then y==d else decide (v=(d:Int))
def j2B (a c:By):Bool:=(List.range 8).all fun j=>zn a j==zn c j
def evP (nd:PNode)(x y:Nat)(h:Hp):Bool:=
 j2B h.nm nd.name&&decide ((h.ds.length:Int)=nd.cnt)&&(!decide (0<nd.cnt) || q4m nd.k0 nd.v0 (h.ds.getD 0 0) x y)&&(!decide (1<nd.cnt) || q4m nd.k1 nd.v1 (h.ds.getD 1 0) x y)
def q7P (W:Nat→Bool)(pos:Nat→Nat)(k:Nat):Bool:=(List.range k).all fun q=>W (pos q)
def q4q (S G W:Nat→Bool)(pos:Nat→Nat)(k:Nat):Bool:=(List.range k).any fun m=>S (pos m)&&(q7P W pos m&&G (pos m))
def q1L (nd:PNode)(A B:Nat→Nat→Nat→Bool)(x y j:Nat):Bool:=if nd.kind=12∨nd.kind=13 then A j x y else B j x y
def q0N (nd:PNode)(A:Nat→Nat→Nat→Bool)(x y j:Nat):Bool:=if nd.kind=14∨nd.kind=16 then A j x y else if nd.kind=15∨nd.kind=17 then !A j x y else true
def qz (nd:PNode)(L:List LPt)(A B:Nat→Nat→Nat→Bool)(i x y:Nat):Bool:=
 if nd.kind=5 then true
 else if nd.kind=2 then(q5n L i).any (evP nd x y)
 else if nd.kind=6 then A i x y&&B i x y
 else if nd.kind=7 then A i x y&&!B i x y
 else if nd.kind=8 then A i x y || B i x y
 else if nd.kind=9 then(List.range 10).any (fun v=>if nd.var=3 then A i v y else A i x v)
 else if nd.kind=10 then decide (0<i)&&(q1H nd (q0C L i (i-1))&&A (i-1) x y)
 else if nd.kind=11 then decide (i+1<L.length)&&(q1H nd (q0C L i (i+1))&&A (i+1) x y)
 else if q4n nd.kind=true then q4q (fun j=>q1H nd (q0C L i j)) (q1L nd A B x y) (q0N nd A x y) (fun m=>i-m) (i+1)
 else q4q (fun j=>q1H nd (q0C L i j)) (q1L nd A B x y) (q0N nd A x y) (fun m=>i+m) (L.length-i)
def zs (L:List LPt):zh→Nat→Nat→Nat→Bool
 | .nil,_,_,_=>false
 | .node p sp y l r,i,x,z=>decide (i<L.length)&&qz (zz 0 p sp y l r) L (zs L l) (zs L r) i x z
theorem j7d (m p sp:Nat)(y:Pay)(l r:zh)(L:List LPt)(A B:Nat→Nat→Nat→Bool)(i x z:Nat):qz (zz m p sp y l r) L A B i x z=qz (zz 0 p sp y l r) L A B i x z:=rfl
theorem j6V (W:Nat→Bool)(pos:Nat→Nat)(k:Nat):q7P W pos (k+1)=(q7P W pos k&&W (pos k)):=by
 unfold q7P
 rw[List.range_succ,List.all_append]
 simp
theorem q7h (S G W:Nat→Bool)(pos:Nat→Nat)(k:Nat):q4q S G W pos (k+1)=(q4q S G W pos k || (S (pos k)&&(q7P W pos k&&G (pos k)))):=by
 unfold q4q
 rw[List.range_succ,List.any_append]
 simp
def q3S (L:List LPt)(reach:Int):Nat→Nat→Nat
 | 0,c=>c
 |f+1,c=>if c+1≤L.length∧reach<(q0C L c (L.length-1):Int)then q3S L reach f (c+1)else c
def q0u (L:List LPt)(reach:Int):Nat:=q3S L reach L.length 0
def Mono (L:List LPt):Prop:=∀i j,i≤j→j<L.length→tmL L i≤tmL L j
theorem q3N {L M:List LPt}{i:Nat}(h:i<L.length):tmL (L++M) i=tmL L i:=by
 unfold tmL
 rw[List.getElem?_append_left h]
theorem j4O {L M:List LPt}{i:Nat}(h:i<L.length):q5n (L++M) i=q5n L i:=by
 unfold q5n
 rw[List.getElem?_append_left h]
theorem q8q {L M:List LPt}{i j:Nat}(hi:i<L.length)(hj:j<L.length):q0C (L++M) i j=q0C L i j:=by
 unfold q0C
 rw[q3N hi,q3N hj]
theorem q6K {W W':Nat→Bool}{pos:Nat→Nat}{k:Nat}(h:∀q,q<k→W (pos q)=W' (pos q)):q7P W pos k=q7P W' pos k:=by
 unfold q7P
 rw[Bool.eq_iff_iff,List.all_eq_true,List.all_eq_true]
 constructor
 ·intro g q hq;rw[←h q (List.mem_range.1 hq)];exact g q hq
 ·intro g q hq;rw[h q (List.mem_range.1 hq)];exact g q hq
theorem j0P {S S' G G' W W':Nat→Bool}{pos:Nat→Nat}{k k':Nat}(hk:k≤k')(h0:∀m,k≤m→m<k'→S' (pos m)=false)
  (h1:∀m,m<k→S' (pos m)=S (pos m))(h2:∀m,m<k→S (pos m)=true→G' (pos m)=G (pos m)∧∀q,q<m→W' (pos q)=W (pos q)):q4q S' G' W' pos k'=q4q S G W pos k:=by
 unfold q4q
 rw[Bool.eq_iff_iff,List.any_eq_true,List.any_eq_true]
 constructor
 ·rintro⟨m,hm,hv⟩
  have hm:=List.mem_range.1 hm
  rcases Nat.lt_or_ge m k with g|g
  ·refine⟨m,List.mem_range.2 g,?_⟩
   rw[h1 m g]at hv
   cases hs:S (pos m)with
   |false=>rw[hs]at hv;simp at hv
   |true =>
    obtain⟨e1,e2⟩:=h2 m g hs
    rw[hs,e1,q6K e2]at hv
    exact hv
  ·rw[h0 m g hm]at hv;simp at hv
 ·rintro⟨m,hm,hv⟩
  have hm:=List.mem_range.1 hm
  refine⟨m,List.mem_range.2 (by omega),?_⟩
  rw[h1 m hm]
  cases hs:S (pos m)with
  |false=>rw[hs]at hv;simp at hv
  |true =>
   obtain⟨e1,e2⟩:=h2 m hm hs
   rw[hs]at hv
   rw[e1,q6K e2]
   exact hv
theorem node_ext (nd:PNode)(L M:List LPt)(hL:Mono (L++M))(A B A' B':Nat→Nat→Nat→Bool)(ra rb R:Int)(hra:-1≤ra)(hrb:-1≤rb)(hsh:0≤nd.shi)(hop:q1R nd.kind=true→nd.sop=false)
  (hk:nd.kind=5∨nd.kind=2∨nd.kind=6∨nd.kind=7∨nd.kind=8∨nd.kind=9∨nd.kind=10∨nd.kind=11∨nd.kind=12∨nd.kind=13∨nd.kind=14∨nd.kind=15∨nd.kind=16∨nd.kind=17)
  (hR:R=if q1R nd.kind=true then q4e nd.shi (if rb > ra then rb else ra)else(if rb > ra then rb else ra))
  (hA:∀i,i<L.length→ra<(tmL L (L.length-1):Int)-tmL L i→∀x y,A' i x y=A i x y)(hB:∀i,i<L.length→rb<(tmL L (L.length-1):Int)-tmL L i→∀x y,B' i x y=B i x y)
  (i:Nat)(hi:i<L.length)(hs:R<(tmL L (L.length-1):Int)-tmL L i)(x y:Nat):qz nd (L++M) A' B' i x y=qz nd L A B i x y:=by
 have hmx:ra≤(if rb > ra then rb else ra)∧rb≤(if rb > ra then rb else ra)∧-1≤(if rb > ra then rb else ra):=by split<;>omega
 generalize (if rb > ra then rb else ra)=mx at *
 have hm:∀a c,a≤c→c<L.length→tmL L a≤tmL L c:=fun a c h1 h2=>by
  have:=hL a c h1 (by simp;omega)
  rw[q3N (by omega),q3N h2]at this
  exact this
 have hm2:∀c,L.length≤c→c<(L++M).length→tmL L (L.length-1)≤tmL (L++M) c:=fun c h1 h2=>by
  have:=hL (L.length-1) c (by omega) h2
  rw[q3N (by omega)]at this
  exact this
 unfold qz
 by_cases h5:nd.kind=5
 ·rw[if_pos h5,if_pos h5]
 rw[if_neg h5,if_neg h5]
 by_cases h2:nd.kind=2
 ·rw[if_pos h2,if_pos h2,j4O hi]
 rw[if_neg h2,if_neg h2]
 by_cases h6:nd.kind=6
 ·rw[if_neg (by rw[h6];decide)]at hR
  rw[if_pos h6,if_pos h6,hA i hi (by omega),hB i hi (by omega)]
 rw[if_neg h6,if_neg h6]
 by_cases h7:nd.kind=7
 ·rw[if_neg (by rw[h7];decide)]at hR
  rw[if_pos h7,if_pos h7,hA i hi (by omega),hB i hi (by omega)]
 rw[if_neg h7,if_neg h7]
 by_cases h8:nd.kind=8
 ·rw[if_neg (by rw[h8];decide)]at hR
  rw[if_pos h8,if_pos h8,hA i hi (by omega),hB i hi (by omega)]
 rw[if_neg h8,if_neg h8]
 by_cases h9:nd.kind=9
 ·rw[if_neg (by rw[h9];decide)]at hR
  rw[if_pos h9,if_pos h9]
  congr 1
  funext v
  rw[hA i hi (by omega),hA i hi (by omega)]
 rw[if_neg h9,if_neg h9]
 by_cases h10:nd.kind=10
 ·rw[if_neg (by rw[h10];decide)]at hR
  rw[if_pos h10,if_pos h10,q8q hi (by omega)]
  have:=hm (i-1) i (by omega) hi
  rw[hA (i-1) (by omega) (by omega)]
 rw[if_neg h10,if_neg h10]
 by_cases h11:nd.kind=11
 ·rw[if_pos (by rw[h11];decide)]at hR
  rw[if_pos h11,if_pos h11]
  have hR0:0≤R:=by rw[hR];unfold q4e;split<;>omega
  have hin:i+1<L.length:=by
   rcases Nat.lt_or_ge (i+1) L.length with g|g
   ·exact g
   ·rw[show L.length-1=i by omega]at hs;omega
  rw[q8q hi hin,decide_eq_true hin,decide_eq_true (show i+1<(L++M).length by simp;omega),Bool.true_and,Bool.true_and]
  cases hsp:q1H nd (q0C L i (i+1))with
  |false=>rfl
  |true =>
   have hso:=hop (by rw[h11];decide)
   unfold q1H at hsp
   rw[hso,Bool.false_or,Bool.and_eq_true,decide_eq_true_eq,decide_eq_true_eq]at hsp
   have hd:(q0C L i (i+1):Int)=(tmL L (i+1):Int)-tmL L i:=by have:=hm i (i+1) (by omega) hin;unfold q0C;omega
   rw[hA (i+1) hin]
   rw[hR]at hs
   unfold q4e at hs
   split at hs<;>omega
 rw[if_neg h11,if_neg h11]
 by_cases hb:q4n nd.kind=true
 ·rw[if_pos hb,if_pos hb]
  have hna:¬q1R nd.kind=true:=by
   intro ha
   unfold q4n at hb
   unfold q1R at ha
   simp at hb ha
   omega
  rw[if_neg hna]at hR
  apply j0P (zL _)
  ·intro m h1 h2;omega
  ·intro m h1
   show q1H nd (q0C (L++M) i (i-m))=q1H nd (q0C L i (i-m))
   rw[q8q hi (by omega)]
  ·intro m h1 _
   have key:∀q,q≤m→tmL L (i-q)≤tmL L i:=fun q hq=>hm (i-q) i (by omega) hi
   refine⟨?_,fun q hq=>?_⟩
   ·have:=key m (zL _)
    show q1L nd A' B' x y (i-m)=q1L nd A B x y (i-m)
    unfold q1L
    rw[hA (i-m) (by omega) (by omega),hB (i-m) (by omega) (by omega)]
   ·have:=key q (by omega)
    show q0N nd A' x y (i-q)=q0N nd A x y (i-q)
    unfold q0N
    rw[hA (i-q) (by omega) (by omega)]
 ·rw[if_neg hb,if_neg hb]
  have ha:q1R nd.kind=true:=by
   unfold q4n at hb
   simp at hb
   have:nd.kind=13∨nd.kind=16∨nd.kind=17:=by omega
   rcases this with h|h|h<;>rw[h]<;>decide
  have hso:=hop ha
  rw[if_pos ha]at hR
  have hsp:∀t,q1H nd t=true→(t:Int)≤nd.shi:=fun t h=>by
   unfold q1H at h
   rw[hso,Bool.false_or,Bool.and_eq_true,decide_eq_true_eq,decide_eq_true_eq]at h
   exact h.2
  have hRs:nd.shi≤R∧(mx≠-1→R=nd.shi+mx):=by
   rw[hR]
   unfold q4e
   split<;>omega
  apply j0P (by simp;omega)
  ·intro m h1 h2
   show q1H nd (q0C (L++M) i (i+m))=false
   cases hq:q1H nd (q0C (L++M) i (i+m))with
   |false=>rfl
   |true =>
    have:=hsp _ hq
    have g:=hm2 (i+m) (by omega) (by omega)
    have g2:=hm i (L.length-1) (by omega) (by omega)
    have hd:(q0C (L++M) i (i+m):Int)=(tmL (L++M) (i+m):Int)-tmL L i:=by unfold q0C;rw[q3N hi];omega
    omega
  ·intro m h1
   show q1H nd (q0C (L++M) i (i+m))=q1H nd (q0C L i (i+m))
   rw[q8q hi (by omega)]
  ·intro m h1 hq
   have hq:=hsp _ hq
   have g0:=hm i (i+m) (by omega) (by omega)
   have hd:(q0C L i (i+m):Int)=(tmL L (i+m):Int)-tmL L i:=by unfold q0C;omega
   have key:∀q,q≤m→tmL L (i+q)≤tmL L (i+m):=fun q hq=>hm (i+q) (i+m) (by omega) (by omega)
   have fin:∀q r,q≤m→r≤mx→-1≤r→r<(tmL L (L.length-1):Int)-tmL L (i+q):=fun q r h1 h2 h3=>by
    have:=key q h1
    by_cases e:mx = -1
    ·omega
    ·have:=hRs.2 e;omega
   refine⟨?_,fun q hq=>?_⟩
   ·show q1L nd A' B' x y (i+m)=q1L nd A B x y (i+m)
    unfold q1L
    rw[hA (i+m) (by omega) (fin m ra (zL _) hmx.1 hra),hB (i+m) (by omega) (fin m rb (zL _) hmx.2.1 hrb)]
   ·show q0N nd A' x y (i+q)=q0N nd A x y (i+q)
    unfold q0N
    rw[hA (i+q) (by omega) (fin q ra (by omega) hmx.1 hra)]
end Go.Proofs.YtiamjjonoeaggaaGreatDoor
