import Derived.Test.YtiamjjonoeaggabGreatDoorGA
import Derived.Test.YtiamjjonoeaggabGreatDoorG09
namespace Go.Proofs.YtiamjjonoeaggabGreatDoor
open Go.RowKit
def Mono (L:List LPt):Prop:=∀i j,i≤j→j<L.length→tmL L i≤tmL L j
theorem q3D {L M:List LPt}{i:Nat}(h:i<L.length):tmL (L++M) i=tmL L i:=by
 unfold tmL
 rw[List.getElem?_append_left h]
theorem j4W {L M:List LPt}{i:Nat}(h:i<L.length):q5y (L++M) i=q5y L i:=by
 unfold q5y
 rw[List.getElem?_append_left h]
theorem q8F {L M:List LPt}{i j:Nat}(hi:i<L.length)(hj:j<L.length):q0G (L++M) i j=q0G L i j:=by
 unfold q0G
 rw[q3D hi,q3D hj]
theorem q7a {W W':Nat→Bool}{pos:Nat→Nat}{k:Nat}(h:∀q,q<k→W (pos q)=W' (pos q)):q8f W pos k=q8f W' pos k:=by
 unfold q8f
 rw[Bool.eq_iff_iff,List.all_eq_true,List.all_eq_true]
 constructor
 ·intro g q hq;rw[←h q (List.mem_range.1 hq)];exact g q hq
 ·intro g q hq;rw[h q (List.mem_range.1 hq)];exact g q hq
theorem j1f {S S' G G' W W':Nat→Bool}{pos:Nat→Nat}{k k':Nat}(hk:k≤k')(h0:∀m,k≤m→m<k'→S' (pos m)=false)
  (h1:∀m,m<k→S' (pos m)=S (pos m))(h2:∀m,m<k→S (pos m)=true→G' (pos m)=G (pos m)∧∀q,q<m→W' (pos q)=W (pos q)):q4D S' G' W' pos k'=q4D S G W pos k:=by
 unfold q4D
 rw[Bool.eq_iff_iff,List.any_eq_true,List.any_eq_true]
 constructor
 ·rintro⟨m,hm,hv⟩
  have hm:=List.mem_range.1 hm
  rcases Nat.lt_or_ge m k with g|g
  ·refine⟨m,List.mem_range.2 g,?_⟩
   rw[h1 m g]at hv
   cases hs:S (pos m)with
   |false=>rw[hs]at hv;simp at hv
   |true =>
    obtain⟨e1,e2⟩:=h2 m g hs
    rw[hs,e1,q7a e2]at hv
    exact hv
  ·rw[h0 m g hm]at hv;simp at hv
 ·rintro⟨m,hm,hv⟩
  have hm:=List.mem_range.1 hm
  refine⟨m,List.mem_range.2 (by omega),?_⟩
  rw[h1 m hm]
  cases hs:S (pos m)with
  |false=>rw[hs]at hv;simp at hv
  |true =>
   obtain⟨e1,e2⟩:=h2 m hm hs
   rw[hs]at hv
   rw[e1,q7a e2]
   exact hv
theorem node_ext (nd:PNode)(L M:List LPt)(hL:Mono (L++M))(A B A' B':Nat→Nat→Nat→Bool)(ra rb R:Int)(hra:-1≤ra)(hrb:-1≤rb)(hsh:0≤nd.shi)(hop:q1X nd.kind=true→nd.sop=false)
  (hk:nd.kind=5∨nd.kind=2∨nd.kind=6∨nd.kind=7∨nd.kind=8∨nd.kind=9∨nd.kind=10∨nd.kind=11∨nd.kind=12∨nd.kind=13∨nd.kind=14∨nd.kind=15∨nd.kind=16∨nd.kind=17)
  (hR:R=if q1X nd.kind=true then q4q nd.shi (if rb > ra then rb else ra)else(if rb > ra then rb else ra))
  (hA:∀i,i<L.length→ra<(tmL L (L.length-1):Int)-tmL L i→∀x y,A' i x y=A i x y)(hB:∀i,i<L.length→rb<(tmL L (L.length-1):Int)-tmL L i→∀x y,B' i x y=B i x y)
  (i:Nat)(hi:i<L.length)(hs:R<(tmL L (L.length-1):Int)-tmL L i)(x y:Nat):qD nd (L++M) A' B' i x y=qD nd L A B i x y:=by
 have hmx:ra≤(if rb > ra then rb else ra)∧rb≤(if rb > ra then rb else ra)∧-1≤(if rb > ra then rb else ra):=by split<;>omega
 generalize (if rb > ra then rb else ra)=mx at *
 have hm:∀a c,a≤c→c<L.length→tmL L a≤tmL L c:=fun a c h1 h2=>by
  have:=hL a c h1 (by simp;omega)
  rw[q3D (by omega),q3D h2]at this
  exact this
 have hm2:∀c,L.length≤c→c<(L++M).length→tmL L (L.length-1)≤tmL (L++M) c:=fun c h1 h2=>by
  have:=hL (L.length-1) c (by omega) h2
  rw[q3D (by omega)]at this
  exact this
 unfold qD
 by_cases h5:nd.kind=5
 ·rw[if_pos h5,if_pos h5]
 rw[if_neg h5,if_neg h5]
 by_cases h2:nd.kind=2
 ·rw[if_pos h2,if_pos h2,j4W hi]
 rw[if_neg h2,if_neg h2]
 by_cases h6:nd.kind=6
 ·rw[if_neg (by rw[h6];decide)]at hR
  rw[if_pos h6,if_pos h6,hA i hi (by omega),hB i hi (by omega)]
 rw[if_neg h6,if_neg h6]
 by_cases h7:nd.kind=7
 ·rw[if_neg (by rw[h7];decide)]at hR
  rw[if_pos h7,if_pos h7,hA i hi (by omega),hB i hi (by omega)]
 rw[if_neg h7,if_neg h7]
 by_cases h8:nd.kind=8
 ·rw[if_neg (by rw[h8];decide)]at hR
  rw[if_pos h8,if_pos h8,hA i hi (by omega),hB i hi (by omega)]
 rw[if_neg h8,if_neg h8]
 by_cases h9:nd.kind=9
 ·rw[if_neg (by rw[h9];decide)]at hR
  rw[if_pos h9,if_pos h9]
  congr 1
  funext v
  rw[hA i hi (by omega),hA i hi (by omega)]
 rw[if_neg h9,if_neg h9]
 by_cases h10:nd.kind=10
 ·rw[if_neg (by rw[h10];decide)]at hR
  rw[if_pos h10,if_pos h10,q8F hi (by omega)]
  have:=hm (i-1) i (by omega) hi
  rw[hA (i-1) (by omega) (by omega)]
 rw[if_neg h10,if_neg h10]
 by_cases h11:nd.kind=11
 ·rw[if_pos (by rw[h11];decide)]at hR
  rw[if_pos h11,if_pos h11]
  have hR0:0≤R:=by rw[hR];unfold q4q;split<;>omega
  have hin:i+1<L.length:=by
   rcases Nat.lt_or_ge (i+1) L.length with g|g
   ·exact g
   ·rw[show L.length-1=i by omega]at hs;omega
  rw[q8F hi hin,decide_eq_true hin,decide_eq_true (show i+1<(L++M).length by simp;omega),Bool.true_and,Bool.true_and]
  cases hsp:q1N nd (q0G L i (i+1))with
  |false=>rfl
  |true =>
   have hso:=hop (by rw[h11];decide)
   unfold q1N at hsp
   rw[hso,Bool.false_or,Bool.and_eq_true,decide_eq_true_eq,decide_eq_true_eq]at hsp
   have hd:(q0G L i (i+1):Int)=(tmL L (i+1):Int)-tmL L i:=by have:=hm i (i+1) (by omega) hin;unfold q0G;omega
   rw[hA (i+1) hin]
   rw[hR]at hs
   unfold q4q at hs
   split at hs<;>omega
 rw[if_neg h11,if_neg h11]
 by_cases hb:q4z nd.kind=true
 ·rw[if_pos hb,if_pos hb]
  have hna:¬q1X nd.kind=true:=by
   intro ha
   unfold q4z at hb
   unfold q1X at ha
   simp at hb ha
   omega
  rw[if_neg hna]at hR
  apply j1f (zL _)
  ·intro m h1 h2;omega
  ·intro m h1
   show q1N nd (q0G (L++M) i (i-m))=q1N nd (q0G L i (i-m))
   rw[q8F hi (by omega)]
  ·intro m h1 _
   have key:∀q,q≤m→tmL L (i-q)≤tmL L i:=fun q hq=>hm (i-q) i (by omega) hi
   refine⟨?_,fun q hq=>?_⟩
   ·have:=key m (zL _)
    show q1R nd A' B' x y (i-m)=q1R nd A B x y (i-m)
    unfold q1R
    rw[hA (i-m) (by omega) (by omega),hB (i-m) (by omega) (by omega)]
   ·have:=key q (by omega)
    show q0S nd A' x y (i-q)=q0S nd A x y (i-q)
    unfold q0S
    rw[hA (i-q) (by omega) (by omega)]
 ·rw[if_neg hb,if_neg hb]
  have ha:q1X nd.kind=true:=by
   unfold q4z at hb
   simp at hb
   have:nd.kind=13∨nd.kind=16∨nd.kind=17:=by omega
   rcases this with h|h|h<;>rw[h]<;>decide
  have hso:=hop ha
  rw[if_pos ha]at hR
  have hsp:∀t,q1N nd t=true→(t:Int)≤nd.shi:=fun t h=>by
   unfold q1N at h
   rw[hso,Bool.false_or,Bool.and_eq_true,decide_eq_true_eq,decide_eq_true_eq]at h
   exact h.2
  have hRs:nd.shi≤R∧(mx≠-1→R=nd.shi+mx):=by
   rw[hR]
   unfold q4q
   split<;>omega
  apply j1f (by simp;omega)
  ·intro m h1 h2
   show q1N nd (q0G (L++M) i (i+m))=false
   cases hq:q1N nd (q0G (L++M) i (i+m))with
   |false=>rfl
   |true =>
    have:=hsp _ hq
    have g:=hm2 (i+m) (by omega) (by omega)
    have g2:=hm i (L.length-1) (by omega) (by omega)
    have hd:(q0G (L++M) i (i+m):Int)=(tmL (L++M) (i+m):Int)-tmL L i:=by unfold q0G;rw[q3D hi];omega
    omega
  ·intro m h1
   show q1N nd (q0G (L++M) i (i+m))=q1N nd (q0G L i (i+m))
   rw[q8F hi (by omega)]
  ·intro m h1 hq
   have hq:=hsp _ hq
   have g0:=hm i (i+m) (by omega) (by omega)
   have hd:(q0G L i (i+m):Int)=(tmL L (i+m):Int)-tmL L i:=by unfold q0G;omega
   have key:∀q,q≤m→tmL L (i+q)≤tmL L (i+m):=fun q hq=>hm (i+q) (i+m) (by omega) (by omega)
   have fin:∀q r,q≤m→r≤mx→-1≤r→r<(tmL L (L.length-1):Int)-tmL L (i+q):=fun q r h1 h2 h3=>by
    have:=key q h1
    by_cases e:mx = -1
    ·omega
    ·have:=hRs.2 e;omega
   refine⟨?_,fun q hq=>?_⟩
   ·show q1R nd A' B' x y (i+m)=q1R nd A B x y (i+m)
    unfold q1R
    rw[hA (i+m) (by omega) (fin m ra (zL _) hmx.1 hra),hB (i+m) (by omega) (fin m rb (zL _) hmx.2.1 hrb)]
   ·show q0S nd A' x y (i+q)=q0S nd A x y (i+q)
    unfold q0S
    rw[hA (i+q) (by omega) (fin q ra (by omega) hmx.1 hra)]
end Go.Proofs.YtiamjjonoeaggabGreatDoor
