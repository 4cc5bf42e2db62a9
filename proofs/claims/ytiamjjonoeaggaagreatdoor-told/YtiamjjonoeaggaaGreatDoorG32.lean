import Derived.Test.YtiamjjonoeaggaaGreatDoorGA
import Derived.Test.YtiamjjonoeaggaaGreatDoorG01
import Derived.Test.YtiamjjonoeaggaaGreatDoorG09
import Derived.Test.YtiamjjonoeaggaaGreatDoorG27
namespace Go.Proofs.YtiamjjonoeaggaaGreatDoor
open Go.RowKit
def Mono (L:List LPt):Prop:=∀i j,i≤j→j<L.length→tmL L i≤tmL L j
theorem q3N {L M:List LPt}{i:Nat}(h:i<L.length):tmL (L++M) i=tmL L i:=by
 unfold tmL
 rw[List.getElem?_append_left h]
theorem j4O {L M:List LPt}{i:Nat}(h:i<L.length):q5n (L++M) i=q5n L i:=by
 unfold q5n
 rw[List.getElem?_append_left h]
theorem q8q {L M:List LPt}{i j:Nat}(hi:i<L.length)(hj:j<L.length):q0C (L++M) i j=q0C L i j:=by
 unfold q0C
 rw[q3N hi,q3N hj]
theorem q6K {W W':Nat→Bool}{pos:Nat→Nat}{k:Nat}(h:∀q,q<k→W (pos q)=W' (pos q)):q7P W pos k=q7P W' pos k:=by
 unfold q7P
 rw[Bool.eq_iff_iff,List.all_eq_true,List.all_eq_true]
 constructor
 ·intro g q hq;rw[←h q (List.mem_range.1 hq)];exact g q hq
 ·intro g q hq;rw[h q (List.mem_range.1 hq)];exact g q hq
theorem j0P {S S' G G' W W':Nat→Bool}{pos:Nat→Nat}{k k':Nat}(hk:k≤k')(h0:∀m,k≤m→m<k'→S' (pos m)=false)
  (h1:∀m,m<k→S' (pos m)=S (pos m))(h2:∀m,m<k→S (pos m)=true→G' (pos m)=G (pos m)∧∀q,q<m→W' (pos q)=W (pos q)):q4q S' G' W' pos k'=q4q S G W pos k:=by
 unfold q4q
 rw[Bool.eq_iff_iff,List.any_eq_true,List.any_eq_true]
 constructor
 ·rintro⟨m,hm,hv⟩
  have hm:=List.mem_range.1 hm
  rcases Nat.lt_or_ge m k with g|g
  ·refine⟨m,List.mem_range.2 g,?_⟩
   rw[h1 m g]at hv
   cases hs:S (pos m)with
   |false=>rw[hs]at hv;simp at hv
   |true =>
    obtain⟨e1,e2⟩:=h2 m g hs
    rw[hs,e1,q6K e2]at hv
    exact hv
  ·rw[h0 m g hm]at hv;simp at hv
 ·rintro⟨m,hm,hv⟩
  have hm:=List.mem_range.1 hm
  refine⟨m,List.mem_range.2 (by omega),?_⟩
  rw[h1 m hm]
  cases hs:S (pos m)with
  |false=>rw[hs]at hv;simp at hv
  |true =>
   obtain⟨e1,e2⟩:=h2 m hm hs
   rw[hs]at hv
   rw[e1,q6K e2]
   exact hv
theorem node_ext (nd:PNode)(L M:List LPt)(hL:Mono (L++M))(A B A' B':Nat→Nat→Nat→Bool)(ra rb R:Int)(hra:-1≤ra)(hrb:-1≤rb)(hsh:0≤nd.shi)(hop:q1R nd.kind=true→nd.sop=false)
  (hk:nd.kind=5∨nd.kind=2∨nd.kind=6∨nd.kind=7∨nd.kind=8∨nd.kind=9∨nd.kind=10∨nd.kind=11∨nd.kind=12∨nd.kind=13∨nd.kind=14∨nd.kind=15∨nd.kind=16∨nd.kind=17)
  (hR:R=if q1R nd.kind=true then q4e nd.shi (if rb > ra then rb else ra)else(if rb > ra then rb else ra))
  (hA:∀i,i<L.length→ra<(tmL L (L.length-1):Int)-tmL L i→∀x y,A' i x y=A i x y)(hB:∀i,i<L.length→rb<(tmL L (L.length-1):Int)-tmL L i→∀x y,B' i x y=B i x y)
  (i:Nat)(hi:i<L.length)(hs:R<(tmL L (L.length-1):Int)-tmL L i)(x y:Nat):qz nd (L++M) A' B' i x y=qz nd L A B i x y:=by
 have hmx:ra≤(if rb > ra then rb else ra)∧rb≤(if rb > ra then rb else ra)∧-1≤(if rb > ra then rb else ra):=by split<;>omega
 generalize (if rb > ra then rb else ra)=mx at *
 have hm:∀a c,a≤c→c<L.length→tmL L a≤tmL L c:=fun a c h1 h2=>by
  have:=hL a c h1 (by simp;omega)
  rw[q3N (by omega),q3N h2]at this
  exact this
 have hm2:∀c,L.length≤c→c<(L++M).length→tmL L (L.length-1)≤tmL (L++M) c:=fun c h1 h2=>by
  have:=hL (L.length-1) c (by omega) h2
  rw[q3N (by omega)]at this
  exact this
 unfold qz
 by_cases h5:nd.kind=5
 ·rw[if_pos h5,if_pos h5]
 rw[if_neg h5,if_neg h5]
 by_cases h2:nd.kind=2
 ·rw[if_pos h2,if_pos h2,j4O hi]
 rw[if_neg h2,if_neg h2]
 by_cases h6:nd.kind=6
 ·rw[if_neg (by rw[h6];decide)]at hR
  rw[if_pos h6,if_pos h6,hA i hi (by omega),hB i hi (by omega)]
 rw[if_neg h6,if_neg h6]
 by_cases h7:nd.kind=7
 ·rw[if_neg (by rw[h7];decide)]at hR
  rw[if_pos h7,if_pos h7,hA i hi (by omega),hB i hi (by omega)]
 rw[if_neg h7,if_neg h7]
 by_cases h8:nd.kind=8
 ·rw[if_neg (by rw[h8];decide)]at hR
  rw[if_pos h8,if_pos h8,hA i hi (by omega),hB i hi (by omega)]
 rw[if_neg h8,if_neg h8]
 by_cases h9:nd.kind=9
 ·rw[if_neg (by rw[h9];decide)]at hR
  rw[if_pos h9,if_pos h9]
  congr 1
  funext v
  rw[hA i hi (by omega),hA i hi (by omega)]
 rw[if_neg h9,if_neg h9]
 by_cases h10:nd.kind=10
 ·rw[if_neg (by rw[h10];decide)]at hR
  rw[if_pos h10,if_pos h10,q8q hi (by omega)]
  have:=hm (i-1) i (by omega) hi
  rw[hA (i-1) (by omega) (by omega)]
 rw[if_neg h10,if_neg h10]
 by_cases h11:nd.kind=11
 ·rw[if_pos (by rw[h11];decide)]at hR
  rw[if_pos h11,if_pos h11]
  have hR0:0≤R:=by rw[hR];unfold q4e;split<;>omega
  have hin:i+1<L.length:=by
   rcases Nat.lt_or_ge (i+1) L.length with g|g
   ·exact g
   ·rw[show L.length-1=i by omega]at hs;omega
  rw[q8q hi hin,decide_eq_true hin,decide_eq_true (show i+1<(L++M).length by simp;omega),Bool.true_and,Bool.true_and]
  cases hsp:q1H nd (q0C L i (i+1))with
  |false=>rfl
  |true =>
   have hso:=hop (by rw[h11];decide)
   unfold q1H at hsp
   rw[hso,Bool.false_or,Bool.and_eq_true,decide_eq_true_eq,decide_eq_true_eq]at hsp
   have hd:(q0C L i (i+1):Int)=(tmL L (i+1):Int)-tmL L i:=by have:=hm i (i+1) (by omega) hin;unfold q0C;omega
   rw[hA (i+1) hin]
   rw[hR]at hs
   unfold q4e at hs
   split at hs<;>omega
 rw[if_neg h11,if_neg h11]
 by_cases hb:q4n nd.kind=true
 ·rw[if_pos hb,if_pos hb]
  have hna:¬q1R nd.kind=true:=by
   intro ha
   unfold q4n at hb
   unfold q1R at ha
   simp at hb ha
   omega
  rw[if_neg hna]at hR
  apply j0P (zL _)
  ·intro m h1 h2;omega
  ·intro m h1
   show q1H nd (q0C (L++M) i (i-m))=q1H nd (q0C L i (i-m))
   rw[q8q hi (by omega)]
  ·intro m h1 _
   have key:∀q,q≤m→tmL L (i-q)≤tmL L i:=fun q hq=>hm (i-q) i (by omega) hi
   refine⟨?_,fun q hq=>?_⟩
   ·have:=key m (zL _)
    show q1L nd A' B' x y (i-m)=q1L nd A B x y (i-m)
    unfold q1L
    rw[hA (i-m) (by omega) (by omega),hB (i-m) (by omega) (by omega)]
   ·have:=key q (by omega)
    show q0N nd A' x y (i-q)=q0N nd A x y (i-q)
    unfold q0N
    rw[hA (i-q) (by omega) (by omega)]
 ·rw[if_neg hb,if_neg hb]
  have ha:q1R nd.kind=true:=by
   unfold q4n at hb
   simp at hb
   have:nd.kind=13∨nd.kind=16∨nd.kind=17:=by omega
   rcases this with h|h|h<;>rw[h]<;>decide
  have hso:=hop ha
  rw[if_pos ha]at hR
  have hsp:∀t,q1H nd t=true→(t:Int)≤nd.shi:=fun t h=>by
   unfold q1H at h
   rw[hso,Bool.false_or,Bool.and_eq_true,decide_eq_true_eq,decide_eq_true_eq]at h
   exact h.2
  have hRs:nd.shi≤R∧(mx≠-1→R=nd.shi+mx):=by
   rw[hR]
   unfold q4e
   split<;>omega
  apply j0P (by simp;omega)
  ·intro m h1 h2
   show q1H nd (q0C (L++M) i (i+m))=false
   cases hq:q1H nd (q0C (L++M) i (i+m))with
   |false=>rfl
   |true =>
    have:=hsp _ hq
    have g:=hm2 (i+m) (by omega) (by omega)
    have g2:=hm i (L.length-1) (by omega) (by omega)
    have hd:(q0C (L++M) i (i+m):Int)=(tmL (L++M) (i+m):Int)-tmL L i:=by unfold q0C;rw[q3N hi];omega
    omega
  ·intro m h1
   show q1H nd (q0C (L++M) i (i+m))=q1H nd (q0C L i (i+m))
   rw[q8q hi (by omega)]
  ·intro m h1 hq
   have hq:=hsp _ hq
   have g0:=hm i (i+m) (by omega) (by omega)
   have hd:(q0C L i (i+m):Int)=(tmL L (i+m):Int)-tmL L i:=by unfold q0C;omega
   have key:∀q,q≤m→tmL L (i+q)≤tmL L (i+m):=fun q hq=>hm (i+q) (i+m) (by omega) (by omega)
   have fin:∀q r,q≤m→r≤mx→-1≤r→r<(tmL L (L.length-1):Int)-tmL L (i+q):=fun q r h1 h2 h3=>by
    have:=key q h1
    by_cases e:mx = -1
    ·omega
    ·have:=hRs.2 e;omega
   refine⟨?_,fun q hq=>?_⟩
   ·show q1L nd A' B' x y (i+m)=q1L nd A B x y (i+m)
    unfold q1L
    rw[hA (i+m) (by omega) (fin m ra (zL _) hmx.1 hra),hB (i+m) (by omega) (fin m rb (zL _) hmx.2.1 hrb)]
   ·show q0N nd A' x y (i+q)=q0N nd A x y (i+q)
    unfold q0N
    rw[hA (i+q) (by omega) (fin q ra (by omega) hmx.1 hra)]
structure LogOk (L:List LPt):Prop where
 mono:Mono L
 zero:tmL L 0=0
theorem LogOk.nil:LogOk []:=⟨fun i j _ h=>absurd h (by simp),rfl⟩
theorem j7L {L:List LPt}(h:LogOk L)(st:Nat)(hn:0<L.length):q7B L st=tmL L (L.length-1)+toR L st:=by
 unfold q7B
 rw[if_neg (by omega)]
 unfold q0C
 rw[h.zero]
 omega
theorem j4b (L:List LPt)(p:LPt):tmL (L++[p]) L.length=p.time:=by
 unfold tmL
 rw[List.getElem?_append_right (zL _),Nat.sub_self]
 rfl
theorem LogOk.add {L:List LPt}(h:LogOk L)(st:Nat)(l:List Hp):LogOk (L++[⟨st,q7B L st,l⟩]):=by
 constructor
 ·intro i j hij hj
  simp only[List.length_append,List.length_cons,List.length_nil]at hj
  rcases Nat.lt_or_ge j L.length with g|g
  ·rw[q3N g,q3N (Nat.lt_of_le_of_lt hij g)]
   exact h.mono i j hij g
  ·have e:j=L.length:=by omega
   subst e
   rw[j4b]
   rcases Nat.lt_or_ge i L.length with gi|gi
   ·rw[q3N gi,j7L h st (by omega)]
    have:=h.mono i (L.length-1) (by omega) (by omega)
    show tmL L i≤tmL L (L.length-1)+toR L st
    omega
   ·have e:i=L.length:=by omega
    subst e
    rw[j4b]
    exact zL _
 ·by_cases hn:L.length=0
  ·have:L=[]:=List.length_eq_zero_iff.1 hn
   subst this
   rfl
  ·rw[q3N (by omega)]
   exact h.zero
theorem j7v (L:List LPt)(rc:Int):∀f c,c≤L.length→L.length≤c+f→c≤q3S L rc f c∧q3S L rc f c≤L.length∧(∀k,c≤k→k<q3S L rc f c→rc<(q0C L k (L.length-1):Int))∧(q3S L rc f c<L.length→¬rc<(q0C L (q3S L rc f c) (L.length-1):Int)):=by
 intro f
 induction f with
 |zero=>intro c h1 h2;exact⟨zL _,h1,fun k k1 k2=>absurd k2 (by simp[q3S];omega),fun h=>absurd h (by simp[q3S];omega)⟩
 |succ f ih =>
  intro c h1 h2
  rw[q3S]
  by_cases hc:c+1≤L.length∧rc<(q0C L c (L.length-1):Int)
  ·rw[if_pos hc]
   obtain⟨a1,a2,a3,a4⟩:=ih (c+1) hc.1 (by omega)
   refine⟨by omega,a2,fun k k1 k2=>?_,a4⟩
   by_cases e:k=c
   ·rw[e];exact hc.2
   ·exact a3 k (by omega) k2
  ·rw[if_neg hc]
   exact⟨zL _,h1,fun k k1 k2=>absurd k2 (by omega),fun h h'=>hc ⟨by omega,h'⟩⟩
theorem j8C {L:List LPt}(hM:Mono L){a c:Nat}(h:a≤c)(hc:c<L.length):q0C L c (L.length-1)≤q0C L a (L.length-1):=by
 have h1:=hM a c h hc
 have h2:=hM c (L.length-1) (by omega) (by omega)
 unfold q0C
 omega
theorem sett_iff {L:List LPt}(hM:Mono L)(rc:Int){c:Nat}(hc:c<L.length):rc<(q0C L c (L.length-1):Int)↔c<q0u L rc:=by
 obtain⟨_,a2,a3,a4⟩:=j7v L rc L.length 0 (zZ _) (by omega)
 constructor
 ·intro h
  rcases Nat.lt_or_ge c (q0u L rc)with g|g
  ·exact g
  ·have hs:q0u L rc<L.length:=by omega
   have:=j8C hM g hc
   exact absurd (show rc<(q0C L (q0u L rc) (L.length-1):Int)by omega) (a4 hs)
 ·intro h
  exact a3 c (zZ _) h
theorem j3V {L:List LPt}(hM:Mono L)(rc:Int){c:Nat}(hc:c<L.length):rc<(tmL L (L.length-1):Int)-(tmL L c:Int)↔c<q0u L rc:=by
 rw[←sett_iff hM rc hc]
 have h2:=hM c (L.length-1) (by omega) (by omega)
 unfold q0C
 omega
end Go.Proofs.YtiamjjonoeaggaaGreatDoor
