import Derived.Test.YtiamjjonoeaggabGreatDoorGA
import Derived.Test.YtiamjjonoeaggabGreatDoorGB
import Derived.Test.YtiamjjonoeaggabGreatDoorG38
import Derived.Test.YtiamjjonoeaggabGreatDoorG40
import Derived.Test.YtiamjjonoeaggabGreatDoorG41
set_option maxRecDepth 100000
set_option maxHeartbeats 16000000
namespace Go.Proofs.YtiamjjonoeaggabGreatDoor
open Go.RowKit
def apT (F:zg)(X:List LnK)(i:Nat):Nat:=if i≤X.length then qp (qa ((X.map qu).take i)) (zf (qb (zs F)))else X.length
def ApS (F G:zg)(X Y:List LnK)(w W:World)(b1 gn1 cn1 b2 gn2 cn2:Nat)(vl vk vw:Value)(i m:Nat):Prop:=
 ApAt w W b1 gn1 cn1 (qb (zs F)) b2 gn2 cn2 (qb (zs G)) vl vk vw (X.map q1F) (Y.map q1F) (j0g F X) (qa ((X.map qu).take i)) (apT F X i) (decide (X.length<i)) (qa ((Y.map qu).take m)) (qp (qa ((Y.map qu).take m)) (zf (qb (zs G))))
theorem apT_le (F:zg)(X:List LnK)(i:Nat):apT F X i≤X.length:=by
 unfold apT
 split
 ·have:=q3t (qa ((X.map qu).take i)) (zf (qb (zs F)))
  rw[q2o,List.length_take,List.length_map]at this
  omega
 ·exact zL _
theorem apT_mono (F:zg)(X:List LnK)(i:Nat):apT F X i≤apT F X (i+1):=by
 by_cases h:i<X.length
 ·have hk:i<(X.map qu).length:=by simpa using h
  have:=q7N (q7A ((X.map qu).take i)) (X.map qu)[i] (zf (qb (zs F)))
  rw[←q3H _ i hk]at this
  unfold apT
  rw[if_pos (by omega),if_pos (by omega)]
  exact this
 ·have e:apT F X (i+1)=X.length:=by unfold apT;rw[if_neg (by omega)]
  rw[e]
  exact apT_le F X i
theorem j3w {X:List LnK}{i:Nat}(h:X.length≤i):qa ((X.map qu).take i)=q4p X:=by
 unfold q4p
 rw[List.take_of_length_le (by simpa using h)]
theorem ap_feed1 {F G:zg}{X Y:List LnK}{w W:World}{b1 gn1 cn1 b2 gn2 cn2:Nat}{vl vk vw:Value}{i m:Nat}(hc:(zA (zs F)).1=0)(hb:q1k (qb (zs F))=q1k F)(hok:∀k (h:k<(X.map qu).length),LinOk (qa ((X.map qu).take k)) ((X.map q1F)[k]'(by simpa using h)).2.2.2 (X.map qu)[k])(hi:i<X.length)(h:ApS F G X Y w W b1 gn1 cn1 b2 gn2 cn2 vl vk vw i m) :
  Calls Tryz.prog 10 #[.pointer (some ⟨b1,0,none⟩),bs ((X.map q1F)[i]'(by simpa using hi)).2.2.2] W fun e w'=>∃v,e=.returned (.tuple #[v,.int .i64 0,.int .i64 0])∧W.heap.size≤w'.heap.size∧w'.ownsRow W.heap.size 45 12 v (apT F X (i+1)-apT F X i) (zV (qI F (q4p X) (apT F X i) (apT F X (i+1))))∧ApS F G X Y w w' b1 gn1 cn1 b2 gn2 cn2 vl vk vw (i+1) m:=by
 obtain⟨hG,hah,_⟩:=q2M hc
 have hk:i<(X.map qu).length:=by simpa using hi
 have e1:apT F X i=qp (qa ((X.map qu).take i)) (zf (qb (zs F))):=by unfold apT;rw[if_pos (by omega)]
 have e2:apT F X (i+1)=qp (qa ((X.map qu).take (i+1))) (zf (qb (zs F))):=by unfold apT;rw[if_pos (by omega)]
 unfold ApS at h ⊢
 rw[e1,decide_eq_false (by omega)]at h
 refine(ApAt.feed1 hG hah hk (hok i hk) h).mono ?_
 rintro e w' ⟨v,rfl,h0,h1,h2⟩
 refine⟨v,rfl,h0,?_,?_⟩
 ·rw[q0q,j0d hb]at h1
  rw[e1,e2]
  exact h1
 ·rw[e2,decide_eq_false (by omega)]
  exact h2
theorem ap_end1 {F G:zg}{X Y:List LnK}{w W:World}{b1 gn1 cn1 b2 gn2 cn2:Nat}{vl vk vw:Value}{m:Nat}(hc:(zA (zs F)).1=0)(hb:q1k (qb (zs F))=q1k F)(h:ApS F G X Y w W b1 gn1 cn1 b2 gn2 cn2 vl vk vw X.length m) :
  Calls Tryz.prog 17 #[.pointer (some ⟨b1,0,none⟩)] W fun e w'=>∃v,e=.returned (.tuple #[v,.int .i64 0])∧W.heap.size≤w'.heap.size∧w'.ownsRow W.heap.size 45 12 v (apT F X (X.length+1)-apT F X X.length) (zV (qI F (q4p X) (apT F X X.length) (apT F X (X.length+1))))∧ApS F G X Y w w' b1 gn1 cn1 b2 gn2 cn2 vl vk vw (X.length+1) m:=by
 obtain⟨hG,_,_⟩:=q2M hc
 have e2:apT F X (X.length+1)=X.length:=by unfold apT;rw[if_neg (by omega)]
 unfold ApS at h ⊢
 rw[j3w (zL _),decide_eq_false (by omega)]at h
 refine(ApAt.end1 hG h).mono ?_
 rintro e w' ⟨v,rfl,h0,h1,h2⟩
 rw[q6A]at h1 h2
 refine⟨v,rfl,h0,?_,?_⟩
 ·rw[q0q,j0d hb]at h1
  rw[e2]
  exact h1
 ·rw[e2,decide_eq_true (by omega),j3w (by omega)]
  exact h2
theorem ap_feed2 {F G:zg}{X Y:List LnK}{w W:World}{b1 gn1 cn1 b2 gn2 cn2:Nat}{vl vk vw:Value}{i m:Nat}(hc:(zA (zs G)).1=0)(hok:∀k (h:k<(Y.map qu).length),LinOk (qa ((Y.map qu).take k)) ((Y.map q1F)[k]'(by simpa using h)).2.2.2 (Y.map qu)[k])(hm:m<Y.length)(h:ApS F G X Y w W b1 gn1 cn1 b2 gn2 cn2 vl vk vw i m) :
  Calls Tryz.prog 10 #[.pointer (some ⟨b2,0,none⟩),bs ((Y.map q1F)[m]'(by simpa using hm)).2.2.2] W fun e w'=>∃(v:Value) (n:Nat) (xs:List Value),e=.returned (.tuple #[v,.int .i64 0,.int .i64 0])∧n≤40∧W.heap.size≤w'.heap.size∧w'.ownsRow W.heap.size 45 12 v n xs∧(∀(base':Nat) (v':Value) (n':Nat) (xs':List Value),W.ownsRow base' 45 12 v' n' xs'→w'.ownsRow base' 45 12 v' n' xs')∧ApS F G X Y w w' b1 gn1 cn1 b2 gn2 cn2 vl vk vw i (m+1):=by
 obtain⟨hG,hah,_⟩:=q2M hc
 have hk:m<(Y.map qu).length:=by simpa using hm
 exact ApAt.feed2 hG hah hk (hok m hk) h
theorem ap_pass {F G:zg}{X Y:List LnK}{w W:World}{b1 gn1 cn1 b2 gn2 cn2:Nat}{vl vk vw:Value}{i m:Nat}(hm:Y.length≤m)(h:ApS F G X Y w W b1 gn1 cn1 b2 gn2 cn2 vl vk vw i m):ApS F G X Y w W b1 gn1 cn1 b2 gn2 cn2 vl vk vw i (m+1):=by
 unfold ApS at h ⊢
 rw[j3w hm]at h
 rw[j3w (X:=Y) (i:=m+1) (by omega)]
 exact h
theorem ap_below {F G:zg}{X Y:List LnK}{w W W':World}{b1 gn1 cn1 b2 gn2 cn2:Nat}{vl vk vw:Value}{i m:Nat}(h:ApS F G X Y w W b1 gn1 cn1 b2 gn2 cn2 vl vk vw i m)(hb:Below W.heap.size W W'):ApS F G X Y w W' b1 gn1 cn1 b2 gn2 cn2 vl vk vw i m:=ApAt.below h hb
theorem ap_marks {F G:zg}{X Y:List LnK}{w W W':World}{b1 gn1 cn1 b2 gn2 cn2:Nat}{vl vk vw:Value}{i m:Nat}(h:ApS F G X Y w W b1 gn1 cn1 b2 gn2 cn2 vl vk vw i m){bl:List Nat}(ho:OnlyB bl W W')(hk:KV bl W)(hb:∀k∈bl,w.heap.size≤k∧vw.ownBlock≠some k):ApS F G X Y w W' b1 gn1 cn1 b2 gn2 cn2 vl vk vw i m:=ApAt.marks h ho hk hb
theorem j6C {W:World}{base g c n:Nat}{xs:List Value}{Y:List Ver}(h:W.ownsRow base 45 12 (.slice (some ⟨g,0,none⟩) n c) n xs)(hn:n=Y.length){j:Nat}(hj:j<n)(hx:∀p,j*12≤p→xs[p]?=(zV Y)[p]?):(Instr.loadAt 45 (.pointer (some ⟨g,j*12,none⟩))).run Tryz.prog W=.ok (.agg (q3O (Y[j]'(by omega))).toArray) W:=by
 refine run_loadAt_mid W g (j*12) 45 (q3O (Y[j]'(by omega))) _ (fun q v hv=>?_) Tryz.underlying45 rfl (by kernel_rfl)
 have hq:q<12:=(List.getElem?_eq_some_iff.1 hv).1
 rw[h.cellAt _ (by omega),hx _ (by omega),j2m Y j (by omega) q hq]
 exact hv
theorem exec_neqv {oi:Oper}{a:Act}{w:World}(x y:Operand)(z:TypeId)(ho:oi.op=.binOp .neq 45 x y z)(V:Value)(v:Ver)(hV:V=.agg (q3O v).toArray)(hx:a.eval x=V)(hy:a.eval y=V):(execOp a.eval oi).run Tryz.prog w=.ok (.value (.bool false)) w:=by
 subst hV
 unfold execOp
 simp only[ho,hx,hy,Sem.run_bind,run_eqGuard_agg w _ _ _ _ _ _ (show Tryz.prog.eqGuardType Tryz.prog.depth 45=false by kernel_rfl),Result.andThen_ok,run_neq_struct,j6D,Sem.run_pure]
 rfl
theorem ApAt.turn1 {w W:World}{b1 gn1 cn1:Nat}{F1:zg}{b2 gn2 cn2:Nat}{F2:zg}{vl vk vw:Value}{TX TK:List LnV}{X:List Ver}{L1:List LPt}{t1:Nat}{e1:Bool}{L2:List LPt}{t2:Nat}(h:ApAt w W b1 gn1 cn1 F1 b2 gn2 cn2 F2 vl vk vw TX TK X L1 t1 e1 L2 t2){f:FuncId}{args:Array Value}{Post:Ending→World→Prop}{L1':List LPt}{t1':Nat}{e1':Bool}
  (hc:∀(ao:OA) (cap:Nat) (PL:List PPt),MonAt W b1 gn1 cn1 ao cap F1 PL t1 e1→zz PL=L1→Calls Tryz.prog f args W fun e w'=>Post e w'∧q1q W w' b1 gn1 cn1 ao F1 L1' t1' e1') :
  Calls Tryz.prog f args W fun e w'=>Post e w'∧W.heap.size≤w'.heap.size∧(∀(base':Nat) (v':Value) (n':Nat) (xs':List Value),W.ownsRow base' 45 12 v' n' xs'→w'.ownsRow base' 45 12 v' n' xs')∧ApAt w w' b1 gn1 cn1 F1 b2 gn2 cn2 F2 vl vk vw TX TK X L1' t1' e1' L2 t2:=by
 obtain⟨ao1,cap1,PL1,ao2,cap2,PL2,m1,p1,m2,p2,s1,s2⟩:=h.mons
 refine(hc ao1 cap1 PL1 m1 p1).mono ?_
 rintro e w' ⟨hp,ao',cap',PL',q1,q2,q3,q4⟩
 have hl2:=j1u m2
 refine⟨hp,q3.size,fun _ _ _ _ hr=>q0E hr q3 m1.kinds (by decide) (by decide),⟨ao',cap',PL',ao2,cap2,PL2,q1,q2,m2.keep q3 m1.kinds (fun hm=>(s1 _ hm).2 (by simp)) (fun k hk hm=>(s1 _ hm).2 (by simp[hk])),p2,fun q hq=>?_,s2⟩,q0E h.rowL q3 m1.kinds (by decide) (by decide),q0E h.rowK q3 m1.kinds (by decide) (by decide),q0E h.want q3 m1.kinds (by decide) (by decide),h.bel.trans (q3.below h.bel.size (fun q hq=>(s1 q hq).1))⟩
 rcases List.mem_cons.1 hq with rfl|hq
 ·exact s1 _ (by simp)
 ·rcases q4 q hq with e|e
  ·exact s1 q (by simp[e])
  ·exact⟨zM h.bel.size e,fun hm=>by have:=hl2 q hm;omega⟩
theorem ApAt.turn2 {w W:World}{b1 gn1 cn1:Nat}{F1:zg}{b2 gn2 cn2:Nat}{F2:zg}{vl vk vw:Value}{TX TK:List LnV}{X:List Ver}{L1:List LPt}{t1:Nat}{e1:Bool}{L2:List LPt}{t2:Nat}(h:ApAt w W b1 gn1 cn1 F1 b2 gn2 cn2 F2 vl vk vw TX TK X L1 t1 e1 L2 t2){f:FuncId}{args:Array Value}{Post:Ending→World→Prop}{L2':List LPt}{t2':Nat}
  (hc:∀(ao:OA) (cap:Nat) (PL:List PPt),MonAt W b2 gn2 cn2 ao cap F2 PL t2 false→zz PL=L2→Calls Tryz.prog f args W fun e w'=>Post e w'∧q1q W w' b2 gn2 cn2 ao F2 L2' t2' false) :
  Calls Tryz.prog f args W fun e w'=>Post e w'∧W.heap.size≤w'.heap.size∧(∀(base':Nat) (v':Value) (n':Nat) (xs':List Value),W.ownsRow base' 45 12 v' n' xs'→w'.ownsRow base' 45 12 v' n' xs')∧ApAt w w' b1 gn1 cn1 F1 b2 gn2 cn2 F2 vl vk vw TX TK X L1 t1 e1 L2' t2':=by
 obtain⟨ao1,cap1,PL1,ao2,cap2,PL2,m1,p1,m2,p2,s1,s2⟩:=h.mons
 refine(hc ao2 cap2 PL2 m2 p2).mono ?_
 rintro e w' ⟨hp,ao',cap',PL',q1,q2,q3,q4⟩
 have hl1:=j1u m1
 refine⟨hp,q3.size,fun _ _ _ _ hr=>q0E hr q3 m2.kinds (by decide) (by decide),⟨ao1,cap1,PL1,ao',cap',PL',m1.keep q3 m2.kinds (fun hm=>(s1 b1 (by simp)).2 hm) (fun k hk hm=>(s1 k (by simp[hk])).2 hm),p1,q1,q2,fun q hq=>⟨(s1 q hq).1,fun hm=>?_⟩,fun q hq=>?_⟩,q0E h.rowL q3 m2.kinds (by decide) (by decide),q0E h.rowK q3 m2.kinds (by decide) (by decide),q0E h.want q3 m2.kinds (by decide) (by decide),h.bel.trans (q3.below h.bel.size s2)⟩
 ·have hl:=hl1 q hq
  rcases List.mem_cons.1 hm with rfl|hm
  ·exact(s1 _ hq).2 (by simp)
  ·rcases q4 q hm with e|e
   ·exact(s1 q hq).2 (by simp[e])
   ·omega
 ·rcases List.mem_cons.1 hq with rfl|hq
  ·exact s2 _ (by simp)
  ·rcases q4 q hq with e|e
   ·exact s2 q (by simp[e])
   ·exact zM h.bel.size e
def fiT (F:zg)(X:List LnK)(i:Nat):Nat:=qp (qa ((X.map qu).take i)) (zf (qb (zs F)))
def FiS (F:zg)(X:List LnK)(w W:World)(b1 gn1 cn1 b2 gn2 cn2:Nat)(vl:Value)(i j:Nat):Prop:=
 ApAt w W b1 gn1 cn1 (qb (zs F)) b2 gn2 cn2 (qb (zs F)) vl (.slice none 0 0) (.slice none 0 0) (X.map q1F) [] [] (qa ((X.map qu).take i)) (fiT F X i) false (qa ((X.map qu).take j)) (fiT F X j)
theorem j6S {F:zg}{X:List LnK}{w W:World}{b1 gn1 cn1 b2 gn2 cn2:Nat}{vl:Value}{i j:Nat}(hc:(zA (zs F)).1=0)(h:FiS F X w W b1 gn1 cn1 b2 gn2 cn2 vl i j) :
  Calls Tryz.prog 9 #[.pointer (some ⟨b1,0,none⟩)] W fun e w'=>e=.returned (.bool true)∧W.heap.size≤w'.heap.size∧(∀(base':Nat) (v':Value) (n':Nat) (xs':List Value),W.ownsRow base' 45 12 v' n' xs'→w'.ownsRow base' 45 12 v' n' xs')∧FiS F X w w' b1 gn1 cn1 b2 gn2 cn2 vl i j:=
 ApAt.turn1 (Post:=fun e _=>e=.returned (.bool true)) h (fun ao cap PL hM hp=>by
  have:=j5t b1 gn1 cn1 ao cap _ (q2M hc).1 PL _ W hM
  rw[hp]at this
  exact this)
theorem fi_feed1 {F:zg}{X:List LnK}{w W:World}{b1 gn1 cn1 b2 gn2 cn2:Nat}{vl:Value}{i j:Nat}(hc:(zA (zs F)).1=0)(hok:∀k (h:k<(X.map qu).length),LinOk (qa ((X.map qu).take k)) ((X.map q1F)[k]'(by simpa using h)).2.2.2 (X.map qu)[k])(hi:i<X.length)(h:FiS F X w W b1 gn1 cn1 b2 gn2 cn2 vl i j) :
  Calls Tryz.prog 10 #[.pointer (some ⟨b1,0,none⟩),bs ((X.map q1F)[i]'(by simpa using hi)).2.2.2] W fun e w'=>(∃v,e=.returned (.tuple #[v,.int .i64 0,.int .i64 0])∧w'.ownsRow W.heap.size 45 12 v (fiT F X (i+1)-fiT F X i) (zV (qI (qb (zs F)) (q4p X) (fiT F X i) (fiT F X (i+1)))))∧W.heap.size≤w'.heap.size∧(∀(base':Nat) (v':Value) (n':Nat) (xs':List Value),W.ownsRow base' 45 12 v' n' xs'→w'.ownsRow base' 45 12 v' n' xs')∧FiS F X w w' b1 gn1 cn1 b2 gn2 cn2 vl (i+1) j:=
 ApAt.turn1 (Post:=fun e w'=>∃v,e=.returned (.tuple #[v,.int .i64 0,.int .i64 0])∧w'.ownsRow W.heap.size 45 12 v (fiT F X (i+1)-fiT F X i) (zV (qI (qb (zs F)) (q4p X) (fiT F X i) (fiT F X (i+1))))) h (fun ao cap PL hM hp=>by
  have hk:i<(X.map qu).length:=by simpa using hi
  refine(q6b (q2M hc).1 (q2M hc).2.1 hk (hok i hk) hM hp).mono ?_
  rintro e w' ⟨v,rfl,h1,ao',cap',PL',q1,q2,q3,q4⟩
  rw[q0q]at h1
  exact⟨⟨v,rfl,h1⟩,ao',cap',PL',q1,q2,q3,q4⟩)
theorem fi_feed2 {F:zg}{X:List LnK}{w W:World}{b1 gn1 cn1 b2 gn2 cn2:Nat}{vl:Value}{i j:Nat}(hc:(zA (zs F)).1=0)(hok:∀k (h:k<(X.map qu).length),LinOk (qa ((X.map qu).take k)) ((X.map q1F)[k]'(by simpa using h)).2.2.2 (X.map qu)[k])(hj:j<X.length)(h:FiS F X w W b1 gn1 cn1 b2 gn2 cn2 vl i j) :
  Calls Tryz.prog 10 #[.pointer (some ⟨b2,0,none⟩),bs ((X.map q1F)[j]'(by simpa using hj)).2.2.2] W fun e w'=>(∃v,e=.returned (.tuple #[v,.int .i64 0,.int .i64 0])∧w'.ownsRow W.heap.size 45 12 v (fiT F X (j+1)-fiT F X j) (zV (qI (qb (zs F)) (q4p X) (fiT F X j) (fiT F X (j+1)))))∧W.heap.size≤w'.heap.size∧(∀(base':Nat) (v':Value) (n':Nat) (xs':List Value),W.ownsRow base' 45 12 v' n' xs'→w'.ownsRow base' 45 12 v' n' xs')∧FiS F X w w' b1 gn1 cn1 b2 gn2 cn2 vl i (j+1):=
 ApAt.turn2 (Post:=fun e w'=>∃v,e=.returned (.tuple #[v,.int .i64 0,.int .i64 0])∧w'.ownsRow W.heap.size 45 12 v (fiT F X (j+1)-fiT F X j) (zV (qI (qb (zs F)) (q4p X) (fiT F X j) (fiT F X (j+1))))) h (fun ao cap PL hM hp=>by
  have hk:j<(X.map qu).length:=by simpa using hj
  refine(q6b (q2M hc).1 (q2M hc).2.1 hk (hok j hk) hM hp).mono ?_
  rintro e w' ⟨v,rfl,h1,ao',cap',PL',q1,q2,q3,q4⟩
  rw[q0q]at h1
  exact⟨⟨v,rfl,h1⟩,ao',cap',PL',q1,q2,q3,q4⟩)
theorem fi_back {F:zg}{X:List LnK}{w W:World}{b1 gn1 cn1 b2 gn2 cn2:Nat}{vl:Value}{i j d:Nat}(hc:(zA (zs F)).1=0)(hi:i<X.length)(hst:X[i].stamp≤65535)(hd:32768≤d)(hd2:d≤65535)(h:FiS F X w W b1 gn1 cn1 b2 gn2 cn2 vl (i+1) j) :
  Calls Tryz.prog 10 #[.pointer (some ⟨b1,0,none⟩),.string ⟨(st5 ((X[i].stamp+d) % 65536)).toArray⟩] W fun e w'=>(∃v,e=.returned (.tuple #[v,.int .i64 7,.int .i64 0])∧w'.ownsRow W.heap.size 45 12 v 0 [])∧W.heap.size≤w'.heap.size∧(∀(base':Nat) (v':Value) (n':Nat) (xs':List Value),W.ownsRow base' 45 12 v' n' xs'→w'.ownsRow base' 45 12 v' n' xs')∧FiS F X w w' b1 gn1 cn1 b2 gn2 cn2 vl (i+1) j:=
 ApAt.turn1 (Post:=fun e w'=>∃v,e=.returned (.tuple #[v,.int .i64 7,.int .i64 0])∧w'.ownsRow W.heap.size 45 12 v 0 []) h (fun ao cap PL hM hp=>by
  have hk:i<(X.map qu).length:=by simpa using hi
  have hl:(qa ((X.map qu).take (i+1))).length=i+1:=by rw[q2o,List.length_take];omega
  have hs:q1Y (qa ((X.map qu).take (i+1))) ((qa ((X.map qu).take (i+1))).length-1)=X[i].stamp:=by
   rw[hl,q3H _ i hk]
   have e:=q5L (qa ((X.map qu).take i)) (X.map qu)[i]
   rw[q2o,List.length_take,Nat.min_eq_left (by omega)]at e
   rw[show i+1-1=i by omega,e,List.getElem_map]
   rfl
  refine(q6h b1 gn1 cn1 ao cap _ (q2M hc).1 PL _ false (st5 ((X[i].stamp+d) % 65536)) (by show 6≤maxLen;unfold maxLen;omega) W hM).mono ?_
  intro e w' hf
  have he:q1Q (zz PL) false (st5 ((X[i].stamp+d) % 65536))=(7,0):=by rw[hp];exact j8T (by omega) hs hst hd hd2
  have:=q9e hf he (by decide)
  rw[hp]at this
  exact this)
theorem exec_eqv {oi:Oper}{a:Act}{w:World}(x y:Operand)(z:TypeId)(ho:oi.op=.binOp .eql 45 x y z)(V:Value)(v:Ver)(hV:V=.agg (q3O v).toArray)(hx:a.eval x=V)(hy:a.eval y=V):(execOp a.eval oi).run Tryz.prog w=.ok (.value (.bool true)) w:=by
 subst hV
 unfold execOp
 simp only[ho,hx,hy,Sem.run_bind,run_eqGuard_agg w _ _ _ _ _ _ (show Tryz.prog.eqGuardType Tryz.prog.depth 45=false by kernel_rfl),Result.andThen_ok,run_eql_struct,j6D,Sem.run_pure]
theorem fiT_le (F:zg)(X:List LnK)(i:Nat):fiT F X i≤X.length:=by
 have:=q3t (qa ((X.map qu).take i)) (zf (qb (zs F)))
 rw[q2o,List.length_take,List.length_map]at this
 unfold fiT
 omega
theorem fiT_mono (F:zg)(X:List LnK)(i:Nat)(hi:i<X.length):fiT F X i≤fiT F X (i+1):=by
 have hk:i<(X.map qu).length:=by simpa using hi
 have:=q7N (q7A ((X.map qu).take i)) (X.map qu)[i] (zf (qb (zs F)))
 rw[←q3H _ i hk]at this
 exact this
theorem j7n (s:By)(sh:Nat)(i:Nat)(h:i<(q1v s sh).length):(q1v s sh)[i].stamp≤65535:=by
 have hk:i<((q1v s sh).map qu).length:=by simpa using h
 have ho:=(j3S s sh i hk).line
 have e:((q1v s sh).map qu)[i]=((q1v s sh)[i].stamp,(q1v s sh)[i].haps):=by rw[List.getElem_map];rfl
 rw[e]at ho
 exact(q8u ho).2.2.1
theorem fi_full {F:zg}{X:List LnK}{w W:World}{b1 gn1 cn1 b2 gn2 cn2:Nat}{la:OA}{lc j:Nat}(hc:(zA (zs F)).1=0)(h40:X.length≤40)(hst:∀i (h:i<X.length),X[i].stamp≤65535)(h:FiS F X w W b1 gn1 cn1 b2 gn2 cn2 (.slice la X.length lc) X.length j) :
  Calls Tryz.prog 15 #[.pointer (some ⟨b1,0,none⟩),.slice la X.length lc,.int .i64 X.length] W fun e w'=>e=.returned (.bool true)∧Below w.heap.size w w':=by
 obtain⟨ao1,cap1,PL1,ao2,cap2,PL2,m1,p1,m2,p2,s1,s2⟩:=h.mons
 have hfull:(X.map qu).take X.length=X.map qu:=List.take_of_length_le (by simp)
 rw[hfull]at p1
 have m1':MonAt W b1 gn1 cn1 ao1 cap1 (qb (zs F)) PL1 (qp (qa (X.map qu)) (zf (qb (zs F)))) false:=by
  unfold fiT at m1
  rw[hfull]at m1
  exact m1
 have hr:=h.rowL
 have hTX:(X.map q1F).length=X.length:=by simp
 rw[hTX]at hr
 have hls:(X.map qu).length=X.length:=by simp
 have hlast:∀hp:0<X.length,q1Y (qa (X.map qu)) (X.length-1)=X[X.length-1].stamp:=fun hp=>by
  have hk:X.length-1<(X.map qu).length:=by simp;omega
  have e:=q5L (qa ((X.map qu).take (X.length-1))) (X.map qu)[X.length-1]
  rw[←q3H _ (X.length-1) hk,q2o,List.length_take,Nat.min_eq_left (by omega),show X.length-1+1=X.length by omega,hfull,List.getElem_map]at e
  exact e
 have key:∀st:Nat,st≤65535→(0<X.length→q1Y (qa (X.map qu)) (X.length-1)=st)→(X.length=0→st=7)→(∀hp:0<X.length,((X.map q1F)[X.length-1]'(by rw[hTX];omega)).1=st)→Calls Tryz.prog 15 #[.pointer (some ⟨b1,0,none⟩),.slice la X.length lc,.int .i64 X.length] W fun e w'=>e=.returned (.bool true)∧Below w.heap.size w w':=fun st k1 k2 k3 k4=>by
  refine(kep_full b1 gn1 cn1 ao1 cap1 _ (q2M hc).1 (q2M hc).2.1 (X.map qu) X.length hls h40 st k1 k2 k3 PL1 W m1' p1 la lc w.heap.size (X.map q1F) hTX k4 hr).mono ?_
  rintro e w' ⟨rfl,ho⟩
  exact⟨rfl,h.bel.trans (ho.below h.bel.size (fun q hq=>(s1 q hq).1))⟩
 by_cases hp:0<X.length
 ·exact key X[X.length-1].stamp (hst _ _) (fun _=>hlast hp) (fun e=>absurd e (by omega)) (fun _=>by rw[List.getElem_map];rfl)
 ·exact key 7 (by omega) (fun e=>absurd e hp) (fun _=>rfl) (fun e=>absurd e hp)
theorem fi_seen {F:zg}{X:List LnK}{w W:World}{b1 gn1 cn1 b2 gn2 cn2:Nat}{vl:Value}{j:Nat}(h:FiS F X w W b1 gn1 cn1 b2 gn2 cn2 vl X.length j) :
  Calls Tryz.prog 13 #[.pointer (some ⟨b1,0,none⟩)] W fun e w'=>e=.returned (.tuple #[.int .i64 X.length,.int .i64 (fiT F X X.length)])∧Below W.heap.size W w':=by
 obtain⟨ao1,cap1,PL1,ao2,cap2,PL2,m1,p1,_⟩:=h.mons
 have e:PL1.length=X.length:=by
  have:=congrArg List.length p1
  simp only[q2o,List.length_take,List.length_map,Nat.min_self]at this
  exact this
 have:=j6F b1 gn1 cn1 ao1 cap1 _ PL1 _ false W m1
 rw[e]at this
 exact this
def FiRel (SS:World→Nat→Nat→Prop)(TT:Nat→Nat)(base n:Nat)(g:Nat)(vt vi:Value)(wr:World):Prop:=
 ∃(i:Nat) (T:List Ver),i≤n∧n-i≤g∧vi=.int .i64 i∧T.length=TT i∧wr.ownsRow base 45 12 vt T.length (zV T)∧SS wr i i
def FjRel (d:Nat)(w:World)(g:Nat)(vs vk:Value)(wr:World):Prop:=∃k:Nat,k≤d∧d-k≤g∧vk=.int .i64 k∧vs=.bool true∧Below w.heap.size w wr
theorem kep_Firm (raw input:By)(back:Int)(hr:raw.length≤maxLen)(hi:input.length≤maxLen)(hb:-9223372036854775808≤back∧back≤9223372036854775807)(w:World)(ht:TabB w) :
  Calls Tryz.prog 3 #[bs raw,bs input,.int .i64 back] w fun e w'=>e=.returned (.bool true)∧Below w.heap.size w w':=by
 have HFM:=zb (frm_new raw hr 3 (by omega) w)
 have HLG:=zb (fun W q=>log_zero input hi W q)
 have HPK:=zb (fun W=>j5s back hb 32768 (by omega) W)
 have ppk:=j5I back (n:=32768) (by omega)
 have HFO:=zb (fun W=>j3O W)
 have fa:=fine3 raw
 have HT:=zb ht
 clear ht hr hi hb
 generalize (mkF raw 3 0).1=F at *
 generalize q6J back 32768=pk at *
 have hh8:hgt F≤8:=by have:=fa.hgt;omega
 have hl240:(zs F).length≤240:=by have:=fa.len;omega
 obtain⟨hck,_⟩:=q8o fa.fine hh8 hl240
 have hck0:(zA (zs F)).1=0:=by rw[hck]
 have HBF:=zb (fun W=>j2K (zs F) hck0 (by unfold maxLen;omega) W)
 have hln1:=q7C input 0
 have HOK:=zb (j3S input 0)
 have HSB:=zb (j7n input 0)
 generalize q1v input 0=X at *
 have hX:(X.map q1F).length=X.length:=by simp
 rw[hX]at HLG
 obtain⟨TT,hTT⟩:∃TT:Nat→Nat,TT=fiT F X:=⟨_,rfl⟩
 obtain⟨ST,hST⟩:∃ST,ST=FiS F X w:=⟨_,rfl⟩
 obtain⟨TX,hTX⟩:∃TX:Nat→By,TX=fun i=>((X.map q1F).getD i (0,0,[],[])).2.2.2:=⟨_,rfl⟩
 obtain⟨SP,hSP⟩:∃SP:Nat→Nat,SP=fun i=>((X.map q1F).getD i (0,0,[],[])).1:=⟨_,rfl⟩
 obtain⟨YV,hYV⟩:∃YV:Nat→List Ver,YV=fun i=>qI (qb (zs F)) (q4p X) (TT i) (TT (i+1)):=⟨_,rfl⟩
 have hTXi:∀i (h:i<(X.map q1F).length),TX i=(X.map q1F)[i].2.2.2:=fun i h=>by rw[hTX];show((X.map q1F).getD i _).2.2.2=_;rw[List.getD_eq_getElem?_getD,zG h];rfl
 have hSPi:∀i (h:i<(X.map q1F).length),SP i=(X.map q1F)[i].1:=fun i h=>by rw[hSP];show((X.map q1F).getD i _).1=_;rw[List.getD_eq_getElem?_getD,zG h];rfl
 have hSPs:∀i (h:i<X.length),SP i=X[i].stamp:=fun i h=>by rw[hSPi i (by rw[hX];exact h),List.getElem_map];rfl
 have hYL:∀i,(YV i).length=TT (i+1)-TT i:=fun i=>by rw[hYV];exact q0q _ _ _ _
 have HT0:Hid (TT 0=0):=zb (by rw[hTT];rfl)
 have HTM:Hid (∀i,i<X.length→TT i≤TT (i+1)):=zb (fun i h=>by rw[hTT];exact fiT_mono F X i h)
 have HTL:Hid (∀i,TT i≤X.length):=zb (fun i=>by rw[hTT];exact fiT_le F X i)
 have HSL:Hid (∀i,i<X.length→SP i≤65535):=zb (fun i h=>by rw[hSPs i h];exact HSB.out i h)
 have HS0:Hid (∀W b1 gn1 cn1 b2 gn2 cn2 vl i j,ST W b1 gn1 cn1 b2 gn2 cn2 vl i j→Calls Tryz.prog 9 #[.pointer (some ⟨b1,0,none⟩)] W fun e w'=>e=.returned (.bool true)∧W.heap.size≤w'.heap.size∧(∀(base':Nat) (v':Value) (n':Nat) (xs':List Value),W.ownsRow base' 45 12 v' n' xs'→w'.ownsRow base' 45 12 v' n' xs')∧ST w' b1 gn1 cn1 b2 gn2 cn2 vl i j):=zb (fun W b1 gn1 cn1 b2 gn2 cn2 vl i j h=>by
  rw[hST]at h ⊢
  exact j6S hck0 h)
 have HS1:Hid (∀W b1 gn1 cn1 b2 gn2 cn2 vl i j,i<X.length→ST W b1 gn1 cn1 b2 gn2 cn2 vl i j→Calls Tryz.prog 10 #[.pointer (some ⟨b1,0,none⟩),bs (TX i)] W fun e w'=>(∃v,e=.returned (.tuple #[v,.int .i64 0,.int .i64 0])∧w'.ownsRow W.heap.size 45 12 v (YV i).length (zV (YV i)))∧W.heap.size≤w'.heap.size∧(∀(base':Nat) (v':Value) (n':Nat) (xs':List Value),W.ownsRow base' 45 12 v' n' xs'→w'.ownsRow base' 45 12 v' n' xs')∧ST w' b1 gn1 cn1 b2 gn2 cn2 vl (i+1) j):=zb (fun W b1 gn1 cn1 b2 gn2 cn2 vl i j him h=>by
  rw[hST]at h
  have:=fi_feed1 hck0 HOK.out him h
  rw[←hTXi i (by rw[hX];exact him),←hTT,←hST]at this
  rw[hYL,hYV]
  exact this)
 have HS2:Hid (∀W b1 gn1 cn1 b2 gn2 cn2 vl i j,j<X.length→ST W b1 gn1 cn1 b2 gn2 cn2 vl i j→Calls Tryz.prog 10 #[.pointer (some ⟨b2,0,none⟩),bs (TX j)] W fun e w'=>(∃v,e=.returned (.tuple #[v,.int .i64 0,.int .i64 0])∧w'.ownsRow W.heap.size 45 12 v (YV j).length (zV (YV j)))∧W.heap.size≤w'.heap.size∧(∀(base':Nat) (v':Value) (n':Nat) (xs':List Value),W.ownsRow base' 45 12 v' n' xs'→w'.ownsRow base' 45 12 v' n' xs')∧ST w' b1 gn1 cn1 b2 gn2 cn2 vl i (j+1)):=zb (fun W b1 gn1 cn1 b2 gn2 cn2 vl i j him h=>by
  rw[hST]at h
  have:=fi_feed2 hck0 HOK.out him h
  rw[←hTXi j (by rw[hX];exact him),←hTT,←hST]at this
  rw[hYL,hYV]
  exact this)
 have HS3:Hid (∀W b1 gn1 cn1 b2 gn2 cn2 vl i j d,i<X.length→32768≤d→d≤65535→ST W b1 gn1 cn1 b2 gn2 cn2 vl (i+1) j→Calls Tryz.prog 10 #[.pointer (some ⟨b1,0,none⟩),.string ⟨(st5 ((SP i+d) % 65536)).toArray⟩] W fun e w'=>(∃v,e=.returned (.tuple #[v,.int .i64 7,.int .i64 0])∧w'.ownsRow W.heap.size 45 12 v 0 [])∧W.heap.size≤w'.heap.size∧(∀(base':Nat) (v':Value) (n':Nat) (xs':List Value),W.ownsRow base' 45 12 v' n' xs'→w'.ownsRow base' 45 12 v' n' xs')∧ST w' b1 gn1 cn1 b2 gn2 cn2 vl (i+1) j):=zb (fun W b1 gn1 cn1 b2 gn2 cn2 vl i j d him h1 h2 h=>by
  rw[hST]at h
  have:=fi_back hck0 him (HSB.out i him) h1 h2 h
  rw[←hSPs i him,←hST]at this
  exact this)
 have HS4:Hid (∀W b1 gn1 cn1 b2 gn2 cn2 vl j,ST W b1 gn1 cn1 b2 gn2 cn2 vl X.length j→Calls Tryz.prog 13 #[.pointer (some ⟨b1,0,none⟩)] W fun e w'=>e=.returned (.tuple #[.int .i64 X.length,.int .i64 (TT X.length)])∧Below W.heap.size W w'):=zb (fun W b1 gn1 cn1 b2 gn2 cn2 vl j h=>by
  rw[hST]at h
  rw[hTT]
  exact fi_seen h)
 have HS5:Hid (∀W b1 gn1 cn1 b2 gn2 cn2 la lc j,ST W b1 gn1 cn1 b2 gn2 cn2 (.slice la X.length lc) X.length j→Calls Tryz.prog 15 #[.pointer (some ⟨b1,0,none⟩),.slice la X.length lc,.int .i64 X.length] W fun e w'=>e=.returned (.bool true)∧Below w.heap.size w w'):=zb (fun W b1 gn1 cn1 b2 gn2 cn2 la lc j h=>by
  rw[hST]at h
  exact fi_full hck0 (by omega) HSB.out h)
 have HSW:Hid (∀W W' b1 gn1 cn1 b2 gn2 cn2 vl i j,Below W.heap.size W W'→ST W b1 gn1 cn1 b2 gn2 cn2 vl i j→ST W' b1 gn1 cn1 b2 gn2 cn2 vl i j):=zb (fun W W' b1 gn1 cn1 b2 gn2 cn2 vl i j hb h=>by
  rw[hST]at h ⊢
  exact ApAt.below h hb)
 have HSM:Hid (∀W W' b1 gn1 cn1 b2 gn2 cn2 vl i j bl,OnlyB bl W W'→KV bl W→(∀k∈bl,w.heap.size≤k)→ST W b1 gn1 cn1 b2 gn2 cn2 vl i j→ST W' b1 gn1 cn1 b2 gn2 cn2 vl i j):=zb (fun W W' b1 gn1 cn1 b2 gn2 cn2 vl i j bl h1 h2 h3 h=>by
  rw[hST]at h ⊢
  exact ApAt.marks h h1 h2 (fun k hk=>⟨h3 k hk,by simp[Value.ownBlock]⟩))
 have HSR:Hid (∀W b1 gn1 cn1 b2 gn2 cn2 vl i j,ST W b1 gn1 cn1 b2 gn2 cn2 vl i j→W.ownsRow w.heap.size 41 4 vl X.length (q0O (X.map q1F))∧Below w.heap.size w W):=zb (fun W b1 gn1 cn1 b2 gn2 cn2 vl i j h=>by
  rw[hST]at h
  have h1:=h.rowL
  rw[hX]at h1
  exact⟨h1,h.bel⟩)
 have HSI:Hid (∀W b1 gn1 cn1 b2 gn2 cn2 vl,MonAt W b1 gn1 cn1 none 0 (qb (zs F)) [] 0 false→MonAt W b2 gn2 cn2 none 0 (qb (zs F)) [] 0 false→w.heap.size≤b1→b1<b2→W.ownsRow w.heap.size 41 4 vl X.length (q0O (X.map q1F))→Below w.heap.size w W→ST W b1 gn1 cn1 b2 gn2 cn2 vl 0 0):=zb (fun W b1 gn1 cn1 b2 gn2 cn2 vl m1 m2 l1 l2 r1 hb=>by
  rw[hST]
  refine⟨⟨none,0,[],none,0,[],m1,rfl,m2,rfl,fun q hq=>?_,fun q hq=>?_⟩,by rw[hX];exact r1,zW _ _ _ _,zW _ _ _ _,hb⟩
  ·simp[q0P]at hq ⊢;omega
  ·simp[q0P]at hq;omega)
 have HC1:Hid (∀(W:World) (base g c i:Nat),i<X.length→W.ownsRow base 41 4 (.slice (some ⟨g,0,none⟩) X.length c) X.length (q0O (X.map q1F))→W.cell? ⟨g,i*4+3,none⟩=some (bs (TX i))∧W.cell? ⟨g,i*4,none⟩=some (.int .u16 (SP i))):=zb (fun W base g c i hi h=>by
  have h':W.ownsRow base 41 4 (.slice (some ⟨g,0,none⟩) (X.map q1F).length c) (X.map q1F).length (q0O (X.map q1F)):=by rw[hX];exact h
  have hi':i<(X.map q1F).length:=by rw[hX];exact hi
  refine⟨?_,?_⟩
  ·rw[hTXi i hi']
   exact(ln_cell h' hi').2
  ·rw[hSPi i hi',show i*4=i*4+0 by omega,h'.cellAt _ (by omega),j5z _ i hi' 0 (by omega)]
   rfl)
 have cF:(q0D F)[0]?=some (bs (zs F)):=rfl
 have HAF:=zb (q8Z F)
 have HIF:=zb (q2b F)
 have HZF:Hid ((q0D F).size=5):=zb rfl
 have HYL:=zb hYL
 clear hTT hST hTX hSP hYV hTXi hSPi hSPs hYL fa hck hck0 hh8 hl240 HOK HSB
 generalize q0D F=MF at *
 generalize qb (zs F)=FF at *
 generalize zs F=TF at *
 generalize q0O (X.map q1F)=LC1 at *
 clear hX
 generalize X.length=n at *
 go_enter Tryz.func3,Tryz.ntmps3
 go_wp2_with fail
 refine HFM.out.mono ?_
 rintro e w1 ⟨rfl,b1⟩
 obtain⟨W2,s1,s2,s3,s4⟩:=q0m (P:=Tryz.prog) 23 w1 q5o MF HIF.out (by rw[HZF.out];rfl) HAF.out
 have B2:Below w.heap.size w W2:=b1.trans (s3.mono b1.size)
 have hl2:w1.heap.size<W2.heap.size:=zd s2
 have c2:=(zC _ _ 0 _ _ _ s2).trans cF
 have HC2':=zb c2
 have HS:=zb s1
 have HB2:=zb B2
 clear b1 s1 s2 s3 s4 B2
 go_wp2_with (refine ze rfl 23 (.tmp 7) (.tmp 33) rfl ⟨w1.heap.size,0,none⟩ (.agg MF) rfl rfl W2 HS.out ?_)
 refine(HBF.out _).mono ?_
 rintro e w7 ⟨b1,gn1,cn1,rfl,hb1,m7,b7⟩
 have hl7:w1.heap.size<w7.heap.size:=zT hl2 b7.size
 have c7:=(zy b7 w1.heap.size 0 hl2).trans HC2'.out
 have HB7:=zb (HB2.out.trans (b7.mono HB2.out.size))
 have HM7:=zb m7
 have hwb1:w.heap.size≤b1:=by have:=HB2.out.size;omega
 have hb17:b1<w7.heap.size:=m7.lt
 clear m7 b7 HC2' HS c2
 go_wp2_with fail
 refine(HBF.out _).mono ?_
 rintro e w8 ⟨b2,gn2,cn2,rfl,hb2,m8,b8⟩
 have HB8:=zb (HB7.out.trans (b8.mono HB7.out.size))
 have HM8:=zb (HM7.out.below b8)
 have HN8:=zb m8
 have hb12:b1<b2:=by omega
 clear m8 b8 HM7 c7
 go_wp2_with fail
 refine(HLG.out _ (HT.out.below HB8.out (zL _))).mono ?_
 rintro e w9 ⟨v9,rfl,r9,b9⟩
 obtain⟨la,lc,rfl⟩:=qn r9
 have HST0:=zb (HSI.out w9 b1 gn1 cn1 b2 gn2 cn2 (.slice la n lc) (HM8.out.below b9) (HN8.out.below b9) hwb1 hb12 (j1E (by have:=HB8.out.size;omega:w.heap.size≤w8.heap.size) r9) (HB8.out.trans (b9.mono HB8.out.size)))
 clear r9 b9 HM8 HN8 HB8 HB7 HB2 HSI HLG HBF HFM HT
 obtain⟨SS,hSS⟩:∃SS:World→Nat→Nat→Prop,SS=fun W i j=>ST W b1 gn1 cn1 b2 gn2 cn2 (.slice la n lc) i j:=⟨_,rfl⟩
 have HQ0:Hid (∀W i j,SS W i j→Calls Tryz.prog 9 #[.pointer (some ⟨b1,0,none⟩)] W fun e w'=>e=.returned (.bool true)∧W.heap.size≤w'.heap.size∧(∀(base':Nat) (v':Value) (n':Nat) (xs':List Value),W.ownsRow base' 45 12 v' n' xs'→w'.ownsRow base' 45 12 v' n' xs')∧SS w' i j):=zb (fun W i j h=>by rw[hSS]at h ⊢;exact HS0.out W _ _ _ _ _ _ _ i j h)
 have HQ1:Hid (∀W i j,i<n→SS W i j→Calls Tryz.prog 10 #[.pointer (some ⟨b1,0,none⟩),bs (TX i)] W fun e w'=>(∃v,e=.returned (.tuple #[v,.int .i64 0,.int .i64 0])∧w'.ownsRow W.heap.size 45 12 v (YV i).length (zV (YV i)))∧W.heap.size≤w'.heap.size∧(∀(base':Nat) (v':Value) (n':Nat) (xs':List Value),W.ownsRow base' 45 12 v' n' xs'→w'.ownsRow base' 45 12 v' n' xs')∧SS w' (i+1) j):=zb (fun W i j h1 h=>by rw[hSS]at h ⊢;exact HS1.out W _ _ _ _ _ _ _ i j h1 h)
 have HQ2:Hid (∀W i j,j<n→SS W i j→Calls Tryz.prog 10 #[.pointer (some ⟨b2,0,none⟩),bs (TX j)] W fun e w'=>(∃v,e=.returned (.tuple #[v,.int .i64 0,.int .i64 0])∧w'.ownsRow W.heap.size 45 12 v (YV j).length (zV (YV j)))∧W.heap.size≤w'.heap.size∧(∀(base':Nat) (v':Value) (n':Nat) (xs':List Value),W.ownsRow base' 45 12 v' n' xs'→w'.ownsRow base' 45 12 v' n' xs')∧SS w' i (j+1)):=zb (fun W i j h1 h=>by rw[hSS]at h ⊢;exact HS2.out W _ _ _ _ _ _ _ i j h1 h)
 have HQ3:Hid (∀W i j d,i<n→32768≤d→d≤65535→SS W (i+1) j→Calls Tryz.prog 10 #[.pointer (some ⟨b1,0,none⟩),.string ⟨(st5 ((SP i+d) % 65536)).toArray⟩] W fun e w'=>(∃v,e=.returned (.tuple #[v,.int .i64 7,.int .i64 0])∧w'.ownsRow W.heap.size 45 12 v 0 [])∧W.heap.size≤w'.heap.size∧(∀(base':Nat) (v':Value) (n':Nat) (xs':List Value),W.ownsRow base' 45 12 v' n' xs'→w'.ownsRow base' 45 12 v' n' xs')∧SS w' (i+1) j):=zb (fun W i j d h1 h2 h3 h=>by rw[hSS]at h ⊢;exact HS3.out W _ _ _ _ _ _ _ i j d h1 h2 h3 h)
 have HQ4:Hid (∀W j,SS W n j→Calls Tryz.prog 13 #[.pointer (some ⟨b1,0,none⟩)] W fun e w'=>e=.returned (.tuple #[.int .i64 n,.int .i64 (TT n)])∧Below W.heap.size W w'):=zb (fun W j h=>by rw[hSS]at h;exact HS4.out W _ _ _ _ _ _ _ j h)
 have HQ5:Hid (∀W j,SS W n j→Calls Tryz.prog 15 #[.pointer (some ⟨b1,0,none⟩),.slice la n lc,.int .i64 n] W fun e w'=>e=.returned (.bool true)∧Below w.heap.size w w'):=zb (fun W j h=>by rw[hSS]at h;exact HS5.out W _ _ _ _ _ _ _ _ j h)
 have HQB:Hid (∀W W' i j,Below W.heap.size W W'→SS W i j→SS W' i j):=zb (fun W W' i j hb h=>by rw[hSS]at h ⊢;exact HSW.out W W' _ _ _ _ _ _ _ i j hb h)
 have HQM:Hid (∀W W' i j bl,OnlyB bl W W'→KV bl W→(∀k∈bl,w.heap.size≤k)→SS W i j→SS W' i j):=zb (fun W W' i j bl h1 h2 h3 h=>by rw[hSS]at h ⊢;exact HSM.out W W' _ _ _ _ _ _ _ i j bl h1 h2 h3 h)
 have HQR:Hid (∀W i j,SS W i j→W.ownsRow w.heap.size 41 4 (.slice la n lc) n LC1∧Below w.heap.size w W):=zb (fun W i j h=>by rw[hSS]at h;exact HSR.out W _ _ _ _ _ _ _ i j h)
 have HSS0:Hid (SS w9 0 0):=zb (by rw[hSS];exact HST0.out)
 clear hSS HS0 HS1 HS2 HS3 HS4 HS5 HSW HSM HSR HST0
 clear ST
 go_wp2_with fail
 go_loopg [12,13] n (fun g vt vi wr=>FiRel SS TT w.heap.size n g vt vi wr)
 case atStart=>exact⟨0,[],zZ _,by omega,rfl,HT0.out.symm,zW _ _ _ _,HSS0.out⟩
 case round =>
  obtain⟨i,T,hi,hgi,rfl,hTT,rT,hS⟩:=hrel
  obtain⟨g1,hg1⟩:∃g1,g1=gk:=⟨_,rfl⟩
  have HG1:Hid (n-i≤g1):=zb (by omega)
  have HSi:=zb hS
  have HTT:=zb hTT
  obtain⟨ta,tc,rfl⟩:=qn rT
  have HRT:=zb rT
  clear hgi hS HSS0 hTT rT
  by_cases hin:i<n
  ·have hini:(i:Int)<(n:Int):=by omega
   have HR0:=zb (HQ0.out _ _ _ HSi.out)
   go_wp2_with fail
   refine HR0.out.mono ?_
   rintro e w1' ⟨rfl,z1,keep1,hS1⟩
   have HRT1:=zb (keep1 _ _ _ _ HRT.out)
   have HSa:=zb hS1
   clear keep1 hS1 HR0 HRT HSi
   obtain⟨rl,rb⟩:=HQR.out _ _ _ HSa.out
   obtain⟨gl,lc',el⟩:=zJ rl (by omega)
   obtain⟨rfl,rfl⟩:la=some ⟨gl,0,none⟩∧lc=lc':=by simpa using el
   have cl:=(HC1.out _ _ _ _ i hin rl).1
   obtain⟨csl,kl1,al1,al2,_⟩:=q6w rl
   unfold maxLen at al2
   have hgl:gl<w1'.heap.size:=zd kl1
   have hws:w.heap.size≤w1'.heap.size:=rb.size
   clear el kl1 rl rb
   have HF1:=zb (HQ1.out _ _ _ hin HSa.out)
   have HF2:=zb (fun W=>HQ2.out W (i+1) i hin)
   have HF3:=zb (fun W d=>HQ3.out W i (i+1) d hin)
   have HCi:=zb (fun W base g c h=>HC1.out W base g c i hin h)
   have hYl:=HYL.out i
   have hTm:=HTM.out i hin
   have hTl:=HTL.out (i+1)
   have hsp:=HSL.out i hin
   obtain⟨YI,hYI⟩:∃YI,YI=YV i:=⟨_,rfl⟩
   rw[←hYI]at HF1 HF2 hYl
   obtain⟨d,hd⟩:∃d,d=YI.length:=⟨_,rfl⟩
   rw[←hd]at HF1 HF2 hYl
   have hd12:d≤12:=by omega
   have HDL:=zb hd
   have HTD:Hid (TT i+d=TT (i+1)):=zb (by omega)
   have hTi:TT i≤12:=by omega
   have HTI:=zb hTi
   generalize TX i=txi at *
   generalize SP i=spi at *
   clear hYI hd hYl hTm hTl hTi
   go_wp2_with fail
   refine HF1.out.mono ?_
   rintro e w2 ⟨⟨xv,rfl,rx⟩,z2,keep2,hS2⟩
   obtain⟨xa,xc,rfl⟩:=qn rx
   have HRX:=zb rx
   have HRT2:=zb (keep2 _ _ _ _ HRT1.out)
   have HSb:=zb hS2
   obtain⟨rl2,_⟩:=HQR.out _ _ _ hS2
   have cl2:=(HCi.out _ _ _ _ rl2).1
   have hgl2:gl<w2.heap.size:=World.block_lt_of_cell? w2 _ cl2
   clear rx keep2 hS2 rl2 HF1 HRT1 HSa cl
   go_wp2_with fail
   refine(HF2.out _ HSb.out).mono ?_
   rintro e w3 ⟨⟨yv,rfl,ry⟩,z3,keep3,hS3⟩
   obtain⟨ya,yc,rfl⟩:=qn ry
   have HRX3:=zb (keep3 _ _ _ _ HRX.out)
   have HRY3:=zb ry
   have HRT3:=zb (keep3 _ _ _ _ HRT2.out)
   have HSc:=zb hS3
   clear ry keep3 hS3 HF2 HRX HRT2 HSb cl2
   go_wp2_with fail
   go_loopg [21,22] d (fun g vs vk wr=>FjRel d w3 g vs vk wr)
   case atStart=>exact⟨0,zZ _,by omega,rfl,rfl,zB _ _⟩
   case round =>
    obtain⟨k,hk,hgk,rfl,rfl,hbk⟩:=hrel
    have HGK:=zb hgk
    have HBK:=zb hbk
    clear hgk hbk
    by_cases hkd:k<d
    ·have hkdi:(k:Int)<(d:Int):=by omega
     obtain⟨gx,cx,ex⟩:=zJ HRX3.out (by omega)
     obtain⟨gy,cy,ey⟩:=zJ HRY3.out (by omega)
     obtain⟨rfl,rfl⟩:xa=some ⟨gx,0,none⟩∧xc=cx:=by simpa using ex
     obtain⟨rfl,rfl⟩:ya=some ⟨gy,0,none⟩∧yc=cy:=by simpa using ey
     obtain⟨_,kx1,ax1,ax2,_⟩:=q6w HRX3.out
     obtain⟨_,ky1,ay1,ay2,_⟩:=q6w HRY3.out
     unfold maxLen at ax2 ay2
     have hgx:gx<wr.heap.size:=zT (zd kx1) HBK.out.size
     have hgy:gy<wr.heap.size:=zT (zd ky1) HBK.out.size
     have D3:=HBK.out.drew
     obtain⟨VJ,hVJ⟩:∃V,V=Value.agg (q3O (YI[k]'(by rw[←HDL.out];exact hkd))).toArray:=⟨_,rfl⟩
     have HNJ:=zb hVJ
     have hC0:(Instr.loadAt 45 (.pointer (some ⟨gx,k*12,none⟩))).run Tryz.prog wr.drew=.ok VJ wr.drew∧(Instr.loadAt 45 (.pointer (some ⟨gy,k*12,none⟩))).run Tryz.prog wr.drew=.ok VJ wr.drew:=by
      rw[hVJ]
      exact⟨j6C (zp HRX3.out D3) HDL.out hkd (fun p _=>rfl),j6C (zp HRY3.out D3) HDL.out hkd (fun p _=>rfl)⟩
     have HD3:=zb D3
     clear hVJ ex ey kx1 ky1 D3
     go_wp2_with fail
     refine wp_region_held_drew (S:=fun w'=>(Instr.loadAt 45 (.pointer (some ⟨gx,k*12,none⟩))).run Tryz.prog w'=.ok VJ w'∧(Instr.loadAt 45 (.pointer (some ⟨gy,k*12,none⟩))).run Tryz.prog w'=.ok VJ w') (by kernel_rfl) hC0 (fun hS0=>?_)
     simp only[rz,Nat.zero_add,Nat.reduceAdd]
     refine tq 0 96 ?_
     simp only[Act.put,pz]
     refine tq 1 97 ?_
     simp only[Act.put,pz]
     refine tq 2 98 ?_
     simp only[Act.put,pz]
     refine q1o (i:=3) (v:=VJ) 99 rfl rfl (by kernel_rfl) (by kernel_rfl) (by kernel_rfl) (fun _ _ _ h=>h) (by rfl) (by assumption) ?_ ?_
     ·intro W hSw;exact j1d 45 (.tmp 98) rfl ⟨gx,k*12,none⟩ _ rfl hSw.1
     simp only[Act.put,pz]
     refine tq 4 100 ?_
     simp only[Act.put,pz]
     refine tq 5 101 ?_
     simp only[Act.put,pz]
     refine tq 6 102 ?_
     simp only[Act.put,pz]
     refine q1o (i:=7) (v:=VJ) 103 rfl rfl (by kernel_rfl) (by kernel_rfl) (by kernel_rfl) (fun _ _ _ h=>h) (by rfl) (by assumption) ?_ ?_
     ·intro W hSw;exact j1d 45 (.tmp 102) rfl ⟨gy,k*12,none⟩ _ rfl hSw.2
     simp only[Act.put,pz]
     refine q1o (i:=8) (v:=.bool true) 104 rfl rfl (by kernel_rfl) (by kernel_rfl) (by kernel_rfl) (fun _ _ _ h=>h) (by rfl) (by assumption) ?_ ?_
     ·intro W _;exact exec_eqv (.tmp 99) (.tmp 103) _ rfl VJ _ HNJ.out rfl rfl
     simp only[Act.put,pz]
     refine tq 9 21 ?_
     simp only[Act.put,pz]
     refine zD (by kernel_rfl) ?_ _
     clear hS0 hC0
     go_wp2_with fail
     have hgp:0<gk:=by have:=HGK.out;omega
     go_roundg (gk-1)
     case measure=>omega
     case rel=>exact⟨k+1,by omega,by have:=HGK.out;omega,by go_num,rfl,HD3.out⟩
    ·have hkdi:¬(k:Int)<(d:Int):=by omega
     have HRX4:=zb (zp HRX3.out HBK.out)
     have HRT4:=zb (zp HRT3.out HBK.out)
     have HSd:=zb (HQB.out _ _ _ _ HBK.out HSc.out)
     have hws4:w.heap.size≤wr.heap.size:=(HQR.out _ _ _ HSd.out).2.size
     rw[HDL.out]at HRX4
     have htx:T.length+YI.length≤1000:=by have:=HTT.out;have:=HTI.out;have:=HDL.out;omega
     clear HRX3 HRY3 HRT3 HSc
     go_wp2_with (at_builtin;refine j4w rfl (.tmp 119) (.tmp 120) rfl wr (.slice ta T.length tc) (.slice xa YI.length xc) T YI rfl (by rw[←HDL.out];rfl) w.heap.size w1'.heap.size HRT4.out HRX4.out htx hws4 ?_;intro v5 w5 o5 n5)
     have HO5:=zb o5
     have HSe:=zb (HQM.out _ w5 _ _ _ n5 (kv_row HRT4.out) (j0L HRT4.out) HSd.out)
     obtain⟨dd,hdd⟩:∃dd,dd=32768+pk:=⟨_,rfl⟩
     have hwa:IntKind.i64.wrap (32768+(pk:Int))=(dd:Int):=by rw[IntKind.wrap_i64];omega
     have hdd1:32768≤dd:=by omega
     have hdd2:dd≤65535:=by omega
     have hwb:IntKind.u16.wrap (dd:Int)=(dd:Int):=by unfold IntKind.wrap;simp[IntKind.signed,IntKind.bits];omega
     obtain⟨q,hq⟩:∃q,q=(spi+dd) % 65536:=⟨_,rfl⟩
     have hwc:IntKind.u16.wrap ((spi:Int)+(dd:Int))=(q:Int):=by unfold IntKind.wrap;simp[IntKind.signed,IntKind.bits];omega
     have HSTP:=zb (fun W=>j0r q (by omega) W)
     have HF4:=zb (fun W h=>HF3.out W dd hdd1 hdd2 h)
     rw[←hq]at HF4
     obtain⟨rl5,_⟩:=HQR.out _ _ _ HSe.out
     have cl5:=(HCi.out _ _ _ _ rl5).2
     have hgl5:gl<w5.heap.size:=World.block_lt_of_cell? w5 _ cl5
     clear o5 n5 HRT4 HRX4 HSd HF3 hdd hq rl5
     generalize (st5 q)=S5 at *
     refine(HPK.out _).mono ?_
     rintro e w6 ⟨rfl,hw6⟩
     rw[hw6]
     clear hw6
     go_wp2_with fail
     refine(HSTP.out _).mono ?_
     rintro e w7 ⟨rfl,b7⟩
     have HSf:=zb (HQB.out _ _ _ _ b7 HSe.out)
     have HO7:=zb (zp HO5.out b7)
     clear b7 HSe HO5 HSTP cl5
     go_wp2_with fail
     refine(HF4.out _ HSf.out).mono ?_
     rintro e w8 ⟨⟨v8,rfl,r8⟩,z8,keep8,hS8⟩
     obtain⟨va8,vc8,rfl⟩:=qn r8
     have HO8:=zb (keep8 _ _ _ _ HO7.out)
     have HS8:=zb hS8
     clear r8 keep8 hS8 HF4 HSf HO7
     go_wp2_with fail
     have hgp:0<g1:=by have:=HG1.out;omega
     go_roundg (g1-1)
     case measure=>omega
     case rel=>exact⟨i+1,T++YI,by omega,by have:=HG1.out;omega,by go_num,by rw[List.length_append,←HDL.out,HTT.out];exact HTD.out,HO8.out,HS8.out⟩
  ·have hini:¬(i:Int)<(n:Int):=by omega
   obtain rfl:i=n:=by omega
   have HSN:=zb (HQ4.out _ _ HSi.out)
   rw[←HTT.out]at HSN
   clear HQ4 HQ0 HQ1 HQ2 HQ3
   go_wp2_with fail
   refine HSN.out.mono ?_
   rintro e w2 ⟨rfl,b2⟩
   have HSb:=zb (HQB.out _ _ _ _ b2 HSi.out)
   clear b2 HSN HSi
   go_wp2_with fail
   refine(HFO.out _).mono ?_
   rintro e w3 ⟨rfl,b3⟩
   have HFL:=zb (HQ5.out _ _ (HQB.out _ _ _ _ b3 HSb.out))
   clear b3 HSb HFO HQ5
   go_wp2_with fail
   refine HFL.out.mono ?_
   rintro e w4 ⟨rfl,b4⟩
   have HB4:=zb b4
   clear b4 HFL
   go_wp2_with fail
   go_ret
   exact⟨rfl,HB4.out⟩
end Go.Proofs.YtiamjjonoeaggabGreatDoor
