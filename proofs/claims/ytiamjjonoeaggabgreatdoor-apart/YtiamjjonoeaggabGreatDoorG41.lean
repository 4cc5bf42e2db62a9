import Derived.Test.YtiamjjonoeaggabGreatDoorGA
import Derived.Test.YtiamjjonoeaggabGreatDoorGB
import Derived.Test.YtiamjjonoeaggabGreatDoorG17
import Derived.Test.YtiamjjonoeaggabGreatDoorG18
import Derived.Test.YtiamjjonoeaggabGreatDoorG38
import Derived.Test.YtiamjjonoeaggabGreatDoorG39
import Derived.Test.YtiamjjonoeaggabGreatDoorG40
set_option maxRecDepth 100000
set_option maxHeartbeats 16000000
namespace Go.Proofs.YtiamjjonoeaggabGreatDoor
open Go.RowKit
theorem j1u {w:World}{b gn cn:Nat}{ao:OA}{cap:Nat}{F:zg}{PL:List PPt}{told:Nat}{ended:Bool}(h:MonAt w b gn cn ao cap F PL told ended):∀q∈b::q0P ao,q<w.heap.size:=fun q hq=>by
 obtain⟨cs,t,e,_⟩:=h.kinds q hq
 exact zd e
structure ApAt (w W:World)(b1 gn1 cn1:Nat)(F1:zg)(b2 gn2 cn2:Nat)(F2:zg)(vl vk vw:Value)(TX TK:List LnV)(X:List Ver)(L1:List LPt)(t1:Nat)(e1:Bool)(L2:List LPt)(t2:Nat):Prop where
 mons:∃(ao1:OA) (cap1:Nat) (PL1:List PPt) (ao2:OA) (cap2:Nat) (PL2:List PPt),MonAt W b1 gn1 cn1 ao1 cap1 F1 PL1 t1 e1∧zz PL1=L1∧MonAt W b2 gn2 cn2 ao2 cap2 F2 PL2 t2 false∧zz PL2=L2∧(∀q∈b1::q0P ao1,w.heap.size≤q∧q∉b2::q0P ao2)∧(∀q∈b2::q0P ao2,w.heap.size≤q)
 rowL:W.ownsRow w.heap.size 41 4 vl TX.length (q0O TX)
 rowK:W.ownsRow w.heap.size 41 4 vk TK.length (q0O TK)
 want:W.ownsRow w.heap.size 45 12 vw X.length (zV X)
 bel:Below w.heap.size w W
theorem ApAt.below {w W W':World}{b1 gn1 cn1:Nat}{F1:zg}{b2 gn2 cn2:Nat}{F2:zg}{vl vk vw:Value}{TX TK:List LnV}{X:List Ver}{L1:List LPt}{t1:Nat}{e1:Bool}{L2:List LPt}{t2:Nat}(h:ApAt w W b1 gn1 cn1 F1 b2 gn2 cn2 F2 vl vk vw TX TK X L1 t1 e1 L2 t2)(hb:Below W.heap.size W W'):ApAt w W' b1 gn1 cn1 F1 b2 gn2 cn2 F2 vl vk vw TX TK X L1 t1 e1 L2 t2:=by
 obtain⟨ao1,cap1,PL1,ao2,cap2,PL2,m1,p1,m2,p2,s1,s2⟩:=h.mons
 exact⟨⟨ao1,cap1,PL1,ao2,cap2,PL2,m1.below hb,p1,m2.below hb,p2,s1,s2⟩,zp h.rowL hb,zp h.rowK hb,zp h.want hb,h.bel.trans (hb.mono h.bel.size)⟩
theorem ApAt.marks {w W W':World}{b1 gn1 cn1:Nat}{F1:zg}{b2 gn2 cn2:Nat}{F2:zg}{vl vk vw:Value}{TX TK:List LnV}{X:List Ver}{L1:List LPt}{t1:Nat}{e1:Bool}{L2:List LPt}{t2:Nat}(h:ApAt w W b1 gn1 cn1 F1 b2 gn2 cn2 F2 vl vk vw TX TK X L1 t1 e1 L2 t2){bl:List Nat}(ho:OnlyB bl W W')(hk:KV bl W)(hb:∀k∈bl,w.heap.size≤k∧vw.ownBlock≠some k):ApAt w W' b1 gn1 cn1 F1 b2 gn2 cn2 F2 vl vk vw TX TK X L1 t1 e1 L2 t2:=by
 obtain⟨ao1,cap1,PL1,ao2,cap2,PL2,m1,p1,m2,p2,s1,s2⟩:=h.mons
 exact⟨⟨ao1,cap1,PL1,ao2,cap2,PL2,m1.keepV ho hk,p1,m2.keepV ho hk,p2,s1,s2⟩,q6a h.rowL ho hk (by decide),q6a h.rowK ho hk (by decide),q7j h.want ho (fun k hv hm=>(hb k hm).2 hv),h.bel.trans (ho.below h.bel.size (fun q hq=>(hb q hq).1))⟩
theorem ApAt.feed1 {w W:World}{b1 gn1 cn1:Nat}{F1:zg}{b2 gn2 cn2:Nat}{F2:zg}{vl vk vw:Value}{TX TK:List LnV}{X:List Ver}{L2:List LPt}{t2:Nat}(hF:FormGood F1)(ha:q2d F1=true){ls:List Lin}{k:Nat}(hk:k<ls.length){s:By}(hok:LinOk (qa (ls.take k)) s ls[k])(h:ApAt w W b1 gn1 cn1 F1 b2 gn2 cn2 F2 vl vk vw TX TK X (qa (ls.take k)) (qp (qa (ls.take k)) (zf F1)) false L2 t2) :
  Calls Tryz.prog 10 #[.pointer (some ⟨b1,0,none⟩),bs s] W fun e w'=>∃v,e=.returned (.tuple #[v,.int .i64 0,.int .i64 0])∧W.heap.size≤w'.heap.size∧w'.ownsRow W.heap.size 45 12 v (qI F1 (qa ls) (qp (qa (ls.take k)) (zf F1)) (qp (qa (ls.take (k+1))) (zf F1))).length (zV (qI F1 (qa ls) (qp (qa (ls.take k)) (zf F1)) (qp (qa (ls.take (k+1))) (zf F1))))∧ApAt w w' b1 gn1 cn1 F1 b2 gn2 cn2 F2 vl vk vw TX TK X (qa (ls.take (k+1))) (qp (qa (ls.take (k+1))) (zf F1)) false L2 t2:=by
 obtain⟨ao1,cap1,PL1,ao2,cap2,PL2,m1,p1,m2,p2,s1,s2⟩:=h.mons
 refine(q6b hF ha hk hok m1 p1).mono ?_
 rintro e w' ⟨v,rfl,hv,ao',cap',PL',q1,q2,q3,q4⟩
 have hl2:=j1u m2
 refine⟨v,rfl,q3.size,hv,⟨ao',cap',PL',ao2,cap2,PL2,q1,q2,m2.keep q3 m1.kinds (fun hm=>(s1 _ hm).2 (by simp)) (fun k hk hm=>(s1 _ hm).2 (by simp[hk])),p2,fun q hq=>?_,s2⟩,q0E h.rowL q3 m1.kinds (by decide) (by decide),q0E h.rowK q3 m1.kinds (by decide) (by decide),q0E h.want q3 m1.kinds (by decide) (by decide),h.bel.trans (q3.below h.bel.size (fun q hq=>(s1 q hq).1))⟩
 rcases List.mem_cons.1 hq with rfl|hq
 ·exact s1 _ (by simp)
 ·rcases q4 q hq with e|e
  ·exact s1 q (by simp[e])
  ·exact⟨zM h.bel.size e,fun hm=>by have:=hl2 q hm;omega⟩
theorem ApAt.end1 {w W:World}{b1 gn1 cn1:Nat}{F1:zg}{b2 gn2 cn2:Nat}{F2:zg}{vl vk vw:Value}{TX TK:List LnV}{X:List Ver}{L1 L2:List LPt}{t1 t2:Nat}(hF:FormGood F1)(h:ApAt w W b1 gn1 cn1 F1 b2 gn2 cn2 F2 vl vk vw TX TK X L1 t1 false L2 t2) :
  Calls Tryz.prog 17 #[.pointer (some ⟨b1,0,none⟩)] W fun e w'=>∃v,e=.returned (.tuple #[v,.int .i64 0])∧W.heap.size≤w'.heap.size∧w'.ownsRow W.heap.size 45 12 v (qI F1 L1 t1 L1.length).length (zV (qI F1 L1 t1 L1.length))∧ApAt w w' b1 gn1 cn1 F1 b2 gn2 cn2 F2 vl vk vw TX TK X L1 L1.length true L2 t2:=by
 obtain⟨ao1,cap1,PL1,ao2,cap2,PL2,m1,p1,m2,p2,s1,s2⟩:=h.mons
 have hE:=j0Q b1 gn1 cn1 ao1 cap1 F1 hF PL1 t1 false W m1
 unfold endV endE endN at hE
 simp only[Bool.false_eq_true,if_false]at hE
 rw[p1]at hE
 refine hE.mono ?_
 rintro e w' ⟨v,rfl,hv,ao',cap',PL',q1,q2,q3,q4⟩
 have hl2:=j1u m2
 refine⟨v,rfl,q3.size,hv,⟨ao',cap',PL',ao2,cap2,PL2,q1,q2,m2.keep q3 m1.kinds (fun hm=>(s1 _ hm).2 (by simp)) (fun k hk hm=>(s1 _ hm).2 (by simp[hk])),p2,fun q hq=>?_,s2⟩,q0E h.rowL q3 m1.kinds (by decide) (by decide),q0E h.rowK q3 m1.kinds (by decide) (by decide),q0E h.want q3 m1.kinds (by decide) (by decide),h.bel.trans (q3.below h.bel.size (fun q hq=>(s1 q hq).1))⟩
 rcases List.mem_cons.1 hq with rfl|hq
 ·exact s1 _ (by simp)
 ·rcases q4 q hq with e|e
  ·exact s1 q (by simp[e])
  ·exact⟨zM h.bel.size e,fun hm=>by have:=hl2 q hm;omega⟩
theorem ApAt.feed2 {w W:World}{b1 gn1 cn1:Nat}{F1:zg}{b2 gn2 cn2:Nat}{F2:zg}{vl vk vw:Value}{TX TK:List LnV}{X:List Ver}{L1:List LPt}{t1:Nat}{e1:Bool}(hF:FormGood F2)(ha:q2d F2=true){ls:List Lin}{k:Nat}(hk:k<ls.length){s:By}(hok:LinOk (qa (ls.take k)) s ls[k])(h:ApAt w W b1 gn1 cn1 F1 b2 gn2 cn2 F2 vl vk vw TX TK X L1 t1 e1 (qa (ls.take k)) (qp (qa (ls.take k)) (zf F2))) :
  Calls Tryz.prog 10 #[.pointer (some ⟨b2,0,none⟩),bs s] W fun e w'=>∃(v:Value) (n:Nat) (xs:List Value),e=.returned (.tuple #[v,.int .i64 0,.int .i64 0])∧n≤40∧W.heap.size≤w'.heap.size∧w'.ownsRow W.heap.size 45 12 v n xs∧(∀(base':Nat) (v':Value) (n':Nat) (xs':List Value),W.ownsRow base' 45 12 v' n' xs'→w'.ownsRow base' 45 12 v' n' xs')∧ApAt w w' b1 gn1 cn1 F1 b2 gn2 cn2 F2 vl vk vw TX TK X L1 t1 e1 (qa (ls.take (k+1))) (qp (qa (ls.take (k+1))) (zf F2)):=by
 obtain⟨ao1,cap1,PL1,ao2,cap2,PL2,m1,p1,m2,p2,s1,s2⟩:=h.mons
 refine(q6b hF ha hk hok m2 p2).mono ?_
 rintro e w' ⟨v,rfl,hv,ao',cap',PL',q1,q2,q3,q4⟩
 have hl1:=j1u m1
 have hn:(qI F2 (qa ls) (qp (qa (ls.take k)) (zf F2)) (qp (qa (ls.take (k+1))) (zf F2))).length≤40:=by
  have h1:=q3t (qa (ls.take (k+1))) (zf F2)
  have h2:=hok.few
  rw[q2o,List.length_take]at h1 h2
  rw[q0q]
  omega
 refine⟨v,_,_,rfl,hn,q3.size,hv,fun _ _ _ _ hr=>q0E hr q3 m2.kinds (by decide) (by decide),⟨ao1,cap1,PL1,ao',cap',PL',m1.keep q3 m2.kinds (fun hm=>(s1 b1 (by simp)).2 hm) (fun k hk hm=>(s1 k (by simp[hk])).2 hm),p1,q1,q2,fun q hq=>⟨(s1 q hq).1,fun hm=>?_⟩,fun q hq=>?_⟩,q0E h.rowL q3 m2.kinds (by decide) (by decide),q0E h.rowK q3 m2.kinds (by decide) (by decide),q0E h.want q3 m2.kinds (by decide) (by decide),h.bel.trans (q3.below h.bel.size s2)⟩
 ·have hl:=hl1 q hq
  rcases List.mem_cons.1 hm with rfl|hm
  ·exact(s1 _ hq).2 (by simp)
  ·rcases q4 q hm with e|e
   ·exact(s1 q hq).2 (by simp[e])
   ·omega
 ·rcases List.mem_cons.1 hq with rfl|hq
  ·exact s2 _ (by simp)
  ·rcases q4 q hq with e|e
   ·exact s2 q (by simp[e])
   ·exact zM h.bel.size e
theorem j8W (t:Nat):∀c∈q6o t,qd (c.toNat:Int)=true:=by
 intro c hc
 simp only[q6o,List.mem_cons,List.not_mem_nil,or_false]at hc
 rcases hc with rfl|rfl|rfl|rfl|rfl<;>exact(q2a (by omega)).2
theorem j4H {t:Nat}(h:t≤65535):q8H 0 (q6o t)=t:=by
 unfold q8H q6o
 simp only[List.foldl]
 rw[(q2a (d:=t / 10000 % 10) (by omega)).1,(q2a (d:=t / 1000 % 10) (by omega)).1,(q2a (d:=t / 100 % 10) (by omega)).1,(q2a (d:=t / 10 % 10) (by omega)).1,(q2a (d:=t % 10) (by omega)).1]
 omega
theorem j2c {t:Nat}(h:t≤65535):q2N (st5 t)=.inr (t,[]):=by
 have hd:(st5 t).drop 1=q6o t++[]:=by simp[st5]
 have hl:(q6o t).length=5:=rfl
 have hs:=j6p (q6o t) (st5 t) [] 5 0 1 hd (by omega) (j8W t) (by decide) (by rw[j4H h];exact h)
 rw[j4H h,hl]at hs
 unfold q2N
 rw[if_pos (by rfl),hs]
 simp only[]
 rw[if_pos ⟨trivial,by omega⟩]
 have hl2:(st5 t).length=6:=rfl
 have hd6:(st5 t).drop (1+5)=q0H []:=rfl
 rw[j2G [] (st5 t) _ (1+5) [] (by simp) hd6 (by omega) (by simp)]
 rfl
theorem bad_chk:(q5G.all fun p=>(match q2N p.1 with
 | .inl q=>decide (q=p.2.2)
 | .inr _=>false)&&decide (p.1.length≤80)&&decide (p.2.1=3))=true:=by decide +kernel
theorem j2z:∀p∈q5G,q2N p.1=.inl p.2.2∧p.1.length≤80∧p.2.1=3:=by
 intro p hp
 have h:=List.all_eq_true.1 bad_chk p hp
 simp only[Bool.and_eq_true,decide_eq_true_eq]at h
 obtain⟨⟨h1,h2⟩,h3⟩:=h
 refine⟨?_,h2,h3⟩
 cases e:q2N p.1 with
 |inl q=>rw[e]at h1;simp at h1;rw[h1]
 |inr q=>rw[e]at h1;simp at h1
theorem bad_feed {L:List LPt}{p:By × Nat × Nat}(h:p∈q5G):q1Q L false p.1=((p.2.1:Int),(p.2.2:Int))∧p.2.1=3:=by
 obtain⟨h1,h2,h3⟩:=j2z p h
 refine⟨?_,h3⟩
 unfold q1Q
 rw[if_neg (by decide),if_neg (by omega),h1,h3]
 rfl
theorem j9I {L:List LPt}{s:By}(h:80<s.length):q1Q L false s=(1,0):=by
 unfold q1Q
 rw[if_neg (by decide),if_pos h]
theorem j8T {L:List LPt}{st d:Nat}(hn:0<L.length)(hs:q1Y L (L.length-1)=st)(hst:st≤65535)(hd:32768≤d)(hd2:d≤65535):q1Q L false (st5 ((st+d) % 65536))=(7,0):=by
 have e:toR L ((st+d) % 65536)=d:=by
  rw[q9r hn hs]
  omega
 unfold q1Q
 rw[if_neg (by decide),if_neg (show ¬80<(st5 ((st+d) % 65536)).length by show ¬80<6;omega),j2c (by omega)]
 simp only[]
 rw[e,if_neg (by omega),if_pos hd]
theorem more_ok {L:List LPt}{st:Nat}(hs:0<L.length→q1Y L (L.length-1)=st)(hst:st≤65535)(hf:L.length<40):LinOk L (st5 st) (st,[]):=by
 refine⟨j2c hst,by show 6≤80;omega,?_,hf⟩
 by_cases hn:0<L.length
 ·rw[q9r hn (hs hn)]
  show(st+65536-st) % 65536<32768
  omega
 ·have:L=[]:=List.length_eq_zero_iff.1 (by omega)
  subst this
  rw[j8H]
  omega
theorem j9k {L:List LPt}{st:Nat}(hn:L.length=40)(hs:q1Y L (L.length-1)=st)(hst:st≤65535):q1Q L false (st5 st)=(8,0):=by
 have e:toR L st=0:=by
  rw[q9r (by omega) hs]
  omega
 unfold q1Q
 rw[if_neg (by decide),if_neg (show ¬80<(st5 st).length by show ¬80<6;omega),j2c hst]
 simp only[]
 rw[e,if_neg (by omega),if_neg (by omega)]
theorem end_feed {L:List LPt}{s:By}:q1Q L true s=(9,0):=by
 unfold q1Q
 rw[if_pos rfl]
theorem q9e {w w':World}{b gn cn:Nat}{ao:OA}{F:zg}{PL:List PPt}{told:Nat}{ended:Bool}{s:By}{e:Ending}{er at':Int}(h:q6R w b gn cn ao F PL told ended s e w')(he:q1Q (zz PL) ended s=(er,at'))(h0:er≠0) :
  (∃v,e=.returned (.tuple #[v,.int .i64 er,.int .i64 at'])∧w'.ownsRow w.heap.size 45 12 v 0 [])∧q1q w w' b gn cn ao F (zz PL) told ended:=by
 obtain⟨v,e1,h1,h2⟩:=h
 have hne:¬(q1Q (zz PL) ended s).1=0:=by rw[he];exact h0
 rw[he]at e1
 unfold j0n at h1
 rw[if_neg hne]at h1
 unfold q6G j1e at h2
 rw[if_neg hne,if_neg hne]at h2
 exact⟨⟨v,e1,h1⟩,h2⟩
theorem j7v {w w1 w2:World}{b:Nat}{ao ao1:OA}(m1:OnlyB (b::q0P ao) w w1)(h:∀q∈q0P ao1,q∈q0P ao∨w.heap.size≤q)(m2:OnlyB (b::q0P ao1) w1 w2):OnlyB (b::q0P ao) w w2:=
 ⟨m2.os.trans m1.os,m2.tape.trans m1.tape,m2.output.trans m1.output,zM m1.size m2.size,fun k hk hn=>(m2.block k (zT hk m1.size) (fun hm=>by
  rcases List.mem_cons.1 hm with rfl|hm
  ·exact hn (by simp)
  ·rcases h k hm with e|e
   ·exact hn (by simp[e])
   ·omega)).trans (m1.block k hk hn)⟩
theorem q1q.trans {w w1 w2:World}{b gn cn:Nat}{ao ao1:OA}{F:zg}{L:List LPt}{told:Nat}{ended:Bool}(m1:OnlyB (b::q0P ao) w w1)(h:∀q∈q0P ao1,q∈q0P ao∨w.heap.size≤q)(m2:q1q w1 w2 b gn cn ao1 F L told ended):q1q w w2 b gn cn ao F L told ended:=by
 obtain⟨ao',cap',PL',q1,q2,q3,q4⟩:=m2
 refine⟨ao',cap',PL',q1,q2,j7v m1 h q3,fun k hk=>?_⟩
 rcases q4 k hk with e|e
 ·exact h k e
 ·exact .inr (zM m1.size e)
theorem mon_blk {w w':World}{b gn cn:Nat}{ao:OA}{cap:Nat}{F:zg}{PL:List PPt}{told:Nat}{ended:Bool}(m:MonAt w b gn cn ao cap F PL told ended)(o:OnlyB (b::q0P ao) w w'){g:Nat}{cs:Array Value}{t:TypeId}(hg:w.heap[g]?=some (.cells cs t (0,0)))(h1:t≠93)(h2:t≠136):w'.heap[g]?=some (.cells cs t (0,0)):=by
 refine(o.block g (zd hg) (fun hm=>?_)).trans hg
 obtain⟨cs',t',e1,e2⟩:=m.kinds g hm
 rw[hg]at e1
 simp only[Option.some.injEq,Obj.cells.injEq]at e1
 rcases e2 with e2|e2
 ·rw[e2]at e1;exact h1 e1.2.1
 ·rw[e2]at e1;exact h2 e1.2.1
def rgS:Nat→By
 | 0=>[64,49]
 |m+1=>rgS m++[32,112,40,49,41]
theorem rg_len:∀m,(rgS m).length=2+5*m:=by
 intro m
 induction m with
 |zero=>rfl
 |succ m ih=>rw[rgS,List.length_append,ih];simp;omega
def RfRel (w:World)(b gn cn:Nat)(ao:OA)(F:zg)(L:List LPt)(told:Nat)(gl:Nat)(RC:Array Value)(g:Nat)(vi:Value)(wr:World):Prop:=
 ∃k:Nat,k≤18∧18-k≤g∧vi=.int .i64 k∧wr.heap[gl]?=some (.cells RC 85 (0,0))∧q1q w wr b gn cn ao F L told false
def RgRel (W:World)(g:Nat)(vs:Value)(wr:World):Prop:=∃m:Nat,m≤16∧16-m≤g∧vs=.string ⟨(rgS m).toArray⟩∧wr=W
theorem j5t (b gn cn:Nat)(ao:OA)(cap:Nat)(F:zg)(hF:FormGood F)(PL:List PPt)(told:Nat)(w:World)(h:MonAt w b gn cn ao cap F PL told false) :
  Calls Tryz.prog 9 #[.pointer (some ⟨b,0,none⟩)] w fun e w'=>e=.returned (.bool true)∧q1q w w' b gn cn ao F (zz PL) told false:=by
 have HLN:=zb (j9x w)
 obtain⟨L,hL⟩:∃L,L=zz PL:=⟨_,rfl⟩
 rw[←hL]
 have HFD:Hid (∀W ao1 cap1 PL1,MonAt W b gn cn ao1 cap1 F PL1 told false→zz PL1=L→∀k (h:k<q5G.length),Calls Tryz.prog 10 #[.pointer (some ⟨b,0,none⟩),bs q5G[k].1] W fun e w'=>(∃v,e=.returned (.tuple #[v,.int .i64 q5G[k].2.1,.int .i64 q5G[k].2.2])∧w'.ownsRow W.heap.size 45 12 v 0 [])∧q1q W w' b gn cn ao1 F L told false):=zb (fun W ao1 cap1 PL1 hM hp k hk=>by
  obtain⟨_,h2,_⟩:=j2z q5G[k] (List.getElem_mem hk)
  obtain⟨e1,e2⟩:=bad_feed (L:=zz PL1) (p:=q5G[k]) (List.getElem_mem hk)
  refine(q6h b gn cn ao1 cap1 F hF PL1 told false q5G[k].1 (by unfold maxLen;omega) W hM).mono ?_
  intro e w' hf
  have:=q9e hf e1 (by rw[e2];decide)
  rw[hp]at this
  exact this)
 have HFL:Hid (∀W ao1 cap1 PL1,MonAt W b gn cn ao1 cap1 F PL1 told false→zz PL1=L→Calls Tryz.prog 10 #[.pointer (some ⟨b,0,none⟩),bs (rgS 16)] W fun e w'=>(∃v,e=.returned (.tuple #[v,.int .i64 1,.int .i64 0])∧w'.ownsRow W.heap.size 45 12 v 0 [])∧q1q W w' b gn cn ao1 F L told false):=zb (fun W ao1 cap1 PL1 hM hp=>by
  have hl:=rg_len 16
  refine(q6h b gn cn ao1 cap1 F hF PL1 told false (rgS 16) (by unfold maxLen;omega) W hM).mono ?_
  intro e w' hf
  have:=q9e hf (j9I (by omega)) (by decide)
  rw[hp]at this
  exact this)
 have hb18:q5G.length=18:=rfl
 have HRF:Hid (∀(W:World) (g k:Nat) (h:k<q5G.length),W.heap[g]?=some (.cells (q3U q5G).toArray 85 (0,0))→W.cell? ⟨g,k*3,none⟩=some (bs q5G[k].1)∧W.cell? ⟨g,k*3+1,none⟩=some (.int .i64 q5G[k].2.1)∧W.cell? ⟨g,k*3+2,none⟩=some (.int .i64 q5G[k].2.2)):=zb (fun W g k h hg=>j8E hg h)
 have HM0:=zb h
 have HL:=zb hL
 obtain⟨RC,hRC⟩:∃RC,RC=(q3U q5G).toArray:=⟨_,rfl⟩
 rw[←hRC]at HLN HRF
 clear h hL hRC
 go_enter Tryz.func9,Tryz.ntmps9
 go_wp2_with fail
 refine HLN.out.mono ?_
 rintro e w1 ⟨gl,rfl,k1,b1⟩
 have HT1:Hid (q1q w w1 b gn cn ao F L told false):=zb (by rw[HL.out];exact q1q.same HM0.out b1)
 have HK1:=zb k1
 clear k1 b1 HLN HM0 HL
 go_wp2_with fail
 go_loopg [4] 18 (fun g vi wr=>RfRel w b gn cn ao F L told gl RC g vi wr)
 case atStart=>exact⟨0,by omega,by omega,rfl,HK1.out,HT1.out⟩
 case round =>
  obtain⟨k,hk,hg,rfl,hkk,hto⟩:=hrel
  have HG:=zb hg
  have HK:=zb hkk
  have HTo:=zb hto
  obtain⟨ao1,cap1,PL1,m1,p1,o1,q1⟩:=hto
  have HM1:=zb m1
  have HP1:=zb p1
  have HO1:=zb o1
  have HQ1:=zb q1
  clear hg hkk m1 p1 o1 q1 HK1 HT1
  have hgl:gl<wr.heap.size:=zd HK.out
  by_cases hk18:k<18
  ·have hki:(k:Int)<18:=by omega
   have hkb:k<q5G.length:=by omega
   have HFk:=zb (HFD.out wr ao1 cap1 PL1 HM1.out HP1.out k hkb)
   have HRk:=zb (fun W g=>HRF.out W g k hkb)
   generalize q5G[k]=p at *
   obtain⟨tx,er,pl⟩:=p
   simp only[]at HFk HRk
   obtain⟨c0,_,_⟩:=HRk.out wr gl HK.out
   go_wp2_with fail
   refine HFk.out.mono ?_
   rintro e w2 ⟨⟨v,rfl,rv⟩,m2⟩
   obtain⟨va,vc,rfl⟩:=qn rv
   have HT2:=zb (q1q.trans HO1.out HQ1.out m2)
   obtain⟨ao2,cap2,PL2,_,_,o2,_⟩:=m2
   have k2:=mon_blk HM1.out o2 HK.out (by decide) (by decide)
   have HK2:=zb k2
   obtain⟨_,c1,c2⟩:=HRk.out w2 gl k2
   have hgl2:gl<w2.heap.size:=zd k2
   clear rv o2 k2 c0 HFk HRk
   go_wp2_with fail
   have hgp:0<gk:=by have:=HG.out;omega
   go_roundg (gk-1)
   case measure=>omega
   case rel=>exact⟨k+1,by omega,by have:=HG.out;omega,by go_num,HK2.out,HT2.out⟩
  ·have hki:¬(k:Int)<18:=by omega
   have HFk:=zb (HFL.out wr ao1 cap1 PL1 HM1.out HP1.out)
   clear HFD HRF HK HTo HFL
   go_wp2_with fail
   go_loopg [8] 16 (fun g vs wr2=>RgRel wr g vs wr2)
   case atStart=>exact⟨0,by omega,by omega,rfl,rfl⟩
   case round =>
    obtain⟨m,hm,hgm,rfl,hwr⟩:=hrel
    have hwr':=hwr.symm
    subst hwr'
    have hln:=rg_len m
    by_cases hmn:m<16
    ·have hmk:ByteArray.mk (rgS m).toArray++ByteArray.mk #[32,112,40,49,41]=ByteArray.mk (rgS (m+1)).toArray:=qE (rgS m) [32,112,40,49,41]
     obtain⟨S1,hS1⟩:∃S1,S1=rgS (m+1):=⟨_,rfl⟩
     have HS1:=zb hS1
     rw[←hS1]at hmk
     obtain⟨S,hS⟩:∃S,S=rgS m:=⟨_,rfl⟩
     rw[←hS]at hmk hln ⊢
     have hli:((S.length:Nat):Int)≤80:=by omega
     have hq:¬9223372036854775807<S.length+5:=by omega
     clear hS hS1
     go_wp2_with fail
     have hgp:0<gk:=by omega
     go_roundg (gk-1)
     case measure=>omega
     case rel=>exact⟨m+1,by omega,by omega,by rw[HS1.out],rfl⟩
    ·obtain rfl:m=16:=by omega
     obtain⟨S,hS⟩:∃S,S=rgS 16:=⟨_,rfl⟩
     rw[←hS]at hln HFk ⊢
     clear hS
     have hli:¬((S.length:Nat):Int)≤80:=by omega
     go_wp2_with fail
     refine HFk.out.mono ?_
     rintro e w2 ⟨⟨v,rfl,rv⟩,m2⟩
     obtain⟨va,vc,rfl⟩:=qn rv
     have HT2:=zb (q1q.trans HO1.out HQ1.out m2)
     clear rv m2
     go_wp2_with fail
     go_ret
     exact⟨rfl,HT2.out⟩
def fuL (ls:List Lin)(st:Nat):List Lin:=ls++List.replicate (40-ls.length) (st,[])
theorem j6X (ls:List Lin)(st:Nat)(h:ls.length≤40):(fuL ls st).length=40:=by
 unfold fuL
 simp
 omega
theorem fu_at (ls:List Lin)(st:Nat)(k:Nat)(hk:ls.length≤k)(h:k<(fuL ls st).length):(fuL ls st)[k]=(st,[]):=by
 have h2:k<ls.length+(40-ls.length):=by unfold fuL at h;simpa using h
 have e:(fuL ls st)[k]?=some (st,[]):=by
  unfold fuL
  rw[List.getElem?_append_right hk,List.getElem?_replicate,if_pos (by omega)]
 exact Option.some.inj ((zG h).symm.trans e)
theorem j8n (ls:List Lin)(st:Nat)(h:ls.length≤40)(k:Nat)(hk:k≤40):(qa ((fuL ls st).take k)).length=k:=by
 rw[q2o,List.length_take,j6X ls st h]
 omega
theorem fu_stamp (ls:List Lin)(st:Nat)(h:ls.length≤40)(h0:0<ls.length→q1Y (qa ls) (ls.length-1)=st)(k:Nat)(hk:ls.length≤k)(hk4:k≤40)(hp:0<k):q1Y (qa ((fuL ls st).take k)) (k-1)=st:=by
 have hl:=j6X ls st h
 by_cases he:k=ls.length
 ·subst he
  have e:(fuL ls st).take ls.length=ls:=by unfold fuL;simp
  rw[e]
  exact h0 hp
 ·obtain⟨j,rfl⟩:∃j,k=j+1:=⟨k-1,by omega⟩
  have hj:j<(fuL ls st).length:=by omega
  rw[q3H _ j hj,fu_at ls st j (by omega) hj]
  have e:=q5L (qa ((fuL ls st).take j)) (st,[])
  rw[j8n ls st h j (by omega)]at e
  exact e
def FuRel (w:World)(b gn cn:Nat)(ao:OA)(F:zg)(LT:Nat→List LPt)(TK:Nat→Nat)(n:Nat)(g:Nat)(vk:Value)(wr:World):Prop:=
 ∃k:Nat,n≤k∧k≤40∧40-k≤g∧vk=.int .i64 k∧q1q w wr b gn cn ao F (LT k) (TK k) false
theorem kep_full (b gn cn:Nat)(ao:OA)(cap:Nat)(F:zg)(hF:FormGood F)(hah:q2d F=true)(ls:List Lin)(n:Nat)(hn:ls.length=n)(hn40:n≤40)(st:Nat)(hst:st≤65535)(h0:0<n→q1Y (qa ls) (n-1)=st)(h7:n=0→st=7)(PL:List PPt)(w:World)(hM:MonAt w b gn cn ao cap F PL (qp (qa ls) (zf F)) false)(hP:zz PL=qa ls)(la:OA)(lc base:Nat)(TX:List LnV)(hT:TX.length=n)(hT0:∀h:0<n,(TX[n-1]'(by omega)).1=st)(hv:w.ownsRow base 41 4 (.slice la n lc) n (q0O TX)) :
  Calls Tryz.prog 15 #[.pointer (some ⟨b,0,none⟩),.slice la n lc,.int .i64 n] w fun e w'=>e=.returned (.bool true)∧OnlyB (b::q0P ao) w w':=by
 subst hn
 obtain⟨LT,hLT⟩:∃LT:Nat→List LPt,LT=fun k=>qa ((fuL ls st).take k):=⟨_,rfl⟩
 obtain⟨TK,hTK⟩:∃TK:Nat→Nat,TK=fun k=>qp (qa ((fuL ls st).take k)) (zf F):=⟨_,rfl⟩
 have e0:(fuL ls st).take ls.length=ls:=by unfold fuL;simp
 have HSP:=zb (fun W=>j0r st hst W)
 have hlen:=j6X ls st hn40
 have hst40:=fu_stamp ls st hn40 h0
 have hlog:=j8n ls st hn40
 have HFD:Hid (∀W ao1 cap1 PL1 k,ls.length≤k→k<40→MonAt W b gn cn ao1 cap1 F PL1 (TK k) false→zz PL1=LT k→Calls Tryz.prog 10 #[.pointer (some ⟨b,0,none⟩),.string ⟨(st5 st).toArray⟩] W fun e w'=>(∃v,e=.returned (.tuple #[v,.int .i64 0,.int .i64 0]))∧q1q W w' b gn cn ao1 F (LT (k+1)) (TK (k+1)) false):=zb (fun W ao1 cap1 PL1 k h1 h2 hM hp=>by
  rw[hTK]at hM
  rw[hLT]at hp
  have hk:k<(fuL ls st).length:=by omega
  have hok:LinOk (qa ((fuL ls st).take k)) (st5 st) (fuL ls st)[k]:=by
   rw[fu_at ls st k h1 hk]
   refine more_ok (fun hpos=>?_) hst (by rw[hlog k (by omega)];exact h2)
   rw[hlog k (by omega)]at hpos ⊢
   exact hst40 k h1 (by omega) hpos
  refine(q6b hF hah hk hok hM hp).mono ?_
  rintro e w' ⟨v,rfl,_,ao',cap',PL',q1,q2,q3,q4⟩
  rw[hTK,hLT]
  exact⟨⟨v,rfl⟩,ao',cap',PL',q1,q2,q3,q4⟩)
 have HFF:Hid (∀W ao1 cap1 PL1,MonAt W b gn cn ao1 cap1 F PL1 (TK 40) false→zz PL1=LT 40→Calls Tryz.prog 10 #[.pointer (some ⟨b,0,none⟩),.string ⟨(st5 st).toArray⟩] W fun e w'=>(∃v,e=.returned (.tuple #[v,.int .i64 8,.int .i64 0])∧w'.ownsRow W.heap.size 45 12 v 0 [])∧q1q W w' b gn cn ao1 F (LT 40) (TK 40) false):=zb (fun W ao1 cap1 PL1 hM hp=>by
  refine(q6h b gn cn ao1 cap1 F hF PL1 (TK 40) false (st5 st) (by show 6≤maxLen;unfold maxLen;omega) W hM).mono ?_
  intro e w' hf
  have hl:(zz PL1).length=40:=by rw[hp,hLT];exact hlog 40 (zL _)
  have:=q9e hf (j9k hl (by rw[hl,hp,hLT];exact hst40 40 hn40 (zL _) (by omega)) hst) (by decide)
  rw[hp]at this
  exact this)
 have hl40:(LT 40).length=40:=by rw[hLT];exact hlog 40 (zL _)
 have HE1:Hid (∀W ao1 cap1 PL1,MonAt W b gn cn ao1 cap1 F PL1 (TK 40) false→zz PL1=LT 40→Calls Tryz.prog 17 #[.pointer (some ⟨b,0,none⟩)] W fun e w'=>(∃v,e=.returned (.tuple #[v,.int .i64 0]))∧q1q W w' b gn cn ao1 F (LT 40) 40 true):=zb (fun W ao1 cap1 PL1 hM hp=>by
  have hE:=j0Q b gn cn ao1 cap1 F hF PL1 (TK 40) false W hM
  unfold endE endN at hE
  simp only[Bool.false_eq_true,if_false]at hE
  rw[hp,hl40]at hE
  refine hE.mono ?_
  rintro e w' ⟨v,rfl,_,h2⟩
  exact⟨⟨v,rfl⟩,h2⟩)
 have HE2:Hid (∀W ao1 cap1 PL1,MonAt W b gn cn ao1 cap1 F PL1 40 true→zz PL1=LT 40→Calls Tryz.prog 17 #[.pointer (some ⟨b,0,none⟩)] W fun e w'=>(∃v,e=.returned (.tuple #[v,.int .i64 9])∧w'.ownsRow W.heap.size 45 12 v 0 [])∧q1q W w' b gn cn ao1 F (LT 40) 40 true):=zb (fun W ao1 cap1 PL1 hM hp=>by
  have hE:=j0Q b gn cn ao1 cap1 F hF PL1 40 true W hM
  unfold endE endN endV at hE
  simp only[if_true]at hE
  rw[hp]at hE
  refine hE.mono ?_
  rintro e w' ⟨v,rfl,h1,h2⟩
  exact⟨⟨v,rfl,h1⟩,h2⟩)
 have HFE:Hid (∀W ao1 cap1 PL1,MonAt W b gn cn ao1 cap1 F PL1 40 true→zz PL1=LT 40→Calls Tryz.prog 10 #[.pointer (some ⟨b,0,none⟩),.string ⟨#[63]⟩] W fun e w'=>(∃v,e=.returned (.tuple #[v,.int .i64 9,.int .i64 0])∧w'.ownsRow W.heap.size 45 12 v 0 [])∧q1q W w' b gn cn ao1 F (LT 40) 40 true):=zb (fun W ao1 cap1 PL1 hM hp=>by
  refine(q6h b gn cn ao1 cap1 F hF PL1 40 true [63] (by show 1≤maxLen;unfold maxLen;omega) W hM).mono ?_
  intro e w' hf
  have:=q9e hf end_feed (by decide)
  rw[hp]at this
  exact this)
 have HSE:Hid (∀W ao1 cap1 PL1,MonAt W b gn cn ao1 cap1 F PL1 40 true→zz PL1=LT 40→Calls Tryz.prog 13 #[.pointer (some ⟨b,0,none⟩)] W fun e w'=>e=.returned (.tuple #[.int .i64 40,.int .i64 40])∧Below W.heap.size W w'):=zb (fun W ao1 cap1 PL1 hM hp=>by
  have:=j6F b gn cn ao1 cap1 F PL1 40 true W hM
  have e:PL1.length=40:=by have:=congrArg List.length hp;rw[hl40]at this;simpa using this
  rw[e]at this
  exact this)
 have HT1:Hid (q1q w w b gn cn ao F (LT ls.length) (TK ls.length) false):=zb (by
  rw[hLT,hTK]
  show q1q w w b gn cn ao F (qa ((fuL ls st).take ls.length)) (qp (qa ((fuL ls st).take ls.length)) (zf F)) false
  rw[e0]
  exact⟨ao,cap,PL,hM,hP,.of_below (zB _ _),fun k hk=>.inl hk⟩)
 have HLC:Hid (∀(hp:0<ls.length) (g:Nat),la=some ⟨g,0,none⟩→w.cell? ⟨g,(ls.length-1)*4,none⟩=some (.int .u16 st)):=zb (fun hp g e=>by
  subst e
  have:=hv.cellAt ((ls.length-1)*4) (by omega)
  rw[this,show(ls.length-1)*4=(ls.length-1)*4+0 by omega,j5z TX (ls.length-1) (by omega) 0 (by omega)]
  show some (Value.int .u16 ((TX[ls.length-1]'(by omega)).1:Int))=_
  rw[hT0 hp])
 have HV:=zb hv
 clear hLT hTK e0 hM hP hv hT0 hlen hst40 hlog h0
 generalize (st5 st)=S5 at *
 generalize ls.length=n at *
 go_enter Tryz.func15,Tryz.ntmps15
 by_cases hn0:0<n
 ·have hn0i:(0:Int)<(n:Int):=by omega
  obtain⟨gl,lc',el⟩:=zJ HV.out hn0
  obtain⟨rfl,rfl⟩:la=some ⟨gl,0,none⟩∧lc=lc':=by simpa using el
  have hcl:=HLC.out hn0 gl rfl
  have hgl:gl<w.heap.size:=World.block_lt_of_cell? w _ hcl
  obtain⟨csl,kl1,al1,al2,_⟩:=q6w HV.out
  unfold maxLen at al2
  have hwn:IntKind.i64.wrap ((n:Int)-1)=((n-1:Nat):Int):=by rw[IntKind.wrap_i64];omega
  obtain⟨n1,hn1⟩:∃n1,n1=n-1:=⟨_,rfl⟩
  rw[←hn1]at hcl hwn
  have hn1i:(n1:Int)<(n:Int):=by omega
  have hn1n:n1<n:=by omega
  clear el kl1 HLC HV hn1
  go_wp2_with fail
  go_loopg [2] (40-n) (fun g vk wr=>FuRel w b gn cn ao F LT TK n g vk wr)
  case atStart=>exact⟨n,zL _,hn40,by omega,rfl,HT1.out⟩
  case round =>
   obtain⟨k,hk1,hk2,hg,rfl,hto⟩:=hrel
   have HG:=zb hg
   obtain⟨ao1,cap1,PL1,m1,p1,o1,q1⟩:=hto
   have HM1:=zb m1
   have HP1:=zb p1
   have HO1:=zb o1
   have HQ1:=zb q1
   clear hg m1 p1 o1 q1 HT1
   by_cases hk40:k<40
   ·have hki:(k:Int)<40:=by omega
    go_wp2_with fail
    refine(HSP.out _).mono ?_
    rintro e w1 ⟨rfl,b1⟩
    have HF1:=zb (HFD.out w1 ao1 cap1 PL1 k hk1 hk40 (HM1.out.below b1) HP1.out)
    have HO2:=zb (HO1.out.trans (.of_below b1))
    clear b1
    go_wp2_with fail
    refine HF1.out.mono ?_
    rintro e w2 ⟨⟨v,rfl⟩,m2⟩
    have HT2:=zb (q1q.trans HO2.out HQ1.out m2)
    clear m2
    go_wp2_with fail
    have hgp:0<gk:=by have:=HG.out;omega
    go_roundg (gk-1)
    case measure=>omega
    case rel=>exact⟨k+1,by omega,by omega,by have:=HG.out;omega,by go_num,HT2.out⟩
   ·have hki:¬(k:Int)<40:=by omega
    obtain rfl:k=40:=by omega
    go_wp2_with fail
    refine(HSP.out _).mono ?_
    rintro e w1 ⟨rfl,b1⟩
    have HF1:=zb (HFF.out w1 ao1 cap1 PL1 (HM1.out.below b1) HP1.out)
    have HO2:=zb (HO1.out.trans (.of_below b1))
    clear b1 HFD HFF
    go_wp2_with fail
    refine HF1.out.mono ?_
    rintro e w2 ⟨⟨v,rfl,rv⟩,m2⟩
    obtain⟨va,vc,rfl⟩:=qn rv
    obtain⟨ao2,cap2,PL2,m3,p3,o3,q3⟩:=q1q.trans HO2.out HQ1.out m2
    have HE1':=zb (HE1.out w2 ao2 cap2 PL2 m3 p3)
    have HO3:=zb o3
    have HQ3:=zb q3
    clear rv m2 m3 p3 o3 q3 HF1 HM1 HP1 HO1 HQ1 HO2 HE1
    go_wp2_with fail
    refine HE1'.out.mono ?_
    rintro e w3 ⟨⟨v3,rfl⟩,m2⟩
    obtain⟨ao4,cap4,PL4,m4,p4,o4,q4⟩:=q1q.trans HO3.out HQ3.out m2
    have HS4:=zb (HSE.out w3 ao4 cap4 PL4 m4 p4)
    have HM4:=zb m4
    have HP4:=zb p4
    have HO4:=zb o4
    have HQ4:=zb q4
    clear m2 m4 p4 o4 q4 HO3 HQ3 HE1'
    go_wp2_with fail
    refine HS4.out.mono ?_
    rintro e w4 ⟨rfl,b4⟩
    have HE4:=zb (HE2.out w4 ao4 cap4 PL4 (HM4.out.below b4) HP4.out)
    have HO5:=zb (HO4.out.trans (.of_below b4))
    clear b4 HS4 HO4 HM4 HP4
    go_wp2_with fail
    refine HE4.out.mono ?_
    rintro e w5 ⟨⟨v5,rfl,rv⟩,m2⟩
    obtain⟨va5,vc5,rfl⟩:=qn rv
    obtain⟨ao6,cap6,PL6,m6,p6,o6,q6⟩:=q1q.trans HO5.out HQ4.out m2
    have HF6:=zb (HFE.out w5 ao6 cap6 PL6 m6 p6)
    have HO6:=zb o6
    have HQ6:=zb q6
    clear rv m2 m6 p6 o6 q6 HE4 HO5 HQ4
    go_wp2_with fail
    refine HF6.out.mono ?_
    rintro e w6 ⟨⟨v6,rfl,rv⟩,m2⟩
    obtain⟨va6,vc6,rfl⟩:=qn rv
    obtain⟨ao7,cap7,PL7,m7,p7,o7,q7⟩:=q1q.trans HO6.out HQ6.out m2
    have HS7:=zb (HSE.out w6 ao7 cap7 PL7 m7 p7)
    have HO7:=zb o7
    clear rv m2 m7 p7 o7 q7 HF6 HO6 HQ6
    go_wp2_with fail
    refine HS7.out.mono ?_
    rintro e w7 ⟨rfl,b7⟩
    have HO8:=zb (HO7.out.trans (.of_below b7))
    clear b7
    go_wp2_with fail
    go_ret
    exact⟨rfl,HO8.out⟩
 ·have hn00:n=0:=by omega
  subst hn00
  have hs7:st=7:=h7 rfl
  subst hs7
  clear HLC HV
  go_wp2_with fail
  go_loopg [2] (40-0) (fun g vk wr=>FuRel w b gn cn ao F LT TK 0 g vk wr)
  case atStart=>exact⟨0,zL _,hn40,by omega,rfl,HT1.out⟩
  case round =>
   obtain⟨k,hk1,hk2,hg,rfl,hto⟩:=hrel
   have HG:=zb hg
   obtain⟨ao1,cap1,PL1,m1,p1,o1,q1⟩:=hto
   have HM1:=zb m1
   have HP1:=zb p1
   have HO1:=zb o1
   have HQ1:=zb q1
   clear hg m1 p1 o1 q1 HT1
   by_cases hk40:k<40
   ·have hki:(k:Int)<40:=by omega
    go_wp2_with fail
    refine(HSP.out _).mono ?_
    rintro e w1 ⟨rfl,b1⟩
    have HF1:=zb (HFD.out w1 ao1 cap1 PL1 k hk1 hk40 (HM1.out.below b1) HP1.out)
    have HO2:=zb (HO1.out.trans (.of_below b1))
    clear b1
    go_wp2_with fail
    refine HF1.out.mono ?_
    rintro e w2 ⟨⟨v,rfl⟩,m2⟩
    have HT2:=zb (q1q.trans HO2.out HQ1.out m2)
    clear m2
    go_wp2_with fail
    have hgp:0<gk:=by have:=HG.out;omega
    go_roundg (gk-1)
    case measure=>omega
    case rel=>exact⟨k+1,by omega,by omega,by have:=HG.out;omega,by go_num,HT2.out⟩
   ·have hki:¬(k:Int)<40:=by omega
    obtain rfl:k=40:=by omega
    go_wp2_with fail
    refine(HSP.out _).mono ?_
    rintro e w1 ⟨rfl,b1⟩
    have HF1:=zb (HFF.out w1 ao1 cap1 PL1 (HM1.out.below b1) HP1.out)
    have HO2:=zb (HO1.out.trans (.of_below b1))
    clear b1 HFD HFF
    go_wp2_with fail
    refine HF1.out.mono ?_
    rintro e w2 ⟨⟨v,rfl,rv⟩,m2⟩
    obtain⟨va,vc,rfl⟩:=qn rv
    obtain⟨ao2,cap2,PL2,m3,p3,o3,q3⟩:=q1q.trans HO2.out HQ1.out m2
    have HE1':=zb (HE1.out w2 ao2 cap2 PL2 m3 p3)
    have HO3:=zb o3
    have HQ3:=zb q3
    clear rv m2 m3 p3 o3 q3 HF1 HM1 HP1 HO1 HQ1 HO2 HE1
    go_wp2_with fail
    refine HE1'.out.mono ?_
    rintro e w3 ⟨⟨v3,rfl⟩,m2⟩
    obtain⟨ao4,cap4,PL4,m4,p4,o4,q4⟩:=q1q.trans HO3.out HQ3.out m2
    have HS4:=zb (HSE.out w3 ao4 cap4 PL4 m4 p4)
    have HM4:=zb m4
    have HP4:=zb p4
    have HO4:=zb o4
    have HQ4:=zb q4
    clear m2 m4 p4 o4 q4 HO3 HQ3 HE1'
    go_wp2_with fail
    refine HS4.out.mono ?_
    rintro e w4 ⟨rfl,b4⟩
    have HE4:=zb (HE2.out w4 ao4 cap4 PL4 (HM4.out.below b4) HP4.out)
    have HO5:=zb (HO4.out.trans (.of_below b4))
    clear b4 HS4 HO4 HM4 HP4
    go_wp2_with fail
    refine HE4.out.mono ?_
    rintro e w5 ⟨⟨v5,rfl,rv⟩,m2⟩
    obtain⟨va5,vc5,rfl⟩:=qn rv
    obtain⟨ao6,cap6,PL6,m6,p6,o6,q6⟩:=q1q.trans HO5.out HQ4.out m2
    have HF6:=zb (HFE.out w5 ao6 cap6 PL6 m6 p6)
    have HO6:=zb o6
    have HQ6:=zb q6
    clear rv m2 m6 p6 o6 q6 HE4 HO5 HQ4
    go_wp2_with fail
    refine HF6.out.mono ?_
    rintro e w6 ⟨⟨v6,rfl,rv⟩,m2⟩
    obtain⟨va6,vc6,rfl⟩:=qn rv
    obtain⟨ao7,cap7,PL7,m7,p7,o7,q7⟩:=q1q.trans HO6.out HQ6.out m2
    have HS7:=zb (HSE.out w6 ao7 cap7 PL7 m7 p7)
    have HO7:=zb o7
    clear rv m2 m7 p7 o7 q7 HF6 HO6 HQ6
    go_wp2_with fail
    refine HS7.out.mono ?_
    rintro e w7 ⟨rfl,b7⟩
    have HO8:=zb (HO7.out.trans (.of_below b7))
    clear b7
    go_wp2_with fail
    go_ret
    exact⟨rfl,HO8.out⟩
theorem q3q (d:Nat)(xs:Array Value)(w:World)(j:Nat)(is:List Nat)(a:Int)(h1:xs[j]?=some (.int .u16 a))(hr:(Op.eqItems (d+1) 38 1 xs xs is).run Tryz.prog w=.ok true w):(Op.eqItems (d+1) 38 1 xs xs (j::is)).run Tryz.prog w=.ok true w:=by
 have he:(Op.equalIn (d+1) 38 (.int .u16 a) (.int .u16 a)).run Tryz.prog w=.ok (a==a) w:=run_equalIn_int w d 38 .u16 .u16 a a Tryz.underlying38
 simp only[Op.eqItems,Sem.run_bind,Nat.mul_one,j6B _ _ _ h1,Result.andThen_ok,he]
 simpa using hr
theorem j9W (d:Nat)(r:Nat→Int)(w:World):(Op.equalIn (d+2) 43 (zr r) (zr r)).run Tryz.prog w=.ok true w:=by
 obtain⟨i,hi⟩:∃i,Tryz.prog.info? 38=some i:=⟨Tryz.t38,by kernel_rfl⟩
 rw[run_equalIn_array w (d+1) _ _ Tryz.underlying43 hi,show Tryz.prog.cellsOf 38=1 by kernel_rfl,show List.range 10=[0,1,2,3,4,5,6,7,8,9] from rfl]
 refine q3q d _ w 0 _ _ rfl (q3q d _ w 1 _ _ rfl (q3q d _ w 2 _ _ rfl (q3q d _ w 3 _ _ rfl (q3q d _ w 4 _ _ rfl (q3q d _ w 5 _ _ rfl (q3q d _ w 6 _ _ rfl (q3q d _ w 7 _ _ rfl (q3q d _ w 8 _ _ rfl (q3q d _ w 9 _ _ rfl ?_)))))))))
 rfl
theorem j6D (v:Ver)(w:World):(Op.equalIn 10000 45 (.agg (q3O v).toArray) (.agg (q3O v).toArray)).run Tryz.prog w=.ok true w:=by
 have p0:(part 3 (q3O v).toArray 0).run Tryz.prog w=.ok (.int .i64 v.1) w:=by simp[part,go_sem]
 have p1:(part 39 (q3O v).toArray 1).run Tryz.prog w=.ok (.int .u16 v.2.1) w:=by simp[part,go_sem]
 have p2:(part 43 (q3O v).toArray 2).run Tryz.prog w=.ok (zr (zm v.2.2)) w:=by simp[part,go_sem]
 have q0:(Op.equalIn 9999 3 (.int .i64 v.1) (.int .i64 v.1)).run Tryz.prog w=.ok true w:=by
  have:=run_equalIn_int (P:=Tryz.prog) w 9998 3 .i64 .i64 v.1 v.1 Tryz.underlying3
  simpa using this
 have q1:(Op.equalIn 9999 39 (.int .u16 v.2.1) (.int .u16 v.2.1)).run Tryz.prog w=.ok true w:=by
  have:=run_equalIn_int (P:=Tryz.prog) w 9998 39 .u16 .u16 v.2.1 v.2.1 Tryz.underlying39
  simpa using this
 have q2:(Op.equalIn 9999 43 (zr (zm v.2.2)) (zr (zm v.2.2))).run Tryz.prog w=.ok true w:=j9W 9997 _ w
 rw[show(10000:Nat)=9999+1 from rfl,run_equalIn_struct w 9999 45 _ _ (by kernel_rfl) (by kernel_rfl)]
 unfold Program.fieldsOf
 rw[Tryz.underlying45]
 simp[Op.eqFields,p0,p1,p2,q0,q1,q2]
theorem store_row {W:World}{base n g c:Nat}{xs:List Value}(h:W.ownsRow base 45 12 (.slice (some ⟨g,0,none⟩) n c) n xs){j:Nat}(hj:j<n)(cells:Array Value)(hc:cells.size=12)(h1:cells.all (·.oneCell')=true) :
  ∃W',(Instr.storeAt 45 (.pointer (some ⟨g,j*12,none⟩)) (.agg cells)).run Tryz.prog W=.ok () W'∧OnlyB [g] W W'∧W'.heap.size=W.heap.size∧∃xs',W'.ownsRow base 45 12 (.slice (some ⟨g,0,none⟩) n c) n xs'∧∀p,(j+1)*12≤p→xs'[p]?=xs[p]?:=by
 obtain⟨cs,k1,a1,a2,a3,a4,a5⟩:=q6w h
 have hsz:(j+1)*12≤c*12:=zU _ (by omega)
 obtain⟨W',s1,⟨cs',s2,s3,s4⟩,s5,s6⟩:=j7N (P:=Tryz.prog) 45 45 W g (j*12) cs cells k1 (by rw[hc];kernel_rfl) (by rw[hc,a3];omega) h1
 refine⟨W',s1,s5,s6,cs'.toList.take (n*12),⟨?_,.inr ⟨g,c,cs',rfl,a5,s2,a1,a2,by rw[s3,a3],rfl⟩⟩,fun p hp=>?_⟩
 ·rw[List.length_take,Array.length_toList,s3,a3,Nat.min_eq_left (zU _ a1)]
 ·rw[←a4,List.getElem?_take,List.getElem?_take]
  by_cases hpn:p<n*12
  ·rw[if_pos hpn,if_pos hpn,Array.getElem?_toList,Array.getElem?_toList]
   have hpc:p<cs.size:=by rw[a3];have:=zU 12 a1;omega
   rw[s4 p hpc,if_neg (by rw[hc];omega)]
  ·rw[if_neg hpn,if_neg hpn]
abbrev apMk (z:Int):Array Value:=#[.int .i64 z,.int .u16 0,.int .u16 0,.int .u16 0,.int .u16 0,.int .u16 0,.int .u16 0,.int .u16 0,.int .u16 0,.int .u16 0,.int .u16 0,.int .u16 0]
theorem apMk_one (z:Int):(apMk z).all (·.oneCell')=true:=by simp[Value.oneCell']
def apNews (a b:Int):List Value:=(apMk a).toList++(apMk b).toList
theorem apNews_one (a b:Int):∀u∈apNews a b,u.oneCell'=true:=by
 intro u hu
 have h:∀z,∀u∈(apMk z).toList,u.oneCell'=true:=fun z u hu=>by
  have:=apMk_one z
  rw[Array.all_eq_true']at this
  exact this u (by simpa using hu)
 rcases List.mem_append.1 hu with hu|hu
 ·exact h a u hu
 ·exact h b u hu
theorem ap_bld2 (a b:Int)(W:World):(Instr.buildSlice 33 2 #[(0,.agg (apMk a)),(1,.agg (apMk b))]).run Tryz.prog W=.ok (.slice (some ⟨W.heap.size,0,none⟩) 2 2) (W.alloc (.cells (apNews a b).toArray 45)):=by kernel_rfl
theorem ap_info:(Tryz.prog.info? 45).map (fun i=>(i.zero,i.size,i.bytes))=some (some (.agg (apMk 0)),12,32):=by kernel_rfl
theorem ap_bslice {P:Program}{ops:Array Oper}{rest:List Oper}{o:Oper}{a:Act}{W:World}{Q:Exit→Act→World→Prop}(hgd:o.guard=none)(ty:TypeId)(n:Nat)(parts:Array (Nat × Operand))(ho:o.op=.buildSlice ty n parts)
  (xs:Array (Nat × Value))(hx:(parts.map fun(i,x)=>(i,a.eval x))=xs)(v:Value)(W':World)(hr:(Instr.buildSlice ty n xs).run P W=.ok v W')
  (h:wpList P ops Q rest (a.put o.dst v) W'):wpList P ops Q (o::rest) a W:=by
 refine wpList_plain hgd fun _ hK=>?_
 unfold Oper.wp execOp
 simp only[ho,hx,hr,Sem.run_bind,Sem.run_pure,Result.andThen_ok]
 exact hK _ _ h
end Go.Proofs.YtiamjjonoeaggabGreatDoor
