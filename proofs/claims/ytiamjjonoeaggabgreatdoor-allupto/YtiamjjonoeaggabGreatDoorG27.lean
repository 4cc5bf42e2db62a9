import Derived.Test.YtiamjjonoeaggabGreatDoorGA
import Derived.Test.YtiamjjonoeaggabGreatDoorGB
import Derived.Test.YtiamjjonoeaggabGreatDoorG11
import Derived.Test.YtiamjjonoeaggabGreatDoorG17
import Derived.Test.YtiamjjonoeaggabGreatDoorG19
import Derived.Test.YtiamjjonoeaggabGreatDoorG26
set_option maxRecDepth 100000
set_option maxHeartbeats 16000000
namespace Go.Proofs.YtiamjjonoeaggabGreatDoor
open Go.RowKit
theorem ql {P:Program}{md:Region.Mode}{ops:Array Oper}{Q:Exit→Act→World→Prop}{S:World→Prop}{i:Nat}{oi:Oper}{v:Value}{fuel:Nat}{listed:Array Bool}{a:Act}{w:World}(d:Tmp)(hi:ops[i]?=some oi)(hd:oi.dst=some d)
  (hs:Region.noSelect ops=true)(hf:Region.free md ops listed i=true)(hr:(Region.ready md ops listed).contains i=true)
  (hQ:∀c a w,Q (.panic c) (a.put oi.dst v) w→Q (.panic c) a w)(hy:YieldsIf P ops S oi v a)(hS:S w)
  (h:wpAnyH P md ops Q S fuel (listed.setIfInBounds i true) (a.put (some d) v) w):wpAnyH P md ops Q S (fuel+1) listed a w:=
 wpAnyH_take hi hs hf hr hQ hy hS (by rw[hd];exact h)
def q3R (nd:PNode)(d0 d1:Nat)(k:Nat)(x y:Nat):Bool:=(!decide (0<k) || q4T nd.k0 nd.v0 d0 x y)&&(!decide (1<k) || q4T nd.k1 nd.v1 d1 x y)
structure VfAt (w wr:World)(nd:PNode)(d0 d1:Nat)(bk:Nat)(f:Nat→Nat→Bool):Prop where
 nod:wr.heap[w.heap.size]?=some (.cells (zm nd).toArray 166 (0,0))
 dig:wr.heap[w.heap.size+1]?=some (.cells #[.int .i64 d0,.int .i64 d1] 127 (0,0))
 res:wr.heap[w.heap.size+2]?=some (.cells zCs 43 (0,0))
 fit:wr.heap[bk]?=some (.cells (zx (zf f)).toArray 43 (0,0))
 bel:Below w.heap.size w wr
 ge:w.heap.size+3≤bk
theorem VfAt.below {w wr w':World}{nd:PNode}{d0 d1:Nat}{bk:Nat}{f:Nat→Nat→Bool}(h:VfAt w wr nd d0 d1 bk f)(hb:Below wr.heap.size wr w'):VfAt w w' nd d0 d1 bk f:=
 ⟨(hb.block _ (zd h.nod)).trans h.nod,(hb.block _ (zd h.dig)).trans h.dig,(hb.block _ (zd h.res)).trans h.res,(hb.block _ (zd h.fit)).trans h.fit,h.bel.trans (hb.mono h.bel.size),h.ge⟩
theorem VfAt.set {w wr:World}{nd:PNode}{d0 d1:Nat}{bk:Nat}{f:Nat→Nat→Bool}(h:VfAt w wr nd d0 d1 bk f)(g:Nat→Nat→Bool) :
  ∃W,(Instr.storeAt 43 (.pointer (some ⟨bk,0,none⟩)) (zn (zf g))).run Tryz.prog wr=.ok () W∧VfAt w W nd d0 d1 bk g:=by
 obtain⟨W,s1,s2,s3,s4,s5,s6,s7⟩:=q2g wr bk _ (zf g) h.fit rfl
 have hge:=h.ge
 exact⟨W,s1,⟨(s3 _ (by omega)).trans h.nod,(s3 _ (by omega)).trans h.dig,(s3 _ (by omega)).trans h.res,s2,⟨s5.trans h.bel.os,s6.trans h.bel.tape,s7.trans h.bel.output,by rw[s4];exact h.bel.size,fun q hq=>by rw[s3 q (by omega)];exact h.bel.block q hq⟩,h.ge⟩⟩
theorem q7q {w:World}{b:Nat}{nd:PNode}(h:w.heap[b]?=some (.cells (zm nd).toArray 166 (0,0)))(o:Nat)(cs:List Value)(hc:∀(j:Nat) (u:Value),cs[j]?=some u→(zm nd)[o+j]?=some u)(hl:cs.length=2):(Instr.loadAt 161 (.pointer (some ⟨b,o,none⟩))).run Tryz.prog w=.ok (.agg cs.toArray) w:=
 run_loadAt_mid w b o 161 cs _ (fun j u hj=>by rw[zC _ _ (o+j) _ _ _ h,List.getElem?_toArray];exact hc j u hj) Tryz.underlying161 rfl (by rw[hl];kernel_rfl)
theorem q7s {w:World}{b:Nat}{cs:Array Value}{t:TypeId}(h:w.heap[b]?=some (.cells cs t (0,0)))(o:Nat)(v:Value)(hv:cs[o]?=some v):(Instr.loadAt 3 (.pointer (some ⟨b,o,none⟩))).run Tryz.prog w=.ok v w:=by
 have hc:w.cell? ⟨b,o,none⟩=some v:=by rw[zC _ _ o _ _ _ h];exact hv
 simp[go_sem,hc]
def VfRel (w:World)(nd:PNode)(d0 d1 bk n:Nat)(g:Nat)(va:Value)(wr:World):Prop:=∃k:Nat,k≤n∧n-k≤g∧va=.int .i64 k∧VfAt w wr nd d0 d1 bk (q3R nd d0 d1 k)
theorem j1c (V:Value)(nd:PNode)(hV:V=q0Y nd)(d0 d1:Nat)(h0:d0<10)(h1:d1<10)(n:Nat)(hn:nd.cnt=(n:Int))(hn2:n≤2)(w:World) :
  Calls Tryz.prog 162 #[V,.agg #[.int .i64 d0,.int .i64 d1]] w fun e w'=>e=.returned (zn (zf (q3R nd d0 d1 n)))∧Below w.heap.size w w':=by
 have HV:Hid (V=.agg (zm nd).toArray):=zb hV
 have HAL:=zb q2x
 have HK0:Hid ((fun _ _=>true)=q3R nd d0 d1 0):=zb (by funext x y;simp[q3R])
 have HVA0:=zb (q5f nd.k0 nd.v0 d0 h0)
 have HVA1:=zb (q5f nd.k1 nd.v1 d1 h1)
 have HF1:Hid (q3R nd d0 d1 1=fun x y=>q3R nd d0 d1 0 x y&&q4T nd.k0 nd.v0 d0 x y):=zb (by funext x y;simp[q3R])
 have HF2:Hid (q3R nd d0 d1 2=fun x y=>q3R nd d0 d1 1 x y&&q4T nd.k1 nd.v1 d1 x y):=zb (by funext x y;simp[q3R])
 obtain⟨UA,hUA⟩:∃UA,UA=zn (zf fun _ _=>true):=⟨_,rfl⟩
 rw[←hUA]at HAL
 have HUA:=zb hUA
 obtain⟨RV,hRV⟩:∃RV,RV=zn (zf (q3R nd d0 d1 n)):=⟨_,rfl⟩
 rw[←hRV]
 have HRV:=zb hRV
 have HN:=zb hn
 clear hV hUA hRV hn
 go_enter Tryz.func162,Tryz.ntmps162
 go_wp2_with (first|(refine qo rfl 166 (.tmp 0) rfl V _ rfl HV.out ?_;intro W0 g0 b0 z0;have HZ0:=zb z0;have HG0:=zb g0;have HB0:=zb b0;clear g0 z0 b0))
 have B1:Below w.heap.size w ((W0.alloc (.cells #[.int .i64 d0,.int .i64 d1] 127)).alloc (.cells zCs 43)):=(HB0.out.alloc HB0.out.size _).alloc (by have:=HB0.out.size;simp;omega) _
 have ew0:W0.heap.size=w.heap.size+1:=HZ0.out
 have G0:((W0.alloc (.cells #[.int .i64 d0,.int .i64 d1] 127)).alloc (.cells zCs 43)).heap[w.heap.size]?=_:=(zO _ _ (by simp;omega)).trans ((zO _ _ (by omega)).trans HG0.out)
 have G1:((W0.alloc (.cells #[.int .i64 d0,.int .i64 d1] 127)).alloc (.cells zCs 43)).heap[w.heap.size+1]?=some (.cells #[.int .i64 d0,.int .i64 d1] 127 (0,0)):=by rw[←ew0,zO _ _ (by simp)];exact zN _ _
 have G2:((W0.alloc (.cells #[.int .i64 d0,.int .i64 d1] 127)).alloc (.cells zCs 43)).heap[w.heap.size+2]?=some (.cells zCs 43 (0,0)):=by
  have e:w.heap.size+2=(W0.alloc (.cells #[.int .i64 d0,.int .i64 d1] 127)).heap.size:=by simp;omega
  rw[e];exact zN _ _
 have Z1:((W0.alloc (.cells #[.int .i64 d0,.int .i64 d1] 127)).alloc (.cells zCs 43)).heap.size=w.heap.size+3:=by simp;omega
 generalize (W0.alloc (.cells #[.int .i64 d0,.int .i64 d1] 127)).alloc (.cells zCs 43)=W1 at *
 refine(HAL.out _).mono ?_
 rintro e w2 ⟨rfl,b2⟩
 obtain⟨W3,S3,g3,b3,z3⟩:=q0f w2 (zf fun _ _=>true)
 rw[←HUA.out]at S3
 have b13:Below W1.heap.size W1 W3:=b2.trans (b3.mono b2.size)
 have hF3:VfAt w W3 nd d0 d1 w2.heap.size (q3R nd d0 d1 0):=⟨(b13.block _ (by omega)).trans G0,(b13.block _ (by omega)).trans G1,(b13.block _ (by omega)).trans G2,by rw[←HK0.out];exact g3,B1.trans (b13.mono (by omega)),by have:=b2.size;omega⟩
 have HF3:=zb hF3
 rw[ew0]
 clear b2 b3 g3 z3 b13 hF3 G0 G1 G2 B1 Z1 HZ0 HG0 HB0 ew0
 go_wp2_with (refine ze rfl 43 (.tmp 5) (.tmp 7) rfl ⟨w2.heap.size,0,none⟩ UA rfl rfl W3 S3 ?_)
 generalize w2.heap.size=bk at *
 clear S3
 go_loopg [6] n (fun g va wr=>VfRel w nd d0 d1 bk n g va wr)
 case atStart=>exact⟨0,zZ _,by omega,rfl,HF3.out⟩
 case round =>
  obtain⟨k,hk,hg,rfl,hfd⟩:=hrel
  have HG:=zb hg
  have HFD:=zb hfd
  have c14:wr.cell? ⟨w.heap.size,14,none⟩=some (.int .i64 n):=by rw[zC _ _ 14 _ _ _ hfd.nod,←HN.out];rfl
  have hlw:w.heap.size<wr.heap.size:=zd hfd.nod
  have hlw1:w.heap.size+1<wr.heap.size:=zd hfd.dig
  clear hg hfd HF3
  by_cases hkn:k<n
  ·obtain⟨UF,hUF⟩:∃U,U=zn (zf (q3R nd d0 d1 k)):=⟨_,rfl⟩
   have HUF:=zb hUF
   obtain⟨UF2,hUF2⟩:∃U,U=zn (zf (q3R nd d0 d1 (k+1))):=⟨_,rfl⟩
   have HUF2:=zb hUF2
   obtain⟨W,hWd⟩:∃W:World,W=wr:=⟨_,rfl⟩
   rw[←hWd]at HFD c14 hlw hlw1 ⊢
   clear hWd hUF hUF2
   rcases(by omega:k=0∨k=1)with rfl|rfl
   ·obtain⟨UG,hUG⟩:∃U,U=zn (zf fun x y=>q4T nd.k0 nd.v0 d0 x y):=⟨_,rfl⟩
    rw[←hUG]at HVA0
    have HBO:Hid (∀W',Calls Tryz.prog 135 #[UF,UG] W' fun e w'=>e=.returned UF2∧Below W'.heap.size W' w'):=zb (fun W'=>by rw[HUF.out,hUG,HUF2.out,HF1.out];exact q6e (q3R nd d0 d1 0) (fun x y=>q4T nd.k0 nd.v0 d0 x y) W')
    clear hUG
    have HB0:Hid (Below W.heap.size W W.drew):=zb ((zB _ _).drew)
    have HS:Hid (∀w',Below W.heap.size W w'→(Instr.loadAt 161 (.pointer (some ⟨w.heap.size,10,none⟩))).run Tryz.prog w'=.ok (.agg #[.int .i64 nd.k0,.int .i64 nd.v0]) w'∧(Instr.loadAt 3 (.pointer (some ⟨w.heap.size+1,0,none⟩))).run Tryz.prog w'=.ok (.int .i64 d0) w'):=zb (fun w' hb=>⟨q7q (HFD.out.below hb).nod 10 [.int .i64 nd.k0,.int .i64 nd.v0] (fun j u hj=>by rcases j with _|_|j<;>simp at hj<;>(subst hj;rfl)) rfl,q7s (HFD.out.below hb).dig 0 (.int .i64 d0) rfl⟩)
    have HLF:Hid (∀w',Below W.heap.size W w'→(Instr.loadAt 43 (.pointer (some ⟨bk,0,none⟩))).run Tryz.prog w'=.ok UF w'):=zb (fun w' hb=>by rw[HUF.out];exact qb (HFD.out.below hb).fit)
    have FIN:Hid (∀w',Below W.heap.size W w'→∃WS,(Instr.storeAt 43 (.pointer (some ⟨bk,0,none⟩)) UF2).run Tryz.prog w'=.ok () WS∧((Instr.loadAt 161 (.pointer (some ⟨w.heap.size,10,none⟩))).run Tryz.prog WS=.ok (.agg #[.int .i64 nd.k0,.int .i64 nd.v0]) WS∧(Instr.loadAt 3 (.pointer (some ⟨w.heap.size+1,0,none⟩))).run Tryz.prog WS=.ok (.int .i64 d0) WS)∧VfAt w WS nd d0 d1 bk (q3R nd d0 d1 1)):=zb (fun w' hb=>by
     obtain⟨WS,q1,q2⟩:=(HFD.out.below hb).set (q3R nd d0 d1 1)
     exact⟨WS,by rw[HUF2.out];exact q1,⟨q7q q2.nod 10 [.int .i64 nd.k0,.int .i64 nd.v0] (fun j u hj=>by rcases j with _|_|j<;>simp at hj<;>(subst hj;rfl)) rfl,q7s q2.dig 0 (.int .i64 d0) rfl⟩,q2⟩)
    go_wp2_with fail
    refine wp_region_held_drew (S:=fun w'=>(Instr.loadAt 161 (.pointer (some ⟨w.heap.size,10,none⟩))).run Tryz.prog w'=.ok (.agg #[.int .i64 nd.k0,.int .i64 nd.v0]) w'∧(Instr.loadAt 3 (.pointer (some ⟨w.heap.size+1,0,none⟩))).run Tryz.prog w'=.ok (.int .i64 d0) w') (by kernel_rfl) (HS.out _ HB0.out) (fun _=>?_)
    refine ql (i:=1) (v:=.int .i64 0) 19 rfl rfl (by kernel_rfl) (by kernel_rfl) (by kernel_rfl) (fun _ _ _ h=>h) (Or.inl ⟨by rfl,fun w _=>by go_simp⟩) (HS.out _ HB0.out) ?_
    simp only[Act.put,List.setIfInBounds_toArray,List.set_cons_succ,List.set_cons_zero]
    refine ql (i:=2) (v:=.pointer (some ⟨w.heap.size,10,none⟩)) 20 rfl rfl (by kernel_rfl) (by kernel_rfl) (by kernel_rfl) (fun _ _ _ h=>h) (Or.inl ⟨by rfl,fun w _=>by go_simp⟩) (HS.out _ HB0.out) ?_
    simp only[Act.put,List.setIfInBounds_toArray,List.set_cons_succ,List.set_cons_zero]
    refine ql (i:=3) (v:=.pointer (some ⟨w.heap.size,10,none⟩)) 21 rfl rfl (by kernel_rfl) (by kernel_rfl) (by kernel_rfl) (fun _ _ _ h=>h) (Or.inl ⟨by rfl,fun w _=>by go_simp⟩) (HS.out _ HB0.out) ?_
    simp only[Act.put,List.setIfInBounds_toArray,List.set_cons_succ,List.set_cons_zero]
    refine ql (i:=4) (v:=.agg #[.int .i64 nd.k0,.int .i64 nd.v0]) 22 rfl rfl (by kernel_rfl) (by kernel_rfl) (by kernel_rfl) (fun _ _ _ h=>h) (qJ (by rfl) 161 (.tmp 21) rfl ⟨w.heap.size,10,none⟩ _ rfl (fun w h=>h.1)) (HS.out _ HB0.out) ?_
    simp only[Act.put,List.setIfInBounds_toArray,List.set_cons_succ,List.set_cons_zero]
    refine ql (i:=5) (v:=.int .i64 0) 23 rfl rfl (by kernel_rfl) (by kernel_rfl) (by kernel_rfl) (fun _ _ _ h=>h) (Or.inl ⟨by rfl,fun w _=>by go_simp⟩) (HS.out _ HB0.out) ?_
    simp only[Act.put,List.setIfInBounds_toArray,List.set_cons_succ,List.set_cons_zero]
    refine ql (i:=6) (v:=.pointer (some ⟨w.heap.size+1,0,none⟩)) 24 rfl rfl (by kernel_rfl) (by kernel_rfl) (by kernel_rfl) (fun _ _ _ h=>h) (Or.inl ⟨by rfl,fun w _=>by go_simp⟩) (HS.out _ HB0.out) ?_
    simp only[Act.put,List.setIfInBounds_toArray,List.set_cons_succ,List.set_cons_zero]
    refine ql (i:=7) (v:=.int .i64 d0) 25 rfl rfl (by kernel_rfl) (by kernel_rfl) (by kernel_rfl) (fun _ _ _ h=>h) (qJ (by rfl) 3 (.tmp 24) rfl ⟨w.heap.size+1,0,none⟩ _ rfl (fun w h=>h.2)) (HS.out _ HB0.out) ?_
    simp only[Act.put,List.setIfInBounds_toArray,List.set_cons_succ,List.set_cons_zero]
    refine zY (rs:=[0,8]) (by kernel_rfl) (by simp) ?_
    refine zR rfl (fun K hK=>?_) (zR rfl (fun K hK=>?_) zE)
    ·rw[if_pos (by rfl)]
     refine qy 43 (.tmp 5) rfl ⟨bk,0,none⟩ UF rfl (HLF.out _ HB0.out) ?_
     refine hK.out _ _ (HS.out _ HB0.out) (fun _=>?_)
     clear hK K
     simp only[Act.put,List.setIfInBounds_toArray]
     refine rd1 8 rfl fun K hK=>?_
     go_simp
     refine(HVA0.out _).mono ?_
     rintro e w5 ⟨rfl,b5⟩
     have Bb5:Below W.heap.size W w5:=(HB0.out).trans (b5.mono (HB0.out).size)
     go_simp
     refine hK.out _ _ (HS.out _ Bb5) (fun _=>?_)
     clear hK K b5
     refine rd1 9 rfl fun K hK=>?_
     go_simp
     refine(HBO.out _).mono ?_
     rintro e w6 ⟨rfl,b6⟩
     have Bb6:Below W.heap.size W w6:=(Bb5).trans (b6.mono (Bb5).size)
     go_simp
     refine hK.out _ _ (HS.out _ Bb6) (fun _=>?_)
     clear hK K b6
     obtain⟨WS,S1,HSW,PW⟩:=FIN.out _ Bb6
     refine rd1 10 rfl fun K hK=>?_
     refine qE 43 (.tmp 5) (.tmp 27) rfl ⟨bk,0,none⟩ UF2 rfl rfl WS S1 ?_
     refine hK.out _ _ HSW (fun _=>?_)
     clear hK K
     refine zD (by kernel_rfl) ?_ _
     simp only[Act.put,List.setIfInBounds_toArray]
     have hg1:0<gk:=by have:=HG.out;omega
     go_wp2_with fail
     go_roundg (gk-1)
     case measure=>omega
     case rel=>exact⟨1,by omega,by have:=HG.out;omega,by rfl,PW⟩
    ·rw[if_pos (by rfl)]
     go_simp
     refine(HVA0.out _).mono ?_
     rintro e w5 ⟨rfl,b5⟩
     have Bb5:Below W.heap.size W w5:=(HB0.out).trans (b5.mono (HB0.out).size)
     go_simp
     refine hK.out _ _ (HS.out _ Bb5) (fun _=>?_)
     clear hK K b5
     refine rd1 0 rfl fun K hK=>?_
     refine qy 43 (.tmp 5) rfl ⟨bk,0,none⟩ UF rfl (HLF.out _ Bb5) ?_
     refine hK.out _ _ (HS.out _ Bb5) (fun _=>?_)
     clear hK K
     simp only[Act.put,List.setIfInBounds_toArray]
     refine rd1 9 rfl fun K hK=>?_
     go_simp
     refine(HBO.out _).mono ?_
     rintro e w6 ⟨rfl,b6⟩
     have Bb6:Below W.heap.size W w6:=(Bb5).trans (b6.mono (Bb5).size)
     go_simp
     refine hK.out _ _ (HS.out _ Bb6) (fun _=>?_)
     clear hK K b6
     obtain⟨WS,S1,HSW,PW⟩:=FIN.out _ Bb6
     refine rd1 10 rfl fun K hK=>?_
     refine qE 43 (.tmp 5) (.tmp 27) rfl ⟨bk,0,none⟩ UF2 rfl rfl WS S1 ?_
     refine hK.out _ _ HSW (fun _=>?_)
     clear hK K
     refine zD (by kernel_rfl) ?_ _
     simp only[Act.put,List.setIfInBounds_toArray]
     have hg1:0<gk:=by have:=HG.out;omega
     go_wp2_with fail
     go_roundg (gk-1)
     case measure=>omega
     case rel=>exact⟨1,by omega,by have:=HG.out;omega,by rfl,PW⟩
   ·obtain⟨UG,hUG⟩:∃U,U=zn (zf fun x y=>q4T nd.k1 nd.v1 d1 x y):=⟨_,rfl⟩
    rw[←hUG]at HVA1
    have HBO:Hid (∀W',Calls Tryz.prog 135 #[UF,UG] W' fun e w'=>e=.returned UF2∧Below W'.heap.size W' w'):=zb (fun W'=>by rw[HUF.out,hUG,HUF2.out,HF2.out];exact q6e (q3R nd d0 d1 1) (fun x y=>q4T nd.k1 nd.v1 d1 x y) W')
    clear hUG
    have HB0:Hid (Below W.heap.size W W.drew):=zb ((zB _ _).drew)
    have HS:Hid (∀w',Below W.heap.size W w'→(Instr.loadAt 161 (.pointer (some ⟨w.heap.size,12,none⟩))).run Tryz.prog w'=.ok (.agg #[.int .i64 nd.k1,.int .i64 nd.v1]) w'∧(Instr.loadAt 3 (.pointer (some ⟨w.heap.size+1,1,none⟩))).run Tryz.prog w'=.ok (.int .i64 d1) w'):=zb (fun w' hb=>⟨q7q (HFD.out.below hb).nod 12 [.int .i64 nd.k1,.int .i64 nd.v1] (fun j u hj=>by rcases j with _|_|j<;>simp at hj<;>(subst hj;rfl)) rfl,q7s (HFD.out.below hb).dig 1 (.int .i64 d1) rfl⟩)
    have HLF:Hid (∀w',Below W.heap.size W w'→(Instr.loadAt 43 (.pointer (some ⟨bk,0,none⟩))).run Tryz.prog w'=.ok UF w'):=zb (fun w' hb=>by rw[HUF.out];exact qb (HFD.out.below hb).fit)
    have FIN:Hid (∀w',Below W.heap.size W w'→∃WS,(Instr.storeAt 43 (.pointer (some ⟨bk,0,none⟩)) UF2).run Tryz.prog w'=.ok () WS∧((Instr.loadAt 161 (.pointer (some ⟨w.heap.size,12,none⟩))).run Tryz.prog WS=.ok (.agg #[.int .i64 nd.k1,.int .i64 nd.v1]) WS∧(Instr.loadAt 3 (.pointer (some ⟨w.heap.size+1,1,none⟩))).run Tryz.prog WS=.ok (.int .i64 d1) WS)∧VfAt w WS nd d0 d1 bk (q3R nd d0 d1 2)):=zb (fun w' hb=>by
     obtain⟨WS,q1,q2⟩:=(HFD.out.below hb).set (q3R nd d0 d1 2)
     exact⟨WS,by rw[HUF2.out];exact q1,⟨q7q q2.nod 12 [.int .i64 nd.k1,.int .i64 nd.v1] (fun j u hj=>by rcases j with _|_|j<;>simp at hj<;>(subst hj;rfl)) rfl,q7s q2.dig 1 (.int .i64 d1) rfl⟩,q2⟩)
    go_wp2_with fail
    refine wp_region_held_drew (S:=fun w'=>(Instr.loadAt 161 (.pointer (some ⟨w.heap.size,12,none⟩))).run Tryz.prog w'=.ok (.agg #[.int .i64 nd.k1,.int .i64 nd.v1]) w'∧(Instr.loadAt 3 (.pointer (some ⟨w.heap.size+1,1,none⟩))).run Tryz.prog w'=.ok (.int .i64 d1) w') (by kernel_rfl) (HS.out _ HB0.out) (fun _=>?_)
    refine ql (i:=1) (v:=.int .i64 1) 19 rfl rfl (by kernel_rfl) (by kernel_rfl) (by kernel_rfl) (fun _ _ _ h=>h) (Or.inl ⟨by rfl,fun w _=>by go_simp⟩) (HS.out _ HB0.out) ?_
    simp only[Act.put,List.setIfInBounds_toArray,List.set_cons_succ,List.set_cons_zero]
    refine ql (i:=2) (v:=.pointer (some ⟨w.heap.size,10,none⟩)) 20 rfl rfl (by kernel_rfl) (by kernel_rfl) (by kernel_rfl) (fun _ _ _ h=>h) (Or.inl ⟨by rfl,fun w _=>by go_simp⟩) (HS.out _ HB0.out) ?_
    simp only[Act.put,List.setIfInBounds_toArray,List.set_cons_succ,List.set_cons_zero]
    refine ql (i:=3) (v:=.pointer (some ⟨w.heap.size,12,none⟩)) 21 rfl rfl (by kernel_rfl) (by kernel_rfl) (by kernel_rfl) (fun _ _ _ h=>h) (Or.inl ⟨by rfl,fun w _=>by go_simp⟩) (HS.out _ HB0.out) ?_
    simp only[Act.put,List.setIfInBounds_toArray,List.set_cons_succ,List.set_cons_zero]
    refine ql (i:=4) (v:=.agg #[.int .i64 nd.k1,.int .i64 nd.v1]) 22 rfl rfl (by kernel_rfl) (by kernel_rfl) (by kernel_rfl) (fun _ _ _ h=>h) (qJ (by rfl) 161 (.tmp 21) rfl ⟨w.heap.size,12,none⟩ _ rfl (fun w h=>h.1)) (HS.out _ HB0.out) ?_
    simp only[Act.put,List.setIfInBounds_toArray,List.set_cons_succ,List.set_cons_zero]
    refine ql (i:=5) (v:=.int .i64 1) 23 rfl rfl (by kernel_rfl) (by kernel_rfl) (by kernel_rfl) (fun _ _ _ h=>h) (Or.inl ⟨by rfl,fun w _=>by go_simp⟩) (HS.out _ HB0.out) ?_
    simp only[Act.put,List.setIfInBounds_toArray,List.set_cons_succ,List.set_cons_zero]
    refine ql (i:=6) (v:=.pointer (some ⟨w.heap.size+1,1,none⟩)) 24 rfl rfl (by kernel_rfl) (by kernel_rfl) (by kernel_rfl) (fun _ _ _ h=>h) (Or.inl ⟨by rfl,fun w _=>by go_simp⟩) (HS.out _ HB0.out) ?_
    simp only[Act.put,List.setIfInBounds_toArray,List.set_cons_succ,List.set_cons_zero]
    refine ql (i:=7) (v:=.int .i64 d1) 25 rfl rfl (by kernel_rfl) (by kernel_rfl) (by kernel_rfl) (fun _ _ _ h=>h) (qJ (by rfl) 3 (.tmp 24) rfl ⟨w.heap.size+1,1,none⟩ _ rfl (fun w h=>h.2)) (HS.out _ HB0.out) ?_
    simp only[Act.put,List.setIfInBounds_toArray,List.set_cons_succ,List.set_cons_zero]
    refine zY (rs:=[0,8]) (by kernel_rfl) (by simp) ?_
    refine zR rfl (fun K hK=>?_) (zR rfl (fun K hK=>?_) zE)
    ·rw[if_pos (by rfl)]
     refine qy 43 (.tmp 5) rfl ⟨bk,0,none⟩ UF rfl (HLF.out _ HB0.out) ?_
     refine hK.out _ _ (HS.out _ HB0.out) (fun _=>?_)
     clear hK K
     simp only[Act.put,List.setIfInBounds_toArray]
     refine rd1 8 rfl fun K hK=>?_
     go_simp
     refine(HVA1.out _).mono ?_
     rintro e w5 ⟨rfl,b5⟩
     have Bb5:Below W.heap.size W w5:=(HB0.out).trans (b5.mono (HB0.out).size)
     go_simp
     refine hK.out _ _ (HS.out _ Bb5) (fun _=>?_)
     clear hK K b5
     refine rd1 9 rfl fun K hK=>?_
     go_simp
     refine(HBO.out _).mono ?_
     rintro e w6 ⟨rfl,b6⟩
     have Bb6:Below W.heap.size W w6:=(Bb5).trans (b6.mono (Bb5).size)
     go_simp
     refine hK.out _ _ (HS.out _ Bb6) (fun _=>?_)
     clear hK K b6
     obtain⟨WS,S1,HSW,PW⟩:=FIN.out _ Bb6
     refine rd1 10 rfl fun K hK=>?_
     refine qE 43 (.tmp 5) (.tmp 27) rfl ⟨bk,0,none⟩ UF2 rfl rfl WS S1 ?_
     refine hK.out _ _ HSW (fun _=>?_)
     clear hK K
     refine zD (by kernel_rfl) ?_ _
     simp only[Act.put,List.setIfInBounds_toArray]
     have hg1:0<gk:=by have:=HG.out;omega
     go_wp2_with fail
     go_roundg (gk-1)
     case measure=>omega
     case rel=>exact⟨2,by omega,by have:=HG.out;omega,by rfl,PW⟩
    ·rw[if_pos (by rfl)]
     go_simp
     refine(HVA1.out _).mono ?_
     rintro e w5 ⟨rfl,b5⟩
     have Bb5:Below W.heap.size W w5:=(HB0.out).trans (b5.mono (HB0.out).size)
     go_simp
     refine hK.out _ _ (HS.out _ Bb5) (fun _=>?_)
     clear hK K b5
     refine rd1 0 rfl fun K hK=>?_
     refine qy 43 (.tmp 5) rfl ⟨bk,0,none⟩ UF rfl (HLF.out _ Bb5) ?_
     refine hK.out _ _ (HS.out _ Bb5) (fun _=>?_)
     clear hK K
     simp only[Act.put,List.setIfInBounds_toArray]
     refine rd1 9 rfl fun K hK=>?_
     go_simp
     refine(HBO.out _).mono ?_
     rintro e w6 ⟨rfl,b6⟩
     have Bb6:Below W.heap.size W w6:=(Bb5).trans (b6.mono (Bb5).size)
     go_simp
     refine hK.out _ _ (HS.out _ Bb6) (fun _=>?_)
     clear hK K b6
     obtain⟨WS,S1,HSW,PW⟩:=FIN.out _ Bb6
     refine rd1 10 rfl fun K hK=>?_
     refine qE 43 (.tmp 5) (.tmp 27) rfl ⟨bk,0,none⟩ UF2 rfl rfl WS S1 ?_
     refine hK.out _ _ HSW (fun _=>?_)
     clear hK K
     refine zD (by kernel_rfl) ?_ _
     simp only[Act.put,List.setIfInBounds_toArray]
     have hg1:0<gk:=by have:=HG.out;omega
     go_wp2_with fail
     go_roundg (gk-1)
     case measure=>omega
     case rel=>exact⟨2,by omega,by have:=HG.out;omega,by rfl,PW⟩
  ·have hkn':k=n:=by omega
   subst hkn'
   obtain⟨W,S1,LV,BW⟩:=q1k HFD.out.res (by omega) HFD.out.bel (zB _ _) (zf (q3R nd d0 d1 k))
   have L5:=qb HFD.out.fit
   rw[←HRV.out]at S1 LV L5
   have HW:=zb BW
   clear BW
   go_wp2_with (first|(refine zg rfl 43 (.tmp 5) rfl ⟨bk,0,none⟩ RV rfl L5 ?_)|(refine ze rfl 43 (.tmp 4) (.tmp 28) rfl ⟨w.heap.size+2,0,none⟩ RV rfl rfl W S1 ?_))
   exact zP (v:=RV) (zr rfl _ _ _ _ rfl LV) rfl ⟨rfl,HW.out⟩
theorem q2A {t:By}(h:zv t=true)(x:By)(hx:x∈w15):(t==x)=false:=by
 cases t with
 |nil=>simp[zv]at h
 |cons c r =>
  have h2:inB (c::r) w15=false:=by unfold zv at h;simp only[Bool.and_eq_true]at h;simpa using h.2
  unfold inB at h2
  rw[List.any_eq_false]at h2
  have:=h2 x hx
  rw[beq_eq_false_iff_ne]
  intro e
  rw[e]at this
  simp at this
theorem tk_no {P:Program}{md:Region.Mode}{ops:Array Oper}{Q:Exit→Act→World→Prop}{S:World→Prop}{i:Nat}{oi:Oper}{fuel:Nat}{listed:Array Bool}{a:Act}{w:World}(d:Tmp)(hi:ops[i]?=some oi)(hd:oi.dst=some d)
  (hs:Region.noSelect ops=true)(hf:Region.free md ops listed i=true)(hr:(Region.ready md ops listed).contains i=true)
  (hQ:∀c a w,Q (.panic c) (a.put oi.dst undef) w→Q (.panic c) a w)(hw:Region.wanted oi (yielded ops a.tmps)=false)(hS:S w)
  (h:wpAnyH P md ops Q S fuel (listed.setIfInBounds i true) (a.put (some d) undef) w):wpAnyH P md ops Q S (fuel+1) listed a w:=
 wpAnyH_take hi hs hf hr hQ (.inr ⟨hw,rfl⟩) hS (by rw[hd];exact h)
theorem q4Y {P:Program}{md:Region.Mode}{ops:Array Oper}{Q:Exit→Act→World→Prop}{S:World→Prop}{i:Nat}{oi:Oper}{v:Value}{fuel:Nat}{listed:Array Bool}{a:Act}{w:World}(d:Tmp)(hi:ops[i]?=some oi)(hd:oi.dst=some d)
  (hs:Region.noSelect ops=true)(hf:Region.free md ops listed i=true)(hr:(Region.ready md ops listed).contains i=true)
  (hQ:∀c a w,Q (.panic c) (a.put oi.dst v) w→Q (.panic c) a w)(hw:Region.wanted oi (yielded ops a.tmps)=true)(hS:S w)(hy:∀w,S w→(execOp a.eval oi).run P w=.ok (.value v) w)
  (h:wpAnyH P md ops Q S fuel (listed.setIfInBounds i true) (a.put (some d) v) w):wpAnyH P md ops Q S (fuel+1) listed a w:=
 wpAnyH_take hi hs hf hr hQ (.inl ⟨hw,hy⟩) hS (by rw[hd];exact h)
theorem pz {α:Type}:(∀(l:List α) (i:Nat) (v:α),l.toArray.setIfInBounds i v=(l.set i v).toArray)∧(∀(l:List α) (x v:α),(x::l).set 0 v=v::l)∧(∀(l:List α) (x v:α) (i:Nat),(x::l).set (i+1) v=x::l.set i v):=⟨by simp,by simp,by simp⟩
theorem tq {P:Program}{md:Region.Mode}{ops:Array Oper}{Q:Exit→Act→World→Prop}{S:World→Prop}(i:Nat){oi:Oper}{v:Value}{fuel:Nat}{listed:Array Bool}{a:Act}{w:World}(d:Tmp)
  (h:wpAnyH P md ops Q S fuel (listed.setIfInBounds i true) (a.put (some d) v) w)(hi:ops[i]?=some oi:=by rfl)(hd:oi.dst=some d:=by rfl)(hs:Region.noSelect ops=true:=by kernel_rfl)(hf:Region.free md ops listed i=true:=by kernel_rfl)(hr:(Region.ready md ops listed).contains i=true:=by kernel_rfl)
  (hQ:∀c a w,Q (.panic c) (a.put oi.dst v) w→Q (.panic c) a w:=by exact fun _ _ _ h=>h)(hw:Region.wanted oi (yielded ops a.tmps)=true:=by rfl)(hS:S w:=by assumption)(hy:∀w,S w→(execOp a.eval oi).run P w=.ok (.value v) w:=by(intro w hSw;(try dsimp only at hSw);go_simp;(try with_reducible rfl))):wpAnyH P md ops Q S (fuel+1) listed a w:=
 q4Y d hi hd hs hf hr hQ hw hS hy h
theorem tn {P:Program}{md:Region.Mode}{ops:Array Oper}{Q:Exit→Act→World→Prop}{S:World→Prop}(i:Nat){oi:Oper}{fuel:Nat}{listed:Array Bool}{a:Act}{w:World}(d:Tmp)
  (h:wpAnyH P md ops Q S fuel (listed.setIfInBounds i true) (a.put (some d) undef) w)(hi:ops[i]?=some oi:=by rfl)(hd:oi.dst=some d:=by rfl)(hs:Region.noSelect ops=true:=by kernel_rfl)(hf:Region.free md ops listed i=true:=by kernel_rfl)(hr:(Region.ready md ops listed).contains i=true:=by kernel_rfl)
  (hQ:∀c a w,Q (.panic c) (a.put oi.dst undef) w→Q (.panic c) a w:=by exact fun _ _ _ h=>h)(hw:Region.wanted oi (yielded ops a.tmps)=false:=by rfl)(hS:S w:=by assumption):wpAnyH P md ops Q S (fuel+1) listed a w:=
 tk_no d hi hd hs hf hr hQ hw hS h
theorem q7d (w:World)(c1 c2:Array Value)(t1 t2:TypeId):∃W0:World,W0=(w.alloc (.cells c1 t1)).alloc (.cells c2 t2)∧W0.heap[w.heap.size+1]?=some (.cells c2 t2 (0,0))∧W0.heap[w.heap.size]?=some (.cells c1 t1 (0,0))∧w.heap.size+2=W0.heap.size∧Below w.heap.size w W0:=by
 refine⟨_,rfl,?_,?_,by simp,((zB _ _).alloc (zL _) _).alloc (by simp) _⟩
 ·have e:w.heap.size+1=(w.alloc (.cells c1 t1)).heap.size:=by simp
  rw[e]
  exact zN _ _
 ·rw[zO _ _ (by simp)]
  exact zN _ _
theorem j1h (v:Value)(u:List Tok)(lv dv:Value)(DL:List (LPt × Value))(vF vL:Value)(HF HL:Nat→Nat→Nat→Bool)(i x y:Nat)(hi':i<DL.length)(hx:x<10)(hy:y<10)(w:World)(h:qB w v u)(hw:hd u=[97,110,100])(hT:TabsAt w lv true vF vL DL.length HF HL)(hL:DLogAt w dv DL) :
  Calls Tryz.prog 148 #[v,lv,dv,.int .i64 i,.agg #[.int .i64 x,.int .i64 y]] w fun e w'=>e=.returned (.bool (HF i x y&&HL i x y))∧Below w.heap.size w w':=by
 obtain⟨b,o,cap,rfl,h1,h2,h3,h4,h5,h6⟩:=qe h
 obtain⟨da,dc,rfl⟩:=qr hL.row
 obtain⟨gl,cl,rfl,hgl,l1,l2,lc0,lc1⟩:=hT.two
 obtain⟨fa,fc,rfl⟩:=hT.fst.form
 obtain⟨ta,tc,rfl⟩:=hT.lst.form
 have hsm:=hL.small
 obtain⟨R,hR⟩:∃R,R=(HF i x y&&HL i x y):=⟨_,rfl⟩
 rw[←hR]
 have HRR:=zb hR
 clear hR
 have HT:=zb hT
 have HFR:=zb h
 have HLG:=zb hL
 have HWD:=zb (fun W (q:qB W (.agg #[.slice (some ⟨b,o,none⟩) u.length cap]) u)=>q0b _ u W q)
 rw[hw]at HWD
 clear h h6 hT hL hw
 unfold maxLen at h2 l2
 generalize hun:u.length=ul at *
 clear hun
 go_enter Tryz.func148,Tryz.ntmps148
 go_wp2_with fail
 obtain⟨W0,hW0,hP0,hQ0,hz0,B0⟩:=q7d w #[.slice (some ⟨b,o,none⟩) ul cap] #[.int .i64 x,.int .i64 y] 112 245
 rw[←hW0]
 have HB0:=zb B0
 have HP0:=zb hP0
 have HQ0:=zb hQ0
 have HT0:=zb (HT.out.below B0)
 have HF0:=zb (HFR.out.below B0)
 have HL0:=zb (HLG.out.below B0)
 have lc1:=(zo B0 gl 1 hgl).trans lc1
 have lc0:=(zo B0 gl 0 hgl).trans lc0
 have hgl:=zT hgl B0.size
 have HLC:=zb (And.intro lc1 lc0)
 have CELLF:Hid (∀w',Below W0.heap.size W0 w'→w'.cell? ⟨w.heap.size,0,none⟩=some (.slice (some ⟨b,o,none⟩) ul cap)):=zb (fun w' hb=>by
  have e0:=(hb.block w.heap.size (by omega)).trans HQ0.out
  exact zC _ _ 0 _ _ _ e0)
 have cf0:=CELLF.out _ (zB _ _)
 clear hW0 hP0 hQ0 B0 HT HFR HLG lc1 lc0
 go_wp2_with fail
 refine(HWD.out _ HF0.out).mono ?_
 rintro e w1 ⟨rfl,b1⟩
 have HB1:=zb b1
 have cf1:=CELLF.out _ b1
 have hz1:w.heap.size+1<w1.heap.size:=by have:=b1.size;omega
 clear b1 cf0
 have hkF:i<DL.length:=by omega
 obtain⟨gtF,rfl,hgtF,t1F,t2F,_⟩:=(HT0.out.fst).load hkF
 have CTF:Hid (∀w',Below W0.heap.size W0 w'→w'.rangeAt gtF (i*10) (zx (zf (HF (i))))):=zb (fun w' hb=>by
  obtain⟨g',e',_,_,_,hr⟩:=(HT0.out.fst.below hb).load hkF
  simp only[Option.some.injEq,Addr.mk.injEq,and_true]at e'
  subst e'
  exact hr)
 have HHF:=zb (q2a (HF (i)) x y hx hy)
 obtain⟨csF,hcsF⟩:∃cs,cs=zx (zf (HF (i))):=⟨_,rfl⟩
 have hclF:(Tryz.prog.info? 43).map (·.size)=some csF.length:=by rw[hcsF];kernel_rfl
 rw[show zn (zf (HF (i)))=.agg csF.toArray by rw[hcsF]]at HHF
 rw[←hcsF]at CTF
 clear hcsF
 unfold maxLen at t2F
 generalize HF (i) x y=qF at *
 have hkL:i<DL.length:=by omega
 obtain⟨gtL,rfl,hgtL,t1L,t2L,_⟩:=(HT0.out.lst).load hkL
 have CTL:Hid (∀w',Below W0.heap.size W0 w'→w'.rangeAt gtL (i*10) (zx (zf (HL (i))))):=zb (fun w' hb=>by
  obtain⟨g',e',_,_,_,hr⟩:=(HT0.out.lst.below hb).load hkL
  simp only[Option.some.injEq,Addr.mk.injEq,and_true]at e'
  subst e'
  exact hr)
 have HHL:=zb (q2a (HL (i)) x y hx hy)
 obtain⟨csL,hcsL⟩:∃cs,cs=zx (zf (HL (i))):=⟨_,rfl⟩
 have hclL:(Tryz.prog.info? 43).map (·.size)=some csL.length:=by rw[hcsL];kernel_rfl
 rw[show zn (zf (HL (i)))=.agg csL.toArray by rw[hcsL]]at HHL
 rw[←hcsL]at CTL
 clear hcsL
 unfold maxLen at t2L
 generalize HL (i) x y=qL at *
 have hcu:=Tryz.underlying43
 have S0:Hid (∀w',Below W0.heap.size W0 w'→(w'.rangeAt gtF (i*10) csF∧w'.rangeAt gtL (i*10) csL∧w'.cell? ⟨w.heap.size+1,0,none⟩=some (.int .i64 x)∧w'.cell? ⟨w.heap.size+1,1,none⟩=some (.int .i64 y)∧w'.cell? ⟨gl,0,none⟩=some (.slice (some ⟨gtF,0,none⟩) DL.length fc)∧w'.cell? ⟨gl,1,none⟩=some (.slice (some ⟨gtL,0,none⟩) DL.length tc))):=zb (fun w' hb=>by
  have e1:=(hb.block (w.heap.size+1) (by omega)).trans HP0.out
  exact⟨CTF.out _ hb,CTL.out _ hb,zC _ _ 0 _ _ _ e1,zC _ _ 1 _ _ _ e1,(zo hb gl 0 hgl).trans HLC.out.2,(zo hb gl 1 hgl).trans HLC.out.1⟩)
 have C0:=S0.out _ HB1.out.drew
 clear CTF CTL
 cases qF with
 |false =>
  go_wp2_with fail
  refine wp_region_held_drew (S:=fun w'=>w'.rangeAt gtF (i*10) csF∧w'.rangeAt gtL (i*10) csL∧w'.cell? ⟨w.heap.size+1,0,none⟩=some (.int .i64 x)∧w'.cell? ⟨w.heap.size+1,1,none⟩=some (.int .i64 y)∧w'.cell? ⟨gl,0,none⟩=some (.slice (some ⟨gtF,0,none⟩) DL.length fc)∧w'.cell? ⟨gl,1,none⟩=some (.slice (some ⟨gtL,0,none⟩) DL.length tc)) (by kernel_rfl) C0 (fun hS0=>?_)
  simp only[rz,Nat.zero_add,Nat.reduceAdd]
  refine tq 0 17 ?_
  simp only[Act.put,pz]
  refine tq 1 18 ?_
  simp only[Act.put,pz]
  refine tq 2 19 ?_
  simp only[Act.put,pz]
  refine tq 3 20 ?_
  simp only[Act.put,pz]
  refine tq 4 21 ?_
  simp only[Act.put,pz]
  refine ql (i:=5) 22 rfl rfl (by kernel_rfl) (by kernel_rfl) (by kernel_rfl) (fun _ _ _ h=>h) (yieldsIf_load_mid (by rfl) _ _ rfl _ _ rfl csF _ (fun w hSw=>hSw.1) hcu rfl hclF) (by assumption) ?_
  simp only[Act.put,pz]
  refine tq 6 23 ?_
  simp only[Act.put,pz]
  refine tq 7 24 ?_
  simp only[Act.put,pz]
  refine tq 8 25 ?_
  simp only[Act.put,pz]
  refine tq 9 26 ?_
  simp only[Act.put,pz]
  refine rd1 10 rfl fun K hK=>?_
  go_simp
  (go_at_call 150;refine(HHF.out _).mono ?_;rintro e w2 ⟨rfl,b2⟩;have B2:Below W0.heap.size W0 w2:=HB1.out.drew.trans (b2.mono HB1.out.drew.size))
  go_simp
  refine hK.out _ _ (S0.out _ B2) (fun _=>?_)
  refine tq 11 28 ?_
  simp only[Act.put,pz]
  refine tn 12 29 ?_
  simp only[Act.put,pz]
  refine tn 13 30 ?_
  simp only[Act.put,pz]
  refine tn 14 31 ?_
  simp only[Act.put,pz]
  refine tn 15 32 ?_
  simp only[Act.put,pz]
  refine tn 16 33 ?_
  simp only[Act.put,pz]
  refine tn 17 34 ?_
  simp only[Act.put,pz]
  refine tn 18 35 ?_
  simp only[Act.put,pz]
  refine tn 19 36 ?_
  simp only[Act.put,pz]
  refine tn 20 37 ?_
  simp only[Act.put,pz]
  refine tn 21 38 ?_
  simp only[Act.put,pz]
  refine tn 22 39 ?_
  simp only[Act.put,pz]
  refine tq 23 40 ?_
  simp only[Act.put,pz]
  refine tq 24 10 ?_
  simp only[Act.put,pz]
  refine zD (by kernel_rfl) ?_ _
  go_wp2_with fail
  go_ret
  exact⟨qm (by rw[HRR.out];cases qL<;>rfl),HB0.out.trans (B2.mono HB0.out.size)⟩
 |true =>
  go_wp2_with fail
  refine wp_region_held_drew (S:=fun w'=>w'.rangeAt gtF (i*10) csF∧w'.rangeAt gtL (i*10) csL∧w'.cell? ⟨w.heap.size+1,0,none⟩=some (.int .i64 x)∧w'.cell? ⟨w.heap.size+1,1,none⟩=some (.int .i64 y)∧w'.cell? ⟨gl,0,none⟩=some (.slice (some ⟨gtF,0,none⟩) DL.length fc)∧w'.cell? ⟨gl,1,none⟩=some (.slice (some ⟨gtL,0,none⟩) DL.length tc)) (by kernel_rfl) C0 (fun hS0=>?_)
  simp only[rz,Nat.zero_add,Nat.reduceAdd]
  refine tq 0 17 ?_
  simp only[Act.put,pz]
  refine tq 1 18 ?_
  simp only[Act.put,pz]
  refine tq 2 19 ?_
  simp only[Act.put,pz]
  refine tq 3 20 ?_
  simp only[Act.put,pz]
  refine tq 4 21 ?_
  simp only[Act.put,pz]
  refine ql (i:=5) 22 rfl rfl (by kernel_rfl) (by kernel_rfl) (by kernel_rfl) (fun _ _ _ h=>h) (yieldsIf_load_mid (by rfl) _ _ rfl _ _ rfl csF _ (fun w hSw=>hSw.1) hcu rfl hclF) (by assumption) ?_
  simp only[Act.put,pz]
  refine tq 6 23 ?_
  simp only[Act.put,pz]
  refine tq 7 24 ?_
  simp only[Act.put,pz]
  refine tq 8 25 ?_
  simp only[Act.put,pz]
  refine tq 9 26 ?_
  simp only[Act.put,pz]
  refine rd1 10 rfl fun K hK=>?_
  go_simp
  (go_at_call 150;refine(HHF.out _).mono ?_;rintro e w2 ⟨rfl,b2⟩;have B2:Below W0.heap.size W0 w2:=HB1.out.drew.trans (b2.mono HB1.out.drew.size))
  go_simp
  refine hK.out _ _ (S0.out _ B2) (fun _=>?_)
  refine tq 11 28 ?_
  simp only[Act.put,pz]
  refine tq 12 29 ?_
  simp only[Act.put,pz]
  refine tq 13 30 ?_
  simp only[Act.put,pz]
  refine tq 14 31 ?_
  simp only[Act.put,pz]
  refine tq 15 32 ?_
  simp only[Act.put,pz]
  refine tq 16 33 ?_
  simp only[Act.put,pz]
  refine ql (i:=17) 34 rfl rfl (by kernel_rfl) (by kernel_rfl) (by kernel_rfl) (fun _ _ _ h=>h) (yieldsIf_load_mid (by rfl) _ _ rfl _ _ rfl csL _ (fun w hSw=>hSw.2.1) hcu rfl hclL) (by assumption) ?_
  simp only[Act.put,pz]
  refine tq 18 35 ?_
  simp only[Act.put,pz]
  refine tq 19 36 ?_
  simp only[Act.put,pz]
  refine tq 20 37 ?_
  simp only[Act.put,pz]
  refine tq 21 38 ?_
  simp only[Act.put,pz]
  refine rd1 22 rfl fun K hK=>?_
  go_simp
  (go_at_call 150;refine(HHL.out _).mono ?_;rintro e w3 ⟨rfl,b3⟩;have B3:Below W0.heap.size W0 w3:=B2.trans (b3.mono B2.size))
  go_simp
  refine hK.out _ _ (S0.out _ B3) (fun _=>?_)
  refine tq 23 40 ?_
  simp only[Act.put,pz]
  refine tq 24 10 ?_
  simp only[Act.put,pz]
  refine zD (by kernel_rfl) ?_ _
  go_wp2_with fail
  go_ret
  exact⟨qm (by rw[HRR.out];cases qL<;>rfl),HB0.out.trans (B3.mono HB0.out.size)⟩
theorem j1i (v:Value)(u:List Tok)(lv dv:Value)(DL:List (LPt × Value))(vF vL:Value)(HF HL:Nat→Nat→Nat→Bool)(i x y:Nat)(hi':i<DL.length)(hx:x<10)(hy:y<10)(w:World)(h:qB w v u)(hw:hd u=[98,117,116])(hT:TabsAt w lv true vF vL DL.length HF HL)(hL:DLogAt w dv DL) :
  Calls Tryz.prog 148 #[v,lv,dv,.int .i64 i,.agg #[.int .i64 x,.int .i64 y]] w fun e w'=>e=.returned (.bool (HF i x y&&!HL i x y))∧Below w.heap.size w w':=by
 obtain⟨b,o,cap,rfl,h1,h2,h3,h4,h5,h6⟩:=qe h
 obtain⟨da,dc,rfl⟩:=qr hL.row
 obtain⟨gl,cl,rfl,hgl,l1,l2,lc0,lc1⟩:=hT.two
 obtain⟨fa,fc,rfl⟩:=hT.fst.form
 obtain⟨ta,tc,rfl⟩:=hT.lst.form
 have hsm:=hL.small
 obtain⟨R,hR⟩:∃R,R=(HF i x y&&!HL i x y):=⟨_,rfl⟩
 rw[←hR]
 have HRR:=zb hR
 clear hR
 have HT:=zb hT
 have HFR:=zb h
 have HLG:=zb hL
 have HWD:=zb (fun W (q:qB W (.agg #[.slice (some ⟨b,o,none⟩) u.length cap]) u)=>q0b _ u W q)
 rw[hw]at HWD
 clear h h6 hT hL hw
 unfold maxLen at h2 l2
 generalize hun:u.length=ul at *
 clear hun
 go_enter Tryz.func148,Tryz.ntmps148
 go_wp2_with fail
 obtain⟨W0,hW0,hP0,hQ0,hz0,B0⟩:=q7d w #[.slice (some ⟨b,o,none⟩) ul cap] #[.int .i64 x,.int .i64 y] 112 245
 rw[←hW0]
 have HB0:=zb B0
 have HP0:=zb hP0
 have HQ0:=zb hQ0
 have HT0:=zb (HT.out.below B0)
 have HF0:=zb (HFR.out.below B0)
 have HL0:=zb (HLG.out.below B0)
 have lc1:=(zo B0 gl 1 hgl).trans lc1
 have lc0:=(zo B0 gl 0 hgl).trans lc0
 have hgl:=zT hgl B0.size
 have HLC:=zb (And.intro lc1 lc0)
 have CELLF:Hid (∀w',Below W0.heap.size W0 w'→w'.cell? ⟨w.heap.size,0,none⟩=some (.slice (some ⟨b,o,none⟩) ul cap)):=zb (fun w' hb=>by
  have e0:=(hb.block w.heap.size (by omega)).trans HQ0.out
  exact zC _ _ 0 _ _ _ e0)
 have cf0:=CELLF.out _ (zB _ _)
 clear hW0 hP0 hQ0 B0 HT HFR HLG lc1 lc0
 go_wp2_with fail
 refine(HWD.out _ HF0.out).mono ?_
 rintro e w1 ⟨rfl,b1⟩
 have HB1:=zb b1
 have cf1:=CELLF.out _ b1
 have hz1:w.heap.size+1<w1.heap.size:=by have:=b1.size;omega
 clear b1 cf0
 have hkF:i<DL.length:=by omega
 obtain⟨gtF,rfl,hgtF,t1F,t2F,_⟩:=(HT0.out.fst).load hkF
 have CTF:Hid (∀w',Below W0.heap.size W0 w'→w'.rangeAt gtF (i*10) (zx (zf (HF (i))))):=zb (fun w' hb=>by
  obtain⟨g',e',_,_,_,hr⟩:=(HT0.out.fst.below hb).load hkF
  simp only[Option.some.injEq,Addr.mk.injEq,and_true]at e'
  subst e'
  exact hr)
 have HHF:=zb (q2a (HF (i)) x y hx hy)
 obtain⟨csF,hcsF⟩:∃cs,cs=zx (zf (HF (i))):=⟨_,rfl⟩
 have hclF:(Tryz.prog.info? 43).map (·.size)=some csF.length:=by rw[hcsF];kernel_rfl
 rw[show zn (zf (HF (i)))=.agg csF.toArray by rw[hcsF]]at HHF
 rw[←hcsF]at CTF
 clear hcsF
 unfold maxLen at t2F
 generalize HF (i) x y=qF at *
 have hkL:i<DL.length:=by omega
 obtain⟨gtL,rfl,hgtL,t1L,t2L,_⟩:=(HT0.out.lst).load hkL
 have CTL:Hid (∀w',Below W0.heap.size W0 w'→w'.rangeAt gtL (i*10) (zx (zf (HL (i))))):=zb (fun w' hb=>by
  obtain⟨g',e',_,_,_,hr⟩:=(HT0.out.lst.below hb).load hkL
  simp only[Option.some.injEq,Addr.mk.injEq,and_true]at e'
  subst e'
  exact hr)
 have HHL:=zb (q2a (HL (i)) x y hx hy)
 obtain⟨csL,hcsL⟩:∃cs,cs=zx (zf (HL (i))):=⟨_,rfl⟩
 have hclL:(Tryz.prog.info? 43).map (·.size)=some csL.length:=by rw[hcsL];kernel_rfl
 rw[show zn (zf (HL (i)))=.agg csL.toArray by rw[hcsL]]at HHL
 rw[←hcsL]at CTL
 clear hcsL
 unfold maxLen at t2L
 generalize HL (i) x y=qL at *
 have hcu:=Tryz.underlying43
 have S0:Hid (∀w',Below W0.heap.size W0 w'→(w'.rangeAt gtF (i*10) csF∧w'.rangeAt gtL (i*10) csL∧w'.cell? ⟨w.heap.size+1,0,none⟩=some (.int .i64 x)∧w'.cell? ⟨w.heap.size+1,1,none⟩=some (.int .i64 y)∧w'.cell? ⟨gl,0,none⟩=some (.slice (some ⟨gtF,0,none⟩) DL.length fc)∧w'.cell? ⟨gl,1,none⟩=some (.slice (some ⟨gtL,0,none⟩) DL.length tc))):=zb (fun w' hb=>by
  have e1:=(hb.block (w.heap.size+1) (by omega)).trans HP0.out
  exact⟨CTF.out _ hb,CTL.out _ hb,zC _ _ 0 _ _ _ e1,zC _ _ 1 _ _ _ e1,(zo hb gl 0 hgl).trans HLC.out.2,(zo hb gl 1 hgl).trans HLC.out.1⟩)
 have C0:=S0.out _ HB1.out.drew
 clear CTF CTL
 cases qF with
 |false =>
  go_wp2_with fail
  refine wp_region_held_drew (S:=fun w'=>w'.rangeAt gtF (i*10) csF∧w'.rangeAt gtL (i*10) csL∧w'.cell? ⟨w.heap.size+1,0,none⟩=some (.int .i64 x)∧w'.cell? ⟨w.heap.size+1,1,none⟩=some (.int .i64 y)∧w'.cell? ⟨gl,0,none⟩=some (.slice (some ⟨gtF,0,none⟩) DL.length fc)∧w'.cell? ⟨gl,1,none⟩=some (.slice (some ⟨gtL,0,none⟩) DL.length tc)) (by kernel_rfl) C0 (fun hS0=>?_)
  simp only[rz,Nat.zero_add,Nat.reduceAdd]
  refine tq 0 43 ?_
  simp only[Act.put,pz]
  refine tq 1 44 ?_
  simp only[Act.put,pz]
  refine tq 2 45 ?_
  simp only[Act.put,pz]
  refine tq 3 46 ?_
  simp only[Act.put,pz]
  refine tq 4 47 ?_
  simp only[Act.put,pz]
  refine ql (i:=5) 48 rfl rfl (by kernel_rfl) (by kernel_rfl) (by kernel_rfl) (fun _ _ _ h=>h) (yieldsIf_load_mid (by rfl) _ _ rfl _ _ rfl csF _ (fun w hSw=>hSw.1) hcu rfl hclF) (by assumption) ?_
  simp only[Act.put,pz]
  refine tq 6 49 ?_
  simp only[Act.put,pz]
  refine tq 7 50 ?_
  simp only[Act.put,pz]
  refine tq 8 51 ?_
  simp only[Act.put,pz]
  refine tq 9 52 ?_
  simp only[Act.put,pz]
  refine rd1 10 rfl fun K hK=>?_
  go_simp
  (go_at_call 150;refine(HHF.out _).mono ?_;rintro e w2 ⟨rfl,b2⟩;have B2:Below W0.heap.size W0 w2:=HB1.out.drew.trans (b2.mono HB1.out.drew.size))
  go_simp
  refine hK.out _ _ (S0.out _ B2) (fun _=>?_)
  refine tq 11 54 ?_
  simp only[Act.put,pz]
  refine tn 12 55 ?_
  simp only[Act.put,pz]
  refine tn 13 56 ?_
  simp only[Act.put,pz]
  refine tn 14 57 ?_
  simp only[Act.put,pz]
  refine tn 15 58 ?_
  simp only[Act.put,pz]
  refine tn 16 59 ?_
  simp only[Act.put,pz]
  refine tn 17 60 ?_
  simp only[Act.put,pz]
  refine tn 18 61 ?_
  simp only[Act.put,pz]
  refine tn 19 62 ?_
  simp only[Act.put,pz]
  refine tn 20 63 ?_
  simp only[Act.put,pz]
  refine tn 21 64 ?_
  simp only[Act.put,pz]
  refine tn 22 65 ?_
  simp only[Act.put,pz]
  refine tn 23 66 ?_
  simp only[Act.put,pz]
  refine tq 24 67 ?_
  simp only[Act.put,pz]
  refine tq 25 10 ?_
  simp only[Act.put,pz]
  refine zD (by kernel_rfl) ?_ _
  go_wp2_with fail
  go_ret
  exact⟨qm (by rw[HRR.out];cases qL<;>rfl),HB0.out.trans (B2.mono HB0.out.size)⟩
 |true =>
  go_wp2_with fail
  refine wp_region_held_drew (S:=fun w'=>w'.rangeAt gtF (i*10) csF∧w'.rangeAt gtL (i*10) csL∧w'.cell? ⟨w.heap.size+1,0,none⟩=some (.int .i64 x)∧w'.cell? ⟨w.heap.size+1,1,none⟩=some (.int .i64 y)∧w'.cell? ⟨gl,0,none⟩=some (.slice (some ⟨gtF,0,none⟩) DL.length fc)∧w'.cell? ⟨gl,1,none⟩=some (.slice (some ⟨gtL,0,none⟩) DL.length tc)) (by kernel_rfl) C0 (fun hS0=>?_)
  simp only[rz,Nat.zero_add,Nat.reduceAdd]
  refine tq 0 43 ?_
  simp only[Act.put,pz]
  refine tq 1 44 ?_
  simp only[Act.put,pz]
  refine tq 2 45 ?_
  simp only[Act.put,pz]
  refine tq 3 46 ?_
  simp only[Act.put,pz]
  refine tq 4 47 ?_
  simp only[Act.put,pz]
  refine ql (i:=5) 48 rfl rfl (by kernel_rfl) (by kernel_rfl) (by kernel_rfl) (fun _ _ _ h=>h) (yieldsIf_load_mid (by rfl) _ _ rfl _ _ rfl csF _ (fun w hSw=>hSw.1) hcu rfl hclF) (by assumption) ?_
  simp only[Act.put,pz]
  refine tq 6 49 ?_
  simp only[Act.put,pz]
  refine tq 7 50 ?_
  simp only[Act.put,pz]
  refine tq 8 51 ?_
  simp only[Act.put,pz]
  refine tq 9 52 ?_
  simp only[Act.put,pz]
  refine rd1 10 rfl fun K hK=>?_
  go_simp
  (go_at_call 150;refine(HHF.out _).mono ?_;rintro e w2 ⟨rfl,b2⟩;have B2:Below W0.heap.size W0 w2:=HB1.out.drew.trans (b2.mono HB1.out.drew.size))
  go_simp
  refine hK.out _ _ (S0.out _ B2) (fun _=>?_)
  refine tq 11 54 ?_
  simp only[Act.put,pz]
  refine tq 12 55 ?_
  simp only[Act.put,pz]
  refine tq 13 56 ?_
  simp only[Act.put,pz]
  refine tq 14 57 ?_
  simp only[Act.put,pz]
  refine tq 15 58 ?_
  simp only[Act.put,pz]
  refine tq 16 59 ?_
  simp only[Act.put,pz]
  refine ql (i:=17) 60 rfl rfl (by kernel_rfl) (by kernel_rfl) (by kernel_rfl) (fun _ _ _ h=>h) (yieldsIf_load_mid (by rfl) _ _ rfl _ _ rfl csL _ (fun w hSw=>hSw.2.1) hcu rfl hclL) (by assumption) ?_
  simp only[Act.put,pz]
  refine tq 18 61 ?_
  simp only[Act.put,pz]
  refine tq 19 62 ?_
  simp only[Act.put,pz]
  refine tq 20 63 ?_
  simp only[Act.put,pz]
  refine tq 21 64 ?_
  simp only[Act.put,pz]
  refine rd1 22 rfl fun K hK=>?_
  go_simp
  (go_at_call 150;refine(HHL.out _).mono ?_;rintro e w3 ⟨rfl,b3⟩;have B3:Below W0.heap.size W0 w3:=B2.trans (b3.mono B2.size))
  go_simp
  refine hK.out _ _ (S0.out _ B3) (fun _=>?_)
  refine tq 23 66 ?_
  simp only[Act.put,pz]
  refine tq 24 67 ?_
  simp only[Act.put,pz]
  refine tq 25 10 ?_
  simp only[Act.put,pz]
  refine zD (by kernel_rfl) ?_ _
  go_wp2_with fail
  go_ret
  exact⟨qm (by rw[HRR.out];cases qL<;>rfl),HB0.out.trans (B3.mono HB0.out.size)⟩
theorem u16_part (xs:Array Value)(j:Nat)(v:Value)(h:xs[j]?=some v)(w:World):(part 38 xs j).run Tryz.prog w=.ok v w:=by
 simp[part,go_sem,h]
theorem q3E (xs:Array Value)(w:World)(j:Nat)(is:List Nat)(a:Int)(h1:xs[j]?=some (.int .u16 a))(hr:(Op.eqItems 9999 38 1 xs xs is).run Tryz.prog w=.ok true w):(Op.eqItems 9999 38 1 xs xs (j::is)).run Tryz.prog w=.ok true w:=by
 have he:(Op.equalIn 9999 38 (.int .u16 a) (.int .u16 a)).run Tryz.prog w=.ok (a==a) w:=run_equalIn_int w 9998 38 .u16 .u16 a a Tryz.underlying38
 simp only[Op.eqItems,Sem.run_bind,Nat.mul_one,u16_part _ _ _ h1,Result.andThen_ok,he]
 simpa using hr
theorem rel_self (r:Nat→Int)(w:World):(Op.equalIn 10000 43 (zn r) (zn r)).run Tryz.prog w=.ok true w:=by
 obtain⟨i,hi⟩:∃i,Tryz.prog.info? 38=some i:=⟨Tryz.t38,by kernel_rfl⟩
 rw[show(10000:Nat)=9999+1 from rfl,run_equalIn_array w 9999 _ _ Tryz.underlying43 hi,show Tryz.prog.cellsOf 38=1 by kernel_rfl,show List.range 10=[0,1,2,3,4,5,6,7,8,9] from rfl]
 refine q3E _ w 0 _ _ rfl (q3E _ w 1 _ _ rfl (q3E _ w 2 _ _ rfl (q3E _ w 3 _ _ rfl (q3E _ w 4 _ _ rfl (q3E _ w 5 _ _ rfl (q3E _ w 6 _ _ rfl (q3E _ w 7 _ _ rfl (q3E _ w 8 _ _ rfl (q3E _ w 9 _ _ rfl ?_)))))))))
 rfl
theorem j5C {ops:Array Oper}{rest:List Oper}{o:Oper}{a:Act}{W:World}{Q:Exit→Act→World→Prop}(hw:Region.wanted o (yielded ops a.tmps)=true)(x y:Operand)(z:TypeId)(ho:o.op=.binOp .eql 43 x y z)(V:Value)(r:Nat→Int)(hV:V=zn r)(hx:a.eval x=V)(hy:a.eval y=V)
  (h:wpList Tryz.prog ops Q rest (a.put o.dst (.bool true)) W):wpList Tryz.prog ops Q (o::rest) a W:=
 wpList_step fun K hK=>by
  subst hV
  rw[if_pos hw]
  unfold Oper.wp execOp
  simp only[ho,hx,hy,Sem.run_bind,run_eqGuard_agg W _ _ _ _ _ _ (show Tryz.prog.eqGuardType Tryz.prog.depth 43=false by kernel_rfl),Result.andThen_ok,run_eql_struct,rel_self,Sem.run_pure]
  exact hK _ _ h
theorem j1Y {P:Program}{ops:Array Oper}{rest:List Oper}{o:Oper}{a:Act}{W:World}{Q:Exit→Act→World→Prop}(hw:Region.wanted o (yielded ops a.tmps)=true)(ty:TypeId)(x:Operand)(ho:o.op=.load ty x)
  (ad:Addr)(v:Value)(hx:a.eval x=.pointer (some ad))(hr:(Instr.loadAt ty (.pointer (some ad))).run P W=.ok v W)
  (h:wpList P ops Q rest (a.put o.dst v) W):wpList P ops Q (o::rest) a W:=
 wpList_step fun K hK=>by
  rw[if_pos hw]
  unfold Oper.wp execOp
  simp only[ho,hx,hr,Sem.run_bind,Sem.run_pure,Result.andThen_ok]
  exact hK _ _ h
abbrev vcA (p st:Int)(r:Nat→Int):Array Value:=#[.int .i64 p,.int .u16 st,.int .u16 (r 0),.int .u16 (r 1),.int .u16 (r 2),.int .u16 (r 3),.int .u16 (r 4),.int .u16 (r 5),.int .u16 (r 6),.int .u16 (r 7),.int .u16 (r 8),.int .u16 (r 9)]
theorem j6i {W:World}{b:Nat}{p st:Int}{r:Nat→Int}{t:TypeId}(h:W.heap[b]?=some (.cells (vcA p st r) t (0,0))):(Instr.loadAt 43 (.pointer (some ⟨b,2,none⟩))).run Tryz.prog W=.ok (zn r) W:=by
 refine run_loadAt_mid W b 2 43 [.int .u16 (r 0),.int .u16 (r 1),.int .u16 (r 2),.int .u16 (r 3),.int .u16 (r 4),.int .u16 (r 5),.int .u16 (r 6),.int .u16 (r 7),.int .u16 (r 8),.int .u16 (r 9)] _ (fun j v hv=>?_) Tryz.underlying43 rfl (by kernel_rfl)
 rw[zC _ _ _ _ _ _ h,show(2+j)=j+2 by omega]
 simpa[vcA]using hv
theorem j6R (p st:Int)(r:Nat→Int)(w:World):Calls Tryz.prog 62 #[.agg (vcA p st r),.agg (vcA p st r)] w fun e w'=>e=.returned (.bool true)∧Below w.heap.size w w':=by
 obtain⟨V,hV⟩:∃V,V=Value.agg (vcA p st r):=⟨_,rfl⟩
 obtain⟨R,hR⟩:∃R,R=zn r:=⟨_,rfl⟩
 have HV:=zb hV
 have HR:=zb hR
 rw[←hV]
 clear hV hR
 go_enter Tryz.func62,Tryz.ntmps62
 go_wp2_with (first
  |(refine qo rfl 45 (.tmp 0) rfl V (vcA p st r) rfl HV.out ?_;intro W1 g1 b1 s1;have HG1:=zb g1;have HB1:=zb b1;clear g1 b1)
  |(refine qo rfl 45 (.tmp 1) rfl V (vcA p st r) rfl HV.out ?_;intro W2 g2 b2 s2;have HG2:=zb g2;have HB2:=zb b2;clear g2 b2;rw[s1]at HG2 s2;have HG3:=zb ((HB2.out.block w.heap.size (by omega)).trans HG1.out);have LA:=j6i HG3.out;have LB:=j6i HG2.out;rw[←HR.out]at LA LB;have c0:=zC _ _ 0 _ _ _ HG3.out;have c1:=zC _ _ 1 _ _ _ HG3.out;have d0:=zC _ _ 0 _ _ _ HG2.out;have d1:=zC _ _ 1 _ _ _ HG2.out;simp only[vcA,List.getElem?_toArray,List.getElem?_cons_zero,List.getElem?_cons_succ]at c0 c1 d0 d1)
  |(refine j1Y (by rfl) 43 (.tmp 18) rfl ⟨w.heap.size,2,none⟩ R rfl LA ?_)
  |(refine j1Y (by rfl) 43 (.tmp 20) rfl ⟨w.heap.size+1,2,none⟩ R rfl LB ?_)
  |(refine j5C (by rfl) (.tmp 19) (.tmp 21) _ rfl R r HR.out rfl rfl ?_))
 go_ret
 exact⟨rfl,HB1.out.trans (HB2.out.mono (by omega))⟩
end Go.Proofs.YtiamjjonoeaggabGreatDoor
