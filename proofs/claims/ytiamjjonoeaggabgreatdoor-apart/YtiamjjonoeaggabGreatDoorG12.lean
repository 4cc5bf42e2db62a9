import Derived.Test.YtiamjjonoeaggabGreatDoorGA
import Derived.Test.YtiamjjonoeaggabGreatDoorG00
import Derived.Test.YtiamjjonoeaggabGreatDoorG07
set_option maxRecDepth 100000
set_option maxHeartbeats 16000000
namespace Go.Proofs.YtiamjjonoeaggabGreatDoor
open Go.RowKit
theorem NodeAt.of_block {w:World}{b:Nat}{n:PNode}{t:TypeId}(h:w.heap[b]?=some (.cells (zq n).toArray t (0,0))):NodeAt w b n:=by
 refine⟨fun j hj=>?_,fun o=>by simp[World.frozen?,h],(Array.getElem?_eq_some_iff.1 h).1⟩
 rw[zC w b j _ t _ h]
 simp
theorem NodeAt.load {w:World}{b:Nat}{n:PNode}(h:NodeAt w b n):(Instr.loadAt 166 (.pointer (some ⟨b,0,none⟩))).run Tryz.prog w=.ok (q1C n) w:=by
 have hr:w.rangeAt b 0 (zq n):=by
  intro j v hv
  have hj:j<22:=(List.getElem?_eq_some_iff.1 hv).1
  rw[Nat.zero_add,h.cells j hj]
  exact hv
 exact run_loadAt_mid w b 0 166 (zq n) _ hr Tryz.underlying166 rfl (by kernel_rfl)
theorem OnlyB.and {bl bl':List Nat}{a c d:World}(h:OnlyB bl a c)(k:OnlyB bl' c d)(hn:∀b∈bl',b∈bl∨a.heap.size≤b):OnlyB bl a d:=
 ⟨k.os.trans h.os,k.tape.trans h.tape,k.output.trans h.output,zM h.size k.size,fun i hi hm=>(k.block i (zT hi h.size) (fun hb=>by rcases hn i hb with g|g;exact hm g;omega)).trans (h.block i hi hm)⟩
abbrev q5h:PNode:=⟨0,0,[],0,0,0,0,0,0,0,0,0,false,0,0⟩
theorem q4V {W:World}{bn rb:Nat}{nd n0:PNode}(hN:NodeAt W bn nd)(hR:W.heap[rb]?=some (.cells (zq n0).toArray 166 (0,0))) :
  ∃W6 V,V=q1C nd∧(Instr.loadAt 166 (.pointer (some ⟨bn,0,none⟩))).run Tryz.prog W=.ok V W∧(Instr.storeAt 166 (.pointer (some ⟨rb,0,none⟩)) V).run Tryz.prog W=.ok () W6∧(loadVar 166 ⟨rb,0,none⟩).run Tryz.prog W6=.ok V W6∧OnlyB [rb] W W6:=by
 obtain⟨W6,h1,h2,h3,h4,h5,h6,h7⟩:=q0n (P:=Tryz.prog) 166 166 W rb (zq n0).toArray (zq nd).toArray hR (by kernel_rfl) rfl (by simp[zq,Value.oneCell'])
 refine⟨W6,q1C nd,rfl,hN.load,h1,?_,⟨h5,h6,h7,by omega,fun k _ hn=>h3 k (by simpa using hn)⟩⟩
 exact run_loadVar_row W6 rb 166 166 (zq nd).toArray _ _ h2 Tryz.underlying166 rfl (by kernel_rfl)
theorem q9q (bp bt ct:Nat)(ts:List PTok)(nv:Value)(nx:Nat)(w:World)(h:Pars w bp bt ct ts nv nx)(hn:nx≤5000) :
  Calls Tryz.prog 123 #[.pointer (some ⟨bp,0,none⟩)] w fun e w'=>e=.returned (.tuple #[q1C (q1c ts nx).2.2,.bool (q1c ts nx).1])∧Pars w' bp bt ct ts nv (q1c ts nx).2.1∧OnlyB [bp] w w':=by
 generalize hr:q1c ts nx=r
 have HT:=zb hr
 clear hr
 have t0:=fun w h=>q3v bp bt ct ts nv nx w h (by omega)
 have H:=zb h
 have hl0:=h.lt.2
 have hm0:=h.lt.1
 clear h
 obtain⟨tk,hk0⟩:∃t,t=zt ts nx:=⟨_,rfl⟩
 rw[←hk0]at t0
 have HK0:=zb hk0
 clear hk0
 obtain⟨tk,tp,tz,tv,tnm⟩:=tk
 go_enter Tryz.func123,Tryz.ntmps123
 go_wp2_with fail
 refine(t0 _ (H.out.only (.nw [] _ _) (by simp) (by simp))).mono ?_
 rintro e w1 ⟨rfl,hb1⟩
 have ho1:OnlyB [] w w1:=(OnlyB.nw [] _ _).trans (.of_below hb1)
 have HR1:Hid (w1.heap[w.heap.size]?=some (.cells (zq q5h).toArray 166 (0,0))):=zb (by rw[hb1.block w.heap.size (by simp)];exact zN _ _)
 have hz:w.heap.size<w1.heap.size:=by have:=hb1.size;simp at this;omega
 have H1:=zb (H.out.only ho1 (by simp) (by simp))
 clear t0 hb1
 obtain⟨w2,hst2,hB2,hb2,hs2⟩:=q0m (P:=Tryz.prog) 187 w1 (q4f 0 0 0 0 []).toArray (q4f tk tp tz tv tnm).toArray (by kernel_rfl) rfl (by simp[q4f,Value.oneCell'])
 have ho2:OnlyB [] w w2:=ho1.trans (.of_below hb2)
 have HR2:Hid (w2.heap[w.heap.size]?=some (.cells (zq q5h).toArray 166 (0,0))):=zb (by rw[hb2.block w.heap.size hz];exact HR1.out)
 have H2:=zb (H1.out.only (bl:=[]) (.of_below hb2) (by simp) (by simp))
 have q:=fun j=>zC w2 w1.heap.size j _ _ _ hB2
 have q0:=q 0
 have q1:=q 1
 have q4:=q 4
 have q5:=q 5
 have q6:=q 6
 have q7:=q 7
 have q8:=q 8
 have q9:=q 9
 have q10:=q 10
 have q11:=q 11
 simp only[q4f,List.getElem?_toArray,List.getElem?_cons_zero,List.getElem?_cons_succ]at q0 q1 q4 q5 q6 q7 q8 q9 q10 q11
 have HB2:=zb hB2
 obtain⟨w3,hst3,hB3,hb3,hs3⟩:=q0m (P:=Tryz.prog) 166 w2 (zq q5h).toArray (zq (q1w ⟨tk,tp,tz,tv,tnm⟩)).toArray (by kernel_rfl) rfl (by simp[zq,Value.oneCell'])
 have ho3:OnlyB [] w w3:=ho2.trans (.of_below hb3)
 have HR3:Hid (w3.heap[w.heap.size]?=some (.cells (zq q5h).toArray 166 (0,0))):=zb (by rw[hb3.block w.heap.size (by omega)];exact HR2.out)
 have H3:=zb (H2.out.only (bl:=[]) (.of_below hb3) (by simp) (by simp))
 have HN3:=zb (NodeAt.of_block hB3)
 have p0:w3.cell? ⟨w1.heap.size,0,none⟩=some (.int .i64 tk):=by rw[zK (hb3.block w1.heap.size (by omega))];exact q0
 have HS2:=zb hs2
 have HS3:=zb hs3
 clear q hB2 hB3 HR1 HR2 H1 H2 hb2 hb3 hs2 hs3
 simp only[q4f,zq,q1w]at hst2 hst3
 unfold ptV q7p
 go_wp2_with (first|(refine ze rfl 187 (.tmp 4) (.tmp 8) rfl ⟨w1.heap.size,0,none⟩ _ rfl rfl w2 hst2 ?_)|(refine ze rfl 166 (.tmp 5) (.tmp 15) rfl ⟨w2.heap.size,0,none⟩ _ rfl rfl w3 hst3 ?_))
 clear hst2 hst3 q0 q1 q4 q5 q6 q7 q8 q9 q10 q11
 generalize Value.agg _=v8
 generalize Value.agg _=v14
 generalize Value.agg _=v15
 refine(q9p tk _).mono ?_
 rintro e w4 ⟨rfl,hw⟩
 rw[hw]
 clear hw w4
 have hz2:=HS2.out
 have hz3:=HS3.out
 have hne1:w2.heap.size≠bp:=by omega
 have hne2:w2.heap.size≠bt:=by omega
 have hne3:w1.heap.size≠bp:=by omega
 have HZ:Hid (w.heap.size<w1.heap.size∧w2.heap.size=w1.heap.size+1∧w3.heap.size=w2.heap.size+1):=zb ⟨hz,HS2.out,HS3.out⟩
 clear hz2 hz3 HS2 HS3
 cases hbk:q3z tk with
 |false =>
  have er:=HT.out
  rw[q1c,←HK0.out]at er
  simp only[hbk,Bool.false_eq_true,if_false]at er
  have e1:r.1=false:=by rw[←er]
  have P5:Pars w3 bp bt ct ts nv r.2.1:=by rw[←er];exact H3.out
  have N5:NodeAt w3 w2.heap.size r.2.2:=by rw[←er];exact HN3.out
  clear er
  have R5:=HR3.out
  have O5:OnlyB [bp] w w3:=ho3.wide (by simp)
  obtain⟨w6,V,hV,l6,s6,v6,o6⟩:=q4V N5 R5
  have O6:OnlyB [bp] w w6:=O5.and o6 (by simp)
  have P6:=P5.only o6 (by simp;omega) (by simp;omega)
  have HV:=zb hV
  clear hV N5 R5 P5
  go_wp2_with (first|(refine zj rfl 166 (.tmp 5) rfl ⟨w2.heap.size,0,none⟩ _ rfl l6 ?_)|(refine ze rfl 166 (.tmp 2) (.tmp 20) rfl ⟨w.heap.size,0,none⟩ _ rfl rfl w6 s6 ?_))
  exact zP (v:=.tuple #[V,.bool false]) (qi Tryz.results123 _ _ w.heap.size V _ rfl rfl v6) rfl ⟨by rw[HV.out,e1],P6,O6⟩
 |true =>
  have c1:=H3.out.next
  have f1:=H3.out.free 1
  have hl3:=H3.out.lt.2
  obtain⟨w4,hW4⟩:∃W:World,W=w3.setCell ⟨bp,1,none⟩ (.int .i64 ((nx:Int)+1)):=⟨_,rfl⟩
  have o4:OnlyB [bp] w3 w4:=by rw[hW4];exact(OnlyB.refl _ _).setCell (by simp) _
  have H4:Hid (Pars w4 bp bt ct ts nv (nx+1)):=zb (by rw[hW4];simpa using H3.out.step (nx+1))
  have HN4:=zb (HN3.out.only o4 (by simpa using hne1))
  have HR4:Hid (w4.heap[w.heap.size]?=some (.cells (zq q5h).toArray 166 (0,0))):=zb (by rw[o4.block _ (by have:=HZ.out;omega) (by simp;omega)];exact HR3.out)
  have O4:OnlyB [bp] w w4:=(ho3.wide (by simp)).trans o4
  have hs4:w.heap.size<w4.heap.size:=by have:=HZ.out;have:=o4.size;omega
  have HW4:=zb hW4
  clear hW4
  by_cases a1:tk=2
  ·have er:=HT.out
   rw[q1c,←HK0.out]at er
   simp only[hbk,if_true]at er
   rw[if_pos a1]at er
   go_wp2_with fail
   rw[←HW4.out]
   refine(syn_args bp bt ct ts nv (nx+1) w2.heap.size (q1w ⟨tk,tp,tz,tv,tnm⟩) w4 H4.out (by omega) HN4.out ⟨hne1,hne2⟩).mono ?_
   rintro e w5 ⟨rfl,P5,N5,o5⟩
   rw[er]at *
   have R5:w5.heap[w.heap.size]?=some (.cells (zq q5h).toArray 166 (0,0)):=by rw[o5.block _ hs4 (by have:=HZ.out;simp;omega)];exact HR4.out
   have O5:OnlyB [bp] w w5:=O4.and o5 (by have:=HZ.out;simp;omega)
   obtain⟨w6,V,hV,l6,s6,v6,o6⟩:=q4V N5 R5
   have O6:OnlyB [bp] w w6:=O5.and o6 (by simp)
   have P6:=P5.only o6 (by simp;omega) (by simp;omega)
   have HV:=zb hV
   clear hV N5 R5 P5
   go_wp2_with (first|(refine zj rfl 166 (.tmp 5) rfl ⟨w2.heap.size,0,none⟩ _ rfl l6 ?_)|(refine ze rfl 166 (.tmp 2) (.tmp 46) rfl ⟨w.heap.size,0,none⟩ _ rfl rfl w6 s6 ?_))
   exact zP (v:=.tuple #[V,.bool r.1]) (qi Tryz.results123 _ _ w.heap.size V _ rfl rfl v6) rfl ⟨by rw[HV.out],P6,O6⟩
  ·by_cases a2:tk=9
   ·by_cases a3:q6Q (zt ts (nx+1)).kind=true
    ·have er:=HT.out
     rw[q1c,←HK0.out]at er
     simp only[hbk,if_true]at er
     rw[if_neg a1,if_pos a2,if_pos a3]at er
     go_wp2_with fail
     rw[←HW4.out]
     refine(j0b bp bt ct ts nv (nx+1) w2.heap.size (q1w ⟨tk,tp,tz,tv,tnm⟩) w4 H4.out (by omega) HN4.out ⟨hne1,hne2⟩ a3).mono ?_
     rintro e w5 ⟨rfl,P4,N4,o5⟩
     have e1:r.1=true:=by rw[←er]
     have P5:Pars w5 bp bt ct ts nv r.2.1:=by rw[←er];exact P4
     have N5:NodeAt w5 w2.heap.size r.2.2:=by rw[←er];exact N4
     clear er P4 N4
     have R5:w5.heap[w.heap.size]?=some (.cells (zq q5h).toArray 166 (0,0)):=by rw[o5.block _ hs4 (by have:=HZ.out;simp;omega)];exact HR4.out
     have O5:OnlyB [bp] w w5:=O4.and o5 (by have:=HZ.out;simp;omega)
     obtain⟨w6,V,hV,l6,s6,v6,o6⟩:=q4V N5 R5
     have O6:OnlyB [bp] w w6:=O5.and o6 (by simp)
     have P6:=P5.only o6 (by simp;omega) (by simp;omega)
     have HV:=zb hV
     clear hV N5 R5 P5
     go_wp2_with (first|(refine zj rfl 166 (.tmp 5) rfl ⟨w2.heap.size,0,none⟩ _ rfl l6 ?_)|(refine ze rfl 166 (.tmp 2) (.tmp 46) rfl ⟨w.heap.size,0,none⟩ _ rfl rfl w6 s6 ?_))
     exact zP (v:=.tuple #[V,.bool true]) (qi Tryz.results123 _ _ w.heap.size V _ rfl rfl v6) rfl ⟨by rw[HV.out,e1],P6,O6⟩
    ·have er:=HT.out
     rw[q1c,←HK0.out]at er
     simp only[hbk,if_true]at er
     rw[if_neg a1,if_pos a2,if_neg a3]at er
     go_wp2_with fail
     rw[←HW4.out]
     refine(j0C bp bt ct ts nv (nx+1) w2.heap.size w4 H4.out (by omega) (by simpa using a3)).mono ?_
     rintro e w5 ⟨rfl,o5⟩
     have e1:r.1=false:=by rw[←er]
     have P5:Pars w5 bp bt ct ts nv r.2.1:=by rw[←er];exact H4.out.only o5 (by simp) (by simp)
     have N5:NodeAt w5 w2.heap.size r.2.2:=by rw[←er];exact HN4.out.only o5 (by simp)
     clear er
     have R5:w5.heap[w.heap.size]?=some (.cells (zq q5h).toArray 166 (0,0)):=by rw[o5.block _ hs4 (by simp)];exact HR4.out
     have O5:OnlyB [bp] w w5:=O4.and o5 (by simp)
     obtain⟨w6,V,hV,l6,s6,v6,o6⟩:=q4V N5 R5
     have O6:OnlyB [bp] w w6:=O5.and o6 (by simp)
     have P6:=P5.only o6 (by simp;omega) (by simp;omega)
     have HV:=zb hV
     clear hV N5 R5 P5
     go_wp2_with (first|(refine zj rfl 166 (.tmp 5) rfl ⟨w2.heap.size,0,none⟩ _ rfl l6 ?_)|(refine ze rfl 166 (.tmp 2) (.tmp 46) rfl ⟨w.heap.size,0,none⟩ _ rfl rfl w6 s6 ?_))
     exact zP (v:=.tuple #[V,.bool false]) (qi Tryz.results123 _ _ w.heap.size V _ rfl rfl v6) rfl ⟨by rw[HV.out,e1],P6,O6⟩
   ·cases a3:q3l tk with
    |true =>
     have er:=HT.out
     rw[q1c,←HK0.out]at er
     simp only[hbk,if_true,a3]at er
     rw[if_neg a1,if_neg a2]at er
     go_wp2_with fail
     rw[←HW4.out]
     refine(q7l tk _).mono ?_
     rintro e w5 ⟨rfl,hw⟩
     rw[hw]
     clear hw w5
     simp only[a3]
     go_wp2_with fail
     refine(syn_span bp bt ct ts nv (nx+1) w2.heap.size (q1w ⟨tk,tp,tz,tv,tnm⟩) w4 H4.out (by omega) HN4.out ⟨hne1,hne2⟩).mono ?_
     rintro e w5 ⟨rfl,P5,N5,o5⟩
     rw[er]at *
     have R5:w5.heap[w.heap.size]?=some (.cells (zq q5h).toArray 166 (0,0)):=by rw[o5.block _ hs4 (by have:=HZ.out;simp;omega)];exact HR4.out
     have O5:OnlyB [bp] w w5:=O4.and o5 (by have:=HZ.out;simp;omega)
     obtain⟨w6,V,hV,l6,s6,v6,o6⟩:=q4V N5 R5
     have O6:OnlyB [bp] w w6:=O5.and o6 (by simp)
     have P6:=P5.only o6 (by simp;omega) (by simp;omega)
     have HV:=zb hV
     clear hV N5 R5 P5
     go_wp2_with (first|(refine zj rfl 166 (.tmp 5) rfl ⟨w2.heap.size,0,none⟩ _ rfl l6 ?_)|(refine ze rfl 166 (.tmp 2) (.tmp 46) rfl ⟨w.heap.size,0,none⟩ _ rfl rfl w6 s6 ?_))
     exact zP (v:=.tuple #[V,.bool r.1]) (qi Tryz.results123 _ _ w.heap.size V _ rfl rfl v6) rfl ⟨by rw[HV.out],P6,O6⟩
    |false =>
     have er:=HT.out
     rw[q1c,←HK0.out]at er
     simp only[hbk,if_true,a3,Bool.false_eq_true,if_false]at er
     rw[if_neg a1,if_neg a2]at er
     go_wp2_with fail
     rw[←HW4.out]
     refine(q7l tk _).mono ?_
     rintro e w5 ⟨rfl,hw⟩
     rw[hw]
     clear hw w5
     simp only[a3]
     have e1:r.1=true:=by rw[←er]
     have P5:Pars w4 bp bt ct ts nv r.2.1:=by rw[←er];exact H4.out
     have N5:NodeAt w4 w2.heap.size r.2.2:=by rw[←er];exact HN4.out
     clear er
     have R5:=HR4.out
     have O5:=O4
     obtain⟨w6,V,hV,l6,s6,v6,o6⟩:=q4V N5 R5
     have O6:OnlyB [bp] w w6:=O5.and o6 (by simp)
     have P6:=P5.only o6 (by simp;omega) (by simp;omega)
     have HV:=zb hV
     clear hV N5 R5 P5
     go_wp2_with (first|(refine zj rfl 166 (.tmp 5) rfl ⟨w2.heap.size,0,none⟩ _ rfl l6 ?_)|(refine ze rfl 166 (.tmp 2) (.tmp 46) rfl ⟨w.heap.size,0,none⟩ _ rfl rfl w6 s6 ?_))
     exact zP (v:=.tuple #[V,.bool true]) (qi Tryz.results123 _ _ w.heap.size V _ rfl rfl v6) rfl ⟨by rw[HV.out,e1],P6,O6⟩
end Go.Proofs.YtiamjjonoeaggabGreatDoor
