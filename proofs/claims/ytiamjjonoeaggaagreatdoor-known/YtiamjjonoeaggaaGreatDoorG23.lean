import Derived.Test.YtiamjjonoeaggaaGreatDoorGA
import Derived.Test.YtiamjjonoeaggaaGreatDoorGB
import Derived.Test.YtiamjjonoeaggaaGreatDoorG14
set_option maxRecDepth 100000
set_option maxHeartbeats 16000000
namespace Go.Proofs.YtiamjjonoeaggaaGreatDoor
open Go.RowKit
theorem j4K (bp bt ct:Nat)(ts:List PTok)(d:Nat)(hd8:d<8)(w:World)(nx:Nat)(ns:List PNode)(dp:Int)(hd:dp+(d+1:Nat)=9)(hpn:PN w bp bt ct ts nx ns)(hbt:bt<bp)(hn:nx+q4P (d+1)≤4000)(hm:ns.length+q3g (d+1)≤1000)(hcase:(q0Y ts nx).1=true∧(q0Y ts nx).2.2.kind=5) :
  Calls Tryz.prog 71 #[.pointer (some ⟨bp,0,none⟩),.int .i64 dp] w fun e w'=>e=.returned (.bool (q0f ts (d+1) nx ns.length).1)∧q9j w w' bp bt ct ts ns (q0f ts (d+1) nx ns.length):=by
 have HC:=zb hcase
 clear hcase
 have hdp1:1≤dp:=by omega
 have hdp8:dp≤8:=by omega
 have HD:Hid (dp+1+d=9):=zb (by omega)
 have hn6:nx≤4000:=by omega
 have HL:=zb (q8y ts nx)
 obtain⟨nv,hP,hown⟩:=hpn
 have HO:=zb hown
 have hh:=q8Z bp bt ct ts nv nx w hP (by omega)
 generalize hr:q0f ts (d+1) nx ns.length=r
 have HT:=zb hr
 have HN:Hid (nx+9+2*q4P d≤4000∧ns.length+1+2*q3g d≤1000):=zb (by simp only[q4P,q3g]at hn hm;omega)
 clear hr hown hn hm hd
 generalize hhd:q0Y ts nx=hr at *
 have HH:=zb hhd
 clear hhd
 obtain⟨ok,m,nd⟩:=hr
 obtain⟨V,hV⟩:∃V,V=q1w nd:=⟨_,rfl⟩
 rw[←hV]at hh
 have HV:=zb hV
 clear hV
 have H:=zb hP
 have hlt:=hP.lt.2
 clear hP
 go_enter Tryz.func71,Tryz.ntmps71
 go_wp2_with fail
 refine hh.mono ?_
 rintro e w1 ⟨rfl,hP1,ho1⟩
 have hown1:=q2n HO.out ho1 (by simp)
 obtain⟨ao,cap,rfl⟩:=ql hown1
 have hrow:=hown1.lt
 have hl1:=hP1.lt.2
 obtain⟨w2,hst2,hB2,hb2,hs2⟩:=qI (P:=Tryz.prog) 168 w1 (zq q4X).toArray (zq nd).toArray (by kernel_rfl) rfl (by simp[zq,Value.oneCell'])
 rw[show Value.agg (zq nd).toArray=V from HV.out.symm]at hst2
 simp only[zq]at hst2
 have HP1:=zb hP1
 have HO1:=zb hown1
 have HB2:=zb hB2
 have HS2:=zb hs2
 clear hh hP1 hown1 hB2 hs2
 simp only[]at *
 have hok:ok=true:=by have:=HC.out.1;simpa using this
 subst hok
 have HK:Hid (nd.kind=5):=zb (by have:=HC.out.2;simpa using this)
 have hP2:=HP1.out.only (bl:=[]) (.of_below hb2) (by simp) (by simp)
 have c2:=hP2.nodes
 have f2:=hP2.free 2
 have hl2:=hP2.lt.2
 have HP2:=zb hP2
 clear hP2
 have q0:=zC w2 w1.heap.size 0 _ _ _ HB2.out
 simp only[zq,List.getElem?_toArray,List.getElem?_cons_zero]at q0
 have Q0:=zb q0
 clear q0
 have L5:=fun(W:World) (h:W.heap[w1.heap.size]?=w2.heap[w1.heap.size]?)=>(NodeAt.of_block (h.trans HB2.out)).load
 rw[show q1w nd=V from HV.out.symm]at L5
 have S6:=q9M nd
 rw[show q1w nd=V from HV.out.symm]at S6
 have HL5:=zb L5
 have HS6:=zb S6
 clear L5 S6
 go_wp2_with (refine ze rfl 168 (.tmp 5) (.tmp 13) rfl ⟨w1.heap.size,0,none⟩ _ rfl rfl w2 hst2 ?_)
 have hown2:=zo HO1.out hb2
 have HOD:=fun o:Obj=>zb (hown2.drew.alloc o)
 have HRO:Hid (∀k,(Value.slice ao ns.length cap).ownBlock=some k→bp+1≤k):=zb (fun k e=>(hrow k e).1)
 have HRW:=zb hrow
 have hns:ns.length≤1000:=by have:=HN.out.2;omega
 clear hown2 hrow
 obtain⟨i0,hi0,hz0,hz1,hz2⟩:=info_parts q8e
 refine wp_region_any (by kernel_rfl) ?_
 change wpAny _ _ _ _ _ _ _ (World.drew _)
 refine wpAny_take (i:=0) (v:=.pointer (some ⟨bp,0,none⟩)) rfl (by kernel_rfl) (by kernel_rfl) (by kernel_rfl) (fun _ _ _ h=>h) (Or.inl ⟨by rfl,?_⟩) ?_
 ·intro w;go_simp
 simp only[Act.put,List.setIfInBounds_toArray]
 refine wpAny_take (i:=1) (v:=.pointer (some ⟨bp,0,none⟩)) rfl (by kernel_rfl) (by kernel_rfl) (by kernel_rfl) (fun _ _ _ h=>h) (Or.inl ⟨by rfl,?_⟩) ?_
 ·intro w;go_simp
 simp only[Act.put]
 refine wpAny_take (i:=2) (v:=.pointer (some ⟨bp,0,none⟩)) rfl (by kernel_rfl) (by kernel_rfl) (by kernel_rfl) (fun _ _ _ h=>h) (Or.inl ⟨by rfl,?_⟩) ?_
 ·intro w;go_simp
 simp only[Act.put]
 refine wpAny_take (i:=3) (v:=.pointer (some ⟨bp,2,none⟩)) rfl (by kernel_rfl) (by kernel_rfl) (by kernel_rfl) (fun _ _ _ h=>h) (Or.inl ⟨by rfl,?_⟩) ?_
 ·intro w;go_simp
 simp only[Act.put]
 refine wpAny_ready (rs:=[4,5]) (by kernel_rfl) (by simp) ?_
 refine AllReady.cons rfl (fun K hK=>?_) (AllReady.cons rfl (fun K hK=>?_) AllReady.nil)
 ·go_simp
  refine hK _ _ ?_
  clear hK K
  refine wpAny_ready (rs:=[5]) (by kernel_rfl) (by simp) ?_
  refine AllReady.cons rfl (fun K hK=>?_) AllReady.nil
  rw[if_pos (by rfl)]
  refine q0b 168 (.tmp 5) rfl ⟨w1.heap.size,0,none⟩ V rfl (HL5.out _ rfl) ?_
  refine hK _ _ ?_
  clear hK K
  simp only[Act.put,List.setIfInBounds_toArray]
  refine wpAny_ready (rs:=[6]) (by kernel_rfl) (by simp) ?_
  refine AllReady.cons rfl (fun K hK=>?_) AllReady.nil
  rw[if_pos (by rfl)]
  refine q1I 80 (.tmp 27) rfl V _ _ rfl (HS6.out _) ?_
  refine hK _ _ ?_
  clear hK K
  simp only[Act.put]
  refine wpAny_ready (rs:=[7]) (by kernel_rfl) (by simp) ?_
  refine AllReady.cons rfl (fun K hK=>?_) AllReady.nil
  refine q0B rfl (.tmp 26) (.tmp 28) 80 rfl (bp+1) 168 Tryz.underlying80 hi0 hz0 hz1 hz2 rfl (by decide) (.slice ao ns.length cap) ns.length (qr ns) rfl (HOD _).out ⟨w2.heap.size,0,none⟩ 1 1 (zq nd) rfl rfl (q4H w2.drew nd _) (q2m nd) (by unfold maxLen;omega) (by omega) (by simp;omega) ?_
  intro v' w' hown' hgrow'
  obtain⟨g',cap',rfl⟩:=zJ hown' (by omega)
  obtain⟨c2',f2'⟩:=q3B hgrow' HRO.out hl2 c2 f2
  refine hK _ _ ?_
  clear hK K
  simp only[Act.put]
  refine wpAny_take (i:=8) (v:=.pointer (some ⟨bp,0,none⟩)) rfl (by kernel_rfl) (by kernel_rfl) (by kernel_rfl) (fun _ _ _ h=>h) (Or.inl ⟨by rfl,?_⟩) ?_
  ·intro w;go_simp
  simp only[Act.put]
  refine wpAny_take (i:=9) (v:=.pointer (some ⟨bp,2,none⟩)) rfl (by kernel_rfl) (by kernel_rfl) (by kernel_rfl) (fun _ _ _ h=>h) (Or.inl ⟨by rfl,?_⟩) ?_
  ·intro w;go_simp
  simp only[Act.put]
  refine wpAny_ready (rs:=[10]) (by kernel_rfl) (by simp) ?_
  refine AllReady.cons rfl (fun K hK=>?_) AllReady.nil
  go_simp
  refine hK _ _ ?_
  clear hK K
  refine wpAny_done (by kernel_rfl) ?_ _
  obtain⟨hpn,hk0,hbl⟩:=q1E HP1.out hbt hb2 HRW.out Q0.out hgrow' hown'
  obtain⟨w5,hw5⟩:∃W:World,W=w'.setCell ⟨bp,2,none⟩ (.slice (some ⟨g',0,none⟩) (ns.length+1) cap'):=⟨_,rfl⟩
  rw[←hw5]at hpn hk0 hbl
  rw[←hw5]
  have B5:Below bp w w5:=(ho1.below (B:=bp) (by omega) (by simp)).trans hbl
  have HPN:=zb hpn
  have HB5:=zb B5
  clear hw5 hpn hbl B5 hown' hgrow' c2' f2' c2 f2 hst2 hi0 hz0 hz1 hz2
  have kk:=HK.out
  have er:=HT.out
  rw[q0f,HH.out]at er
  simp only[if_true]at er
  rw[if_pos (Or.inl HK.out)]at er
  subst er
  go_wp2_with fail
  go_ret
  obtain⟨nv',p5,w5o⟩:=HPN.out
  exact⟨rfl,⟨nv',p5,fun _=>w5o⟩,HB5.out⟩
 ·rw[if_pos (by rfl)]
  refine q0b 168 (.tmp 5) rfl ⟨w1.heap.size,0,none⟩ V rfl (HL5.out _ rfl) ?_
  refine hK _ _ ?_
  clear hK K
  simp only[Act.put]
  refine wpAny_ready (rs:=[4,6]) (by kernel_rfl) (by simp) ?_
  refine AllReady.cons rfl (fun K hK=>?_) (AllReady.cons rfl (fun K hK=>?_) AllReady.nil)
  ·go_simp
   refine hK _ _ ?_
   clear hK K
   refine wpAny_ready (rs:=[6]) (by kernel_rfl) (by simp) ?_
   refine AllReady.cons rfl (fun K hK=>?_) AllReady.nil
   rw[if_pos (by rfl)]
   refine q1I 80 (.tmp 27) rfl V _ _ rfl (HS6.out _) ?_
   refine hK _ _ ?_
   clear hK K
   simp only[Act.put,List.setIfInBounds_toArray]
   refine wpAny_ready (rs:=[7]) (by kernel_rfl) (by simp) ?_
   refine AllReady.cons rfl (fun K hK=>?_) AllReady.nil
   refine q0B rfl (.tmp 26) (.tmp 28) 80 rfl (bp+1) 168 Tryz.underlying80 hi0 hz0 hz1 hz2 rfl (by decide) (.slice ao ns.length cap) ns.length (qr ns) rfl (HOD _).out ⟨w2.heap.size,0,none⟩ 1 1 (zq nd) rfl rfl (q4H w2.drew nd _) (q2m nd) (by unfold maxLen;omega) (by omega) (by simp;omega) ?_
   intro v' w' hown' hgrow'
   obtain⟨g',cap',rfl⟩:=zJ hown' (by omega)
   obtain⟨c2',f2'⟩:=q3B hgrow' HRO.out hl2 c2 f2
   refine hK _ _ ?_
   clear hK K
   simp only[Act.put]
   refine wpAny_take (i:=8) (v:=.pointer (some ⟨bp,0,none⟩)) rfl (by kernel_rfl) (by kernel_rfl) (by kernel_rfl) (fun _ _ _ h=>h) (Or.inl ⟨by rfl,?_⟩) ?_
   ·intro w;go_simp
   simp only[Act.put]
   refine wpAny_take (i:=9) (v:=.pointer (some ⟨bp,2,none⟩)) rfl (by kernel_rfl) (by kernel_rfl) (by kernel_rfl) (fun _ _ _ h=>h) (Or.inl ⟨by rfl,?_⟩) ?_
   ·intro w;go_simp
   simp only[Act.put]
   refine wpAny_ready (rs:=[10]) (by kernel_rfl) (by simp) ?_
   refine AllReady.cons rfl (fun K hK=>?_) AllReady.nil
   go_simp
   refine hK _ _ ?_
   clear hK K
   refine wpAny_done (by kernel_rfl) ?_ _
   obtain⟨hpn,hk0,hbl⟩:=q1E HP1.out hbt hb2 HRW.out Q0.out hgrow' hown'
   obtain⟨w5,hw5⟩:∃W:World,W=w'.setCell ⟨bp,2,none⟩ (.slice (some ⟨g',0,none⟩) (ns.length+1) cap'):=⟨_,rfl⟩
   rw[←hw5]at hpn hk0 hbl
   rw[←hw5]
   have B5:Below bp w w5:=(ho1.below (B:=bp) (by omega) (by simp)).trans hbl
   have HPN:=zb hpn
   have HB5:=zb B5
   clear hw5 hpn hbl B5 hown' hgrow' c2' f2' c2 f2 hst2 hi0 hz0 hz1 hz2
   have kk:=HK.out
   have er:=HT.out
   rw[q0f,HH.out]at er
   simp only[if_true]at er
   rw[if_pos (Or.inl HK.out)]at er
   subst er
   go_wp2_with fail
   go_ret
   obtain⟨nv',p5,w5o⟩:=HPN.out
   exact⟨rfl,⟨nv',p5,fun _=>w5o⟩,HB5.out⟩
  ·rw[if_pos (by rfl)]
   refine q1I 80 (.tmp 27) rfl V _ _ rfl (HS6.out _) ?_
   refine hK _ _ ?_
   clear hK K
   simp only[Act.put]
   refine wpAny_ready (rs:=[4]) (by kernel_rfl) (by simp) ?_
   refine AllReady.cons rfl (fun K hK=>?_) AllReady.nil
   go_simp
   refine hK _ _ ?_
   clear hK K
   refine wpAny_ready (rs:=[7]) (by kernel_rfl) (by simp) ?_
   refine AllReady.cons rfl (fun K hK=>?_) AllReady.nil
   refine q0B rfl (.tmp 26) (.tmp 28) 80 rfl (bp+1) 168 Tryz.underlying80 hi0 hz0 hz1 hz2 rfl (by decide) (.slice ao ns.length cap) ns.length (qr ns) rfl (HOD _).out ⟨w2.heap.size,0,none⟩ 1 1 (zq nd) rfl rfl (q4H w2.drew nd _) (q2m nd) (by unfold maxLen;omega) (by omega) (by simp;omega) ?_
   intro v' w' hown' hgrow'
   obtain⟨g',cap',rfl⟩:=zJ hown' (by omega)
   obtain⟨c2',f2'⟩:=q3B hgrow' HRO.out hl2 c2 f2
   refine hK _ _ ?_
   clear hK K
   simp only[Act.put,List.setIfInBounds_toArray]
   refine wpAny_take (i:=8) (v:=.pointer (some ⟨bp,0,none⟩)) rfl (by kernel_rfl) (by kernel_rfl) (by kernel_rfl) (fun _ _ _ h=>h) (Or.inl ⟨by rfl,?_⟩) ?_
   ·intro w;go_simp
   simp only[Act.put]
   refine wpAny_take (i:=9) (v:=.pointer (some ⟨bp,2,none⟩)) rfl (by kernel_rfl) (by kernel_rfl) (by kernel_rfl) (fun _ _ _ h=>h) (Or.inl ⟨by rfl,?_⟩) ?_
   ·intro w;go_simp
   simp only[Act.put]
   refine wpAny_ready (rs:=[10]) (by kernel_rfl) (by simp) ?_
   refine AllReady.cons rfl (fun K hK=>?_) AllReady.nil
   go_simp
   refine hK _ _ ?_
   clear hK K
   refine wpAny_done (by kernel_rfl) ?_ _
   obtain⟨hpn,hk0,hbl⟩:=q1E HP1.out hbt hb2 HRW.out Q0.out hgrow' hown'
   obtain⟨w5,hw5⟩:∃W:World,W=w'.setCell ⟨bp,2,none⟩ (.slice (some ⟨g',0,none⟩) (ns.length+1) cap'):=⟨_,rfl⟩
   rw[←hw5]at hpn hk0 hbl
   rw[←hw5]
   have B5:Below bp w w5:=(ho1.below (B:=bp) (by omega) (by simp)).trans hbl
   have HPN:=zb hpn
   have HB5:=zb B5
   clear hw5 hpn hbl B5 hown' hgrow' c2' f2' c2 f2 hst2 hi0 hz0 hz1 hz2
   have kk:=HK.out
   have er:=HT.out
   rw[q0f,HH.out]at er
   simp only[if_true]at er
   rw[if_pos (Or.inl HK.out)]at er
   subst er
   go_wp2_with fail
   go_ret
   obtain⟨nv',p5,w5o⟩:=HPN.out
   exact⟨rfl,⟨nv',p5,fun _=>w5o⟩,HB5.out⟩
end Go.Proofs.YtiamjjonoeaggaaGreatDoor
