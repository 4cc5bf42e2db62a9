import Derived.Test.YtiamjjonoeaggaaGreatDoorGA
import Derived.Test.YtiamjjonoeaggaaGreatDoorGB
import Derived.Test.YtiamjjonoeaggaaGreatDoorG44
set_option maxRecDepth 100000
set_option maxHeartbeats 16000000
namespace Go.Proofs.YtiamjjonoeaggaaGreatDoor
open Go.RowKit
theorem j3F (bw:Nat)(s:St)(l:Value)(n:Nat)(xs:List Value)(w:World)(h:Wld w bw s)(hg:Grp s.LS)(hl:w.ownsRow (bw+1) 49 12 l n xs)(hf:FreeL bw s (obl l))(hn:n≤1000)(hL:s.LS.length≤10000000)(hmk:s.mc≤10000000) :
  Calls Tryz.prog 95 #[.pointer (some ⟨bw,0,none⟩),l] w fun e w'=>e=.returned (.tuple #[])∧∃s',Wld w' bw s'∧Grp s'.LS∧s'.MS=s.MS∧s'.LS.length=s.LS.length+4∧s'.mc=s.mc+1∧Below bw w w':=by
 obtain⟨la,lc,rfl⟩:=qt hl
 have c4:w.cell? ⟨bw,4,none⟩=some (.int .i64 s.mc):=zC _ _ 4 _ _ _ h.blk
 have z4:=zF _ _ 4 _ _ h.blk
 have hlt:=h.lt
 have HM1:=h.mark
 obtain⟨mz,hmz⟩:∃mz:Int,mz=(s.mc:Int):=⟨_,rfl⟩
 have hm0:0≤mz∧mz≤10000000:=by omega
 rw[←hmz]at c4 HM1
 obtain⟨z,hz⟩:∃z:Int,z=mz+1:=⟨_,rfl⟩
 have hwr:IntKind.i64.wrap (mz+1)=z:=by rw[IntKind.wrap_i64];omega
 rw[←hz]at HM1
 obtain⟨VM,hVM⟩:∃VM,VM=Value.agg (mkA z):=⟨_,rfl⟩
 have HVM:=zb hVM
 have HMK:Hid (∀W,Calls Tryz.prog 92 #[.int .i64 z] W fun e w'=>e=.returned VM∧Below W.heap.size W w'):=zb (fun W=>by rw[hVM];exact j3G z W)
 obtain⟨i0,hi0,hz0,hz1,hz2⟩:=info_parts j5W
 have HF:=zb hf
 have HW1:=zb HM1
 have HB1:Hid (Below bw w (w.setCell ⟨bw,4,none⟩ (.int .i64 z))):=zb ((OnlyB.one w bw 4 (.int .i64 z)).below (by omega) (by simp))
 have HO1:=zb (ownsRow_setCell_below (a:=⟨bw,4,none⟩) hl (by simp) (.int .i64 z))
 have HLK:Hid (∀k∈obl (.slice la n lc),k<w.heap.size):=zb (fun k hk=>by obtain⟨_,cs,e⟩:=zw hl k hk;exact zd e)
 have HG:=zb hg
 clear h hl hf HM1 hVM hmz hg hz
 generalize hlz:s.LS.length=ll at *
 have HLL:=zb hlz
 clear hlz
 obtain⟨W1,hW1⟩:∃W1,W1=w.setCell ⟨bw,4,none⟩ (.int .i64 z):=⟨_,rfl⟩
 have hs1:W1.heap.size=w.heap.size:=by rw[hW1];simp
 have d4:W1.cell? ⟨bw,4,none⟩=some (.int .i64 z):=by rw[hW1];exact zS w _ _ c4
 go_enter Tryz.func95,Tryz.ntmps95
 go_wp2_with fail
 rw[←hW1]at HW1 HB1 HO1 ⊢
 clear hW1 c4
 refine(HMK.out _).mono ?_
 rintro e w2 ⟨rfl,b2⟩
 have hs2:=b2.size
 obtain⟨W3,S3,g3,b3,hs3⟩:=qI (P:=Tryz.prog) 49 w2 (q7j 0 0) (mkA z) (by kernel_rfl) rfl (q9A z)
 rw[←HVM.out]at S3
 have B3:Below W1.heap.size W1 W3:=b2.trans (b3.mono b2.size)
 have HW3:=zb (HW1.out.below B3)
 have HO3:=zb (zh HO1.out B3)
 have HB3:Hid (Below bw w W3):=zb (HB1.out.trans (B3.mono (by omega)))
 have HM3:=zb g3
 have hsB:w2.heap.size+1=W3.heap.size:=hs3.symm
 clear b2 b3 g3 B3 HMK d4 z4
 go_wp2_with (refine ze rfl 49 (.tmp 4) (.tmp 20) rfl ⟨w2.heap.size,0,none⟩ VM rfl rfl W3 S3 ?_)
 clear S3
 have HLV:Hid (∀wr,OnlyB (obl (.slice la n lc)) W3 wr→(Instr.loadAt 49 (.pointer (some ⟨w2.heap.size,0,none⟩))).run Tryz.prog wr=.ok VM wr):=zb (fun wr ho=>by
  rw[HVM.out]
  exact q1s 49 49 wr w2.heap.size (mkA z) (0,0) _ ((ho.block _ (by omega) (fun hh=>by have:=HLK.out _ hh;omega)).trans HM3.out) Tryz.underlying49 rfl (by kernel_rfl))
 go_loopg [5] n (fun g vi wr=>KpRel bw n (.slice la n lc) z W3 g vi wr)
 case atStart=>exact⟨0,zZ _,by omega,rfl,⟨xs,HO3.out,fun p hp=>by omega⟩,OnlyB.refl _ _⟩
 case round =>
  obtain⟨k,hk,hgk,rfl,⟨ys,hys,hym⟩,ho⟩:=hrel
  have HGK:=zb hgk
  have HYS:=zb hys
  have HYM:=zb hym
  have HO:=zb ho
  have LV:=HLV.out _ ho
  clear hgk hym ho hys
  by_cases hkn:k<n
  ·obtain⟨g,c',e⟩:=zJ HYS.out (by omega)
   have ea:la=some ⟨g,0,none⟩:=by simp only[Value.slice.injEq]at e;exact e.1
   subst ea
   clear e
   obtain⟨cs,q1,q2,q3,q4,q5,q6⟩:=q1O HYS.out
   have hcap:n≤lc∧lc≤9223372036854775807:=⟨q2,q3U (zL _) q3⟩
   have hgl:g<wr.heap.size:=zd q1
   obtain⟨W4,S4,⟨cs',r1,r2,r3⟩,r4,r5⟩:=j0Q (P:=Tryz.prog) 49 49 wr g (k*12) cs (mkA z) q1 (by kernel_rfl) (by rw[q4];show k*12+12≤lc*12;omega) (q9A z)
   rw[←HVM.out]at S4
   obtain⟨ys',t1,t2⟩:=row_putX (i:=k) (z:=z) HYS.out q1 r1 r2 (fun p hp=>by rw[r3 p hp];exact mk_if)
   have HT1:=zb t1
   have HT2:=zb t2
   have HR4:=zb r4
   clear t1 t2 r1 r2 r3 r4 r5 q1 q2 q3 q4 q5 q6
   go_wp2_with (first|(refine zg rfl 49 (.tmp 4) rfl ⟨w2.heap.size,0,none⟩ VM rfl LV ?_)|(refine ze rfl 49 (.tmp 30) (.tmp 29) rfl ⟨g,k*12,none⟩ VM rfl rfl W4 S4 ?_))
   have hg1:0<gk:=by have:=HGK.out;omega
   go_roundg (gk-1)
   case measure=>omega
   case rel =>
    refine⟨k+1,by omega,by have:=HGK.out;omega,by go_num,⟨ys',HT1.out,fun p hp=>?_⟩,HO.out.trans (HR4.out.wide (fun q hq=>by have:q=g:=(by simpa using hq);subst this;exact q1w.2 rfl))⟩
    rw[HT2.out p (by have:=zU 12 (show k+1≤n by omega);omega)]
    by_cases hin:k*12≤p∧p<k*12+12
    ·rw[if_pos hin,show p-k*12=p % 12 by omega]
    ·rw[if_neg hin]
     exact HYM.out p (by omega)
  ·obtain rfl:k=n:=by omega
   have hxs:=j6q HYS.out.1 HYM.out
   subst hxs
   have HWr:=zb (HW3.out.free HO.out HF.out (fun q hq=>(zw HO3.out q hq).2))
   have HBr:Hid (Below bw w wr):=zb (HB3.out.trans (HO.out.below (by omega) (fun q hq=>by have:=(zw HO3.out q hq).1;omega)))
   have hrs:W3.heap.size≤wr.heap.size:=HO.out.size
   clear HYM HW3 HO3 HGK hkn
   have HN1:Hid (bw+1≤wr.heap.size):=zb (by omega)
   have BL1:(Instr.buildSlice 38 1 #[(0,VM)]).run Tryz.prog wr=.ok (.slice (some ⟨wr.heap.size,0,none⟩) 1 1) (wr.alloc (.cells (flR (fun _=>z) 1).toArray 49)):=by rw[HVM.out];exact bld1 z wr
   go_wp2_with (first
    |(refine zg rfl 49 (.tmp 4) rfl ⟨w2.heap.size,0,none⟩ VM rfl LV ?_)
    |(refine q5Q rfl 38 1 #[(0,.tmp 32)] rfl #[(0,VM)] (by simp[Act.eval,Act.put]) _ _ BL1 ?_)
    |(at_builtin;refine q4Q rfl (.tmp 31) (.tmp 33) 38 49 rfl Tryz.underlying38 hi0 hz0 hz1 hz2 rfl (by decide) (bw+1) _ k _ (wr.alloc (.cells (flR (fun _=>z) 1).toArray 49)) rfl (HYS.out.alloc _) ⟨wr.heap.size,0,none⟩ 1 1 (flR (fun _=>z) 1) rfl (q2w _ _) (q4z _ _ _) (q5C _ _) (by omega) (by decide) (by have:=HN1.out;simp;omega) (by decide) ?_;intro v1 w4 own4 gr4 at4;obtain⟨t1,t2,t3,t4,t5⟩:=q9I HWr.out HF.out HYS.out own4 gr4 at4;obtain⟨a1,c1,rfl⟩:=qt t3;have HW4:=zb t1;have HO4:=zb (HO.out.trans t2);have V14:=zb t3;have L4:=zb (t4 _ k HYS.out (by omega));have P1:=zb t5;have LV4:=HLV.out _ HO4.out;have hs4:wr.heap.size≤w4.heap.size:=t2.size;have BL2:(Instr.buildSlice 38 2 #[(0,VM),(1,VM)]).run Tryz.prog w4=.ok (.slice (some ⟨w4.heap.size,0,none⟩) 2 2) (w4.alloc (.cells (flR (fun _=>z) 2).toArray 49)):=(by rw[HVM.out];exact bld2 z w4);clear t1 t2 t3 t4 t5 own4 gr4 at4 LV BL1)
    |(refine zg rfl 49 (.tmp 4) rfl ⟨w2.heap.size,0,none⟩ VM rfl LV4 ?_)
    |(refine q5Q rfl 38 2 #[(0,.tmp 36),(1,.tmp 37)] rfl #[(0,VM),(1,VM)] (by simp[Act.eval,Act.put]) _ _ BL2 ?_)
    |(at_builtin;refine q4Q rfl (.tmp 35) (.tmp 38) 38 49 rfl Tryz.underlying38 hi0 hz0 hz1 hz2 rfl (by decide) (bw+1) _ k _ (w4.alloc (.cells (flR (fun _=>z) 2).toArray 49)) rfl (L4.out.alloc _) ⟨w4.heap.size,0,none⟩ 2 2 (flR (fun _=>z) 2) rfl (q2w _ _) (q4z _ _ _) (q5C _ _) (by omega) (by decide) (by have:=HN1.out;simp;omega) (by decide) ?_;intro v2 w5 own5 gr5 at5;obtain⟨t1,t2,t3,t4,t5⟩:=q9I HW4.out HF.out L4.out own5 gr5 at5;obtain⟨a2,c2,rfl⟩:=qt t3;have HW5:=zb t1;have HO5:=zb (HO4.out.trans t2);have V25:=zb t3;have L5:=zb (t4 _ k L4.out (by omega));have V15:=zb (t4 _ (k+1) V14.out (by omega));have P2:=zb t5;have LV5:=HLV.out _ HO5.out;have hs5:w4.heap.size≤w5.heap.size:=t2.size;have BL3:(Instr.buildSlice 38 3 #[(0,VM),(1,VM),(2,VM)]).run Tryz.prog w5=.ok (.slice (some ⟨w5.heap.size,0,none⟩) 3 3) (w5.alloc (.cells (flR (fun _=>z) 3).toArray 49)):=(by rw[HVM.out];exact bld3 z w5);clear t1 t2 t3 t4 t5 own5 gr5 at5 LV4 BL2)
    |(refine zg rfl 49 (.tmp 4) rfl ⟨w2.heap.size,0,none⟩ VM rfl LV5 ?_)
    |(refine q5Q rfl 38 3 #[(0,.tmp 41),(1,.tmp 42),(2,.tmp 43)] rfl #[(0,VM),(1,VM),(2,VM)] (by simp[Act.eval,Act.put]) _ _ BL3 ?_)
    |(at_builtin;refine q4Q rfl (.tmp 40) (.tmp 44) 38 49 rfl Tryz.underlying38 hi0 hz0 hz1 hz2 rfl (by decide) (bw+1) _ k _ (w5.alloc (.cells (flR (fun _=>z) 3).toArray 49)) rfl (L5.out.alloc _) ⟨w5.heap.size,0,none⟩ 3 3 (flR (fun _=>z) 3) rfl (q2w _ _) (q4z _ _ _) (q5C _ _) (by omega) (by decide) (by have:=HN1.out;simp;omega) (by decide) ?_;intro v3 w6 own6 gr6 at6;obtain⟨t1,t2,t3,t4,t5⟩:=q9I HW5.out HF.out L5.out own6 gr6 at6;obtain⟨a3,c3,rfl⟩:=qt t3;have HW6:=zb t1;have HO6:=zb (HO5.out.trans t2);have V36:=zb t3;have L6:=zb (t4 _ k L5.out (by omega));have V16:=zb (t4 _ (k+1) V15.out (by omega));have V26:=zb (t4 _ (k+2) V25.out (by omega));have P3:=zb t5;have hs6:w5.heap.size≤w6.heap.size:=t2.size;clear t1 t2 t3 t4 t5 own6 gr6 at6 LV5 BL3))
   have FR:Hid (∀u:Value,(∀q∈obl u,q∈obl (.slice la k lc)∨wr.heap.size<q)→∀m∈s.MS,∀q∈obl u,q∉q3S m):=zb (fun u hu m hm q hq hfr=>by
    rcases hu q hq with hh|hh
    ·exact((HF.out q hh).2.2 m hm).2 hfr
    ·have:=(HWr.out.mons m hm).froLt q hfr
     omega)
   have PL:Hid (∀q∈obl (.slice la k lc),q∈obl (.slice la k lc)∨wr.heap.size<q):=zb (fun q hq=>.inl hq)
   have P2':Hid (∀q∈obl (.slice a2 (k+2) c2),q∈obl (.slice la k lc)∨wr.heap.size<q):=zb (fun q hq=>(P2.out q hq).elim .inl (fun hh=>.inr (by omega)))
   have P3':Hid (∀q∈obl (.slice a3 (k+3) c3),q∈obl (.slice la k lc)∨wr.heap.size<q):=zb (fun q hq=>(P3.out q hq).elim .inl (fun hh=>.inr (by omega)))
   have H7:=q7G bw _ _ k (fun _=>z) w6 HW6.out L6.out (by omega) (by show s.LS.length≤_;rw[HLL.out];omega) (FR.out _ PL.out)
   refine H7.mono ?_
   rintro e w7 ⟨rfl,T7⟩
   have R17:=zb (T7.keepRow HW6.out V16.out)
   have R27:=zb (T7.keepRow HW6.out V26.out)
   have R37:=zb (T7.keepRow HW6.out V36.out)
   have B7:=zb (T7.below HW6.out)
   obtain⟨cv0,vl0,vw0,K7,f7,o7,_,_⟩:=T7
   have HK7:=zb K7
   have HF7:=zb f7
   have hs7:w6.heap.size≤w7.heap.size:=o7.size
   clear K7 f7 o7 H7
   go_wp2_with fail
   have H8:=q7G bw _ _ (k+1) (fun _=>z) w7 HK7.out R17.out (by omega) (by simp only[List.length_append,List.length_cons,List.length_nil,HLL.out];omega) (FR.out _ P1.out)
   refine H8.mono ?_
   rintro e w8 ⟨rfl,T8⟩
   have R28:=zb (T8.keepRow HK7.out R27.out)
   have R38:=zb (T8.keepRow HK7.out R37.out)
   have B8:=zb (T8.below HK7.out)
   obtain⟨cv1,vl1,vw1,K8,f8,o8,_,_⟩:=T8
   have HK8:=zb K8
   have HF8:=zb f8
   have hs8:w7.heap.size≤w8.heap.size:=o8.size
   clear K8 f8 o8 H8
   go_wp2_with fail
   have H9:=q7G bw _ _ (k+2) (fun _=>z) w8 HK8.out R28.out (by omega) (by simp only[List.length_append,List.length_cons,List.length_nil,HLL.out];omega) (FR.out _ P2'.out)
   refine H9.mono ?_
   rintro e w9 ⟨rfl,T9⟩
   have R39:=zb (T9.keepRow HK8.out R38.out)
   have B9:=zb (T9.below HK8.out)
   obtain⟨cv2,vl2,vw2,K9,f9,o9,_,_⟩:=T9
   have HK9:=zb K9
   have HF9:=zb f9
   have hs9:w8.heap.size≤w9.heap.size:=o9.size
   clear K9 f9 o9 H9
   go_wp2_with fail
   have H10:=q7G bw _ _ (k+3) (fun _=>z) w9 HK9.out R39.out (by omega) (by simp only[List.length_append,List.length_cons,List.length_nil,HLL.out];omega) (FR.out _ P3'.out)
   refine H10.mono ?_
   rintro e w10 ⟨rfl,T10⟩
   have B10:=zb (T10.below HK9.out)
   obtain⟨cv3,vl3,vw3,K10,f10,o10,_,_⟩:=T10
   have HK10:=zb K10
   have HF10:=zb f10
   clear K10 f10 o10 H10
   go_wp2_with fail
   have LE:Hid (∀i,i<s.LS.length→(∀q∈obl (lg s.LS i).v,q∈q3h s)∧∀q∈obl (lg s.LS i).cv,q∈q3h s):=zb (fun i hi=>⟨fun q hq=>HW1.out.all.2.2.2.2.1 _ (q8y hi) q hq,fun q hq=>HW1.out.all.2.2.2.2.2 _ (q8y hi) q hq⟩)
   have OLD:Hid (∀q∈q3h s,q<wr.heap.size):=zb (fun q hq=>by have:=HW1.out.ownLt q (.inr hq);omega)
   have B6:Below bw w w6:=HB3.out.trans (HO6.out.below (by omega) (fun q hq=>by have:=(zw HYS.out q hq).1;omega))
   have GR:=keep_grp (n:=k) (f:=fun _=>z) (c0:=cv0) (c1:=cv1) (c2:=cv2) (c3:=cv3) (A:=wr.heap.size) (w6:=w6.heap.size) (w7:=w7.heap.size) (w8:=w8.heap.size) (w9:=w9.heap.size) HG.out (fun i hi=>⟨fun q hq=>OLD.out q ((LE.out i hi).1 q hq),fun q hq=>OLD.out q ((LE.out i hi).2 q hq)⟩) (l:=.slice la k lc) (fun q hq i hi=>⟨fun hh=>(HF.out q hq).2.1 ((LE.out i hi).1 q hh),fun hh=>(HF.out q hq).2.1 ((LE.out i hi).2 q hh)⟩)
    (v1:=.slice a1 (k+1) c1) (v2:=.slice a2 (k+2) c2) (v3:=.slice a3 (k+3) c3) (fun q hq=>(P1.out q hq).elim .inl (fun hh=>.inr (by omega))) (fun q hq=>(P2'.out q hq).elim .inl (fun hh=>.inr (by omega))) (fun q hq=>(P3'.out q hq).elim .inl (fun hh=>.inr (by omega)))
    (fun q hq=>(by obtain⟨_,cs,e⟩:=zw L6.out q hq;exact zd e)) (fun q hq=>(by obtain⟨_,cs,e⟩:=zw V16.out q hq;exact zd e)) (fun q hq=>(by obtain⟨_,cs,e⟩:=zw V26.out q hq;exact zd e)) (fun q hq=>(by obtain⟨_,cs,e⟩:=zw V36.out q hq;exact zd e)) (by omega) hs7 hs8 hs9
    (fun q hq=>⟨HF7.out q hq,(by obtain⟨_,cs,e⟩:=zw (HK7.out.cop _ (List.mem_append_right _ (List.mem_singleton.2 rfl))) q hq;exact zd e)⟩) (fun q hq=>⟨HF8.out q hq,(by obtain⟨_,cs,e⟩:=zw (HK8.out.cop _ (List.mem_append_right _ (List.mem_singleton.2 rfl))) q hq;exact zd e)⟩) (fun q hq=>⟨HF9.out q hq,(by obtain⟨_,cs,e⟩:=zw (HK9.out.cop _ (List.mem_append_right _ (List.mem_singleton.2 rfl))) q hq;exact zd e)⟩) (fun q hq=>HF10.out q hq)
   go_end0
   refine⟨rfl,_,HK10.out,?_,rfl,?_,rfl,B6.trans (B7.out.trans (B8.out.trans (B9.out.trans B10.out)))⟩
   ·simp only[List.append_assoc,List.cons_append,List.nil_append]
    exact GR
   ·simp only[List.length_append,List.length_cons,List.length_nil,HLL.out]
end Go.Proofs.YtiamjjonoeaggaaGreatDoor
