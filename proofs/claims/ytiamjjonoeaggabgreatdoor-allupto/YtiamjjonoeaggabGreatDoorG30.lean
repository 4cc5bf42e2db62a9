import Derived.Test.YtiamjjonoeaggabGreatDoorGA
import Derived.Test.YtiamjjonoeaggabGreatDoorGB
import Derived.Test.YtiamjjonoeaggabGreatDoorG14
import Derived.Test.YtiamjjonoeaggabGreatDoorG19
import Derived.Test.YtiamjjonoeaggabGreatDoorG27
import Derived.Test.YtiamjjonoeaggabGreatDoorG28
import Derived.Test.YtiamjjonoeaggabGreatDoorG29
set_option maxRecDepth 100000
set_option maxHeartbeats 16000000
namespace Go.Proofs.YtiamjjonoeaggabGreatDoor
open Go.RowKit
theorem j0y (v:Value)(u:List Tok)(lv dv:Value)(DL:List (LPt × Value))(vF vL:Value)(HF HL:Nat→Nat→Nat→Bool)(j x y:Nat)(hi':j+1<DL.length)(hx:x<10)(hy:y<10)(lo hi:By)(hS:SpanIn u lo hi)(w:World)(h:qB w v u)(hw:hd u=[112,114,101,118])(hT:TabsAt w lv false vF vL DL.length HF HL)(hL:DLogAt w dv DL) :
  Calls Tryz.prog 148 #[v,lv,dv,.int .i64 ((j+1:Nat):Int),.agg #[.int .i64 x,.int .i64 y]] w fun e w'=>e=.returned (.bool (q2I lo hi (q0i DL (j+1)-q0i DL j)&&HL j x y))∧Below w.heap.size w w':=by
 obtain⟨b,o,cap,rfl,h1,h2,h3,h4,h5,h6⟩:=qe h
 obtain⟨da,dc,rfl⟩:=qr hL.row
 obtain⟨gl,cl,rfl,hgl,l1,l2,lc1⟩:=hT.one
 obtain⟨fa,fc,rfl⟩:=hT.fst.form
 obtain⟨ta,tc,rfl⟩:=hT.lst.form
 have hsm:=hL.small
 obtain⟨R,hR⟩:∃R,R=(q2I lo hi (q0i DL (j+1)-q0i DL j)&&HL j x y):=⟨_,rfl⟩
 rw[←hR]
 have HRR:=zb hR
 clear hR
 have HT:=zb hT
 have HFR:=zb h
 have HLG:=zb hL
 have HWD:=zb (fun W (q:qB W (.agg #[.slice (some ⟨b,o,none⟩) u.length cap]) u)=>q0b _ u W q)
 have HSP:=zb (fun W (q:qB W (.agg #[.slice (some ⟨b,o,none⟩) u.length cap]) u) q2=>q4d _ u lo hi hS (.slice da DL.length dc) DL j (j+1) (by omega) (by omega) W q q2)
 rw[←q1i (show j+1<DL.length by omega),←q1i (show j<DL.length by omega)]at HSP
 obtain⟨z,hz⟩:∃z:Int,z=((j+1:Nat):Int):=⟨_,rfl⟩
 rw[←hz]at HSP ⊢
 have hzz:0<z∧z<(DL.length:Int):=by omega
 have hwr:IntKind.i64.wrap (z-1)=(j:Int):=by rw[IntKind.wrap_i64];omega
 have hzn:z.toNat=j+1:=by omega
 have hz00:0≤z:=by omega
 clear hz
 rw[hw]at HWD
 clear h h6 hT hL hw hS
 unfold maxLen at h2 l2
 generalize hun:u.length=ul at *
 clear hun
 go_enter Tryz.func148,Tryz.ntmps148
 go_wp2_with fail
 obtain⟨W0,hW0,hP0,hQ0,hz0,B0⟩:=q7d w #[.slice (some ⟨b,o,none⟩) ul cap] #[.int .i64 x,.int .i64 y] 112 245
 rw[←hW0]
 have HB0:=zb B0
 have HP0:=zb hP0
 have HQ0:=zb hQ0
 have HT0:=zb (HT.out.below B0)
 have HF0:=zb (HFR.out.below B0)
 have HL0:=zb (HLG.out.below B0)
 have lc1:=(zo B0 gl 0 hgl).trans lc1
 have hgl:=zT hgl B0.size
 have HLC:=zb (And.intro lc1 trivial)
 have CELLF:Hid (∀w',Below W0.heap.size W0 w'→w'.cell? ⟨w.heap.size,0,none⟩=some (.slice (some ⟨b,o,none⟩) ul cap)):=zb (fun w' hb=>by
  have e0:=(hb.block w.heap.size (by omega)).trans HQ0.out
  exact zC _ _ 0 _ _ _ e0)
 have cf0:=CELLF.out _ (zB _ _)
 clear hW0 hP0 hQ0 B0 HT HFR HLG lc1
 go_wp2_with fail
 refine(HWD.out _ HF0.out).mono ?_
 rintro e w1 ⟨rfl,b1⟩
 have HB1:=zb b1
 have cf1:=CELLF.out _ b1
 have hz1:w.heap.size+1<w1.heap.size:=by have:=b1.size;omega
 clear b1 cf0
 have hkL:j<DL.length:=by omega
 obtain⟨gtL,rfl,hgtL,t1L,t2L,_⟩:=(HT0.out.lst).load hkL
 have CTL:Hid (∀w',Below W0.heap.size W0 w'→w'.rangeAt gtL (j*10) (zx (zf (HL (j))))):=zb (fun w' hb=>by
  obtain⟨g',e',_,_,_,hr⟩:=(HT0.out.lst.below hb).load hkL
  simp only[Option.some.injEq,Addr.mk.injEq,and_true]at e'
  subst e'
  exact hr)
 have HHL:=zb (q2a (HL (j)) x y hx hy)
 obtain⟨csL,hcsL⟩:∃cs,cs=zx (zf (HL (j))):=⟨_,rfl⟩
 have hclL:(Tryz.prog.info? 43).map (·.size)=some csL.length:=by rw[hcsL];kernel_rfl
 rw[show zn (zf (HL (j)))=.agg csL.toArray by rw[hcsL]]at HHL
 rw[←hcsL]at CTL
 clear hcsL
 unfold maxLen at t2L
 generalize HL (j) x y=qL at *
 have hcu:=Tryz.underlying43
 have S0:Hid (∀w',Below W0.heap.size W0 w'→(w'.rangeAt gtL (j*10) csL∧w'.cell? ⟨w.heap.size+1,0,none⟩=some (.int .i64 x)∧w'.cell? ⟨w.heap.size+1,1,none⟩=some (.int .i64 y)∧w'.cell? ⟨gl,0,none⟩=some (.slice (some ⟨gtL,0,none⟩) DL.length tc)∧w'.cell? ⟨w.heap.size,0,none⟩=some (.slice (some ⟨b,o,none⟩) ul cap))):=zb (fun w' hb=>by
  have e1:=(hb.block (w.heap.size+1) (by omega)).trans HP0.out
  exact⟨CTL.out _ hb,zC _ _ 0 _ _ _ e1,zC _ _ 1 _ _ _ e1,(zo hb gl 0 hgl).trans HLC.out.1,CELLF.out _ hb⟩)
 have C0:=S0.out _ HB1.out.drew
 clear CTL
 generalize q2I lo hi (q0i DL (j+1)-q0i DL j)=sp at *
 obtain⟨hz0',hz2⟩:=hzz
 cases sp with
 |false =>
  go_wp2_with fail
  refine wp_region_held_drew (S:=fun w'=>w'.rangeAt gtL (j*10) csL∧w'.cell? ⟨w.heap.size+1,0,none⟩=some (.int .i64 x)∧w'.cell? ⟨w.heap.size+1,1,none⟩=some (.int .i64 y)∧w'.cell? ⟨gl,0,none⟩=some (.slice (some ⟨gtL,0,none⟩) DL.length tc)∧w'.cell? ⟨w.heap.size,0,none⟩=some (.slice (some ⟨b,o,none⟩) ul cap)) (by kernel_rfl) C0 (fun hS0=>?_)
  simp only[rz,Nat.zero_add,Nat.reduceAdd]
  refine tq 0 111 ?_
  simp only[Act.put,pz]
  refine tq 1 112 ?_
  simp only[Act.put,pz]
  refine tq 2 113 ?_
  simp only[Act.put,pz]
  refine tq 3 114 ?_
  simp only[Act.put,pz]
  refine tq 4 115 ?_
  simp only[Act.put,pz]
  refine tq 5 116 ?_
  simp only[Act.put,pz]
  refine tq 6 117 ?_
  simp only[Act.put,pz]
  refine tq 7 118 ?_
  simp only[Act.put,pz]
  refine rd1 8 rfl fun K hK=>?_
  go_simp
  (go_at_call 175;refine(HSP.out _ (HF0.out.below HB1.out.drew) (HL0.out.below HB1.out.drew)).mono ?_;rintro e w2 ⟨rfl,b2⟩;have B2:Below W0.heap.size W0 w2:=HB1.out.drew.trans (b2.mono HB1.out.drew.size))
  go_simp
  refine hK.out _ _ (S0.out _ B2) (fun _=>?_)
  refine tq 9 120 ?_
  simp only[Act.put,pz]
  refine tq 10 121 ?_
  simp only[Act.put,pz]
  refine tn 11 122 ?_
  simp only[Act.put,pz]
  refine tn 12 123 ?_
  simp only[Act.put,pz]
  refine tn 13 124 ?_
  simp only[Act.put,pz]
  refine tn 14 125 ?_
  simp only[Act.put,pz]
  refine tn 15 126 ?_
  simp only[Act.put,pz]
  refine tn 16 127 ?_
  simp only[Act.put,pz]
  refine tn 17 128 ?_
  simp only[Act.put,pz]
  refine tn 18 129 ?_
  simp only[Act.put,pz]
  refine tn 19 130 ?_
  simp only[Act.put,pz]
  refine tn 20 131 ?_
  simp only[Act.put,pz]
  refine tn 21 132 ?_
  simp only[Act.put,pz]
  refine tn 22 133 ?_
  simp only[Act.put,pz]
  refine tq 23 134 ?_
  simp only[Act.put,pz]
  refine tq 24 10 ?_
  simp only[Act.put,pz]
  refine zD (by kernel_rfl) ?_ _
  go_wp2_with fail
  go_ret
  exact⟨qm (by rw[HRR.out];cases qL<;>rfl),HB0.out.trans (B2.mono HB0.out.size)⟩
 |true =>
  go_wp2_with fail
  refine wp_region_held_drew (S:=fun w'=>w'.rangeAt gtL (j*10) csL∧w'.cell? ⟨w.heap.size+1,0,none⟩=some (.int .i64 x)∧w'.cell? ⟨w.heap.size+1,1,none⟩=some (.int .i64 y)∧w'.cell? ⟨gl,0,none⟩=some (.slice (some ⟨gtL,0,none⟩) DL.length tc)∧w'.cell? ⟨w.heap.size,0,none⟩=some (.slice (some ⟨b,o,none⟩) ul cap)) (by kernel_rfl) C0 (fun hS0=>?_)
  simp only[rz,Nat.zero_add,Nat.reduceAdd]
  refine tq 0 111 ?_
  simp only[Act.put,pz]
  refine tq 1 112 ?_
  simp only[Act.put,pz]
  refine tq 2 113 ?_
  simp only[Act.put,pz]
  refine tq 3 114 ?_
  simp only[Act.put,pz]
  refine tq 4 115 ?_
  simp only[Act.put,pz]
  refine tq 5 116 ?_
  simp only[Act.put,pz]
  refine tq 6 117 ?_
  simp only[Act.put,pz]
  refine tq 7 118 ?_
  simp only[Act.put,pz]
  refine rd1 8 rfl fun K hK=>?_
  go_simp
  (go_at_call 175;refine(HSP.out _ (HF0.out.below HB1.out.drew) (HL0.out.below HB1.out.drew)).mono ?_;rintro e w2 ⟨rfl,b2⟩;have B2:Below W0.heap.size W0 w2:=HB1.out.drew.trans (b2.mono HB1.out.drew.size))
  go_simp
  refine hK.out _ _ (S0.out _ B2) (fun _=>?_)
  refine tq 9 120 ?_
  simp only[Act.put,pz]
  refine tq 10 121 ?_
  simp only[Act.put,pz]
  refine tq 11 122 ?_
  simp only[Act.put,pz]
  refine tq 12 123 ?_
  simp only[Act.put,pz]
  refine tq 13 124 ?_
  simp only[Act.put,pz]
  refine tq 14 125 ?_
  simp only[Act.put,pz]
  refine tq 15 126 ?_
  simp only[Act.put,pz]
  refine tq 16 127 ?_
  simp only[Act.put,pz]
  refine ql (i:=17) 128 rfl rfl (by kernel_rfl) (by kernel_rfl) (by kernel_rfl) (fun _ _ _ h=>h) (yieldsIf_load_mid (by rfl) _ _ rfl _ _ rfl csL _ (fun w hSw=>hSw.1) hcu rfl hclL) (by assumption) ?_
  simp only[Act.put,pz]
  refine tq 18 129 ?_
  simp only[Act.put,pz]
  refine tq 19 130 ?_
  simp only[Act.put,pz]
  refine tq 20 131 ?_
  simp only[Act.put,pz]
  refine tq 21 132 ?_
  simp only[Act.put,pz]
  refine rd1 22 rfl fun K hK=>?_
  go_simp
  (go_at_call 150;refine(HHL.out _).mono ?_;rintro e w3 ⟨rfl,b3⟩;have B3:Below W0.heap.size W0 w3:=B2.trans (b3.mono B2.size))
  go_simp
  refine hK.out _ _ (S0.out _ B3) (fun _=>?_)
  refine tq 23 134 ?_
  simp only[Act.put,pz]
  refine tq 24 10 ?_
  simp only[Act.put,pz]
  refine zD (by kernel_rfl) ?_ _
  go_wp2_with fail
  go_ret
  exact⟨qm (by rw[HRR.out];cases qL<;>rfl),HB0.out.trans (B3.mono HB0.out.size)⟩
theorem j0w (v:Value)(u:List Tok)(lv dv:Value)(DL:List (LPt × Value))(vF vL:Value)(HF HL:Nat→Nat→Nat→Bool)(j x y:Nat)(hi':j+1<DL.length)(hx:x<10)(hy:y<10)(lo hi:By)(hS:SpanIn u lo hi)(w:World)(h:qB w v u)(hw:hd u=[110,101,120,116])(hT:TabsAt w lv false vF vL DL.length HF HL)(hL:DLogAt w dv DL) :
  Calls Tryz.prog 148 #[v,lv,dv,.int .i64 ((j:Nat):Int),.agg #[.int .i64 x,.int .i64 y]] w fun e w'=>e=.returned (.bool (q2I lo hi (q0i DL (j+1)-q0i DL j)&&HL (j+1) x y))∧Below w.heap.size w w':=by
 obtain⟨b,o,cap,rfl,h1,h2,h3,h4,h5,h6⟩:=qe h
 obtain⟨da,dc,rfl⟩:=qr hL.row
 obtain⟨gl,cl,rfl,hgl,l1,l2,lc1⟩:=hT.one
 obtain⟨fa,fc,rfl⟩:=hT.fst.form
 obtain⟨ta,tc,rfl⟩:=hT.lst.form
 have hsm:=hL.small
 obtain⟨R,hR⟩:∃R,R=(q2I lo hi (q0i DL (j+1)-q0i DL j)&&HL (j+1) x y):=⟨_,rfl⟩
 rw[←hR]
 have HRR:=zb hR
 clear hR
 have HT:=zb hT
 have HFR:=zb h
 have HLG:=zb hL
 have HWD:=zb (fun W (q:qB W (.agg #[.slice (some ⟨b,o,none⟩) u.length cap]) u)=>q0b _ u W q)
 have HSP:=zb (fun W (q:qB W (.agg #[.slice (some ⟨b,o,none⟩) u.length cap]) u) q2=>q4d _ u lo hi hS (.slice da DL.length dc) DL j (j+1) (by omega) (by omega) W q q2)
 rw[←q1i (show j+1<DL.length by omega),←q1i (show j<DL.length by omega)]at HSP
 obtain⟨z,hz⟩:∃z:Int,z=((j+1:Nat):Int):=⟨_,rfl⟩
 rw[←hz]at HSP
 have hzz:0<z∧z<(DL.length:Int):=by omega
 have hwr:IntKind.i64.wrap ((j:Int)+1)=z:=by rw[IntKind.wrap_i64];omega
 have hzn:z.toNat=j+1:=by omega
 have hz00:0≤z:=by omega
 clear hz
 rw[hw]at HWD
 clear h h6 hT hL hw hS
 unfold maxLen at h2 l2
 generalize hun:u.length=ul at *
 clear hun
 go_enter Tryz.func148,Tryz.ntmps148
 go_wp2_with fail
 obtain⟨W0,hW0,hP0,hQ0,hz0,B0⟩:=q7d w #[.slice (some ⟨b,o,none⟩) ul cap] #[.int .i64 x,.int .i64 y] 112 245
 rw[←hW0]
 have HB0:=zb B0
 have HP0:=zb hP0
 have HQ0:=zb hQ0
 have HT0:=zb (HT.out.below B0)
 have HF0:=zb (HFR.out.below B0)
 have HL0:=zb (HLG.out.below B0)
 have lc1:=(zo B0 gl 0 hgl).trans lc1
 have hgl:=zT hgl B0.size
 have HLC:=zb (And.intro lc1 trivial)
 have CELLF:Hid (∀w',Below W0.heap.size W0 w'→w'.cell? ⟨w.heap.size,0,none⟩=some (.slice (some ⟨b,o,none⟩) ul cap)):=zb (fun w' hb=>by
  have e0:=(hb.block w.heap.size (by omega)).trans HQ0.out
  exact zC _ _ 0 _ _ _ e0)
 have cf0:=CELLF.out _ (zB _ _)
 clear hW0 hP0 hQ0 B0 HT HFR HLG lc1
 go_wp2_with fail
 refine(HWD.out _ HF0.out).mono ?_
 rintro e w1 ⟨rfl,b1⟩
 have HB1:=zb b1
 have cf1:=CELLF.out _ b1
 have hz1:w.heap.size+1<w1.heap.size:=by have:=b1.size;omega
 clear b1 cf0
 have hkL:(j+1)<DL.length:=by omega
 obtain⟨gtL,rfl,hgtL,t1L,t2L,_⟩:=(HT0.out.lst).load hkL
 have CTL:Hid (∀w',Below W0.heap.size W0 w'→w'.rangeAt gtL ((j+1)*10) (zx (zf (HL (j+1))))):=zb (fun w' hb=>by
  obtain⟨g',e',_,_,_,hr⟩:=(HT0.out.lst.below hb).load hkL
  simp only[Option.some.injEq,Addr.mk.injEq,and_true]at e'
  subst e'
  exact hr)
 have HHL:=zb (q2a (HL (j+1)) x y hx hy)
 obtain⟨csL,hcsL⟩:∃cs,cs=zx (zf (HL (j+1))):=⟨_,rfl⟩
 have hclL:(Tryz.prog.info? 43).map (·.size)=some csL.length:=by rw[hcsL];kernel_rfl
 rw[show zn (zf (HL (j+1)))=.agg csL.toArray by rw[hcsL]]at HHL
 rw[←hcsL]at CTL
 clear hcsL
 unfold maxLen at t2L
 generalize HL (j+1) x y=qL at *
 have hcu:=Tryz.underlying43
 have S0:Hid (∀w',Below W0.heap.size W0 w'→(w'.rangeAt gtL ((j+1)*10) csL∧w'.cell? ⟨w.heap.size+1,0,none⟩=some (.int .i64 x)∧w'.cell? ⟨w.heap.size+1,1,none⟩=some (.int .i64 y)∧w'.cell? ⟨gl,0,none⟩=some (.slice (some ⟨gtL,0,none⟩) DL.length tc)∧w'.cell? ⟨w.heap.size,0,none⟩=some (.slice (some ⟨b,o,none⟩) ul cap))):=zb (fun w' hb=>by
  have e1:=(hb.block (w.heap.size+1) (by omega)).trans HP0.out
  exact⟨CTL.out _ hb,zC _ _ 0 _ _ _ e1,zC _ _ 1 _ _ _ e1,(zo hb gl 0 hgl).trans HLC.out.1,CELLF.out _ hb⟩)
 have C0:=S0.out _ HB1.out.drew
 clear CTL
 generalize q2I lo hi (q0i DL (j+1)-q0i DL j)=sp at *
 obtain⟨hz0',hz2⟩:=hzz
 cases sp with
 |false =>
  go_wp2_with fail
  refine wp_region_held_drew (S:=fun w'=>w'.rangeAt gtL ((j+1)*10) csL∧w'.cell? ⟨w.heap.size+1,0,none⟩=some (.int .i64 x)∧w'.cell? ⟨w.heap.size+1,1,none⟩=some (.int .i64 y)∧w'.cell? ⟨gl,0,none⟩=some (.slice (some ⟨gtL,0,none⟩) DL.length tc)∧w'.cell? ⟨w.heap.size,0,none⟩=some (.slice (some ⟨b,o,none⟩) ul cap)) (by kernel_rfl) C0 (fun hS0=>?_)
  simp only[rz,Nat.zero_add,Nat.reduceAdd]
  refine tq 0 137 ?_
  simp only[Act.put,pz]
  refine tq 1 138 ?_
  simp only[Act.put,pz]
  refine tq 2 139 ?_
  simp only[Act.put,pz]
  refine tq 3 140 ?_
  simp only[Act.put,pz]
  refine tq 4 141 ?_
  simp only[Act.put,pz]
  refine tq 5 142 ?_
  simp only[Act.put,pz]
  refine tq 6 143 ?_
  simp only[Act.put,pz]
  refine tq 7 144 ?_
  simp only[Act.put,pz]
  refine tq 8 145 ?_
  simp only[Act.put,pz]
  refine tq 9 146 ?_
  simp only[Act.put,pz]
  refine tq 10 147 ?_
  simp only[Act.put,pz]
  refine rd1 11 rfl fun K hK=>?_
  go_simp
  (go_at_call 175;refine(HSP.out _ (HF0.out.below HB1.out.drew) (HL0.out.below HB1.out.drew)).mono ?_;rintro e w2 ⟨rfl,b2⟩;have B2:Below W0.heap.size W0 w2:=HB1.out.drew.trans (b2.mono HB1.out.drew.size))
  go_simp
  refine hK.out _ _ (S0.out _ B2) (fun _=>?_)
  refine tq 12 149 ?_
  simp only[Act.put,pz]
  refine tq 13 150 ?_
  simp only[Act.put,pz]
  refine tn 14 151 ?_
  simp only[Act.put,pz]
  refine tn 15 152 ?_
  simp only[Act.put,pz]
  refine tn 16 153 ?_
  simp only[Act.put,pz]
  refine tn 17 154 ?_
  simp only[Act.put,pz]
  refine tn 18 155 ?_
  simp only[Act.put,pz]
  refine tn 19 156 ?_
  simp only[Act.put,pz]
  refine tn 20 157 ?_
  simp only[Act.put,pz]
  refine tn 21 158 ?_
  simp only[Act.put,pz]
  refine tn 22 159 ?_
  simp only[Act.put,pz]
  refine tn 23 160 ?_
  simp only[Act.put,pz]
  refine tn 24 161 ?_
  simp only[Act.put,pz]
  refine tn 25 162 ?_
  simp only[Act.put,pz]
  refine tq 26 163 ?_
  simp only[Act.put,pz]
  refine tq 27 10 ?_
  simp only[Act.put,pz]
  refine zD (by kernel_rfl) ?_ _
  go_wp2_with fail
  go_ret
  exact⟨qm (by rw[HRR.out];cases qL<;>rfl),HB0.out.trans (B2.mono HB0.out.size)⟩
 |true =>
  go_wp2_with fail
  refine wp_region_held_drew (S:=fun w'=>w'.rangeAt gtL ((j+1)*10) csL∧w'.cell? ⟨w.heap.size+1,0,none⟩=some (.int .i64 x)∧w'.cell? ⟨w.heap.size+1,1,none⟩=some (.int .i64 y)∧w'.cell? ⟨gl,0,none⟩=some (.slice (some ⟨gtL,0,none⟩) DL.length tc)∧w'.cell? ⟨w.heap.size,0,none⟩=some (.slice (some ⟨b,o,none⟩) ul cap)) (by kernel_rfl) C0 (fun hS0=>?_)
  simp only[rz,Nat.zero_add,Nat.reduceAdd]
  refine tq 0 137 ?_
  simp only[Act.put,pz]
  refine tq 1 138 ?_
  simp only[Act.put,pz]
  refine tq 2 139 ?_
  simp only[Act.put,pz]
  refine tq 3 140 ?_
  simp only[Act.put,pz]
  refine tq 4 141 ?_
  simp only[Act.put,pz]
  refine tq 5 142 ?_
  simp only[Act.put,pz]
  refine tq 6 143 ?_
  simp only[Act.put,pz]
  refine tq 7 144 ?_
  simp only[Act.put,pz]
  refine tq 8 145 ?_
  simp only[Act.put,pz]
  refine tq 9 146 ?_
  simp only[Act.put,pz]
  refine tq 10 147 ?_
  simp only[Act.put,pz]
  refine rd1 11 rfl fun K hK=>?_
  go_simp
  (go_at_call 175;refine(HSP.out _ (HF0.out.below HB1.out.drew) (HL0.out.below HB1.out.drew)).mono ?_;rintro e w2 ⟨rfl,b2⟩;have B2:Below W0.heap.size W0 w2:=HB1.out.drew.trans (b2.mono HB1.out.drew.size))
  go_simp
  refine hK.out _ _ (S0.out _ B2) (fun _=>?_)
  refine tq 12 149 ?_
  simp only[Act.put,pz]
  refine tq 13 150 ?_
  simp only[Act.put,pz]
  refine tq 14 151 ?_
  simp only[Act.put,pz]
  refine tq 15 152 ?_
  simp only[Act.put,pz]
  refine tq 16 153 ?_
  simp only[Act.put,pz]
  refine tq 17 154 ?_
  simp only[Act.put,pz]
  refine tq 18 155 ?_
  simp only[Act.put,pz]
  refine tq 19 156 ?_
  simp only[Act.put,pz]
  refine ql (i:=20) 157 rfl rfl (by kernel_rfl) (by kernel_rfl) (by kernel_rfl) (fun _ _ _ h=>h) (yieldsIf_load_mid (by rfl) _ _ rfl _ _ rfl csL _ (fun w hSw=>hSw.1) hcu rfl hclL) (by assumption) ?_
  simp only[Act.put,pz]
  refine tq 21 158 ?_
  simp only[Act.put,pz]
  refine tq 22 159 ?_
  simp only[Act.put,pz]
  refine tq 23 160 ?_
  simp only[Act.put,pz]
  refine tq 24 161 ?_
  simp only[Act.put,pz]
  refine rd1 25 rfl fun K hK=>?_
  go_simp
  (go_at_call 150;refine(HHL.out _).mono ?_;rintro e w3 ⟨rfl,b3⟩;have B3:Below W0.heap.size W0 w3:=B2.trans (b3.mono B2.size))
  go_simp
  refine hK.out _ _ (S0.out _ B3) (fun _=>?_)
  refine tq 26 163 ?_
  simp only[Act.put,pz]
  refine tq 27 10 ?_
  simp only[Act.put,pz]
  refine zD (by kernel_rfl) ?_ _
  go_wp2_with fail
  go_ret
  exact⟨qm (by rw[HRR.out];cases qL<;>rfl),HB0.out.trans (B3.mono HB0.out.size)⟩
def Lets (u:List Tok):Prop:=∀t∈u,∀c r,t.text=c::r→q0e (c.toNat:Int)=true→∀q∈t.text,q0e (q.toNat:Int)=true
theorem j7u (l:By):∀c:UInt8,q0e (c.toNat:Int)=true→∀q∈l.take (q0w c l),q0e (q.toNat:Int)=true:=by
 induction l with
 |nil=>intro c _ q hq;simp at hq
 |cons d r ih =>
  intro c hc
  rw[q0w]
  by_cases hr:q7Y (c.toNat:Int) (d.toNat:Int)=true
  ·rw[if_pos hr]
   have hdc:qp (c.toNat:Int)=false:=by unfold q0e at hc;unfold qp;simp at hc ⊢;omega
   have hd:q0e (d.toNat:Int)=true:=by
    unfold q7Y at hr
    rw[hdc,hc]at hr
    simpa using hr
   rw[List.take_succ_cons]
   intro q hq
   rcases List.mem_cons.1 hq with rfl|hq
   ·exact hd
   ·exact ih d hd q hq
  ·rw[if_neg hr];intro q hq;simp at hq
theorem j6V (s:By):∀(f i:Nat) (acc:List Tok),Lets acc→Lets (q2m s f i acc).1:=by
 intro f
 induction f with
 |zero=>intro i acc h;exact h
 |succ f ih =>
  intro i acc h
  rw[q2m]
  by_cases h1:s.length≤i
  ·rw[if_pos h1];exact h
  ·rw[if_neg h1]
   by_cases h2:q2z (s.getD i 0)=true
   ·rw[if_pos h2];exact ih _ _ h
   ·rw[if_neg h2]
    by_cases h3:q3p (s.getD i 0) (cut s i (qA s i))=true
    ·rw[if_pos h3]
     refine ih _ _ (fun t ht=>?_)
     rcases List.mem_append.1 ht with ht|ht
     ·exact h t ht
     ·have:=List.mem_singleton.1 ht
      subst this
      intro c r e hc
      simp only[]at e ⊢
      rw[q6w s i (by omega)]at e ⊢
      injection e with e1 e2
      rw[←e1]at hc
      intro q hq
      rcases List.mem_cons.1 hq with rfl|hq
      ·exact hc
      ·exact j7u _ _ hc q hq
    ·rw[if_neg h3];intro t ht;simp at ht
theorem lex_lets (s:By):Lets (q0u s).1:=j6V s _ _ _ (fun t ht=>by simp at ht)
theorem Lets.sub {u u':List Tok}(h:Lets u)(hs:∀t∈u',t∈u):Lets u':=fun t ht=>h t (hs t ht)
theorem argS_len (t:By)(x y:Nat)(h:t.length≤8):(q9J t x y).length≤8:=by
 unfold q9J
 split
 ·show(1:Nat)≤8;omega
 ·split
  ·show(1:Nat)≤8;omega
  ·exact h
theorem spk_len {u:List Tok}(hg:q3t u)(x y k:Nat):(q5p u x y k).length≤8+8*u.length:=by
 have e1:(hd u).length≤8:=by
  cases u with
  |nil=>simp[hd]
  |cons t r=>exact q5d (hg t (by simp))
 have e2:∀l:List Tok,(∀t∈l,t∈u)→(l.flatMap fun t=>q9J t.text x y).length≤8*l.length:=by
  intro l
  induction l with
  |nil=>intro _;simp
  |cons t r ih =>
   intro hl
   have h1:=argS_len t.text x y (q5d (hg t (hl t (by simp))))
   have h2:=ih (fun q hq=>hl q (by simp[hq]))
   simp only[List.flatMap_cons,List.length_append,List.length_cons]
   omega
 have e3:=e2 ((u.take k).drop 1) (fun t ht=>List.mem_of_mem_take (List.mem_of_mem_drop ht))
 have e4:((u.take k).drop 1).length≤u.length:=by simp;omega
 unfold q5p
 rw[List.length_append]
 omega
theorem j6d {u:List Tok}{lo hi:By}(hg:q3t u)(h4:4<u.length)(e4:(u[4]).text=hi)(e2:(u[2]'(by omega)).text=lo)(n1:q4o lo=true)(n2:q4B hi=true):SpanIn u lo hi:=
 ⟨h4,e2,e4,by have:=q2N (hg (u[2]'(by omega)) (List.getElem_mem _)) (by rw[e2];exact n1);rw[e2]at this;exact this,fun hs=>by
  have:=q2N (hg u[4] (List.getElem_mem _)) (by rw[e4];exact q9w n2 hs)
  rw[e4]at this
  exact this⟩
theorem nodeP_5 {nd:PNode}{L:List LPt}{A B:Nat→Nat→Nat→Bool}{i x y:Nat}(h:nd.kind=5):qu nd L A B i x y=true:=by unfold qu;rw[if_pos h]
theorem nodeP_2 {nd:PNode}{L:List LPt}{A B:Nat→Nat→Nat→Bool}{i x y:Nat}(h:nd.kind=2):qu nd L A B i x y=(q8Z L i).any (evP nd x y):=by unfold qu;rw[h];rfl
theorem nodeP_6 {nd:PNode}{L:List LPt}{A B:Nat→Nat→Nat→Bool}{i x y:Nat}(h:nd.kind=6):qu nd L A B i x y=(A i x y&&B i x y):=by unfold qu;rw[h];rfl
theorem nodeP_7 {nd:PNode}{L:List LPt}{A B:Nat→Nat→Nat→Bool}{i x y:Nat}(h:nd.kind=7):qu nd L A B i x y=(A i x y&&!B i x y):=by unfold qu;rw[h];rfl
theorem nodeP_8 {nd:PNode}{L:List LPt}{A B:Nat→Nat→Nat→Bool}{i x y:Nat}(h:nd.kind=8):qu nd L A B i x y=(A i x y || B i x y):=by unfold qu;rw[h];rfl
theorem nodeP_9 {nd:PNode}{L:List LPt}{A B:Nat→Nat→Nat→Bool}{i x y:Nat}(h:nd.kind=9):qu nd L A B i x y=(List.range 10).any (fun v=>if nd.var=3 then A i v y else A i x v):=by unfold qu;rw[h];rfl
theorem nodeP_10 {nd:PNode}{L:List LPt}{A B:Nat→Nat→Nat→Bool}{i x y:Nat}(h:nd.kind=10):qu nd L A B i x y=(decide (0<i)&&(q0L nd (q0l L i (i-1))&&A (i-1) x y)):=by unfold qu;rw[h];rfl
theorem nodeP_11 {nd:PNode}{L:List LPt}{A B:Nat→Nat→Nat→Bool}{i x y:Nat}(h:nd.kind=11):qu nd L A B i x y=(decide (i+1<L.length)&&(q0L nd (q0l L i (i+1))&&A (i+1) x y)):=by unfold qu;rw[h];rfl
theorem q7k {nd:PNode}{L:List LPt}{A B:Nat→Nat→Nat→Bool}{i x y:Nat}(h:nd.kind=12∨nd.kind=14∨nd.kind=15):qu nd L A B i x y=q5b (fun j=>q0L nd (q0l L i j)) (q1q nd A B x y) (q0y nd A x y) (fun m=>i-m) (i+1):=by
 unfold qu
 rcases h with h|h|h<;>(rw[h];rfl)
theorem q7l {nd:PNode}{L:List LPt}{A B:Nat→Nat→Nat→Bool}{i x y:Nat}(h:nd.kind=13∨nd.kind=16∨nd.kind=17):qu nd L A B i x y=q5b (fun j=>q0L nd (q0l L i j)) (q1q nd A B x y) (q0y nd A x y) (fun m=>i+m) (L.length-i):=by
 unfold qu
 rcases h with h|h|h<;>(rw[h];rfl)
def q5U (w:World)(DL:List (LPt × Value)):Prop:=∀(i:Nat) (hi:i<DL.length),q1f w (DL[i]).2 ((DL[i]).1.haps.map q5D)∧∀h∈(DL[i]).1.haps,HpOk h
theorem q5U.below {w w':World}{DL:List (LPt × Value)}(h:q5U w DL)(hb:Below w.heap.size w w'):q5U w' DL:=fun i hi=>⟨(h i hi).1.below hb,(h i hi).2⟩
structure PartT (w:World)(lv:Value)(l r:zl)(n:Nat)(HA HB:Nat→Nat→Nat→Bool):Prop where
 one:l≠.nil→r=.nil→∃vA,TabsAt w lv false vA vA n HA HA
 two:r≠.nil→∃vA vB,TabsAt w lv true vA vB n HA HB
theorem PartT.below {w w':World}{lv:Value}{l r:zl}{n:Nat}{HA HB:Nat→Nat→Nat→Bool}(h:PartT w lv l r n HA HB)(hb:Below w.heap.size w w'):PartT w' lv l r n HA HB:=
 ⟨fun h1 h2=>by obtain⟨a,q⟩:=h.one h1 h2;exact⟨a,q.below hb⟩,fun h1=>by obtain⟨a,b,q⟩:=h.two h1;exact⟨a,b,q.below hb⟩⟩
theorem hapsL_at {DL:List (LPt × Value)}{i:Nat}(hi:i<DL.length):q8Z (zs DL) i=(DL[i]).1.haps:=by
 unfold q8Z zs
 rw[List.getElem?_map,zG hi]
 rfl
abbrev q5x (v lv dv:Value)(_DL:List (LPt × Value))(i x z:Nat)(w:World)(q:Bool):Prop:=
 Calls Tryz.prog 148 #[v,lv,dv,.int .i64 i,.agg #[.int .i64 x,.int .i64 z]] w fun e w'=>e=.returned (.bool q)∧Below w.heap.size w w'
theorem q1r {v lv dv:Value}{DL:List (LPt × Value)}{i x z:Nat}{w:World}{q q':Bool}(h:q5x v lv dv DL i x z w q)(e:q=q'):q5x v lv dv DL i x z w q':=e ▸ h
theorem q9v (a:Bool):(a != false)=a∧(a != true)=!a:=by cases a<;>exact⟨rfl,rfl⟩
theorem j0v (p sp:Nat)(y:Pay)(u:List Tok)(hn:zv y.word=true)(ha:∃q1 q2 q3 a,q3Q a=true∧((y.args=[a]∧u=[⟨y.word,p⟩,⟨[40],q1⟩,⟨a,q2⟩,⟨[41],q3⟩])∨∃b q4 q5,q3Q b=true∧y.args=[a,b]∧u=[⟨y.word,p⟩,⟨[40],q1⟩,⟨a,q2⟩,⟨[44],q4⟩,⟨b,q5⟩,⟨[41],q3⟩]))
  (hg:q3t u)(hl:Lets u)(v lv dv:Value)(DL:List (LPt × Value))(HA HB:Nat→Nat→Nat→Bool)(i x z:Nat)(hi:i<DL.length)(hx:x<10)(hz:z<10)(w:World)(h:qB w v u)(hL:DLogAt w dv DL)(hH:q5U w DL) :
  q5x v lv dv DL i x z w (qu (zz 0 p sp y .nil .nil) (zs DL) HA HB i x z):=by
 have hu:hd u=y.word∧u.length≤6∧q5p u x z u.length=q8P y.word y.args x z∧(∀a∈y.args,q3Q a=true)∧(y.args.length=1∨y.args.length=2):=by
  have s40:q9J [40] x z=[40]:=rfl
  have s41:q9J [41] x z=[41]:=rfl
  have s44:q9J [44] x z=[44]:=rfl
  obtain⟨q1,q2,q3,a,hb,⟨e1,rfl⟩|⟨b,q4,q5,hb2,e1,rfl⟩⟩:=ha
  ·refine⟨rfl,by simp,?_,by rw[e1];simpa using hb,.inl (by rw[e1];rfl)⟩
   rw[e1]
   simp only[q5p,hd,List.length_cons,List.length_nil,List.take_succ_cons,List.take_zero,List.drop_succ_cons,List.drop_zero,List.flatMap_cons,List.flatMap_nil,s40,s41,j4G hb,q8P,q5D,List.map_cons,List.map_nil]
   simp
  ·refine⟨rfl,by simp,?_,by rw[e1];simp[hb,hb2],.inr (by rw[e1];rfl)⟩
   rw[e1]
   simp only[q5p,hd,List.length_cons,List.length_nil,List.take_succ_cons,List.take_zero,List.drop_succ_cons,List.drop_zero,List.flatMap_cons,List.flatMap_nil,s40,s41,s44,j4G hb,j4G hb2,q8P,q5D,List.map_cons,List.map_nil]
   simp
 obtain⟨h1,h2,h3,h4,h5⟩:=hu
 have hm:(⟨y.word,p⟩:Tok)∈u:=by
  obtain⟨q1,q2,q3,a,hb,⟨e1,rfl⟩|⟨b,q4,q5,hb2,e1,rfl⟩⟩:=ha<;>simp
 have hk:zk y.word=2:=by
  have:=(q0m (hg _ hm)).name
  simp only[]at this
  rw[hn]at this
  simpa using this.symm
 have hw:y.word.length≤8∧∀q∈y.word,q0e (q.toNat:Int)=true:=by
  refine⟨q5d (hg _ hm),?_⟩
  cases e:y.word with
  |nil=>intro q hq;simp at hq
  |cons c r =>
   have hc:q0e (c.toNat:Int)=true:=by
    rw[e]at hn
    unfold zv at hn
    simp only[Bool.and_eq_true]at hn
    exact hn.1
   have:=hl _ hm c r e hc
   simp only[]at this
   rw[e]at this
   exact this
 refine q1r (q9p v u lv dv DL _ i x z hi hx hz (fun k=>by have:=spk_len hg x z k;omega) w h (by rw[h1];exact hn) hL (hH i hi).1) ?_
 rw[nodeP_2 hk,h3,hapsL_at hi]
 unfold inB
 rw[List.any_map]
 have hok:=(hH i hi).2
 rw[Bool.eq_iff_iff,List.any_eq_true,List.any_eq_true]
 constructor
 ·rintro⟨q,hq,hv⟩
  exact⟨q,hq,by rw[j5L 0 p sp hn hk hw h4 h5 x z hx hz (hok q hq)];exact hv⟩
 ·rintro⟨q,hq,hv⟩
  exact⟨q,hq,by rw[j5L 0 p sp hn hk hw h4 h5 x z hx hz (hok q hq)]at hv;exact hv⟩
theorem j7t (s:Nat→Nat→Bool)(x z:Nat)(hx:x<10)(hz:z<10)(nm:By)(k:Int)(hk:nm=[120]∧k=3∨nm=[121]∧k=4):q9j (zf s) x z nm=(List.range 10).any (fun v=>if k=3 then s v z else s x v):=by
 unfold q9j
 rw[Bool.eq_iff_iff,List.any_eq_true,List.any_eq_true]
 have hp:∀n,n<10→q8e (zf s) x z nm n=if k=3 then s n z else s x n:=by
  intro n hn
  unfold q8e
  rcases hk with⟨rfl,rfl⟩|⟨rfl,rfl⟩
  ·rw[if_neg (by decide),if_pos rfl];exact j0D s n z hn hz
  ·rw[if_pos (by decide),if_neg (by decide)];exact j0D s x n hx hn
 constructor
 ·rintro⟨n,hn,hv⟩
  exact⟨n,hn,by rw[←hp n (List.mem_range.1 hn)];exact hv⟩
 ·rintro⟨n,hn,hv⟩
  exact⟨n,hn,by rw[hp n (List.mem_range.1 hn)];exact hv⟩
theorem j7k (p sp:Nat)(y:Pay)(l r:zl)(u:List Tok)(hR:qz (.node p sp y l r) u)(hg:q3t u)(hl:Lets u)(v lv dv:Value)(DL:List (LPt × Value))(HA HB:Nat→Nat→Nat→Bool)(i x z:Nat)(hi:i<DL.length)(hx:x<10)(hz:z<10)(hM:q9H (zs DL))(w:World)(h:qB w v u)(hT:PartT w lv l r DL.length HA HB)(hL:DLogAt w dv DL)(hH:q5U w DL) :
  q5x v lv dv DL i x z w (qu (zz 0 p sp y l r) (zs DL) HA HB i x z):=by
 have hN:NodeOk y l r:=(j0t _ _ hR hg).1
 have hwd:hd u=y.word:=q3z hR
 rcases hR with⟨hn,e1,e2,rfl,rfl,ha⟩|⟨hn,hw,e1,e2,rfl,v',q1,q2,q3,ul,hv,ea,hl',rfl⟩|⟨hn,hw,ea,e1,e2,q1,q2,q3,ul,ur,hl',hr',hu⟩|⟨hn,hw,ea,rfl,hlo,hhi,q1,q2,q3,q4,q5,q6,ul,hl',hu⟩|⟨hn,hw,ea,hlo,hhi,q1,q2,q3,q4,q5,q6,q7,ul,ur,hl',hr',hu⟩|⟨hn,hw,ea,e1,e2,rfl,rfl,hu⟩
 ·exact j0v p sp y u hn ha hg hl v lv dv DL HA HB i x z hi hx hz w h hL hH
 ·obtain⟨vA,hTA⟩:=hT.one (q1z hl') rfl
  refine q1r (q8H v _ lv dv DL vA vA HA HA i x z hi hx hz v' (by simp) rfl w h (by rw[hwd];exact hw) hTA hL) ?_
  have hk:(zz 0 p sp y l .nil).kind=9:=by show zk y.word=9;rw[hw];decide
  have hvr:(zz 0 p sp y l .nil).var=zk v':=by
   show(if exB y.word then zk (y.args.getD 0 [])else 0)=_
   rw[show exB y.word=true by rw[hw];decide,ea]
   rfl
  rw[nodeP_9 hk,hvr]
  refine j7t (HA i) x z hx hz v' (zk v') ?_
  rcases j2J hv with rfl|rfl
  ·exact .inl ⟨rfl,by decide⟩
  ·exact .inr ⟨rfl,by decide⟩
 ·obtain⟨vA,vB,hTA⟩:=hT.two (q1z hr')
  unfold q0o inB q4P at hw
  simp only[List.any_cons,List.any_nil,Bool.or_false,Bool.or_eq_true,beq_iff_eq]at hw
  rcases hw with hw|hw|hw
  ·exact q1r (j1h v u lv dv DL vA vB HA HB i x z hi hx hz w h (by rw[hwd,←hw]) hTA hL) (nodeP_6 (show zk y.word=6 by rw[←hw];decide)).symm
  ·exact q1r (j1i v u lv dv DL vA vB HA HB i x z hi hx hz w h (by rw[hwd,←hw]) hTA hL) (nodeP_7 (show zk y.word=7 by rw[←hw];decide)).symm
  ·exact q1r (j2B v u lv dv DL vA vB HA HB i x z hi hx hz w h (by rw[hwd,←hw]) hTA hL) (nodeP_8 (show zk y.word=8 by rw[←hw];decide)).symm
 ·obtain⟨vA,hTA⟩:=hT.one (q1z hl') rfl
  have h4:4<u.length:=by rw[hu];simp
  have hS:SpanIn u y.lo y.hi:=j6d hg h4 (by subst hu;rfl) (by subst hu;rfl) hlo hhi
  unfold q0Q inB j0Y at hw
  simp only[List.any_cons,List.any_nil,Bool.or_false,Bool.or_eq_true,beq_iff_eq]at hw
  rcases hw with hw|hw|hw|hw
  ·have hk:(zz 0 p sp y l .nil).kind=10:=by show zk y.word=10;rw[←hw];decide
   rw[nodeP_10 hk]
   cases i with
   |zero=>exact q7V v u lv dv DL vA vA HA HA x z w h (by rw[hwd,←hw]) hTA hL
   |succ j =>
    refine q1r (j0y v u lv dv DL vA vA HA HA j x z hi hx hz y.lo y.hi hS w h (by rw[hwd,←hw]) hTA hL) ?_
    rw[q8N hN 0 p sp hM (show j≤j+1 by omega) hi]
    simp
  ·have hk:(zz 0 p sp y l .nil).kind=11:=by show zk y.word=11;rw[←hw];decide
   rw[nodeP_11 hk]
   by_cases hi2:i+1<DL.length
   ·refine q1r (j0w v u lv dv DL vA vA HA HA i x z hi2 hx hz y.lo y.hi hS w h (by rw[hwd,←hw]) hTA hL) ?_
    rw[q8O hN 0 p sp hM (show i≤i+1 by omega) hi2]
    simp[hi2]
   ·refine q1r (q7U v u lv dv DL vA vA HA HA i x z (by omega) (by have:=hL.small;omega) w h (by rw[hwd,←hw]) hTA hL) ?_
    simp[hi2]
  ·have hk:(zz 0 p sp y l .nil).kind=12:=by show zk y.word=12;rw[←hw];decide
   rw[q7k (.inl hk)]
   refine q1r (j0x v u lv dv DL vA vA HA HA i x z hi hx hz y.lo y.hi hS w h (by rw[hwd,←hw]) hTA hL) ?_
   exact j0m hN 0 p sp hM false HA HA i x z hi false _ _ (fun j=>by unfold q1q;rw[if_pos (.inl hk)]) (fun j=>by unfold q0y;rw[hk];rfl)
  ·have hk:(zz 0 p sp y l .nil).kind=13:=by show zk y.word=13;rw[←hw];decide
   rw[q7l (.inl hk)]
   refine q1r (j0z v u lv dv DL vA vA HA HA i x z hi hx hz y.lo y.hi hS w h (by rw[hwd,←hw]) hTA hL) ?_
   exact j2g hN 0 p sp hM false HA HA i x z hi false _ _ (fun j=>by unfold q1q;rw[if_pos (.inr hk)]) (fun j=>by unfold q0y;rw[hk];rfl)
 ·obtain⟨vA,vB,hTA⟩:=hT.two (q1z hr')
  have h4:4<u.length:=by rw[hu];simp
  have hS:SpanIn u y.lo y.hi:=j6d hg h4 (by subst hu;rfl) (by subst hu;rfl) hlo hhi
  unfold q0J inB q9l at hw
  simp only[List.any_cons,List.any_nil,Bool.or_false,Bool.or_eq_true,beq_iff_eq]at hw
  rcases hw with hw|hw|hw|hw
  ·have hk:(zz 0 p sp y l r).kind=14:=by show zk y.word=14;rw[←hw];decide
   rw[q7k (.inr (.inl hk))]
   refine q1r (q9q v u lv dv DL vA vB HA HB i x z hi hx hz y.lo y.hi hS w h (by rw[hwd,←hw]) hTA hL) ?_
   exact j0m hN 0 p sp hM true HA HB i x z hi false _ _ (fun j=>by unfold q1q;rw[hk];rfl) (fun j=>by unfold q0y;rw[hk,(q9v (HA j x z)).1];rfl)
  ·have hk:(zz 0 p sp y l r).kind=15:=by show zk y.word=15;rw[←hw];decide
   rw[q7k (.inr (.inr hk))]
   refine q1r (q7W v u lv dv DL vA vB HA HB i x z hi hx hz y.lo y.hi hS w h (by rw[hwd,←hw]) hTA hL) ?_
   exact j0m hN 0 p sp hM true HA HB i x z hi true _ _ (fun j=>by unfold q1q;rw[hk];rfl) (fun j=>by unfold q0y;rw[hk,(q9v (HA j x z)).2];rfl)
  ·have hk:(zz 0 p sp y l r).kind=16:=by show zk y.word=16;rw[←hw];decide
   rw[q7l (.inr (.inl hk))]
   refine q1r (q9r v u lv dv DL vA vB HA HB i x z hi hx hz y.lo y.hi hS w h (by rw[hwd,←hw]) hTA hL) ?_
   exact j2g hN 0 p sp hM true HA HB i x z hi false _ _ (fun j=>by unfold q1q;rw[hk];rfl) (fun j=>by unfold q0y;rw[hk,(q9v (HA j x z)).1];rfl)
  ·have hk:(zz 0 p sp y l r).kind=17:=by show zk y.word=17;rw[←hw];decide
   rw[q7l (.inr (.inr hk))]
   refine q1r (q7X v u lv dv DL vA vB HA HB i x z hi hx hz y.lo y.hi hS w h (by rw[hwd,←hw]) hTA hL) ?_
   exact j2g hN 0 p sp hM true HA HB i x z hi true _ _ (fun j=>by unfold q1q;rw[hk];rfl) (fun j=>by unfold q0y;rw[hk,(q9v (HA j x z)).2];rfl)
 ·refine q1r (j0A v u lv dv i x z w h (by rw[hwd];exact hw)) ?_
  exact(nodeP_5 (show zk y.word=5 by rw[hw];decide)).symm
def q1p (s:Nat→Nat→Bool)(x y:Nat):Nat→Nat→Bool:=fun a b=>s a b&&(decide (a<x) || (decide (a=x)&&decide (b<y)))
theorem j5H (s:Nat→Nat→Bool)(x y:Nat)(hx:x<10)(hy:y<10)(h:s x y=true):q0O (zf (q1p s x y)) x y=zf (q1p s x (y+1)):=by
 rw[q8K _ x y hx hy]
 congr 1
 funext a b
 unfold q1p
 by_cases ha:a=x
 ·subst ha
  by_cases hb:b=y
  ·subst hb
   rw[h]
   simp
  ·have e1:decide (b<y+1)=decide (b<y):=by rw[Bool.eq_iff_iff];simp;omega
   rw[e1]
   simp[hb]
 ·simp[ha]
theorem acc_no (s:Nat→Nat→Bool)(x y:Nat)(h:s x y=false):q1p s x y=q1p s x (y+1):=by
 funext a b
 unfold q1p
 by_cases ha:a=x
 ·subst ha
  by_cases hb:b=y
  ·subst hb
   rw[h]
   simp
  ·have e1:decide (b<y+1)=decide (b<y):=by rw[Bool.eq_iff_iff];simp;omega
   rw[e1]
 ·simp[ha]
theorem j5G (s:Nat→Nat→Bool)(x:Nat):zf (q1p s x 10)=zf (q1p s (x+1) 0):=by
 funext a
 show((q0S (q1p s x 10 a):Nat):Int)=((q0S (q1p s (x+1) 0 a):Nat):Int)
 rw[q2s (f:=q1p s x 10 a) (g:=q1p s (x+1) 0 a) (fun b hb=>by
  unfold q1p
  have e1:(decide (a<x) || (decide (a=x)&&decide (b<10)))=(decide (a<x+1) || (decide (a=x+1)&&decide (b<0))):=by
   rw[Bool.eq_iff_iff]
   simp
   omega
  rw[e1])]
theorem j2Q (s:Nat→Nat→Bool):zf (q1p s 0 0)=fun _=>0:=q4s (fun x y=>by unfold q1p;simp)
theorem j4e {s t:Nat→Nat→Bool}(h:∀x y,x<10→y<10→s x y=t x y):zx (zf s)=zx (zf t):=by
 have e:=fun x hx=>j0C (s:=s) (t:=t) h x hx
 show [_,_,_,_,_,_,_,_,_,_]=[_,_,_,_,_,_,_,_,_,_]
 rw[e 0 (by decide),e 1 (by decide),e 2 (by decide),e 3 (by decide),e 4 (by decide),e 5 (by decide),e 6 (by decide),e 7 (by decide),e 8 (by decide),e 9 (by decide)]
theorem j0E {s t:Nat→Nat→Bool}(h:∀x y,x<10→y<10→s x y=t x y):zn (zf s)=zn (zf t):=by
 have:=j4e h
 show Value.agg (zx (zf s)).toArray=Value.agg (zx (zf t)).toArray
 rw[this]
theorem j5F (s:Nat→Nat→Bool):∀x y,x<10→y<10→q1p s 10 0 x y=s x y:=fun x y hx _=>by unfold q1p;simp[hx]
structure AnAt (w wr:World)(fv:Value)(r:Nat→Int)(s:Nat→Nat→Bool)(x y:Nat):Prop where
 b0:wr.heap[w.heap.size]?=some (.cells #[fv] 112 (0,0))
 b1:wr.heap[w.heap.size+1]?=some (.cells (zx r).toArray 43 (0,0))
 b2:wr.heap[w.heap.size+2]?=some (.cells zCs 43 (0,0))
 b3:wr.heap[w.heap.size+3]?=some (.cells (zx (zf (q1p s x y))).toArray 43 (0,0))
 bel:Below w.heap.size w wr
theorem AnAt.lt {w wr:World}{fv:Value}{r:Nat→Int}{s:Nat→Nat→Bool}{x y:Nat}(h:AnAt w wr fv r s x y):w.heap.size+3<wr.heap.size:=by
 rcases Nat.lt_or_ge (w.heap.size+3) wr.heap.size with g|g
 ·exact g
 ·have:=h.b3;rw[Array.getElem?_eq_none g]at this;simp at this
theorem AnAt.below {w wr w':World}{fv:Value}{r:Nat→Int}{s:Nat→Nat→Bool}{x y:Nat}(h:AnAt w wr fv r s x y)(hb:Below wr.heap.size wr w'):AnAt w w' fv r s x y:=
 ⟨(hb.block _ (by have:=h.lt;omega)).trans h.b0,(hb.block _ (by have:=h.lt;omega)).trans h.b1,(hb.block _ (by have:=h.lt;omega)).trans h.b2,(hb.block _ h.lt).trans h.b3,h.bel.trans (hb.mono h.bel.size)⟩
def AnRelX (w:World)(fv:Value)(r:Nat→Int)(s:Nat→Nat→Bool)(g:Nat)(vi:Value)(wr:World):Prop:=∃x:Nat,x≤10∧10-x≤g∧vi=.int .i64 x∧AnAt w wr fv r s x 0
def AnRelY (w:World)(fv:Value)(r:Nat→Int)(s:Nat→Nat→Bool)(x:Nat)(g:Nat)(vi:Value)(wr:World):Prop:=∃y:Nat,y≤10∧10-y≤g∧vi=.int .i64 y∧AnAt w wr fv r s x y
theorem AnAt.next {w wr:World}{fv:Value}{r:Nat→Int}{s:Nat→Nat→Bool}{x y:Nat}(h:AnAt w wr fv r s x y)(e:q1p s x y=q1p s x (y+1)):AnAt w wr fv r s x (y+1):=⟨h.b0,h.b1,h.b2,by rw[←e];exact h.b3,h.bel⟩
theorem j5p (F:zl)(u:List Tok)(v:Value)(t:Nat→Nat→Bool)(w:World)(hR:qz F u)(h:qB w v u) :
  Calls Tryz.prog 116 #[v,zn (zf t)] w fun e w'=>e=.returned (zn (zf (q3K (zt F [120]) (zt F [121]) t)))∧Below w.heap.size w w':=by
 have HFX:=zb (fun W (q:qB W v u)=>q4q F u v W [120] hR q (by decide))
 have HFY:=zb (fun W (q:qB W v u)=>q4q F u v W [121] hR q (by decide))
 generalize zt F [120]=fx at *
 generalize zt F [121]=fy at *
 obtain⟨b,o,cap,rfl,hx1,hx2,hx3,hx4,hx5,hx6⟩:=qe h
 clear hx1 hx2 hx3 hx4 hx5 hx6
 obtain⟨s,hs⟩:∃s,s=q3K fx fy t:=⟨_,rfl⟩
 have HSXY:Hid (∀x y,s x y=(t x y&&(fx || x==0)&&(fy || y==0))):=zb (fun x y=>by rw[hs];rfl)
 rw[←hs]
 have HEND:=zb (j0E (j5F s))
 have HZ:=zb (j2Q s)
 have HROW:=zb (j5G s)
 have HYES:=zb (fun x y hx hy=>j5H s x y hx hy)
 have HNO:=zb (fun x y=>acc_no s x y)
 have HHAS:=zb (fun x y hx hy=>q2a t x y hx hy)
 obtain⟨V,hV⟩:∃V,V=zn (zf s):=⟨_,rfl⟩
 rw[←hV]at HEND ⊢
 obtain⟨r,hr⟩:∃r,r=zf t:=⟨_,rfl⟩
 rw[←hr]at HHAS ⊢
 have HF:=zb h
 generalize hul:u.length=ul at *
 obtain⟨fv,hfv⟩:∃fv,fv=Value.slice (some ⟨b,o,none⟩) ul cap:=⟨_,rfl⟩
 have HFV:=zb hfv
 clear hs hV hr hul h hfv hR
 go_enter Tryz.func116,Tryz.ntmps116
 go_wp2_with fail
 obtain⟨W0,hW0⟩:∃W:World,W=(((w.alloc (.cells #[.slice (some ⟨b,o,none⟩) ul cap] 112)).alloc (.cells (zx r).toArray 43)).alloc (.cells zCs 43)).alloc (.cells zCs 43):=⟨_,rfl⟩
 rw[←hW0]
 have hz0:W0.heap.size=w.heap.size+4:=by rw[hW0];simp
 have A0:AnAt w W0 (.slice (some ⟨b,o,none⟩) ul cap) r s 0 0:=by
  refine⟨?_,?_,?_,?_,?_⟩
  ·rw[hW0,zO _ _ (by simp<;>omega),zO _ _ (by simp<;>omega),zO _ _ (by simp)];exact zN _ _
  ·rw[hW0,zO _ _ (by simp<;>omega),zO _ _ (by simp)]
   have:=zN (w.alloc (.cells #[.slice (some ⟨b,o,none⟩) ul cap] 112)) (.cells (zx r).toArray 43)
   simpa using this
  ·rw[hW0,zO _ _ (by simp)]
   have:=zN ((w.alloc (.cells #[.slice (some ⟨b,o,none⟩) ul cap] 112)).alloc (.cells (zx r).toArray 43)) (.cells zCs 43)
   simpa using this
  ·rw[HZ.out,hW0]
   have:=zN (((w.alloc (.cells #[.slice (some ⟨b,o,none⟩) ul cap] 112)).alloc (.cells (zx r).toArray 43)).alloc (.cells zCs 43)) (.cells zCs 43)
   simpa using this
  ·rw[hW0]
   exact((((zB _ _).alloc (zL _) _).alloc (by simp) _).alloc (by simp<;>omega) _).alloc (by simp<;>omega) _
 have HF0:=zb (HF.out.below A0.bel)
 have c0:=zC _ _ 0 _ _ _ A0.b0
 have HA0:=zb A0
 have hl0:=A0.lt
 clear hW0 A0 HF
 simp only[List.getElem?_toArray,List.getElem?_cons_zero]at c0
 go_wp2_with fail
 refine(HFX.out _ HF0.out).mono ?_
 rintro e w1 ⟨rfl,b1⟩
 have HA1:=zb (HA0.out.below b1)
 have HF1:=zb (HF0.out.below b1)
 have c1:=zC _ _ 0 _ _ _ HA1.out.b0
 have hl1:=HA1.out.lt
 simp only[List.getElem?_toArray,List.getElem?_cons_zero]at c1
 clear b1 HA0 HF0 c0 hl0 hz0
 go_wp2_with fail
 refine(HFY.out _ HF1.out).mono ?_
 rintro e w2 ⟨rfl,b2⟩
 have HA2:=zb (HA1.out.below b2)
 have hl2:=HA2.out.lt
 clear b2 HA1 HF1 c1 hl1 HFX HFY
 go_wp2_with fail
 go_loopg [8] 10 (fun g vi wr=>AnRelX w (.slice (some ⟨b,o,none⟩) ul cap) r s g vi wr)
 case atStart=>exact⟨0,by omega,by omega,rfl,HA2.out⟩
 case round =>
  obtain⟨x,hx,hg,rfl,hA⟩:=hrel
  have HG:=zb hg
  have HA:=zb hA
  have hlr:=hA.lt
  clear hg hA HA2 hl2
  by_cases hx10:x<10
  ·obtain⟨wo,hwo⟩:∃wo:World,wo=wr:=⟨_,rfl⟩
   obtain⟨gx,hgx⟩:∃gx:Nat,gx=gk:=⟨_,rfl⟩
   have hdx:decide ((x:Int)<10)=true:=by simp;omega
   go_wp2_with fail
   go_loopg [9] 10 (fun g vi wr=>AnRelY w (.slice (some ⟨b,o,none⟩) ul cap) r s x g vi wr)
   case atStart=>exact⟨0,by omega,by omega,rfl,HA.out⟩
   case round =>
    obtain⟨y,hy,hgy,rfl,hAy⟩:=hrel
    have HGY:=zb hgy
    have HAY:=zb hAy
    have hly:=hAy.lt
    clear hgy hAy
    by_cases hy10:y<10
    ·have L1:=(Arr.of_row (f:=r) HAY.out.b1).load
     obtain⟨V0,hV0⟩:∃V0,V0=zn r:=⟨_,rfl⟩
     have HH:=zb (HHAS.out x y hx10 hy10)
     rw[←hV0]at L1 HH
     clear hV0
     have HSY:Hid ((t x y&&(fx || x==0)&&(fy || y==0))=true→s x y=true):=zb (fun h=>by rw[HSXY.out];exact h)
     have HSN:Hid ((t x y&&(fx || x==0)&&(fy || y==0))=false→s x y=false):=zb (fun h=>by rw[HSXY.out];exact h)
     have HW:=zb (q8l (zf (q1p s x y)) x y)
     have hbx:((x:Int)==0)=(x==0):=by rw[Bool.eq_iff_iff];simp
     have hby:((y:Int)==0)=(y==0):=by rw[Bool.eq_iff_iff];simp
     generalize t x y=q at *
     generalize (x==0)=bx at *
     generalize (y==0)=by' at *
     have hg1:0<gk:=by have:=HGY.out;omega
     go_wp2_with (refine zg rfl 43 (.tmp 3) rfl ⟨w.heap.size+1,0,none⟩ V0 rfl L1 ?_)
     refine(HH.out _).mono ?_
     rintro e w3 ⟨rfl,b3⟩
     have HA3:=zb (HAY.out.below b3)
     have hl3:=HA3.out.lt
     have HQ:Hid ((q&&(fx || bx)&&(fy || by'))=(q&&(fx || bx)&&(fy || by'))):=zb rfl
     clear b3 HH L1 HAY hly
     cases q with
     |false =>
      have hsy:=HSN.out (by rfl)
      go_wp2_with fail
      go_roundg (gk-1)
      case measure=>omega
      case rel=>exact⟨y+1,by omega,by have:=HGY.out;omega,by go_num,HA3.out.next (HNO.out x y hsy)⟩
     |true =>
      cases fx with
      |true =>
       cases fy with
       |true =>
        have hsy:=HSY.out (by rfl)
        have hc:=HW.out
        rw[HYES.out x y hx10 hy10 hsy]at hc
        obtain⟨V1,hV1⟩:∃V1,V1=zn (zf (q1p s x y)):=⟨_,rfl⟩
        have L2:=(Arr.of_row (f:=zf (q1p s x y)) HA3.out.b3).load
        rw[←hV1]at L2 hc
        clear hV1
        go_wp2_with (refine zg rfl 43 (.tmp 5) rfl ⟨w.heap.size+3,0,none⟩ V1 rfl L2 ?_)
        refine(hc _).mono ?_
        rintro e w4 ⟨rfl,b4⟩
        have A4:=HA3.out.below b4
        obtain⟨W,s1,s2,s3,s4,s5,s6,s7⟩:=q2g w4 (w.heap.size+3) _ (zf (q1p s x (y+1))) A4.b3 rfl
        have HW4:Hid (AnAt w W (.slice (some ⟨b,o,none⟩) ul cap) r s x (y+1)):=zb ⟨by rw[s3 _ (by omega)];exact A4.b0,by rw[s3 _ (by omega)];exact A4.b1,by rw[s3 _ (by omega)];exact A4.b2,s2,⟨s5.trans A4.bel.os,s6.trans A4.bel.tape,s7.trans A4.bel.output,by rw[s4];exact A4.bel.size,fun q hq=>by rw[s3 q (by omega)];exact A4.bel.block q hq⟩⟩
        generalize zf (q1p s x (y+1))=h1 at *
        obtain⟨V2,hV2⟩:∃V2,V2=zn h1:=⟨_,rfl⟩
        rw[←hV2]at s1 ⊢
        clear hV2 s2 s3 s4 s5 s6 s7 A4 b4
        go_wp2_with (refine ze rfl 43 (.tmp 5) (.tmp 45) rfl ⟨w.heap.size+3,0,none⟩ V2 rfl rfl W s1 ?_)
        go_roundg (gk-1)
        case measure=>omega
        case rel=>exact⟨y+1,by omega,by have:=HGY.out;omega,by go_num,HW4.out⟩
       |false =>
        cases by' with
        |true =>
         have hsy:=HSY.out (by rfl)
         have hc:=HW.out
         rw[HYES.out x y hx10 hy10 hsy]at hc
         obtain⟨V1,hV1⟩:∃V1,V1=zn (zf (q1p s x y)):=⟨_,rfl⟩
         have L2:=(Arr.of_row (f:=zf (q1p s x y)) HA3.out.b3).load
         rw[←hV1]at L2 hc
         clear hV1
         go_wp2_with (refine zg rfl 43 (.tmp 5) rfl ⟨w.heap.size+3,0,none⟩ V1 rfl L2 ?_)
         refine(hc _).mono ?_
         rintro e w4 ⟨rfl,b4⟩
         have A4:=HA3.out.below b4
         obtain⟨W,s1,s2,s3,s4,s5,s6,s7⟩:=q2g w4 (w.heap.size+3) _ (zf (q1p s x (y+1))) A4.b3 rfl
         have HW4:Hid (AnAt w W (.slice (some ⟨b,o,none⟩) ul cap) r s x (y+1)):=zb ⟨by rw[s3 _ (by omega)];exact A4.b0,by rw[s3 _ (by omega)];exact A4.b1,by rw[s3 _ (by omega)];exact A4.b2,s2,⟨s5.trans A4.bel.os,s6.trans A4.bel.tape,s7.trans A4.bel.output,by rw[s4];exact A4.bel.size,fun q hq=>by rw[s3 q (by omega)];exact A4.bel.block q hq⟩⟩
         generalize zf (q1p s x (y+1))=h1 at *
         obtain⟨V2,hV2⟩:∃V2,V2=zn h1:=⟨_,rfl⟩
         rw[←hV2]at s1 ⊢
         clear hV2 s2 s3 s4 s5 s6 s7 A4 b4
         go_wp2_with (refine ze rfl 43 (.tmp 5) (.tmp 45) rfl ⟨w.heap.size+3,0,none⟩ V2 rfl rfl W s1 ?_)
         go_roundg (gk-1)
         case measure=>omega
         case rel=>exact⟨y+1,by omega,by have:=HGY.out;omega,by go_num,HW4.out⟩
        |false =>
         have hsy:=HSN.out (by rfl)
         go_wp2_with fail
         go_roundg (gk-1)
         case measure=>omega
         case rel=>exact⟨y+1,by omega,by have:=HGY.out;omega,by go_num,HA3.out.next (HNO.out x y hsy)⟩
      |false =>
       cases bx with
       |false =>
        have hsy:=HSN.out (by rfl)
        go_wp2_with fail
        go_roundg (gk-1)
        case measure=>omega
        case rel=>exact⟨y+1,by omega,by have:=HGY.out;omega,by go_num,HA3.out.next (HNO.out x y hsy)⟩
       |true =>
        cases fy with
        |true =>
         have hsy:=HSY.out (by rfl)
         have hc:=HW.out
         rw[HYES.out x y hx10 hy10 hsy]at hc
         obtain⟨V1,hV1⟩:∃V1,V1=zn (zf (q1p s x y)):=⟨_,rfl⟩
         have L2:=(Arr.of_row (f:=zf (q1p s x y)) HA3.out.b3).load
         rw[←hV1]at L2 hc
         clear hV1
         go_wp2_with (refine zg rfl 43 (.tmp 5) rfl ⟨w.heap.size+3,0,none⟩ V1 rfl L2 ?_)
         refine(hc _).mono ?_
         rintro e w4 ⟨rfl,b4⟩
         have A4:=HA3.out.below b4
         obtain⟨W,s1,s2,s3,s4,s5,s6,s7⟩:=q2g w4 (w.heap.size+3) _ (zf (q1p s x (y+1))) A4.b3 rfl
         have HW4:Hid (AnAt w W (.slice (some ⟨b,o,none⟩) ul cap) r s x (y+1)):=zb ⟨by rw[s3 _ (by omega)];exact A4.b0,by rw[s3 _ (by omega)];exact A4.b1,by rw[s3 _ (by omega)];exact A4.b2,s2,⟨s5.trans A4.bel.os,s6.trans A4.bel.tape,s7.trans A4.bel.output,by rw[s4];exact A4.bel.size,fun q hq=>by rw[s3 q (by omega)];exact A4.bel.block q hq⟩⟩
         generalize zf (q1p s x (y+1))=h1 at *
         obtain⟨V2,hV2⟩:∃V2,V2=zn h1:=⟨_,rfl⟩
         rw[←hV2]at s1 ⊢
         clear hV2 s2 s3 s4 s5 s6 s7 A4 b4
         go_wp2_with (refine ze rfl 43 (.tmp 5) (.tmp 45) rfl ⟨w.heap.size+3,0,none⟩ V2 rfl rfl W s1 ?_)
         go_roundg (gk-1)
         case measure=>omega
         case rel=>exact⟨y+1,by omega,by have:=HGY.out;omega,by go_num,HW4.out⟩
        |false =>
         cases by' with
         |true =>
          have hsy:=HSY.out (by rfl)
          have hc:=HW.out
          rw[HYES.out x y hx10 hy10 hsy]at hc
          obtain⟨V1,hV1⟩:∃V1,V1=zn (zf (q1p s x y)):=⟨_,rfl⟩
          have L2:=(Arr.of_row (f:=zf (q1p s x y)) HA3.out.b3).load
          rw[←hV1]at L2 hc
          clear hV1
          go_wp2_with (refine zg rfl 43 (.tmp 5) rfl ⟨w.heap.size+3,0,none⟩ V1 rfl L2 ?_)
          refine(hc _).mono ?_
          rintro e w4 ⟨rfl,b4⟩
          have A4:=HA3.out.below b4
          obtain⟨W,s1,s2,s3,s4,s5,s6,s7⟩:=q2g w4 (w.heap.size+3) _ (zf (q1p s x (y+1))) A4.b3 rfl
          have HW4:Hid (AnAt w W (.slice (some ⟨b,o,none⟩) ul cap) r s x (y+1)):=zb ⟨by rw[s3 _ (by omega)];exact A4.b0,by rw[s3 _ (by omega)];exact A4.b1,by rw[s3 _ (by omega)];exact A4.b2,s2,⟨s5.trans A4.bel.os,s6.trans A4.bel.tape,s7.trans A4.bel.output,by rw[s4];exact A4.bel.size,fun q hq=>by rw[s3 q (by omega)];exact A4.bel.block q hq⟩⟩
          generalize zf (q1p s x (y+1))=h1 at *
          obtain⟨V2,hV2⟩:∃V2,V2=zn h1:=⟨_,rfl⟩
          rw[←hV2]at s1 ⊢
          clear hV2 s2 s3 s4 s5 s6 s7 A4 b4
          go_wp2_with (refine ze rfl 43 (.tmp 5) (.tmp 45) rfl ⟨w.heap.size+3,0,none⟩ V2 rfl rfl W s1 ?_)
          go_roundg (gk-1)
          case measure=>omega
          case rel=>exact⟨y+1,by omega,by have:=HGY.out;omega,by go_num,HW4.out⟩
         |false =>
          have hsy:=HSN.out (by rfl)
          go_wp2_with fail
          go_roundg (gk-1)
          case measure=>omega
          case rel=>exact⟨y+1,by omega,by have:=HGY.out;omega,by go_num,HA3.out.next (HNO.out x y hsy)⟩
    ·have hye:y=10:=by omega
     subst hye
     have hg1:0<gx:=by have:=HG.out;omega
     have HAR:Hid (AnAt w wr (.slice (some ⟨b,o,none⟩) ul cap) r s (x+1) 0):=zb ⟨HAY.out.b0,HAY.out.b1,HAY.out.b2,by rw[←HROW.out];exact HAY.out.b3,HAY.out.bel⟩
     go_wp2_with fail
     go_roundg (gx-1)
     case measure=>omega
     case rel=>exact⟨x+1,by omega,by have:=HG.out;omega,by go_num,HAR.out⟩
  ·have hxe:x=10:=by omega
   subst hxe
   obtain⟨R1,W,R2,R3,R4,_⟩:=q6u (Arr.of_row (f:=zf (q1p s 10 0)) HA.out.b3) HA.out.b2 rfl (by omega) HA.out.bel
   rw[HEND.out]at R1 R2 R3
   rw[show w.heap.size+2=w.heap.size+1+1 from rfl]at R3
   clear HEND
   go_wp2_with (first|(refine zg rfl 43 (.tmp 5) rfl ⟨w.heap.size+3,0,none⟩ V rfl R1 ?_)|(refine ze rfl 43 (.tmp 4) (.tmp 46) rfl ⟨w.heap.size+2,0,none⟩ V rfl rfl W R2 ?_))
   exact zP (v:=V) (zr rfl _ _ _ _ rfl R3) rfl ⟨rfl,R4⟩
end Go.Proofs.YtiamjjonoeaggabGreatDoor
