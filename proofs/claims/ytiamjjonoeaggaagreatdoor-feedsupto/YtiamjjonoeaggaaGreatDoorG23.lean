import Derived.Test.YtiamjjonoeaggaaGreatDoorGA
import Derived.Test.YtiamjjonoeaggaaGreatDoorGB
import Derived.Test.YtiamjjonoeaggaaGreatDoorG14
import Derived.Test.YtiamjjonoeaggaaGreatDoorG16
import Derived.Test.YtiamjjonoeaggaaGreatDoorG20
import Derived.Test.YtiamjjonoeaggaaGreatDoorG21
import Derived.Test.YtiamjjonoeaggaaGreatDoorG22
set_option maxRecDepth 100000
set_option maxHeartbeats 16000000
namespace Go.Proofs.YtiamjjonoeaggaaGreatDoor
open Go.RowKit
theorem j0y (v:Value)(u:List Tok)(lv dv:Value)(DL:List (LPt × Value))(vF vL:Value)(HF HL:Nat→Nat→Nat→Bool)(j x y:Nat)(hi':j+1<DL.length)(hx:x<10)(hy:y<10)(lo hi:By)(hS:SpanIn u lo hi)(w:World)(h:qB w v u)(hw:hd u=[112,114,101,118])(hT:TabsAt w lv false vF vL DL.length HF HL)(hL:DLogAt w dv DL) :
  Calls Tryz.prog 177 #[v,lv,dv,.int .i64 ((j+1:Nat):Int),.agg #[.int .i64 x,.int .i64 y]] w fun e w'=>e=.returned (.bool (q2I lo hi (q0i DL (j+1)-q0i DL j)&&HL j x y))∧Below w.heap.size w w':=by
 obtain⟨b,o,cap,rfl,h1,h2,h3,h4,h5,h6⟩:=qe h
 obtain⟨da,dc,rfl⟩:=qr hL.row
 obtain⟨gl,cl,rfl,hgl,l1,l2,lc1⟩:=hT.one
 obtain⟨fa,fc,rfl⟩:=hT.fst.form
 obtain⟨ta,tc,rfl⟩:=hT.lst.form
 have hsm:=hL.small
 obtain⟨R,hR⟩:∃R,R=(q2I lo hi (q0i DL (j+1)-q0i DL j)&&HL j x y):=⟨_,rfl⟩
 rw[←hR]
 have HRR:=zb hR
 clear hR
 have HT:=zb hT
 have HFR:=zb h
 have HLG:=zb hL
 have HWD:=zb (fun W (q:qB W (.agg #[.slice (some ⟨b,o,none⟩) u.length cap]) u)=>q0b _ u W q)
 have HSP:=zb (fun W (q:qB W (.agg #[.slice (some ⟨b,o,none⟩) u.length cap]) u) q2=>q4d _ u lo hi hS (.slice da DL.length dc) DL j (j+1) (by omega) (by omega) W q q2)
 rw[←q1i (show j+1<DL.length by omega),←q1i (show j<DL.length by omega)]at HSP
 obtain⟨z,hz⟩:∃z:Int,z=((j+1:Nat):Int):=⟨_,rfl⟩
 rw[←hz]at HSP ⊢
 have hzz:0<z∧z<(DL.length:Int):=by omega
 have hwr:IntKind.i64.wrap (z-1)=(j:Int):=by rw[IntKind.wrap_i64];omega
 have hzn:z.toNat=j+1:=by omega
 have hz00:0≤z:=by omega
 clear hz
 rw[hw]at HWD
 clear h h6 hT hL hw hS
 unfold maxLen at h2 l2
 generalize hun:u.length=ul at *
 clear hun
 go_enter Tryz.func177,Tryz.ntmps177
 go_wp2_with fail
 obtain⟨W0,hW0,hP0,hQ0,hz0,B0⟩:=q7d w #[.slice (some ⟨b,o,none⟩) ul cap] #[.int .i64 x,.int .i64 y] 149 262
 rw[←hW0]
 have HB0:=zb B0
 have HP0:=zb hP0
 have HQ0:=zb hQ0
 have HT0:=zb (HT.out.below B0)
 have HF0:=zb (HFR.out.below B0)
 have HL0:=zb (HLG.out.below B0)
 have lc1:=(zo B0 gl 0 hgl).trans lc1
 have hgl:=zT hgl B0.size
 have HLC:=zb (And.intro lc1 trivial)
 have CELLF:Hid (∀w',Below W0.heap.size W0 w'→w'.cell? ⟨w.heap.size,0,none⟩=some (.slice (some ⟨b,o,none⟩) ul cap)):=zb (fun w' hb=>by
  have e0:=(hb.block w.heap.size (by omega)).trans HQ0.out
  exact zC _ _ 0 _ _ _ e0)
 have cf0:=CELLF.out _ (zB _ _)
 clear hW0 hP0 hQ0 B0 HT HFR HLG lc1
 go_wp2_with fail
 refine(HWD.out _ HF0.out).mono ?_
 rintro e w1 ⟨rfl,b1⟩
 have HB1:=zb b1
 have cf1:=CELLF.out _ b1
 have hz1:w.heap.size+1<w1.heap.size:=by have:=b1.size;omega
 clear b1 cf0
 have hkL:j<DL.length:=by omega
 obtain⟨gtL,rfl,hgtL,t1L,t2L,_⟩:=(HT0.out.lst).load hkL
 have CTL:Hid (∀w',Below W0.heap.size W0 w'→w'.rangeAt gtL (j*10) (zx (zf (HL (j))))):=zb (fun w' hb=>by
  obtain⟨g',e',_,_,_,hr⟩:=(HT0.out.lst.below hb).load hkL
  simp only[Option.some.injEq,Addr.mk.injEq,and_true]at e'
  subst e'
  exact hr)
 have HHL:=zb (q2a (HL (j)) x y hx hy)
 obtain⟨csL,hcsL⟩:∃cs,cs=zx (zf (HL (j))):=⟨_,rfl⟩
 have hclL:(Tryz.prog.info? 47).map (·.size)=some csL.length:=by rw[hcsL];kernel_rfl
 rw[show zn (zf (HL (j)))=.agg csL.toArray by rw[hcsL]]at HHL
 rw[←hcsL]at CTL
 clear hcsL
 unfold maxLen at t2L
 generalize HL (j) x y=qL at *
 have hcu:=Tryz.underlying47
 have S0:Hid (∀w',Below W0.heap.size W0 w'→(w'.rangeAt gtL (j*10) csL∧w'.cell? ⟨w.heap.size+1,0,none⟩=some (.int .i64 x)∧w'.cell? ⟨w.heap.size+1,1,none⟩=some (.int .i64 y)∧w'.cell? ⟨gl,0,none⟩=some (.slice (some ⟨gtL,0,none⟩) DL.length tc)∧w'.cell? ⟨w.heap.size,0,none⟩=some (.slice (some ⟨b,o,none⟩) ul cap))):=zb (fun w' hb=>by
  have e1:=(hb.block (w.heap.size+1) (by omega)).trans HP0.out
  exact⟨CTL.out _ hb,zC _ _ 0 _ _ _ e1,zC _ _ 1 _ _ _ e1,(zo hb gl 0 hgl).trans HLC.out.1,CELLF.out _ hb⟩)
 have C0:=S0.out _ HB1.out.drew
 clear CTL
 generalize q2I lo hi (q0i DL (j+1)-q0i DL j)=sp at *
 obtain⟨hz0',hz2⟩:=hzz
 cases sp with
 |false =>
  go_wp2_with fail
  refine wp_region_held_drew (S:=fun w'=>w'.rangeAt gtL (j*10) csL∧w'.cell? ⟨w.heap.size+1,0,none⟩=some (.int .i64 x)∧w'.cell? ⟨w.heap.size+1,1,none⟩=some (.int .i64 y)∧w'.cell? ⟨gl,0,none⟩=some (.slice (some ⟨gtL,0,none⟩) DL.length tc)∧w'.cell? ⟨w.heap.size,0,none⟩=some (.slice (some ⟨b,o,none⟩) ul cap)) (by kernel_rfl) C0 (fun hS0=>?_)
  simp only[rz,Nat.zero_add,Nat.reduceAdd]
  refine tq 0 111 ?_
  simp only[Act.put,pz]
  refine tq 1 112 ?_
  simp only[Act.put,pz]
  refine tq 2 113 ?_
  simp only[Act.put,pz]
  refine tq 3 114 ?_
  simp only[Act.put,pz]
  refine tq 4 115 ?_
  simp only[Act.put,pz]
  refine tq 5 116 ?_
  simp only[Act.put,pz]
  refine tq 6 117 ?_
  simp only[Act.put,pz]
  refine tq 7 118 ?_
  simp only[Act.put,pz]
  refine rd1 8 rfl fun K hK=>?_
  go_simp
  (go_at_call 186;refine(HSP.out _ (HF0.out.below HB1.out.drew) (HL0.out.below HB1.out.drew)).mono ?_;rintro e w2 ⟨rfl,b2⟩;have B2:Below W0.heap.size W0 w2:=HB1.out.drew.trans (b2.mono HB1.out.drew.size))
  go_simp
  refine hK.out _ _ (S0.out _ B2) (fun _=>?_)
  refine tq 9 120 ?_
  simp only[Act.put,pz]
  refine tq 10 121 ?_
  simp only[Act.put,pz]
  refine tn 11 122 ?_
  simp only[Act.put,pz]
  refine tn 12 123 ?_
  simp only[Act.put,pz]
  refine tn 13 124 ?_
  simp only[Act.put,pz]
  refine tn 14 125 ?_
  simp only[Act.put,pz]
  refine tn 15 126 ?_
  simp only[Act.put,pz]
  refine tn 16 127 ?_
  simp only[Act.put,pz]
  refine tn 17 128 ?_
  simp only[Act.put,pz]
  refine tn 18 129 ?_
  simp only[Act.put,pz]
  refine tn 19 130 ?_
  simp only[Act.put,pz]
  refine tn 20 131 ?_
  simp only[Act.put,pz]
  refine tn 21 132 ?_
  simp only[Act.put,pz]
  refine tn 22 133 ?_
  simp only[Act.put,pz]
  refine tq 23 134 ?_
  simp only[Act.put,pz]
  refine tq 24 10 ?_
  simp only[Act.put,pz]
  refine zD (by kernel_rfl) ?_ _
  go_wp2_with fail
  go_ret
  exact⟨qm (by rw[HRR.out];cases qL<;>rfl),HB0.out.trans (B2.mono HB0.out.size)⟩
 |true =>
  go_wp2_with fail
  refine wp_region_held_drew (S:=fun w'=>w'.rangeAt gtL (j*10) csL∧w'.cell? ⟨w.heap.size+1,0,none⟩=some (.int .i64 x)∧w'.cell? ⟨w.heap.size+1,1,none⟩=some (.int .i64 y)∧w'.cell? ⟨gl,0,none⟩=some (.slice (some ⟨gtL,0,none⟩) DL.length tc)∧w'.cell? ⟨w.heap.size,0,none⟩=some (.slice (some ⟨b,o,none⟩) ul cap)) (by kernel_rfl) C0 (fun hS0=>?_)
  simp only[rz,Nat.zero_add,Nat.reduceAdd]
  refine tq 0 111 ?_
  simp only[Act.put,pz]
  refine tq 1 112 ?_
  simp only[Act.put,pz]
  refine tq 2 113 ?_
  simp only[Act.put,pz]
  refine tq 3 114 ?_
  simp only[Act.put,pz]
  refine tq 4 115 ?_
  simp only[Act.put,pz]
  refine tq 5 116 ?_
  simp only[Act.put,pz]
  refine tq 6 117 ?_
  simp only[Act.put,pz]
  refine tq 7 118 ?_
  simp only[Act.put,pz]
  refine rd1 8 rfl fun K hK=>?_
  go_simp
  (go_at_call 186;refine(HSP.out _ (HF0.out.below HB1.out.drew) (HL0.out.below HB1.out.drew)).mono ?_;rintro e w2 ⟨rfl,b2⟩;have B2:Below W0.heap.size W0 w2:=HB1.out.drew.trans (b2.mono HB1.out.drew.size))
  go_simp
  refine hK.out _ _ (S0.out _ B2) (fun _=>?_)
  refine tq 9 120 ?_
  simp only[Act.put,pz]
  refine tq 10 121 ?_
  simp only[Act.put,pz]
  refine tq 11 122 ?_
  simp only[Act.put,pz]
  refine tq 12 123 ?_
  simp only[Act.put,pz]
  refine tq 13 124 ?_
  simp only[Act.put,pz]
  refine tq 14 125 ?_
  simp only[Act.put,pz]
  refine tq 15 126 ?_
  simp only[Act.put,pz]
  refine tq 16 127 ?_
  simp only[Act.put,pz]
  refine ql (i:=17) 128 rfl rfl (by kernel_rfl) (by kernel_rfl) (by kernel_rfl) (fun _ _ _ h=>h) (yieldsIf_load_mid (by rfl) _ _ rfl _ _ rfl csL _ (fun w hSw=>hSw.1) hcu rfl hclL) (by assumption) ?_
  simp only[Act.put,pz]
  refine tq 18 129 ?_
  simp only[Act.put,pz]
  refine tq 19 130 ?_
  simp only[Act.put,pz]
  refine tq 20 131 ?_
  simp only[Act.put,pz]
  refine tq 21 132 ?_
  simp only[Act.put,pz]
  refine rd1 22 rfl fun K hK=>?_
  go_simp
  (go_at_call 26;refine(HHL.out _).mono ?_;rintro e w3 ⟨rfl,b3⟩;have B3:Below W0.heap.size W0 w3:=B2.trans (b3.mono B2.size))
  go_simp
  refine hK.out _ _ (S0.out _ B3) (fun _=>?_)
  refine tq 23 134 ?_
  simp only[Act.put,pz]
  refine tq 24 10 ?_
  simp only[Act.put,pz]
  refine zD (by kernel_rfl) ?_ _
  go_wp2_with fail
  go_ret
  exact⟨qm (by rw[HRR.out];cases qL<;>rfl),HB0.out.trans (B3.mono HB0.out.size)⟩
theorem j0w (v:Value)(u:List Tok)(lv dv:Value)(DL:List (LPt × Value))(vF vL:Value)(HF HL:Nat→Nat→Nat→Bool)(j x y:Nat)(hi':j+1<DL.length)(hx:x<10)(hy:y<10)(lo hi:By)(hS:SpanIn u lo hi)(w:World)(h:qB w v u)(hw:hd u=[110,101,120,116])(hT:TabsAt w lv false vF vL DL.length HF HL)(hL:DLogAt w dv DL) :
  Calls Tryz.prog 177 #[v,lv,dv,.int .i64 ((j:Nat):Int),.agg #[.int .i64 x,.int .i64 y]] w fun e w'=>e=.returned (.bool (q2I lo hi (q0i DL (j+1)-q0i DL j)&&HL (j+1) x y))∧Below w.heap.size w w':=by
 obtain⟨b,o,cap,rfl,h1,h2,h3,h4,h5,h6⟩:=qe h
 obtain⟨da,dc,rfl⟩:=qr hL.row
 obtain⟨gl,cl,rfl,hgl,l1,l2,lc1⟩:=hT.one
 obtain⟨fa,fc,rfl⟩:=hT.fst.form
 obtain⟨ta,tc,rfl⟩:=hT.lst.form
 have hsm:=hL.small
 obtain⟨R,hR⟩:∃R,R=(q2I lo hi (q0i DL (j+1)-q0i DL j)&&HL (j+1) x y):=⟨_,rfl⟩
 rw[←hR]
 have HRR:=zb hR
 clear hR
 have HT:=zb hT
 have HFR:=zb h
 have HLG:=zb hL
 have HWD:=zb (fun W (q:qB W (.agg #[.slice (some ⟨b,o,none⟩) u.length cap]) u)=>q0b _ u W q)
 have HSP:=zb (fun W (q:qB W (.agg #[.slice (some ⟨b,o,none⟩) u.length cap]) u) q2=>q4d _ u lo hi hS (.slice da DL.length dc) DL j (j+1) (by omega) (by omega) W q q2)
 rw[←q1i (show j+1<DL.length by omega),←q1i (show j<DL.length by omega)]at HSP
 obtain⟨z,hz⟩:∃z:Int,z=((j+1:Nat):Int):=⟨_,rfl⟩
 rw[←hz]at HSP
 have hzz:0<z∧z<(DL.length:Int):=by omega
 have hwr:IntKind.i64.wrap ((j:Int)+1)=z:=by rw[IntKind.wrap_i64];omega
 have hzn:z.toNat=j+1:=by omega
 have hz00:0≤z:=by omega
 clear hz
 rw[hw]at HWD
 clear h h6 hT hL hw hS
 unfold maxLen at h2 l2
 generalize hun:u.length=ul at *
 clear hun
 go_enter Tryz.func177,Tryz.ntmps177
 go_wp2_with fail
 obtain⟨W0,hW0,hP0,hQ0,hz0,B0⟩:=q7d w #[.slice (some ⟨b,o,none⟩) ul cap] #[.int .i64 x,.int .i64 y] 149 262
 rw[←hW0]
 have HB0:=zb B0
 have HP0:=zb hP0
 have HQ0:=zb hQ0
 have HT0:=zb (HT.out.below B0)
 have HF0:=zb (HFR.out.below B0)
 have HL0:=zb (HLG.out.below B0)
 have lc1:=(zo B0 gl 0 hgl).trans lc1
 have hgl:=zT hgl B0.size
 have HLC:=zb (And.intro lc1 trivial)
 have CELLF:Hid (∀w',Below W0.heap.size W0 w'→w'.cell? ⟨w.heap.size,0,none⟩=some (.slice (some ⟨b,o,none⟩) ul cap)):=zb (fun w' hb=>by
  have e0:=(hb.block w.heap.size (by omega)).trans HQ0.out
  exact zC _ _ 0 _ _ _ e0)
 have cf0:=CELLF.out _ (zB _ _)
 clear hW0 hP0 hQ0 B0 HT HFR HLG lc1
 go_wp2_with fail
 refine(HWD.out _ HF0.out).mono ?_
 rintro e w1 ⟨rfl,b1⟩
 have HB1:=zb b1
 have cf1:=CELLF.out _ b1
 have hz1:w.heap.size+1<w1.heap.size:=by have:=b1.size;omega
 clear b1 cf0
 have hkL:(j+1)<DL.length:=by omega
 obtain⟨gtL,rfl,hgtL,t1L,t2L,_⟩:=(HT0.out.lst).load hkL
 have CTL:Hid (∀w',Below W0.heap.size W0 w'→w'.rangeAt gtL ((j+1)*10) (zx (zf (HL (j+1))))):=zb (fun w' hb=>by
  obtain⟨g',e',_,_,_,hr⟩:=(HT0.out.lst.below hb).load hkL
  simp only[Option.some.injEq,Addr.mk.injEq,and_true]at e'
  subst e'
  exact hr)
 have HHL:=zb (q2a (HL (j+1)) x y hx hy)
 obtain⟨csL,hcsL⟩:∃cs,cs=zx (zf (HL (j+1))):=⟨_,rfl⟩
 have hclL:(Tryz.prog.info? 47).map (·.size)=some csL.length:=by rw[hcsL];kernel_rfl
 rw[show zn (zf (HL (j+1)))=.agg csL.toArray by rw[hcsL]]at HHL
 rw[←hcsL]at CTL
 clear hcsL
 unfold maxLen at t2L
 generalize HL (j+1) x y=qL at *
 have hcu:=Tryz.underlying47
 have S0:Hid (∀w',Below W0.heap.size W0 w'→(w'.rangeAt gtL ((j+1)*10) csL∧w'.cell? ⟨w.heap.size+1,0,none⟩=some (.int .i64 x)∧w'.cell? ⟨w.heap.size+1,1,none⟩=some (.int .i64 y)∧w'.cell? ⟨gl,0,none⟩=some (.slice (some ⟨gtL,0,none⟩) DL.length tc)∧w'.cell? ⟨w.heap.size,0,none⟩=some (.slice (some ⟨b,o,none⟩) ul cap))):=zb (fun w' hb=>by
  have e1:=(hb.block (w.heap.size+1) (by omega)).trans HP0.out
  exact⟨CTL.out _ hb,zC _ _ 0 _ _ _ e1,zC _ _ 1 _ _ _ e1,(zo hb gl 0 hgl).trans HLC.out.1,CELLF.out _ hb⟩)
 have C0:=S0.out _ HB1.out.drew
 clear CTL
 generalize q2I lo hi (q0i DL (j+1)-q0i DL j)=sp at *
 obtain⟨hz0',hz2⟩:=hzz
 cases sp with
 |false =>
  go_wp2_with fail
  refine wp_region_held_drew (S:=fun w'=>w'.rangeAt gtL ((j+1)*10) csL∧w'.cell? ⟨w.heap.size+1,0,none⟩=some (.int .i64 x)∧w'.cell? ⟨w.heap.size+1,1,none⟩=some (.int .i64 y)∧w'.cell? ⟨gl,0,none⟩=some (.slice (some ⟨gtL,0,none⟩) DL.length tc)∧w'.cell? ⟨w.heap.size,0,none⟩=some (.slice (some ⟨b,o,none⟩) ul cap)) (by kernel_rfl) C0 (fun hS0=>?_)
  simp only[rz,Nat.zero_add,Nat.reduceAdd]
  refine tq 0 137 ?_
  simp only[Act.put,pz]
  refine tq 1 138 ?_
  simp only[Act.put,pz]
  refine tq 2 139 ?_
  simp only[Act.put,pz]
  refine tq 3 140 ?_
  simp only[Act.put,pz]
  refine tq 4 141 ?_
  simp only[Act.put,pz]
  refine tq 5 142 ?_
  simp only[Act.put,pz]
  refine tq 6 143 ?_
  simp only[Act.put,pz]
  refine tq 7 144 ?_
  simp only[Act.put,pz]
  refine tq 8 145 ?_
  simp only[Act.put,pz]
  refine tq 9 146 ?_
  simp only[Act.put,pz]
  refine tq 10 147 ?_
  simp only[Act.put,pz]
  refine rd1 11 rfl fun K hK=>?_
  go_simp
  (go_at_call 186;refine(HSP.out _ (HF0.out.below HB1.out.drew) (HL0.out.below HB1.out.drew)).mono ?_;rintro e w2 ⟨rfl,b2⟩;have B2:Below W0.heap.size W0 w2:=HB1.out.drew.trans (b2.mono HB1.out.drew.size))
  go_simp
  refine hK.out _ _ (S0.out _ B2) (fun _=>?_)
  refine tq 12 149 ?_
  simp only[Act.put,pz]
  refine tq 13 150 ?_
  simp only[Act.put,pz]
  refine tn 14 151 ?_
  simp only[Act.put,pz]
  refine tn 15 152 ?_
  simp only[Act.put,pz]
  refine tn 16 153 ?_
  simp only[Act.put,pz]
  refine tn 17 154 ?_
  simp only[Act.put,pz]
  refine tn 18 155 ?_
  simp only[Act.put,pz]
  refine tn 19 156 ?_
  simp only[Act.put,pz]
  refine tn 20 157 ?_
  simp only[Act.put,pz]
  refine tn 21 158 ?_
  simp only[Act.put,pz]
  refine tn 22 159 ?_
  simp only[Act.put,pz]
  refine tn 23 160 ?_
  simp only[Act.put,pz]
  refine tn 24 161 ?_
  simp only[Act.put,pz]
  refine tn 25 162 ?_
  simp only[Act.put,pz]
  refine tq 26 163 ?_
  simp only[Act.put,pz]
  refine tq 27 10 ?_
  simp only[Act.put,pz]
  refine zD (by kernel_rfl) ?_ _
  go_wp2_with fail
  go_ret
  exact⟨qm (by rw[HRR.out];cases qL<;>rfl),HB0.out.trans (B2.mono HB0.out.size)⟩
 |true =>
  go_wp2_with fail
  refine wp_region_held_drew (S:=fun w'=>w'.rangeAt gtL ((j+1)*10) csL∧w'.cell? ⟨w.heap.size+1,0,none⟩=some (.int .i64 x)∧w'.cell? ⟨w.heap.size+1,1,none⟩=some (.int .i64 y)∧w'.cell? ⟨gl,0,none⟩=some (.slice (some ⟨gtL,0,none⟩) DL.length tc)∧w'.cell? ⟨w.heap.size,0,none⟩=some (.slice (some ⟨b,o,none⟩) ul cap)) (by kernel_rfl) C0 (fun hS0=>?_)
  simp only[rz,Nat.zero_add,Nat.reduceAdd]
  refine tq 0 137 ?_
  simp only[Act.put,pz]
  refine tq 1 138 ?_
  simp only[Act.put,pz]
  refine tq 2 139 ?_
  simp only[Act.put,pz]
  refine tq 3 140 ?_
  simp only[Act.put,pz]
  refine tq 4 141 ?_
  simp only[Act.put,pz]
  refine tq 5 142 ?_
  simp only[Act.put,pz]
  refine tq 6 143 ?_
  simp only[Act.put,pz]
  refine tq 7 144 ?_
  simp only[Act.put,pz]
  refine tq 8 145 ?_
  simp only[Act.put,pz]
  refine tq 9 146 ?_
  simp only[Act.put,pz]
  refine tq 10 147 ?_
  simp only[Act.put,pz]
  refine rd1 11 rfl fun K hK=>?_
  go_simp
  (go_at_call 186;refine(HSP.out _ (HF0.out.below HB1.out.drew) (HL0.out.below HB1.out.drew)).mono ?_;rintro e w2 ⟨rfl,b2⟩;have B2:Below W0.heap.size W0 w2:=HB1.out.drew.trans (b2.mono HB1.out.drew.size))
  go_simp
  refine hK.out _ _ (S0.out _ B2) (fun _=>?_)
  refine tq 12 149 ?_
  simp only[Act.put,pz]
  refine tq 13 150 ?_
  simp only[Act.put,pz]
  refine tq 14 151 ?_
  simp only[Act.put,pz]
  refine tq 15 152 ?_
  simp only[Act.put,pz]
  refine tq 16 153 ?_
  simp only[Act.put,pz]
  refine tq 17 154 ?_
  simp only[Act.put,pz]
  refine tq 18 155 ?_
  simp only[Act.put,pz]
  refine tq 19 156 ?_
  simp only[Act.put,pz]
  refine ql (i:=20) 157 rfl rfl (by kernel_rfl) (by kernel_rfl) (by kernel_rfl) (fun _ _ _ h=>h) (yieldsIf_load_mid (by rfl) _ _ rfl _ _ rfl csL _ (fun w hSw=>hSw.1) hcu rfl hclL) (by assumption) ?_
  simp only[Act.put,pz]
  refine tq 21 158 ?_
  simp only[Act.put,pz]
  refine tq 22 159 ?_
  simp only[Act.put,pz]
  refine tq 23 160 ?_
  simp only[Act.put,pz]
  refine tq 24 161 ?_
  simp only[Act.put,pz]
  refine rd1 25 rfl fun K hK=>?_
  go_simp
  (go_at_call 26;refine(HHL.out _).mono ?_;rintro e w3 ⟨rfl,b3⟩;have B3:Below W0.heap.size W0 w3:=B2.trans (b3.mono B2.size))
  go_simp
  refine hK.out _ _ (S0.out _ B3) (fun _=>?_)
  refine tq 26 163 ?_
  simp only[Act.put,pz]
  refine tq 27 10 ?_
  simp only[Act.put,pz]
  refine zD (by kernel_rfl) ?_ _
  go_wp2_with fail
  go_ret
  exact⟨qm (by rw[HRR.out];cases qL<;>rfl),HB0.out.trans (B3.mono HB0.out.size)⟩
def Lets (u:List Tok):Prop:=∀t∈u,∀c r,t.text=c::r→q0e (c.toNat:Int)=true→∀q∈t.text,q0e (q.toNat:Int)=true
theorem j7v (l:By):∀c:UInt8,q0e (c.toNat:Int)=true→∀q∈l.take (q0w c l),q0e (q.toNat:Int)=true:=by
 induction l with
 |nil=>intro c _ q hq;simp at hq
 |cons d r ih =>
  intro c hc
  rw[q0w]
  by_cases hr:q7Y (c.toNat:Int) (d.toNat:Int)=true
  ·rw[if_pos hr]
   have hdc:qp (c.toNat:Int)=false:=by unfold q0e at hc;unfold qp;simp at hc ⊢;omega
   have hd:q0e (d.toNat:Int)=true:=by
    unfold q7Y at hr
    rw[hdc,hc]at hr
    simpa using hr
   rw[List.take_succ_cons]
   intro q hq
   rcases List.mem_cons.1 hq with rfl|hq
   ·exact hd
   ·exact ih d hd q hq
  ·rw[if_neg hr];intro q hq;simp at hq
theorem j6W (s:By):∀(f i:Nat) (acc:List Tok),Lets acc→Lets (q2m s f i acc).1:=by
 intro f
 induction f with
 |zero=>intro i acc h;exact h
 |succ f ih =>
  intro i acc h
  rw[q2m]
  by_cases h1:s.length≤i
  ·rw[if_pos h1];exact h
  ·rw[if_neg h1]
   by_cases h2:q2z (s.getD i 0)=true
   ·rw[if_pos h2];exact ih _ _ h
   ·rw[if_neg h2]
    by_cases h3:q3p (s.getD i 0) (cut s i (qA s i))=true
    ·rw[if_pos h3]
     refine ih _ _ (fun t ht=>?_)
     rcases List.mem_append.1 ht with ht|ht
     ·exact h t ht
     ·have:=List.mem_singleton.1 ht
      subst this
      intro c r e hc
      simp only[]at e ⊢
      rw[q6w s i (by omega)]at e ⊢
      injection e with e1 e2
      rw[←e1]at hc
      intro q hq
      rcases List.mem_cons.1 hq with rfl|hq
      ·exact hc
      ·exact j7v _ _ hc q hq
    ·rw[if_neg h3];intro t ht;simp at ht
theorem lex_lets (s:By):Lets (q0u s).1:=j6W s _ _ _ (fun t ht=>by simp at ht)
theorem Lets.sub {u u':List Tok}(h:Lets u)(hs:∀t∈u',t∈u):Lets u':=fun t ht=>h t (hs t ht)
theorem argS_len (t:By)(x y:Nat)(h:t.length≤8):(q9J t x y).length≤8:=by
 unfold q9J
 split
 ·show(1:Nat)≤8;omega
 ·split
  ·show(1:Nat)≤8;omega
  ·exact h
theorem spk_len {u:List Tok}(hg:q3t u)(x y k:Nat):(q5p u x y k).length≤8+8*u.length:=by
 have e1:(hd u).length≤8:=by
  cases u with
  |nil=>simp[hd]
  |cons t r=>exact q5d (hg t (by simp))
 have e2:∀l:List Tok,(∀t∈l,t∈u)→(l.flatMap fun t=>q9J t.text x y).length≤8*l.length:=by
  intro l
  induction l with
  |nil=>intro _;simp
  |cons t r ih =>
   intro hl
   have h1:=argS_len t.text x y (q5d (hg t (hl t (by simp))))
   have h2:=ih (fun q hq=>hl q (by simp[hq]))
   simp only[List.flatMap_cons,List.length_append,List.length_cons]
   omega
 have e3:=e2 ((u.take k).drop 1) (fun t ht=>List.mem_of_mem_take (List.mem_of_mem_drop ht))
 have e4:((u.take k).drop 1).length≤u.length:=by simp;omega
 unfold q5p
 rw[List.length_append]
 omega
theorem j6f {u:List Tok}{lo hi:By}(hg:q3t u)(h4:4<u.length)(e4:(u[4]).text=hi)(e2:(u[2]'(by omega)).text=lo)(n1:q4o lo=true)(n2:q4B hi=true):SpanIn u lo hi:=
 ⟨h4,e2,e4,by have:=q2N (hg (u[2]'(by omega)) (List.getElem_mem _)) (by rw[e2];exact n1);rw[e2]at this;exact this,fun hs=>by
  have:=q2N (hg u[4] (List.getElem_mem _)) (by rw[e4];exact q9w n2 hs)
  rw[e4]at this
  exact this⟩
theorem nodeP_5 {nd:PNode}{L:List LPt}{A B:Nat→Nat→Nat→Bool}{i x y:Nat}(h:nd.kind=5):qv nd L A B i x y=true:=by unfold qv;rw[if_pos h]
theorem nodeP_2 {nd:PNode}{L:List LPt}{A B:Nat→Nat→Nat→Bool}{i x y:Nat}(h:nd.kind=2):qv nd L A B i x y=(q8Z L i).any (evP nd x y):=by unfold qv;rw[h];rfl
theorem nodeP_6 {nd:PNode}{L:List LPt}{A B:Nat→Nat→Nat→Bool}{i x y:Nat}(h:nd.kind=6):qv nd L A B i x y=(A i x y&&B i x y):=by unfold qv;rw[h];rfl
theorem nodeP_7 {nd:PNode}{L:List LPt}{A B:Nat→Nat→Nat→Bool}{i x y:Nat}(h:nd.kind=7):qv nd L A B i x y=(A i x y&&!B i x y):=by unfold qv;rw[h];rfl
theorem nodeP_8 {nd:PNode}{L:List LPt}{A B:Nat→Nat→Nat→Bool}{i x y:Nat}(h:nd.kind=8):qv nd L A B i x y=(A i x y || B i x y):=by unfold qv;rw[h];rfl
theorem nodeP_9 {nd:PNode}{L:List LPt}{A B:Nat→Nat→Nat→Bool}{i x y:Nat}(h:nd.kind=9):qv nd L A B i x y=(List.range 10).any (fun v=>if nd.var=3 then A i v y else A i x v):=by unfold qv;rw[h];rfl
theorem nodeP_10 {nd:PNode}{L:List LPt}{A B:Nat→Nat→Nat→Bool}{i x y:Nat}(h:nd.kind=10):qv nd L A B i x y=(decide (0<i)&&(q0L nd (q0l L i (i-1))&&A (i-1) x y)):=by unfold qv;rw[h];rfl
theorem nodeP_11 {nd:PNode}{L:List LPt}{A B:Nat→Nat→Nat→Bool}{i x y:Nat}(h:nd.kind=11):qv nd L A B i x y=(decide (i+1<L.length)&&(q0L nd (q0l L i (i+1))&&A (i+1) x y)):=by unfold qv;rw[h];rfl
theorem q7k {nd:PNode}{L:List LPt}{A B:Nat→Nat→Nat→Bool}{i x y:Nat}(h:nd.kind=12∨nd.kind=14∨nd.kind=15):qv nd L A B i x y=q5b (fun j=>q0L nd (q0l L i j)) (q1q nd A B x y) (q0y nd A x y) (fun m=>i-m) (i+1):=by
 unfold qv
 rcases h with h|h|h<;>(rw[h];rfl)
theorem q7l {nd:PNode}{L:List LPt}{A B:Nat→Nat→Nat→Bool}{i x y:Nat}(h:nd.kind=13∨nd.kind=16∨nd.kind=17):qv nd L A B i x y=q5b (fun j=>q0L nd (q0l L i j)) (q1q nd A B x y) (q0y nd A x y) (fun m=>i+m) (L.length-i):=by
 unfold qv
 rcases h with h|h|h<;>(rw[h];rfl)
def q5U (w:World)(DL:List (LPt × Value)):Prop:=∀(i:Nat) (hi:i<DL.length),q1f w (DL[i]).2 ((DL[i]).1.haps.map q5D)∧∀h∈(DL[i]).1.haps,HpOk h
theorem q5U.below {w w':World}{DL:List (LPt × Value)}(h:q5U w DL)(hb:Below w.heap.size w w'):q5U w' DL:=fun i hi=>⟨(h i hi).1.below hb,(h i hi).2⟩
structure PartT (w:World)(lv:Value)(l r:zl)(n:Nat)(HA HB:Nat→Nat→Nat→Bool):Prop where
 one:l≠.nil→r=.nil→∃vA,TabsAt w lv false vA vA n HA HA
 two:r≠.nil→∃vA vB,TabsAt w lv true vA vB n HA HB
theorem PartT.below {w w':World}{lv:Value}{l r:zl}{n:Nat}{HA HB:Nat→Nat→Nat→Bool}(h:PartT w lv l r n HA HB)(hb:Below w.heap.size w w'):PartT w' lv l r n HA HB:=
 ⟨fun h1 h2=>by obtain⟨a,q⟩:=h.one h1 h2;exact⟨a,q.below hb⟩,fun h1=>by obtain⟨a,b,q⟩:=h.two h1;exact⟨a,b,q.below hb⟩⟩
theorem hapsL_at {DL:List (LPt × Value)}{i:Nat}(hi:i<DL.length):q8Z (zs DL) i=(DL[i]).1.haps:=by
 unfold q8Z zs
 rw[List.getElem?_map,zG hi]
 rfl
abbrev q5x (v lv dv:Value)(_DL:List (LPt × Value))(i x z:Nat)(w:World)(q:Bool):Prop:=
 Calls Tryz.prog 177 #[v,lv,dv,.int .i64 i,.agg #[.int .i64 x,.int .i64 z]] w fun e w'=>e=.returned (.bool q)∧Below w.heap.size w w'
theorem q1r {v lv dv:Value}{DL:List (LPt × Value)}{i x z:Nat}{w:World}{q q':Bool}(h:q5x v lv dv DL i x z w q)(e:q=q'):q5x v lv dv DL i x z w q':=e ▸ h
theorem q9v (a:Bool):(a != false)=a∧(a != true)=!a:=by cases a<;>exact⟨rfl,rfl⟩
theorem j0v (p sp:Nat)(y:Pay)(u:List Tok)(hn:zv y.word=true)(ha:∃q1 q2 q3 a,q3Q a=true∧((y.args=[a]∧u=[⟨y.word,p⟩,⟨[40],q1⟩,⟨a,q2⟩,⟨[41],q3⟩])∨∃b q4 q5,q3Q b=true∧y.args=[a,b]∧u=[⟨y.word,p⟩,⟨[40],q1⟩,⟨a,q2⟩,⟨[44],q4⟩,⟨b,q5⟩,⟨[41],q3⟩]))
  (hg:q3t u)(hl:Lets u)(v lv dv:Value)(DL:List (LPt × Value))(HA HB:Nat→Nat→Nat→Bool)(i x z:Nat)(hi:i<DL.length)(hx:x<10)(hz:z<10)(w:World)(h:qB w v u)(hL:DLogAt w dv DL)(hH:q5U w DL) :
  q5x v lv dv DL i x z w (qv (zz 0 p sp y .nil .nil) (zs DL) HA HB i x z):=by
 have hu:hd u=y.word∧u.length≤6∧q5p u x z u.length=q8P y.word y.args x z∧(∀a∈y.args,q3Q a=true)∧(y.args.length=1∨y.args.length=2):=by
  have s40:q9J [40] x z=[40]:=rfl
  have s41:q9J [41] x z=[41]:=rfl
  have s44:q9J [44] x z=[44]:=rfl
  obtain⟨q1,q2,q3,a,hb,⟨e1,rfl⟩|⟨b,q4,q5,hb2,e1,rfl⟩⟩:=ha
  ·refine⟨rfl,by simp,?_,by rw[e1];simpa using hb,.inl (by rw[e1];rfl)⟩
   rw[e1]
   simp only[q5p,hd,List.length_cons,List.length_nil,List.take_succ_cons,List.take_zero,List.drop_succ_cons,List.drop_zero,List.flatMap_cons,List.flatMap_nil,s40,s41,j4I hb,q8P,q5D,List.map_cons,List.map_nil]
   simp
  ·refine⟨rfl,by simp,?_,by rw[e1];simp[hb,hb2],.inr (by rw[e1];rfl)⟩
   rw[e1]
   simp only[q5p,hd,List.length_cons,List.length_nil,List.take_succ_cons,List.take_zero,List.drop_succ_cons,List.drop_zero,List.flatMap_cons,List.flatMap_nil,s40,s41,s44,j4I hb,j4I hb2,q8P,q5D,List.map_cons,List.map_nil]
   simp
 obtain⟨h1,h2,h3,h4,h5⟩:=hu
 have hm:(⟨y.word,p⟩:Tok)∈u:=by
  obtain⟨q1,q2,q3,a,hb,⟨e1,rfl⟩|⟨b,q4,q5,hb2,e1,rfl⟩⟩:=ha<;>simp
 have hk:zk y.word=2:=by
  have:=(q0m (hg _ hm)).name
  simp only[]at this
  rw[hn]at this
  simpa using this.symm
 have hw:y.word.length≤8∧∀q∈y.word,q0e (q.toNat:Int)=true:=by
  refine⟨q5d (hg _ hm),?_⟩
  cases e:y.word with
  |nil=>intro q hq;simp at hq
  |cons c r =>
   have hc:q0e (c.toNat:Int)=true:=by
    rw[e]at hn
    unfold zv at hn
    simp only[Bool.and_eq_true]at hn
    exact hn.1
   have:=hl _ hm c r e hc
   simp only[]at this
   rw[e]at this
   exact this
 refine q1r (q9p v u lv dv DL _ i x z hi hx hz (fun k=>by have:=spk_len hg x z k;omega) w h (by rw[h1];exact hn) hL (hH i hi).1) ?_
 rw[nodeP_2 hk,h3,hapsL_at hi]
 unfold inB
 rw[List.any_map]
 have hok:=(hH i hi).2
 rw[Bool.eq_iff_iff,List.any_eq_true,List.any_eq_true]
 constructor
 ·rintro⟨q,hq,hv⟩
  exact⟨q,hq,by rw[j5N 0 p sp hn hk hw h4 h5 x z hx hz (hok q hq)];exact hv⟩
 ·rintro⟨q,hq,hv⟩
  exact⟨q,hq,by rw[j5N 0 p sp hn hk hw h4 h5 x z hx hz (hok q hq)]at hv;exact hv⟩
theorem j7u (s:Nat→Nat→Bool)(x z:Nat)(hx:x<10)(hz:z<10)(nm:By)(k:Int)(hk:nm=[120]∧k=3∨nm=[121]∧k=4):q9j (zf s) x z nm=(List.range 10).any (fun v=>if k=3 then s v z else s x v):=by
 unfold q9j
 rw[Bool.eq_iff_iff,List.any_eq_true,List.any_eq_true]
 have hp:∀n,n<10→q8e (zf s) x z nm n=if k=3 then s n z else s x n:=by
  intro n hn
  unfold q8e
  rcases hk with⟨rfl,rfl⟩|⟨rfl,rfl⟩
  ·rw[if_neg (by decide),if_pos rfl];exact j0D s n z hn hz
  ·rw[if_pos (by decide),if_neg (by decide)];exact j0D s x n hx hn
 constructor
 ·rintro⟨n,hn,hv⟩
  exact⟨n,hn,by rw[←hp n (List.mem_range.1 hn)];exact hv⟩
 ·rintro⟨n,hn,hv⟩
  exact⟨n,hn,by rw[hp n (List.mem_range.1 hn)];exact hv⟩
theorem j7l (p sp:Nat)(y:Pay)(l r:zl)(u:List Tok)(hR:qz (.node p sp y l r) u)(hg:q3t u)(hl:Lets u)(v lv dv:Value)(DL:List (LPt × Value))(HA HB:Nat→Nat→Nat→Bool)(i x z:Nat)(hi:i<DL.length)(hx:x<10)(hz:z<10)(hM:q9H (zs DL))(w:World)(h:qB w v u)(hT:PartT w lv l r DL.length HA HB)(hL:DLogAt w dv DL)(hH:q5U w DL) :
  q5x v lv dv DL i x z w (qv (zz 0 p sp y l r) (zs DL) HA HB i x z):=by
 have hN:NodeOk y l r:=(j0t _ _ hR hg).1
 have hwd:hd u=y.word:=q3z hR
 rcases hR with⟨hn,e1,e2,rfl,rfl,ha⟩|⟨hn,hw,e1,e2,rfl,v',q1,q2,q3,ul,hv,ea,hl',rfl⟩|⟨hn,hw,ea,e1,e2,q1,q2,q3,ul,ur,hl',hr',hu⟩|⟨hn,hw,ea,rfl,hlo,hhi,q1,q2,q3,q4,q5,q6,ul,hl',hu⟩|⟨hn,hw,ea,hlo,hhi,q1,q2,q3,q4,q5,q6,q7,ul,ur,hl',hr',hu⟩|⟨hn,hw,ea,e1,e2,rfl,rfl,hu⟩
 ·exact j0v p sp y u hn ha hg hl v lv dv DL HA HB i x z hi hx hz w h hL hH
 ·obtain⟨vA,hTA⟩:=hT.one (q1z hl') rfl
  refine q1r (q8H v _ lv dv DL vA vA HA HA i x z hi hx hz v' (by simp) rfl w h (by rw[hwd];exact hw) hTA hL) ?_
  have hk:(zz 0 p sp y l .nil).kind=9:=by show zk y.word=9;rw[hw];decide
  have hvr:(zz 0 p sp y l .nil).var=zk v':=by
   show(if exB y.word then zk (y.args.getD 0 [])else 0)=_
   rw[show exB y.word=true by rw[hw];decide,ea]
   rfl
  rw[nodeP_9 hk,hvr]
  refine j7u (HA i) x z hx hz v' (zk v') ?_
  rcases j2K hv with rfl|rfl
  ·exact .inl ⟨rfl,by decide⟩
  ·exact .inr ⟨rfl,by decide⟩
 ·obtain⟨vA,vB,hTA⟩:=hT.two (q1z hr')
  unfold q0o inB q4P at hw
  simp only[List.any_cons,List.any_nil,Bool.or_false,Bool.or_eq_true,beq_iff_eq]at hw
  rcases hw with hw|hw|hw
  ·exact q1r (j1h v u lv dv DL vA vB HA HB i x z hi hx hz w h (by rw[hwd,←hw]) hTA hL) (nodeP_6 (show zk y.word=6 by rw[←hw];decide)).symm
  ·exact q1r (j1i v u lv dv DL vA vB HA HB i x z hi hx hz w h (by rw[hwd,←hw]) hTA hL) (nodeP_7 (show zk y.word=7 by rw[←hw];decide)).symm
  ·exact q1r (j2C v u lv dv DL vA vB HA HB i x z hi hx hz w h (by rw[hwd,←hw]) hTA hL) (nodeP_8 (show zk y.word=8 by rw[←hw];decide)).symm
 ·obtain⟨vA,hTA⟩:=hT.one (q1z hl') rfl
  have h4:4<u.length:=by rw[hu];simp
  have hS:SpanIn u y.lo y.hi:=j6f hg h4 (by subst hu;rfl) (by subst hu;rfl) hlo hhi
  unfold q0Q inB j0Y at hw
  simp only[List.any_cons,List.any_nil,Bool.or_false,Bool.or_eq_true,beq_iff_eq]at hw
  rcases hw with hw|hw|hw|hw
  ·have hk:(zz 0 p sp y l .nil).kind=10:=by show zk y.word=10;rw[←hw];decide
   rw[nodeP_10 hk]
   cases i with
   |zero=>exact q7V v u lv dv DL vA vA HA HA x z w h (by rw[hwd,←hw]) hTA hL
   |succ j =>
    refine q1r (j0y v u lv dv DL vA vA HA HA j x z hi hx hz y.lo y.hi hS w h (by rw[hwd,←hw]) hTA hL) ?_
    rw[q8N hN 0 p sp hM (show j≤j+1 by omega) hi]
    simp
  ·have hk:(zz 0 p sp y l .nil).kind=11:=by show zk y.word=11;rw[←hw];decide
   rw[nodeP_11 hk]
   by_cases hi2:i+1<DL.length
   ·refine q1r (j0w v u lv dv DL vA vA HA HA i x z hi2 hx hz y.lo y.hi hS w h (by rw[hwd,←hw]) hTA hL) ?_
    rw[q8O hN 0 p sp hM (show i≤i+1 by omega) hi2]
    simp[hi2]
   ·refine q1r (q7U v u lv dv DL vA vA HA HA i x z (by omega) (by have:=hL.small;omega) w h (by rw[hwd,←hw]) hTA hL) ?_
    simp[hi2]
  ·have hk:(zz 0 p sp y l .nil).kind=12:=by show zk y.word=12;rw[←hw];decide
   rw[q7k (.inl hk)]
   refine q1r (j0x v u lv dv DL vA vA HA HA i x z hi hx hz y.lo y.hi hS w h (by rw[hwd,←hw]) hTA hL) ?_
   exact j0m hN 0 p sp hM false HA HA i x z hi false _ _ (fun j=>by unfold q1q;rw[if_pos (.inl hk)]) (fun j=>by unfold q0y;rw[hk];rfl)
  ·have hk:(zz 0 p sp y l .nil).kind=13:=by show zk y.word=13;rw[←hw];decide
   rw[q7l (.inl hk)]
   refine q1r (j0z v u lv dv DL vA vA HA HA i x z hi hx hz y.lo y.hi hS w h (by rw[hwd,←hw]) hTA hL) ?_
   exact j2h hN 0 p sp hM false HA HA i x z hi false _ _ (fun j=>by unfold q1q;rw[if_pos (.inr hk)]) (fun j=>by unfold q0y;rw[hk];rfl)
 ·obtain⟨vA,vB,hTA⟩:=hT.two (q1z hr')
  have h4:4<u.length:=by rw[hu];simp
  have hS:SpanIn u y.lo y.hi:=j6f hg h4 (by subst hu;rfl) (by subst hu;rfl) hlo hhi
  unfold q0J inB q9l at hw
  simp only[List.any_cons,List.any_nil,Bool.or_false,Bool.or_eq_true,beq_iff_eq]at hw
  rcases hw with hw|hw|hw|hw
  ·have hk:(zz 0 p sp y l r).kind=14:=by show zk y.word=14;rw[←hw];decide
   rw[q7k (.inr (.inl hk))]
   refine q1r (q9q v u lv dv DL vA vB HA HB i x z hi hx hz y.lo y.hi hS w h (by rw[hwd,←hw]) hTA hL) ?_
   exact j0m hN 0 p sp hM true HA HB i x z hi false _ _ (fun j=>by unfold q1q;rw[hk];rfl) (fun j=>by unfold q0y;rw[hk,(q9v (HA j x z)).1];rfl)
  ·have hk:(zz 0 p sp y l r).kind=15:=by show zk y.word=15;rw[←hw];decide
   rw[q7k (.inr (.inr hk))]
   refine q1r (q7W v u lv dv DL vA vB HA HB i x z hi hx hz y.lo y.hi hS w h (by rw[hwd,←hw]) hTA hL) ?_
   exact j0m hN 0 p sp hM true HA HB i x z hi true _ _ (fun j=>by unfold q1q;rw[hk];rfl) (fun j=>by unfold q0y;rw[hk,(q9v (HA j x z)).2];rfl)
  ·have hk:(zz 0 p sp y l r).kind=16:=by show zk y.word=16;rw[←hw];decide
   rw[q7l (.inr (.inl hk))]
   refine q1r (q9r v u lv dv DL vA vB HA HB i x z hi hx hz y.lo y.hi hS w h (by rw[hwd,←hw]) hTA hL) ?_
   exact j2h hN 0 p sp hM true HA HB i x z hi false _ _ (fun j=>by unfold q1q;rw[hk];rfl) (fun j=>by unfold q0y;rw[hk,(q9v (HA j x z)).1];rfl)
  ·have hk:(zz 0 p sp y l r).kind=17:=by show zk y.word=17;rw[←hw];decide
   rw[q7l (.inr (.inr hk))]
   refine q1r (q7X v u lv dv DL vA vB HA HB i x z hi hx hz y.lo y.hi hS w h (by rw[hwd,←hw]) hTA hL) ?_
   exact j2h hN 0 p sp hM true HA HB i x z hi true _ _ (fun j=>by unfold q1q;rw[hk];rfl) (fun j=>by unfold q0y;rw[hk,(q9v (HA j x z)).2];rfl)
 ·refine q1r (j0A v u lv dv i x z w h (by rw[hwd];exact hw)) ?_
  exact(nodeP_5 (show zk y.word=5 by rw[hw];decide)).symm
def q1p (s:Nat→Nat→Bool)(x y:Nat):Nat→Nat→Bool:=fun a b=>s a b&&(decide (a<x) || (decide (a=x)&&decide (b<y)))
theorem j5J (s:Nat→Nat→Bool)(x y:Nat)(hx:x<10)(hy:y<10)(h:s x y=true):q0O (zf (q1p s x y)) x y=zf (q1p s x (y+1)):=by
 rw[q8K _ x y hx hy]
 congr 1
 funext a b
 unfold q1p
 by_cases ha:a=x
 ·subst ha
  by_cases hb:b=y
  ·subst hb
   rw[h]
   simp
  ·have e1:decide (b<y+1)=decide (b<y):=by rw[Bool.eq_iff_iff];simp;omega
   rw[e1]
   simp[hb]
 ·simp[ha]
theorem acc_no (s:Nat→Nat→Bool)(x y:Nat)(h:s x y=false):q1p s x y=q1p s x (y+1):=by
 funext a b
 unfold q1p
 by_cases ha:a=x
 ·subst ha
  by_cases hb:b=y
  ·subst hb
   rw[h]
   simp
  ·have e1:decide (b<y+1)=decide (b<y):=by rw[Bool.eq_iff_iff];simp;omega
   rw[e1]
 ·simp[ha]
theorem j5I (s:Nat→Nat→Bool)(x:Nat):zf (q1p s x 10)=zf (q1p s (x+1) 0):=by
 funext a
 show((q0S (q1p s x 10 a):Nat):Int)=((q0S (q1p s (x+1) 0 a):Nat):Int)
 rw[q2s (f:=q1p s x 10 a) (g:=q1p s (x+1) 0 a) (fun b hb=>by
  unfold q1p
  have e1:(decide (a<x) || (decide (a=x)&&decide (b<10)))=(decide (a<x+1) || (decide (a=x+1)&&decide (b<0))):=by
   rw[Bool.eq_iff_iff]
   simp
   omega
  rw[e1])]
theorem j2R (s:Nat→Nat→Bool):zf (q1p s 0 0)=fun _=>0:=q4s (fun x y=>by unfold q1p;simp)
theorem j4g {s t:Nat→Nat→Bool}(h:∀x y,x<10→y<10→s x y=t x y):zx (zf s)=zx (zf t):=by
 have e:=fun x hx=>j0C (s:=s) (t:=t) h x hx
 show [_,_,_,_,_,_,_,_,_,_]=[_,_,_,_,_,_,_,_,_,_]
 rw[e 0 (by decide),e 1 (by decide),e 2 (by decide),e 3 (by decide),e 4 (by decide),e 5 (by decide),e 6 (by decide),e 7 (by decide),e 8 (by decide),e 9 (by decide)]
theorem j0E {s t:Nat→Nat→Bool}(h:∀x y,x<10→y<10→s x y=t x y):zn (zf s)=zn (zf t):=by
 have:=j4g h
 show Value.agg (zx (zf s)).toArray=Value.agg (zx (zf t)).toArray
 rw[this]
theorem j5H (s:Nat→Nat→Bool):∀x y,x<10→y<10→q1p s 10 0 x y=s x y:=fun x y hx _=>by unfold q1p;simp[hx]
structure AnAt (w wr:World)(fv:Value)(r:Nat→Int)(s:Nat→Nat→Bool)(x y:Nat):Prop where
 b0:wr.heap[w.heap.size]?=some (.cells #[fv] 149 (0,0))
 b1:wr.heap[w.heap.size+1]?=some (.cells (zx r).toArray 47 (0,0))
 b2:wr.heap[w.heap.size+2]?=some (.cells zCs 47 (0,0))
 b3:wr.heap[w.heap.size+3]?=some (.cells (zx (zf (q1p s x y))).toArray 47 (0,0))
 bel:Below w.heap.size w wr
theorem AnAt.lt {w wr:World}{fv:Value}{r:Nat→Int}{s:Nat→Nat→Bool}{x y:Nat}(h:AnAt w wr fv r s x y):w.heap.size+3<wr.heap.size:=by
 rcases Nat.lt_or_ge (w.heap.size+3) wr.heap.size with g|g
 ·exact g
 ·have:=h.b3;rw[Array.getElem?_eq_none g]at this;simp at this
theorem AnAt.below {w wr w':World}{fv:Value}{r:Nat→Int}{s:Nat→Nat→Bool}{x y:Nat}(h:AnAt w wr fv r s x y)(hb:Below wr.heap.size wr w'):AnAt w w' fv r s x y:=
 ⟨(hb.block _ (by have:=h.lt;omega)).trans h.b0,(hb.block _ (by have:=h.lt;omega)).trans h.b1,(hb.block _ (by have:=h.lt;omega)).trans h.b2,(hb.block _ h.lt).trans h.b3,h.bel.trans (hb.mono h.bel.size)⟩
def AnRelX (w:World)(fv:Value)(r:Nat→Int)(s:Nat→Nat→Bool)(g:Nat)(vi:Value)(wr:World):Prop:=∃x:Nat,x≤10∧10-x≤g∧vi=.int .i64 x∧AnAt w wr fv r s x 0
def AnRelY (w:World)(fv:Value)(r:Nat→Int)(s:Nat→Nat→Bool)(x:Nat)(g:Nat)(vi:Value)(wr:World):Prop:=∃y:Nat,y≤10∧10-y≤g∧vi=.int .i64 y∧AnAt w wr fv r s x y
end Go.Proofs.YtiamjjonoeaggaaGreatDoor
