import Derived.Test.YtiamjjonoeaggabGreatDoorGA
import Derived.Test.YtiamjjonoeaggabGreatDoorGB
import Derived.Test.YtiamjjonoeaggabGreatDoorG27
set_option maxRecDepth 100000
set_option maxHeartbeats 16000000
namespace Go.Proofs.YtiamjjonoeaggabGreatDoor
open Go.RowKit
theorem j2B (v:Value)(u:List Tok)(lv dv:Value)(DL:List (LPt × Value))(vF vL:Value)(HF HL:Nat→Nat→Nat→Bool)(i x y:Nat)(hi':i<DL.length)(hx:x<10)(hy:y<10)(w:World)(h:qB w v u)(hw:hd u=[111,114])(hT:TabsAt w lv true vF vL DL.length HF HL)(hL:DLogAt w dv DL) :
  Calls Tryz.prog 148 #[v,lv,dv,.int .i64 i,.agg #[.int .i64 x,.int .i64 y]] w fun e w'=>e=.returned (.bool (HF i x y || HL i x y))∧Below w.heap.size w w':=by
 obtain⟨b,o,cap,rfl,h1,h2,h3,h4,h5,h6⟩:=qe h
 obtain⟨da,dc,rfl⟩:=qr hL.row
 obtain⟨gl,cl,rfl,hgl,l1,l2,lc0,lc1⟩:=hT.two
 obtain⟨fa,fc,rfl⟩:=hT.fst.form
 obtain⟨ta,tc,rfl⟩:=hT.lst.form
 have hsm:=hL.small
 obtain⟨R,hR⟩:∃R,R=(HF i x y || HL i x y):=⟨_,rfl⟩
 rw[←hR]
 have HRR:=zb hR
 clear hR
 have HT:=zb hT
 have HFR:=zb h
 have HLG:=zb hL
 have HWD:=zb (fun W (q:qB W (.agg #[.slice (some ⟨b,o,none⟩) u.length cap]) u)=>q0b _ u W q)
 rw[hw]at HWD
 clear h h6 hT hL hw
 unfold maxLen at h2 l2
 generalize hun:u.length=ul at *
 clear hun
 go_enter Tryz.func148,Tryz.ntmps148
 go_wp2_with fail
 obtain⟨W0,hW0,hP0,hQ0,hz0,B0⟩:=q7d w #[.slice (some ⟨b,o,none⟩) ul cap] #[.int .i64 x,.int .i64 y] 112 245
 rw[←hW0]
 have HB0:=zb B0
 have HP0:=zb hP0
 have HQ0:=zb hQ0
 have HT0:=zb (HT.out.below B0)
 have HF0:=zb (HFR.out.below B0)
 have HL0:=zb (HLG.out.below B0)
 have lc1:=(zo B0 gl 1 hgl).trans lc1
 have lc0:=(zo B0 gl 0 hgl).trans lc0
 have hgl:=zT hgl B0.size
 have HLC:=zb (And.intro lc1 lc0)
 have CELLF:Hid (∀w',Below W0.heap.size W0 w'→w'.cell? ⟨w.heap.size,0,none⟩=some (.slice (some ⟨b,o,none⟩) ul cap)):=zb (fun w' hb=>by
  have e0:=(hb.block w.heap.size (by omega)).trans HQ0.out
  exact zC _ _ 0 _ _ _ e0)
 have cf0:=CELLF.out _ (zB _ _)
 clear hW0 hP0 hQ0 B0 HT HFR HLG lc1 lc0
 go_wp2_with fail
 refine(HWD.out _ HF0.out).mono ?_
 rintro e w1 ⟨rfl,b1⟩
 have HB1:=zb b1
 have cf1:=CELLF.out _ b1
 have hz1:w.heap.size+1<w1.heap.size:=by have:=b1.size;omega
 clear b1 cf0
 have hkF:i<DL.length:=by omega
 obtain⟨gtF,rfl,hgtF,t1F,t2F,_⟩:=(HT0.out.fst).load hkF
 have CTF:Hid (∀w',Below W0.heap.size W0 w'→w'.rangeAt gtF (i*10) (zx (zf (HF (i))))):=zb (fun w' hb=>by
  obtain⟨g',e',_,_,_,hr⟩:=(HT0.out.fst.below hb).load hkF
  simp only[Option.some.injEq,Addr.mk.injEq,and_true]at e'
  subst e'
  exact hr)
 have HHF:=zb (q2a (HF (i)) x y hx hy)
 obtain⟨csF,hcsF⟩:∃cs,cs=zx (zf (HF (i))):=⟨_,rfl⟩
 have hclF:(Tryz.prog.info? 43).map (·.size)=some csF.length:=by rw[hcsF];kernel_rfl
 rw[show zn (zf (HF (i)))=.agg csF.toArray by rw[hcsF]]at HHF
 rw[←hcsF]at CTF
 clear hcsF
 unfold maxLen at t2F
 generalize HF (i) x y=qF at *
 have hkL:i<DL.length:=by omega
 obtain⟨gtL,rfl,hgtL,t1L,t2L,_⟩:=(HT0.out.lst).load hkL
 have CTL:Hid (∀w',Below W0.heap.size W0 w'→w'.rangeAt gtL (i*10) (zx (zf (HL (i))))):=zb (fun w' hb=>by
  obtain⟨g',e',_,_,_,hr⟩:=(HT0.out.lst.below hb).load hkL
  simp only[Option.some.injEq,Addr.mk.injEq,and_true]at e'
  subst e'
  exact hr)
 have HHL:=zb (q2a (HL (i)) x y hx hy)
 obtain⟨csL,hcsL⟩:∃cs,cs=zx (zf (HL (i))):=⟨_,rfl⟩
 have hclL:(Tryz.prog.info? 43).map (·.size)=some csL.length:=by rw[hcsL];kernel_rfl
 rw[show zn (zf (HL (i)))=.agg csL.toArray by rw[hcsL]]at HHL
 rw[←hcsL]at CTL
 clear hcsL
 unfold maxLen at t2L
 generalize HL (i) x y=qL at *
 have hcu:=Tryz.underlying43
 have S0:Hid (∀w',Below W0.heap.size W0 w'→(w'.rangeAt gtF (i*10) csF∧w'.rangeAt gtL (i*10) csL∧w'.cell? ⟨w.heap.size+1,0,none⟩=some (.int .i64 x)∧w'.cell? ⟨w.heap.size+1,1,none⟩=some (.int .i64 y)∧w'.cell? ⟨gl,0,none⟩=some (.slice (some ⟨gtF,0,none⟩) DL.length fc)∧w'.cell? ⟨gl,1,none⟩=some (.slice (some ⟨gtL,0,none⟩) DL.length tc))):=zb (fun w' hb=>by
  have e1:=(hb.block (w.heap.size+1) (by omega)).trans HP0.out
  exact⟨CTF.out _ hb,CTL.out _ hb,zC _ _ 0 _ _ _ e1,zC _ _ 1 _ _ _ e1,(zo hb gl 0 hgl).trans HLC.out.2,(zo hb gl 1 hgl).trans HLC.out.1⟩)
 have C0:=S0.out _ HB1.out.drew
 clear CTF CTL
 cases qF with
 |false =>
  go_wp2_with fail
  refine wp_region_held_drew (S:=fun w'=>w'.rangeAt gtF (i*10) csF∧w'.rangeAt gtL (i*10) csL∧w'.cell? ⟨w.heap.size+1,0,none⟩=some (.int .i64 x)∧w'.cell? ⟨w.heap.size+1,1,none⟩=some (.int .i64 y)∧w'.cell? ⟨gl,0,none⟩=some (.slice (some ⟨gtF,0,none⟩) DL.length fc)∧w'.cell? ⟨gl,1,none⟩=some (.slice (some ⟨gtL,0,none⟩) DL.length tc)) (by kernel_rfl) C0 (fun hS0=>?_)
  simp only[rz,Nat.zero_add,Nat.reduceAdd]
  refine tq 0 70 ?_
  simp only[Act.put,pz]
  refine tq 1 71 ?_
  simp only[Act.put,pz]
  refine tq 2 72 ?_
  simp only[Act.put,pz]
  refine tq 3 73 ?_
  simp only[Act.put,pz]
  refine tq 4 74 ?_
  simp only[Act.put,pz]
  refine ql (i:=5) 75 rfl rfl (by kernel_rfl) (by kernel_rfl) (by kernel_rfl) (fun _ _ _ h=>h) (yieldsIf_load_mid (by rfl) _ _ rfl _ _ rfl csF _ (fun w hSw=>hSw.1) hcu rfl hclF) (by assumption) ?_
  simp only[Act.put,pz]
  refine tq 6 76 ?_
  simp only[Act.put,pz]
  refine tq 7 77 ?_
  simp only[Act.put,pz]
  refine tq 8 78 ?_
  simp only[Act.put,pz]
  refine tq 9 79 ?_
  simp only[Act.put,pz]
  refine rd1 10 rfl fun K hK=>?_
  go_simp
  (go_at_call 150;refine(HHF.out _).mono ?_;rintro e w2 ⟨rfl,b2⟩;have B2:Below W0.heap.size W0 w2:=HB1.out.drew.trans (b2.mono HB1.out.drew.size))
  go_simp
  refine hK.out _ _ (S0.out _ B2) (fun _=>?_)
  refine tq 11 81 ?_
  simp only[Act.put,pz]
  refine tq 12 82 ?_
  simp only[Act.put,pz]
  refine tq 13 83 ?_
  simp only[Act.put,pz]
  refine tq 14 84 ?_
  simp only[Act.put,pz]
  refine tq 15 85 ?_
  simp only[Act.put,pz]
  refine tq 16 86 ?_
  simp only[Act.put,pz]
  refine ql (i:=17) 87 rfl rfl (by kernel_rfl) (by kernel_rfl) (by kernel_rfl) (fun _ _ _ h=>h) (yieldsIf_load_mid (by rfl) _ _ rfl _ _ rfl csL _ (fun w hSw=>hSw.2.1) hcu rfl hclL) (by assumption) ?_
  simp only[Act.put,pz]
  refine tq 18 88 ?_
  simp only[Act.put,pz]
  refine tq 19 89 ?_
  simp only[Act.put,pz]
  refine tq 20 90 ?_
  simp only[Act.put,pz]
  refine tq 21 91 ?_
  simp only[Act.put,pz]
  refine rd1 22 rfl fun K hK=>?_
  go_simp
  (go_at_call 150;refine(HHL.out _).mono ?_;rintro e w3 ⟨rfl,b3⟩;have B3:Below W0.heap.size W0 w3:=B2.trans (b3.mono B2.size))
  go_simp
  refine hK.out _ _ (S0.out _ B3) (fun _=>?_)
  refine tq 23 93 ?_
  simp only[Act.put,pz]
  refine tq 24 10 ?_
  simp only[Act.put,pz]
  refine zD (by kernel_rfl) ?_ _
  go_wp2_with fail
  go_ret
  exact⟨qm (by rw[HRR.out];cases qL<;>rfl),HB0.out.trans (B3.mono HB0.out.size)⟩
 |true =>
  go_wp2_with fail
  refine wp_region_held_drew (S:=fun w'=>w'.rangeAt gtF (i*10) csF∧w'.rangeAt gtL (i*10) csL∧w'.cell? ⟨w.heap.size+1,0,none⟩=some (.int .i64 x)∧w'.cell? ⟨w.heap.size+1,1,none⟩=some (.int .i64 y)∧w'.cell? ⟨gl,0,none⟩=some (.slice (some ⟨gtF,0,none⟩) DL.length fc)∧w'.cell? ⟨gl,1,none⟩=some (.slice (some ⟨gtL,0,none⟩) DL.length tc)) (by kernel_rfl) C0 (fun hS0=>?_)
  simp only[rz,Nat.zero_add,Nat.reduceAdd]
  refine tq 0 70 ?_
  simp only[Act.put,pz]
  refine tq 1 71 ?_
  simp only[Act.put,pz]
  refine tq 2 72 ?_
  simp only[Act.put,pz]
  refine tq 3 73 ?_
  simp only[Act.put,pz]
  refine tq 4 74 ?_
  simp only[Act.put,pz]
  refine ql (i:=5) 75 rfl rfl (by kernel_rfl) (by kernel_rfl) (by kernel_rfl) (fun _ _ _ h=>h) (yieldsIf_load_mid (by rfl) _ _ rfl _ _ rfl csF _ (fun w hSw=>hSw.1) hcu rfl hclF) (by assumption) ?_
  simp only[Act.put,pz]
  refine tq 6 76 ?_
  simp only[Act.put,pz]
  refine tq 7 77 ?_
  simp only[Act.put,pz]
  refine tq 8 78 ?_
  simp only[Act.put,pz]
  refine tq 9 79 ?_
  simp only[Act.put,pz]
  refine rd1 10 rfl fun K hK=>?_
  go_simp
  (go_at_call 150;refine(HHF.out _).mono ?_;rintro e w2 ⟨rfl,b2⟩;have B2:Below W0.heap.size W0 w2:=HB1.out.drew.trans (b2.mono HB1.out.drew.size))
  go_simp
  refine hK.out _ _ (S0.out _ B2) (fun _=>?_)
  refine tq 11 81 ?_
  simp only[Act.put,pz]
  refine tn 12 82 ?_
  simp only[Act.put,pz]
  refine tn 13 83 ?_
  simp only[Act.put,pz]
  refine tn 14 84 ?_
  simp only[Act.put,pz]
  refine tn 15 85 ?_
  simp only[Act.put,pz]
  refine tn 16 86 ?_
  simp only[Act.put,pz]
  refine tn 17 87 ?_
  simp only[Act.put,pz]
  refine tn 18 88 ?_
  simp only[Act.put,pz]
  refine tn 19 89 ?_
  simp only[Act.put,pz]
  refine tn 20 90 ?_
  simp only[Act.put,pz]
  refine tn 21 91 ?_
  simp only[Act.put,pz]
  refine tn 22 92 ?_
  simp only[Act.put,pz]
  refine tq 23 93 ?_
  simp only[Act.put,pz]
  refine tq 24 10 ?_
  simp only[Act.put,pz]
  refine zD (by kernel_rfl) ?_ _
  go_wp2_with fail
  go_ret
  exact⟨qm (by rw[HRR.out];cases qL<;>rfl),HB0.out.trans (B2.mono HB0.out.size)⟩
theorem q9p (v:Value)(u:List Tok)(lv dv:Value)(DL:List (LPt × Value))(l:List (By))(i x y:Nat)(hi':i<DL.length)(hx:x<10)(hy:y<10)(hsh:∀k,(q5p u x y k).length≤100)(w:World)(h:qB w v u)(hw:zv (hd u)=true)(hL:DLogAt w dv DL)(hS:q1f w (DL[i]).2 l) :
  Calls Tryz.prog 148 #[v,lv,dv,.int .i64 i,.agg #[.int .i64 x,.int .i64 y]] w fun e w'=>e=.returned (.bool (inB (q5p u x y u.length) l))∧Below w.heap.size w w':=by
 obtain⟨b,o,cap,rfl,h1,h2,h3,h4,h5,h6⟩:=qe h
 obtain⟨da,dc,rfl⟩:=qr hL.row
 obtain⟨R,hR⟩:∃R,R=inB (q5p u x y u.length) l:=⟨_,rfl⟩
 rw[←hR]
 have HRR:=zb hR
 clear hR
 have hsm:=hL.small
 have HFR:=zb h
 have HLG:=zb hL
 have HWD:=zb (fun W (q:qB W (.agg #[.slice (some ⟨b,o,none⟩) u.length cap]) u)=>q0b _ u W q)
 have HSPK:=zb (fun W (q:qB W (.agg #[.slice (some ⟨b,o,none⟩) u.length cap]) u)=>j5r _ u x y hx hy hsh W q)
 obtain⟨dg,rfl,hdg,d1,d2,_,_,d5⟩:=hL.at' hi'
 obtain⟨ha,hn,hc,ehv,hnl⟩:=q1n hS
 subst hnl
 rw[ehv]at d5 hS
 have HIN:=zb (fun t W (q:q1f W (.slice ha l.length hc) l)=>q7m t _ l W q)
 have HST:=zb hS
 have n0:=q2A hw [116,114,117,101] (by decide)
 have n1:=q2A hw [97,110,100] (by decide)
 have n2:=q2A hw [98,117,116] (by decide)
 have n3:=q2A hw [111,114] (by decide)
 have n4:=q2A hw [101,120,105,115,116,115] (by decide)
 have n5:=q2A hw [112,114,101,118] (by decide)
 have n6:=q2A hw [110,101,120,116] (by decide)
 have n7:=q2A hw [111,110,99,101] (by decide)
 have n8:=q2A hw [115,105,110,99,101] (by decide)
 have n9:=q2A hw [117,110,115,105,110,99,101] (by decide)
 have n10:=q2A hw [115,111,111,110] (by decide)
 have n11:=q2A hw [117,110,116,105,108] (by decide)
 have n12:=q2A hw [117,110,117,110,116,105,108] (by decide)
 clear h h6 hL hw hsh hS
 unfold maxLen at h2 d2
 generalize q5p u x y u.length=sk at *
 generalize hd u=wd at *
 generalize hun:u.length=ul at *
 clear hun
 go_enter Tryz.func148,Tryz.ntmps148
 go_wp2_with fail
 obtain⟨W0,hW0,hP0,hQ0,hz0,B0⟩:=q7d w #[.slice (some ⟨b,o,none⟩) ul cap] #[.int .i64 x,.int .i64 y] 112 245
 rw[←hW0]
 have HB0:=zb B0
 have HP0:=zb hP0
 have HQ0:=zb hQ0
 have HF0:=zb (HFR.out.below B0)
 have HS0:=zb (HST.out.below B0)
 have d5:=(zo B0 dg (i*3+2) hdg).trans d5
 have hdg:=zT hdg B0.size
 have CELLF:Hid (∀w',Below W0.heap.size W0 w'→w'.cell? ⟨w.heap.size,0,none⟩=some (.slice (some ⟨b,o,none⟩) ul cap)∧w'.cell? ⟨w.heap.size+1,0,none⟩=some (.int .i64 x)∧w'.cell? ⟨w.heap.size+1,1,none⟩=some (.int .i64 y)∧w'.cell? ⟨dg,i*3+2,none⟩=some (.slice ha l.length hc)):=zb (fun w' hb=>by
  have e0:=(hb.block w.heap.size (by omega)).trans HQ0.out
  have e1:=(hb.block (w.heap.size+1) (by omega)).trans HP0.out
  exact⟨zC _ _ 0 _ _ _ e0,zC _ _ 0 _ _ _ e1,zC _ _ 1 _ _ _ e1,(zo hb dg (i*3+2) hdg).trans d5⟩)
 obtain⟨cf0,_⟩:=CELLF.out _ (zB _ _)
 clear hW0 hP0 hQ0 B0 HFR HLG HST
 go_wp2_with fail
 refine(HWD.out _ HF0.out).mono ?_
 rintro e w1 ⟨rfl,b1⟩
 have HB1:=zb b1
 have C0:=CELLF.out _ b1.drew
 have hz1:w.heap.size+1<w1.heap.size:=by have:=b1.size;omega
 clear b1 cf0
 go_wp2_with fail
 refine wp_region_held_drew (S:=fun w'=>w'.cell? ⟨w.heap.size,0,none⟩=some (.slice (some ⟨b,o,none⟩) ul cap)∧w'.cell? ⟨w.heap.size+1,0,none⟩=some (.int .i64 x)∧w'.cell? ⟨w.heap.size+1,1,none⟩=some (.int .i64 y)∧w'.cell? ⟨dg,i*3+2,none⟩=some (.slice ha l.length hc)) (by kernel_rfl) C0 (fun hS0=>?_)
 simp only[rz,Nat.zero_add,Nat.reduceAdd]
 refine tq 0 184 ?_
 simp only[Act.put,pz]
 refine tq 1 185 ?_
 simp only[Act.put,pz]
 refine tq 3 187 ?_
 simp only[Act.put,pz]
 refine tq 4 188 ?_
 simp only[Act.put,pz]
 refine tq 5 189 ?_
 simp only[Act.put,pz]
 refine tq 6 190 ?_
 simp only[Act.put,pz]
 refine tq 7 191 ?_
 simp only[Act.put,pz]
 refine rd1 2 rfl fun K hK=>?_
 go_simp
 (go_at_call 178;refine(HSPK.out _ (HF0.out.below HB1.out.drew)).mono ?_;rintro e w2 ⟨rfl,b2⟩;have B2:Below W0.heap.size W0 w2:=HB1.out.drew.trans (b2.mono HB1.out.drew.size))
 go_simp
 refine hK.out _ _ (CELLF.out _ B2) (fun _=>?_)
 refine rd1 8 rfl fun K hK=>?_
 go_simp
 (go_at_call 112;refine(HIN.out _ _ (HS0.out.below B2)).mono ?_;rintro e w3 ⟨rfl,rfl⟩)
 go_simp
 refine hK.out _ _ (CELLF.out _ B2) (fun _=>?_)
 refine tq 9 10 ?_
 simp only[Act.put,pz]
 refine zD (by kernel_rfl) ?_ _
 go_wp2_with fail
 go_ret
 exact⟨qm HRR.out.symm,HB0.out.trans (B2.mono HB0.out.size)⟩
theorem j0A (v:Value)(u:List Tok)(lv dv:Value)(i x y:Nat)(w:World)(h:qB w v u)(hw:hd u=[116,114,117,101]) :
  Calls Tryz.prog 148 #[v,lv,dv,.int .i64 i,.agg #[.int .i64 x,.int .i64 y]] w fun e w'=>e=.returned (.bool true)∧Below w.heap.size w w':=by
 obtain⟨b,o,cap,rfl,h1,h2,h3,h4,h5,h6⟩:=qe h
 have HFR:=zb h
 have HWD:=zb (fun W (q:qB W (.agg #[.slice (some ⟨b,o,none⟩) u.length cap]) u)=>q0b _ u W q)
 rw[hw]at HWD
 clear h h6 hw
 generalize hun:u.length=ul at *
 clear hun
 go_enter Tryz.func148,Tryz.ntmps148
 go_wp2_with fail
 have B0:Below w.heap.size w ((w.alloc (.cells #[.slice (some ⟨b,o,none⟩) ul cap] 112)).alloc (.cells #[.int .i64 x,.int .i64 y] 245)):=Joins.below_alloc2 _ _ _
 refine(HWD.out _ (HFR.out.below B0)).mono ?_
 rintro e w1 ⟨rfl,b1⟩
 have HB1:=zb (B0.trans (b1.mono B0.size))
 clear b1 B0
 go_wp2_with fail
 go_ret
 exact⟨rfl,HB1.out⟩
theorem q8H (v:Value)(u:List Tok)(lv dv:Value)(DL:List (LPt × Value))(vF vL:Value)(HF HL:Nat→Nat→Nat→Bool)(i x y:Nat)(hi':i<DL.length)(_hx:x<10)(_hy:y<10)(nm:By)(hl1:1<u.length)(hnm:(u[1]).text=nm)(w:World)(h:qB w v u)(hw:hd u=[101,120,105,115,116,115])(hT:TabsAt w lv false vF vL DL.length HF HL)(hL:DLogAt w dv DL) :
  Calls Tryz.prog 148 #[v,lv,dv,.int .i64 i,.agg #[.int .i64 x,.int .i64 y]] w fun e w'=>e=.returned (.bool (q9j (zf (HL i)) x y nm))∧Below w.heap.size w w':=by
 obtain⟨b,o,cap,rfl,h1,h2,h3,h4,h5,h6⟩:=qe h
 obtain⟨da,dc,rfl⟩:=qr hL.row
 obtain⟨gl,cl,rfl,hgl,l1,l2,lc1⟩:=hT.one
 obtain⟨fa,fc,rfl⟩:=hT.fst.form
 obtain⟨ta,tc,rfl⟩:=hT.lst.form
 have hsm:=hL.small
 obtain⟨R,hR⟩:∃R,R=(q9j (zf (HL i)) x y nm):=⟨_,rfl⟩
 rw[←hR]
 have HRR:=zb hR
 clear hR
 have HT:=zb hT
 have HFR:=zb h
 have HLG:=zb hL
 have HWD:=zb (fun W (q:qB W (.agg #[.slice (some ⟨b,o,none⟩) u.length cap]) u)=>q0b _ u W q)
 rw[hw]at HWD
 have tk:=(h6 1 hl1).1
 rw[hnm,show o+1*2=o+2 by omega]at tk
 clear h h6 hT hL hw hnm
 unfold maxLen at h2 l2
 generalize hun:u.length=ul at *
 clear hun
 go_enter Tryz.func148,Tryz.ntmps148
 go_wp2_with fail
 obtain⟨W0,hW0,hP0,hQ0,hz0,B0⟩:=q7d w #[.slice (some ⟨b,o,none⟩) ul cap] #[.int .i64 x,.int .i64 y] 112 245
 rw[←hW0]
 have HB0:=zb B0
 have HP0:=zb hP0
 have HQ0:=zb hQ0
 have HT0:=zb (HT.out.below B0)
 have HF0:=zb (HFR.out.below B0)
 have HL0:=zb (HLG.out.below B0)
 have lc1:=(zo B0 gl 0 hgl).trans lc1
 have hgl:=zT hgl B0.size
 have HLC:=zb (And.intro lc1 trivial)
 have CELLF:Hid (∀w',Below W0.heap.size W0 w'→w'.cell? ⟨w.heap.size,0,none⟩=some (.slice (some ⟨b,o,none⟩) ul cap)):=zb (fun w' hb=>by
  have e0:=(hb.block w.heap.size (by omega)).trans HQ0.out
  exact zC _ _ 0 _ _ _ e0)
 have cf0:=CELLF.out _ (zB _ _)
 have tk:=(zo B0 b (o+2) h3).trans tk
 have h3:=zT h3 B0.size
 clear hW0 hP0 hQ0 B0 HT HFR HLG lc1
 go_wp2_with fail
 refine(HWD.out _ HF0.out).mono ?_
 rintro e w1 ⟨rfl,b1⟩
 have HB1:=zb b1
 have cf1:=CELLF.out _ b1
 have hz1:w.heap.size+1<w1.heap.size:=by have:=b1.size;omega
 clear b1 cf0
 have hkL:i<DL.length:=by omega
 obtain⟨gtL,rfl,hgtL,t1L,t2L,_⟩:=(HT0.out.lst).load hkL
 have CTL:Hid (∀w',Below W0.heap.size W0 w'→w'.rangeAt gtL (i*10) (zx (zf (HL (i))))):=zb (fun w' hb=>by
  obtain⟨g',e',_,_,_,hr⟩:=(HT0.out.lst.below hb).load hkL
  simp only[Option.some.injEq,Addr.mk.injEq,and_true]at e'
  subst e'
  exact hr)
 have HHL:=zb (ref_some (zf (HL (i))) x y nm)
 obtain⟨csL,hcsL⟩:∃cs,cs=zx (zf (HL (i))):=⟨_,rfl⟩
 have hclL:(Tryz.prog.info? 43).map (·.size)=some csL.length:=by rw[hcsL];kernel_rfl
 rw[show zn (zf (HL (i)))=.agg csL.toArray by rw[hcsL]]at HHL
 rw[←hcsL]at CTL
 clear hcsL
 unfold maxLen at t2L
 generalize q9j (zf (HL (i))) x y nm=qL at *
 have hcu:=Tryz.underlying43
 have hul1:(1:Int)<(ul:Int):=by omega
 have S0:Hid (∀w',Below W0.heap.size W0 w'→(w'.rangeAt gtL (i*10) csL∧w'.cell? ⟨w.heap.size+1,0,none⟩=some (.int .i64 x)∧w'.cell? ⟨w.heap.size+1,1,none⟩=some (.int .i64 y)∧w'.cell? ⟨gl,0,none⟩=some (.slice (some ⟨gtL,0,none⟩) DL.length tc)∧w'.cell? ⟨w.heap.size,0,none⟩=some (.slice (some ⟨b,o,none⟩) ul cap)∧w'.cell? ⟨b,o+2,none⟩=some (bs nm))):=zb (fun w' hb=>by
  have e1:=(hb.block (w.heap.size+1) (by omega)).trans HP0.out
  exact⟨CTL.out _ hb,zC _ _ 0 _ _ _ e1,zC _ _ 1 _ _ _ e1,(zo hb gl 0 hgl).trans HLC.out.1,CELLF.out _ hb,(zo hb b (o+2) h3).trans tk⟩)
 have C0:=S0.out _ HB1.out.drew
 clear CTL
 go_wp2_with fail
 go_region_held3 (fun w'=>w'.rangeAt gtL (i*10) csL∧w'.cell? ⟨w.heap.size+1,0,none⟩=some (.int .i64 x)∧w'.cell? ⟨w.heap.size+1,1,none⟩=some (.int .i64 y)∧w'.cell? ⟨gl,0,none⟩=some (.slice (some ⟨gtL,0,none⟩) DL.length tc)∧w'.cell? ⟨w.heap.size,0,none⟩=some (.slice (some ⟨b,o,none⟩) ul cap)∧w'.cell? ⟨b,o+2,none⟩=some (bs nm)) (first|go_keep|(exact C0)|(exact S0.out _ B2)) ((go_at_call 174;refine(HHL.out _).mono ?_;rintro e w2 ⟨rfl,b2⟩;have B2:Below W0.heap.size W0 w2:=HB1.out.drew.trans (b2.mono HB1.out.drew.size)))
 go_wp2_with fail
 go_ret
 exact⟨qm HRR.out.symm,HB0.out.trans (B2.mono HB0.out.size)⟩
end Go.Proofs.YtiamjjonoeaggabGreatDoor
