import Derived.Test.YtiamjjonoeaggabGreatDoorGA
import Derived.Test.YtiamjjonoeaggabGreatDoorGB
import Derived.Test.YtiamjjonoeaggabGreatDoorG27
set_option maxRecDepth 100000
set_option maxHeartbeats 16000000
namespace Go.Proofs.YtiamjjonoeaggabGreatDoor
open Go.RowKit
theorem j0x (v:Value)(u:List Tok)(lv dv:Value)(DL:List (LPt × Value))(vF vL:Value)(HF HL:Nat→Nat→Nat→Bool)(i x y:Nat)(hi':i<DL.length)(hx:x<10)(hy:y<10)(lo hi:By)(hS:SpanIn u lo hi)(w:World)(h:qB w v u)(hw:hd u=[111,110,99,101])(hT:TabsAt w lv false vF vL DL.length HF HL)(hL:DLogAt w dv DL) :
  Calls Tryz.prog 148 #[v,lv,dv,.int .i64 i,.agg #[.int .i64 x,.int .i64 y]] w fun e w'=>e=.returned (.bool (q4M DL lo hi false HF HL i x y false))∧Below w.heap.size w w':=by
 obtain⟨b,o,cap,rfl,h1,h2,h3,h4,h5,h6⟩:=qe h
 obtain⟨da,dc,rfl⟩:=qr hL.row
 obtain⟨gl,cl,rfl,hgl,l1,l2,lc1⟩:=hT.one
 obtain⟨fa,fc,rfl⟩:=hT.fst.form
 obtain⟨ta,tc,rfl⟩:=hT.lst.form
 have hsm:=hL.small
 obtain⟨R,hR⟩:∃R,R=(q4M DL lo hi false HF HL i x y false):=⟨_,rfl⟩
 rw[←hR]
 have HRR:=zb hR
 clear hR
 have HT:=zb hT
 have HFR:=zb h
 have HLG:=zb hL
 have HWD:=zb (fun W (q:qB W (.agg #[.slice (some ⟨b,o,none⟩) u.length cap]) u)=>q0b _ u W q)
 have HPA:=zb (fun W (q:qB W (.agg #[.slice (some ⟨b,o,none⟩) u.length cap]) u) q2 q3=>j7l _ u lo hi hS (.slice (some ⟨gl,0,none⟩) 1 cl) (.slice da DL.length dc) DL (.slice fa DL.length fc) (.slice ta DL.length tc) HF HL i x y hi' hx hy W q q2 q3)
 rw[hw]at HWD HPA
 rw[show(([111,110,99,101]:By)==[117,110,115,105,110,99,101])=false by decide]at HPA
 clear h h6 hT hL hw hS
 unfold maxLen at h2 l2
 generalize hun:u.length=ul at *
 clear hun
 go_enter Tryz.func148,Tryz.ntmps148
 go_wp2_with fail
 obtain⟨W0,hW0,hP0,hQ0,hz0,B0⟩:=q7d w #[.slice (some ⟨b,o,none⟩) ul cap] #[.int .i64 x,.int .i64 y] 112 245
 rw[←hW0]
 have HB0:=zb B0
 have HP0:=zb hP0
 have HQ0:=zb hQ0
 have HT0:=zb (HT.out.below B0)
 have HF0:=zb (HFR.out.below B0)
 have HL0:=zb (HLG.out.below B0)
 have lc1:=(zo B0 gl 0 hgl).trans lc1
 have hgl:=zT hgl B0.size
 have HLC:=zb (And.intro lc1 trivial)
 have CELLF:Hid (∀w',Below W0.heap.size W0 w'→w'.cell? ⟨w.heap.size,0,none⟩=some (.slice (some ⟨b,o,none⟩) ul cap)):=zb (fun w' hb=>by
  have e0:=(hb.block w.heap.size (by omega)).trans HQ0.out
  exact zC _ _ 0 _ _ _ e0)
 have cf0:=CELLF.out _ (zB _ _)
 clear hW0 hP0 hQ0 B0 HT HFR HLG lc1
 go_wp2_with fail
 refine(HWD.out _ HF0.out).mono ?_
 rintro e w1 ⟨rfl,b1⟩
 have HB1:=zb b1
 have cf1:=CELLF.out _ b1
 have hz1:w.heap.size+1<w1.heap.size:=by have:=b1.size;omega
 clear b1 cf0
 have cp1:w1.cell? ⟨w.heap.size+1,0,none⟩=some (.int .i64 x)∧w1.cell? ⟨w.heap.size+1,1,none⟩=some (.int .i64 y):=by
  have e1:=(HB1.out.block (w.heap.size+1) (by omega)).trans HP0.out
  exact⟨zC _ _ 0 _ _ _ e1,zC _ _ 1 _ _ _ e1⟩
 obtain⟨cp1,cp2⟩:=cp1
 rw[←HRR.out]at HPA
 go_wp2_with fail
 refine(HPA.out _ (HF0.out.below HB1.out) (HT0.out.below HB1.out) (HL0.out.below HB1.out)).mono ?_
 rintro e w2 ⟨rfl,b2⟩
 have HB2:=zb (HB1.out.trans (b2.mono HB1.out.size))
 clear b2
 go_wp2_with fail
 go_ret
 exact⟨rfl,HB0.out.trans (HB2.out.mono HB0.out.size)⟩
theorem q9q (v:Value)(u:List Tok)(lv dv:Value)(DL:List (LPt × Value))(vF vL:Value)(HF HL:Nat→Nat→Nat→Bool)(i x y:Nat)(hi':i<DL.length)(hx:x<10)(hy:y<10)(lo hi:By)(hS:SpanIn u lo hi)(w:World)(h:qB w v u)(hw:hd u=[115,105,110,99,101])(hT:TabsAt w lv true vF vL DL.length HF HL)(hL:DLogAt w dv DL) :
  Calls Tryz.prog 148 #[v,lv,dv,.int .i64 i,.agg #[.int .i64 x,.int .i64 y]] w fun e w'=>e=.returned (.bool (q4M DL lo hi true HF HL i x y false))∧Below w.heap.size w w':=by
 obtain⟨b,o,cap,rfl,h1,h2,h3,h4,h5,h6⟩:=qe h
 obtain⟨da,dc,rfl⟩:=qr hL.row
 obtain⟨gl,cl,rfl,hgl,l1,l2,lc0,lc1⟩:=hT.two
 obtain⟨fa,fc,rfl⟩:=hT.fst.form
 obtain⟨ta,tc,rfl⟩:=hT.lst.form
 have hsm:=hL.small
 obtain⟨R,hR⟩:∃R,R=(q4M DL lo hi true HF HL i x y false):=⟨_,rfl⟩
 rw[←hR]
 have HRR:=zb hR
 clear hR
 have HT:=zb hT
 have HFR:=zb h
 have HLG:=zb hL
 have HWD:=zb (fun W (q:qB W (.agg #[.slice (some ⟨b,o,none⟩) u.length cap]) u)=>q0b _ u W q)
 have HPA:=zb (fun W (q:qB W (.agg #[.slice (some ⟨b,o,none⟩) u.length cap]) u) q2 q3=>j1K _ u lo hi hS (.slice (some ⟨gl,0,none⟩) 2 cl) (.slice da DL.length dc) DL (.slice fa DL.length fc) (.slice ta DL.length tc) HF HL i x y hi' hx hy W q q2 q3)
 rw[hw]at HWD HPA
 rw[show(([115,105,110,99,101]:By)==[117,110,115,105,110,99,101])=false by decide]at HPA
 clear h h6 hT hL hw hS
 unfold maxLen at h2 l2
 generalize hun:u.length=ul at *
 clear hun
 go_enter Tryz.func148,Tryz.ntmps148
 go_wp2_with fail
 obtain⟨W0,hW0,hP0,hQ0,hz0,B0⟩:=q7d w #[.slice (some ⟨b,o,none⟩) ul cap] #[.int .i64 x,.int .i64 y] 112 245
 rw[←hW0]
 have HB0:=zb B0
 have HP0:=zb hP0
 have HQ0:=zb hQ0
 have HT0:=zb (HT.out.below B0)
 have HF0:=zb (HFR.out.below B0)
 have HL0:=zb (HLG.out.below B0)
 have lc1:=(zo B0 gl 1 hgl).trans lc1
 have lc0:=(zo B0 gl 0 hgl).trans lc0
 have hgl:=zT hgl B0.size
 have HLC:=zb (And.intro lc1 lc0)
 have CELLF:Hid (∀w',Below W0.heap.size W0 w'→w'.cell? ⟨w.heap.size,0,none⟩=some (.slice (some ⟨b,o,none⟩) ul cap)):=zb (fun w' hb=>by
  have e0:=(hb.block w.heap.size (by omega)).trans HQ0.out
  exact zC _ _ 0 _ _ _ e0)
 have cf0:=CELLF.out _ (zB _ _)
 clear hW0 hP0 hQ0 B0 HT HFR HLG lc1 lc0
 go_wp2_with fail
 refine(HWD.out _ HF0.out).mono ?_
 rintro e w1 ⟨rfl,b1⟩
 have HB1:=zb b1
 have cf1:=CELLF.out _ b1
 have hz1:w.heap.size+1<w1.heap.size:=by have:=b1.size;omega
 clear b1 cf0
 have cp1:w1.cell? ⟨w.heap.size+1,0,none⟩=some (.int .i64 x)∧w1.cell? ⟨w.heap.size+1,1,none⟩=some (.int .i64 y):=by
  have e1:=(HB1.out.block (w.heap.size+1) (by omega)).trans HP0.out
  exact⟨zC _ _ 0 _ _ _ e1,zC _ _ 1 _ _ _ e1⟩
 obtain⟨cp1,cp2⟩:=cp1
 rw[←HRR.out]at HPA
 go_wp2_with fail
 refine(HPA.out _ (HF0.out.below HB1.out) (HT0.out.below HB1.out) (HL0.out.below HB1.out)).mono ?_
 rintro e w2 ⟨rfl,b2⟩
 have HB2:=zb (HB1.out.trans (b2.mono HB1.out.size))
 clear b2
 go_wp2_with fail
 go_ret
 exact⟨rfl,HB0.out.trans (HB2.out.mono HB0.out.size)⟩
theorem q7W (v:Value)(u:List Tok)(lv dv:Value)(DL:List (LPt × Value))(vF vL:Value)(HF HL:Nat→Nat→Nat→Bool)(i x y:Nat)(hi':i<DL.length)(hx:x<10)(hy:y<10)(lo hi:By)(hS:SpanIn u lo hi)(w:World)(h:qB w v u)(hw:hd u=[117,110,115,105,110,99,101])(hT:TabsAt w lv true vF vL DL.length HF HL)(hL:DLogAt w dv DL) :
  Calls Tryz.prog 148 #[v,lv,dv,.int .i64 i,.agg #[.int .i64 x,.int .i64 y]] w fun e w'=>e=.returned (.bool (q4M DL lo hi true HF HL i x y true))∧Below w.heap.size w w':=by
 obtain⟨b,o,cap,rfl,h1,h2,h3,h4,h5,h6⟩:=qe h
 obtain⟨da,dc,rfl⟩:=qr hL.row
 obtain⟨gl,cl,rfl,hgl,l1,l2,lc0,lc1⟩:=hT.two
 obtain⟨fa,fc,rfl⟩:=hT.fst.form
 obtain⟨ta,tc,rfl⟩:=hT.lst.form
 have hsm:=hL.small
 obtain⟨R,hR⟩:∃R,R=(q4M DL lo hi true HF HL i x y true):=⟨_,rfl⟩
 rw[←hR]
 have HRR:=zb hR
 clear hR
 have HT:=zb hT
 have HFR:=zb h
 have HLG:=zb hL
 have HWD:=zb (fun W (q:qB W (.agg #[.slice (some ⟨b,o,none⟩) u.length cap]) u)=>q0b _ u W q)
 have HPA:=zb (fun W (q:qB W (.agg #[.slice (some ⟨b,o,none⟩) u.length cap]) u) q2 q3=>j1K _ u lo hi hS (.slice (some ⟨gl,0,none⟩) 2 cl) (.slice da DL.length dc) DL (.slice fa DL.length fc) (.slice ta DL.length tc) HF HL i x y hi' hx hy W q q2 q3)
 rw[hw]at HWD HPA
 rw[show(([117,110,115,105,110,99,101]:By)==[117,110,115,105,110,99,101])=true by decide]at HPA
 clear h h6 hT hL hw hS
 unfold maxLen at h2 l2
 generalize hun:u.length=ul at *
 clear hun
 go_enter Tryz.func148,Tryz.ntmps148
 go_wp2_with fail
 obtain⟨W0,hW0,hP0,hQ0,hz0,B0⟩:=q7d w #[.slice (some ⟨b,o,none⟩) ul cap] #[.int .i64 x,.int .i64 y] 112 245
 rw[←hW0]
 have HB0:=zb B0
 have HP0:=zb hP0
 have HQ0:=zb hQ0
 have HT0:=zb (HT.out.below B0)
 have HF0:=zb (HFR.out.below B0)
 have HL0:=zb (HLG.out.below B0)
 have lc1:=(zo B0 gl 1 hgl).trans lc1
 have lc0:=(zo B0 gl 0 hgl).trans lc0
 have hgl:=zT hgl B0.size
 have HLC:=zb (And.intro lc1 lc0)
 have CELLF:Hid (∀w',Below W0.heap.size W0 w'→w'.cell? ⟨w.heap.size,0,none⟩=some (.slice (some ⟨b,o,none⟩) ul cap)):=zb (fun w' hb=>by
  have e0:=(hb.block w.heap.size (by omega)).trans HQ0.out
  exact zC _ _ 0 _ _ _ e0)
 have cf0:=CELLF.out _ (zB _ _)
 clear hW0 hP0 hQ0 B0 HT HFR HLG lc1 lc0
 go_wp2_with fail
 refine(HWD.out _ HF0.out).mono ?_
 rintro e w1 ⟨rfl,b1⟩
 have HB1:=zb b1
 have cf1:=CELLF.out _ b1
 have hz1:w.heap.size+1<w1.heap.size:=by have:=b1.size;omega
 clear b1 cf0
 have cp1:w1.cell? ⟨w.heap.size+1,0,none⟩=some (.int .i64 x)∧w1.cell? ⟨w.heap.size+1,1,none⟩=some (.int .i64 y):=by
  have e1:=(HB1.out.block (w.heap.size+1) (by omega)).trans HP0.out
  exact⟨zC _ _ 0 _ _ _ e1,zC _ _ 1 _ _ _ e1⟩
 obtain⟨cp1,cp2⟩:=cp1
 rw[←HRR.out]at HPA
 go_wp2_with fail
 refine(HPA.out _ (HF0.out.below HB1.out) (HT0.out.below HB1.out) (HL0.out.below HB1.out)).mono ?_
 rintro e w2 ⟨rfl,b2⟩
 have HB2:=zb (HB1.out.trans (b2.mono HB1.out.size))
 clear b2
 go_wp2_with fail
 go_ret
 exact⟨rfl,HB0.out.trans (HB2.out.mono HB0.out.size)⟩
theorem j0z (v:Value)(u:List Tok)(lv dv:Value)(DL:List (LPt × Value))(vF vL:Value)(HF HL:Nat→Nat→Nat→Bool)(i x y:Nat)(hi':i<DL.length)(hx:x<10)(hy:y<10)(lo hi:By)(hS:SpanIn u lo hi)(w:World)(h:qB w v u)(hw:hd u=[115,111,111,110])(hT:TabsAt w lv false vF vL DL.length HF HL)(hL:DLogAt w dv DL) :
  Calls Tryz.prog 148 #[v,lv,dv,.int .i64 i,.agg #[.int .i64 x,.int .i64 y]] w fun e w'=>e=.returned (.bool (q7x DL lo hi false HF HL i x y false))∧Below w.heap.size w w':=by
 obtain⟨b,o,cap,rfl,h1,h2,h3,h4,h5,h6⟩:=qe h
 obtain⟨da,dc,rfl⟩:=qr hL.row
 obtain⟨gl,cl,rfl,hgl,l1,l2,lc1⟩:=hT.one
 obtain⟨fa,fc,rfl⟩:=hT.fst.form
 obtain⟨ta,tc,rfl⟩:=hT.lst.form
 have hsm:=hL.small
 obtain⟨R,hR⟩:∃R,R=(q7x DL lo hi false HF HL i x y false):=⟨_,rfl⟩
 rw[←hR]
 have HRR:=zb hR
 clear hR
 have HT:=zb hT
 have HFR:=zb h
 have HLG:=zb hL
 have HWD:=zb (fun W (q:qB W (.agg #[.slice (some ⟨b,o,none⟩) u.length cap]) u)=>q0b _ u W q)
 have HPA:=zb (fun W (q:qB W (.agg #[.slice (some ⟨b,o,none⟩) u.length cap]) u) q2 q3=>j4a _ u lo hi hS (.slice (some ⟨gl,0,none⟩) 1 cl) (.slice da DL.length dc) DL (.slice fa DL.length fc) (.slice ta DL.length tc) HF HL i x y hi' hx hy W q q2 q3)
 rw[hw]at HWD HPA
 rw[show(([115,111,111,110]:By)==[117,110,117,110,116,105,108])=false by decide]at HPA
 clear h h6 hT hL hw hS
 unfold maxLen at h2 l2
 generalize hun:u.length=ul at *
 clear hun
 go_enter Tryz.func148,Tryz.ntmps148
 go_wp2_with fail
 obtain⟨W0,hW0,hP0,hQ0,hz0,B0⟩:=q7d w #[.slice (some ⟨b,o,none⟩) ul cap] #[.int .i64 x,.int .i64 y] 112 245
 rw[←hW0]
 have HB0:=zb B0
 have HP0:=zb hP0
 have HQ0:=zb hQ0
 have HT0:=zb (HT.out.below B0)
 have HF0:=zb (HFR.out.below B0)
 have HL0:=zb (HLG.out.below B0)
 have lc1:=(zo B0 gl 0 hgl).trans lc1
 have hgl:=zT hgl B0.size
 have HLC:=zb (And.intro lc1 trivial)
 have CELLF:Hid (∀w',Below W0.heap.size W0 w'→w'.cell? ⟨w.heap.size,0,none⟩=some (.slice (some ⟨b,o,none⟩) ul cap)):=zb (fun w' hb=>by
  have e0:=(hb.block w.heap.size (by omega)).trans HQ0.out
  exact zC _ _ 0 _ _ _ e0)
 have cf0:=CELLF.out _ (zB _ _)
 clear hW0 hP0 hQ0 B0 HT HFR HLG lc1
 go_wp2_with fail
 refine(HWD.out _ HF0.out).mono ?_
 rintro e w1 ⟨rfl,b1⟩
 have HB1:=zb b1
 have cf1:=CELLF.out _ b1
 have hz1:w.heap.size+1<w1.heap.size:=by have:=b1.size;omega
 clear b1 cf0
 have cp1:w1.cell? ⟨w.heap.size+1,0,none⟩=some (.int .i64 x)∧w1.cell? ⟨w.heap.size+1,1,none⟩=some (.int .i64 y):=by
  have e1:=(HB1.out.block (w.heap.size+1) (by omega)).trans HP0.out
  exact⟨zC _ _ 0 _ _ _ e1,zC _ _ 1 _ _ _ e1⟩
 obtain⟨cp1,cp2⟩:=cp1
 rw[←HRR.out]at HPA
 go_wp2_with fail
 refine(HPA.out _ (HF0.out.below HB1.out) (HT0.out.below HB1.out) (HL0.out.below HB1.out)).mono ?_
 rintro e w2 ⟨rfl,b2⟩
 have HB2:=zb (HB1.out.trans (b2.mono HB1.out.size))
 clear b2
 go_wp2_with fail
 go_ret
 exact⟨rfl,HB0.out.trans (HB2.out.mono HB0.out.size)⟩
theorem q9r (v:Value)(u:List Tok)(lv dv:Value)(DL:List (LPt × Value))(vF vL:Value)(HF HL:Nat→Nat→Nat→Bool)(i x y:Nat)(hi':i<DL.length)(hx:x<10)(hy:y<10)(lo hi:By)(hS:SpanIn u lo hi)(w:World)(h:qB w v u)(hw:hd u=[117,110,116,105,108])(hT:TabsAt w lv true vF vL DL.length HF HL)(hL:DLogAt w dv DL) :
  Calls Tryz.prog 148 #[v,lv,dv,.int .i64 i,.agg #[.int .i64 x,.int .i64 y]] w fun e w'=>e=.returned (.bool (q7x DL lo hi true HF HL i x y false))∧Below w.heap.size w w':=by
 obtain⟨b,o,cap,rfl,h1,h2,h3,h4,h5,h6⟩:=qe h
 obtain⟨da,dc,rfl⟩:=qr hL.row
 obtain⟨gl,cl,rfl,hgl,l1,l2,lc0,lc1⟩:=hT.two
 obtain⟨fa,fc,rfl⟩:=hT.fst.form
 obtain⟨ta,tc,rfl⟩:=hT.lst.form
 have hsm:=hL.small
 obtain⟨R,hR⟩:∃R,R=(q7x DL lo hi true HF HL i x y false):=⟨_,rfl⟩
 rw[←hR]
 have HRR:=zb hR
 clear hR
 have HT:=zb hT
 have HFR:=zb h
 have HLG:=zb hL
 have HWD:=zb (fun W (q:qB W (.agg #[.slice (some ⟨b,o,none⟩) u.length cap]) u)=>q0b _ u W q)
 have HPA:=zb (fun W (q:qB W (.agg #[.slice (some ⟨b,o,none⟩) u.length cap]) u) q2 q3=>q9h _ u lo hi hS (.slice (some ⟨gl,0,none⟩) 2 cl) (.slice da DL.length dc) DL (.slice fa DL.length fc) (.slice ta DL.length tc) HF HL i x y hi' hx hy W q q2 q3)
 rw[hw]at HWD HPA
 rw[show(([117,110,116,105,108]:By)==[117,110,117,110,116,105,108])=false by decide]at HPA
 clear h h6 hT hL hw hS
 unfold maxLen at h2 l2
 generalize hun:u.length=ul at *
 clear hun
 go_enter Tryz.func148,Tryz.ntmps148
 go_wp2_with fail
 obtain⟨W0,hW0,hP0,hQ0,hz0,B0⟩:=q7d w #[.slice (some ⟨b,o,none⟩) ul cap] #[.int .i64 x,.int .i64 y] 112 245
 rw[←hW0]
 have HB0:=zb B0
 have HP0:=zb hP0
 have HQ0:=zb hQ0
 have HT0:=zb (HT.out.below B0)
 have HF0:=zb (HFR.out.below B0)
 have HL0:=zb (HLG.out.below B0)
 have lc1:=(zo B0 gl 1 hgl).trans lc1
 have lc0:=(zo B0 gl 0 hgl).trans lc0
 have hgl:=zT hgl B0.size
 have HLC:=zb (And.intro lc1 lc0)
 have CELLF:Hid (∀w',Below W0.heap.size W0 w'→w'.cell? ⟨w.heap.size,0,none⟩=some (.slice (some ⟨b,o,none⟩) ul cap)):=zb (fun w' hb=>by
  have e0:=(hb.block w.heap.size (by omega)).trans HQ0.out
  exact zC _ _ 0 _ _ _ e0)
 have cf0:=CELLF.out _ (zB _ _)
 clear hW0 hP0 hQ0 B0 HT HFR HLG lc1 lc0
 go_wp2_with fail
 refine(HWD.out _ HF0.out).mono ?_
 rintro e w1 ⟨rfl,b1⟩
 have HB1:=zb b1
 have cf1:=CELLF.out _ b1
 have hz1:w.heap.size+1<w1.heap.size:=by have:=b1.size;omega
 clear b1 cf0
 have cp1:w1.cell? ⟨w.heap.size+1,0,none⟩=some (.int .i64 x)∧w1.cell? ⟨w.heap.size+1,1,none⟩=some (.int .i64 y):=by
  have e1:=(HB1.out.block (w.heap.size+1) (by omega)).trans HP0.out
  exact⟨zC _ _ 0 _ _ _ e1,zC _ _ 1 _ _ _ e1⟩
 obtain⟨cp1,cp2⟩:=cp1
 rw[←HRR.out]at HPA
 go_wp2_with fail
 refine(HPA.out _ (HF0.out.below HB1.out) (HT0.out.below HB1.out) (HL0.out.below HB1.out)).mono ?_
 rintro e w2 ⟨rfl,b2⟩
 have HB2:=zb (HB1.out.trans (b2.mono HB1.out.size))
 clear b2
 go_wp2_with fail
 go_ret
 exact⟨rfl,HB0.out.trans (HB2.out.mono HB0.out.size)⟩
theorem q7X (v:Value)(u:List Tok)(lv dv:Value)(DL:List (LPt × Value))(vF vL:Value)(HF HL:Nat→Nat→Nat→Bool)(i x y:Nat)(hi':i<DL.length)(hx:x<10)(hy:y<10)(lo hi:By)(hS:SpanIn u lo hi)(w:World)(h:qB w v u)(hw:hd u=[117,110,117,110,116,105,108])(hT:TabsAt w lv true vF vL DL.length HF HL)(hL:DLogAt w dv DL) :
  Calls Tryz.prog 148 #[v,lv,dv,.int .i64 i,.agg #[.int .i64 x,.int .i64 y]] w fun e w'=>e=.returned (.bool (q7x DL lo hi true HF HL i x y true))∧Below w.heap.size w w':=by
 obtain⟨b,o,cap,rfl,h1,h2,h3,h4,h5,h6⟩:=qe h
 obtain⟨da,dc,rfl⟩:=qr hL.row
 obtain⟨gl,cl,rfl,hgl,l1,l2,lc0,lc1⟩:=hT.two
 obtain⟨fa,fc,rfl⟩:=hT.fst.form
 obtain⟨ta,tc,rfl⟩:=hT.lst.form
 have hsm:=hL.small
 obtain⟨R,hR⟩:∃R,R=(q7x DL lo hi true HF HL i x y true):=⟨_,rfl⟩
 rw[←hR]
 have HRR:=zb hR
 clear hR
 have HT:=zb hT
 have HFR:=zb h
 have HLG:=zb hL
 have HWD:=zb (fun W (q:qB W (.agg #[.slice (some ⟨b,o,none⟩) u.length cap]) u)=>q0b _ u W q)
 have HPA:=zb (fun W (q:qB W (.agg #[.slice (some ⟨b,o,none⟩) u.length cap]) u) q2 q3=>q9h _ u lo hi hS (.slice (some ⟨gl,0,none⟩) 2 cl) (.slice da DL.length dc) DL (.slice fa DL.length fc) (.slice ta DL.length tc) HF HL i x y hi' hx hy W q q2 q3)
 rw[hw]at HWD HPA
 rw[show(([117,110,117,110,116,105,108]:By)==[117,110,117,110,116,105,108])=true by decide]at HPA
 clear h h6 hT hL hw hS
 unfold maxLen at h2 l2
 generalize hun:u.length=ul at *
 clear hun
 go_enter Tryz.func148,Tryz.ntmps148
 go_wp2_with fail
 obtain⟨W0,hW0,hP0,hQ0,hz0,B0⟩:=q7d w #[.slice (some ⟨b,o,none⟩) ul cap] #[.int .i64 x,.int .i64 y] 112 245
 rw[←hW0]
 have HB0:=zb B0
 have HP0:=zb hP0
 have HQ0:=zb hQ0
 have HT0:=zb (HT.out.below B0)
 have HF0:=zb (HFR.out.below B0)
 have HL0:=zb (HLG.out.below B0)
 have lc1:=(zo B0 gl 1 hgl).trans lc1
 have lc0:=(zo B0 gl 0 hgl).trans lc0
 have hgl:=zT hgl B0.size
 have HLC:=zb (And.intro lc1 lc0)
 have CELLF:Hid (∀w',Below W0.heap.size W0 w'→w'.cell? ⟨w.heap.size,0,none⟩=some (.slice (some ⟨b,o,none⟩) ul cap)):=zb (fun w' hb=>by
  have e0:=(hb.block w.heap.size (by omega)).trans HQ0.out
  exact zC _ _ 0 _ _ _ e0)
 have cf0:=CELLF.out _ (zB _ _)
 clear hW0 hP0 hQ0 B0 HT HFR HLG lc1 lc0
 go_wp2_with fail
 refine(HWD.out _ HF0.out).mono ?_
 rintro e w1 ⟨rfl,b1⟩
 have HB1:=zb b1
 have cf1:=CELLF.out _ b1
 have hz1:w.heap.size+1<w1.heap.size:=by have:=b1.size;omega
 clear b1 cf0
 have cp1:w1.cell? ⟨w.heap.size+1,0,none⟩=some (.int .i64 x)∧w1.cell? ⟨w.heap.size+1,1,none⟩=some (.int .i64 y):=by
  have e1:=(HB1.out.block (w.heap.size+1) (by omega)).trans HP0.out
  exact⟨zC _ _ 0 _ _ _ e1,zC _ _ 1 _ _ _ e1⟩
 obtain⟨cp1,cp2⟩:=cp1
 rw[←HRR.out]at HPA
 go_wp2_with fail
 refine(HPA.out _ (HF0.out.below HB1.out) (HT0.out.below HB1.out) (HL0.out.below HB1.out)).mono ?_
 rintro e w2 ⟨rfl,b2⟩
 have HB2:=zb (HB1.out.trans (b2.mono HB1.out.size))
 clear b2
 go_wp2_with fail
 go_ret
 exact⟨rfl,HB0.out.trans (HB2.out.mono HB0.out.size)⟩
theorem q7V (v:Value)(u:List Tok)(lv dv:Value)(DL:List (LPt × Value))(vF vL:Value)(HF HL:Nat→Nat→Nat→Bool)(x y:Nat)(w:World)(h:qB w v u)(hw:hd u=[112,114,101,118])(hT:TabsAt w lv false vF vL DL.length HF HL)(hL:DLogAt w dv DL) :
  Calls Tryz.prog 148 #[v,lv,dv,.int .i64 0,.agg #[.int .i64 x,.int .i64 y]] w fun e w'=>e=.returned (.bool (false))∧Below w.heap.size w w':=by
 obtain⟨b,o,cap,rfl,h1,h2,h3,h4,h5,h6⟩:=qe h
 obtain⟨da,dc,rfl⟩:=qr hL.row
 obtain⟨gl,cl,rfl,hgl,l1,l2,lc1⟩:=hT.one
 obtain⟨fa,fc,rfl⟩:=hT.fst.form
 obtain⟨ta,tc,rfl⟩:=hT.lst.form
 have hsm:=hL.small
 obtain⟨R,hR⟩:∃R,R=(false):=⟨_,rfl⟩
 rw[←hR]
 have HRR:=zb hR
 clear hR
 have HT:=zb hT
 have HFR:=zb h
 have HLG:=zb hL
 have HWD:=zb (fun W (q:qB W (.agg #[.slice (some ⟨b,o,none⟩) u.length cap]) u)=>q0b _ u W q)
 rw[hw]at HWD
 clear h h6 hT hL hw
 unfold maxLen at h2 l2
 generalize hun:u.length=ul at *
 clear hun
 go_enter Tryz.func148,Tryz.ntmps148
 go_wp2_with fail
 obtain⟨W0,hW0,hP0,hQ0,hz0,B0⟩:=q7d w #[.slice (some ⟨b,o,none⟩) ul cap] #[.int .i64 x,.int .i64 y] 112 245
 rw[←hW0]
 have HB0:=zb B0
 have HP0:=zb hP0
 have HQ0:=zb hQ0
 have HT0:=zb (HT.out.below B0)
 have HF0:=zb (HFR.out.below B0)
 have HL0:=zb (HLG.out.below B0)
 have lc1:=(zo B0 gl 0 hgl).trans lc1
 have hgl:=zT hgl B0.size
 have HLC:=zb (And.intro lc1 trivial)
 have CELLF:Hid (∀w',Below W0.heap.size W0 w'→w'.cell? ⟨w.heap.size,0,none⟩=some (.slice (some ⟨b,o,none⟩) ul cap)):=zb (fun w' hb=>by
  have e0:=(hb.block w.heap.size (by omega)).trans HQ0.out
  exact zC _ _ 0 _ _ _ e0)
 have cf0:=CELLF.out _ (zB _ _)
 clear hW0 hP0 hQ0 B0 HT HFR HLG lc1
 go_wp2_with fail
 refine(HWD.out _ HF0.out).mono ?_
 rintro e w1 ⟨rfl,b1⟩
 have HB1:=zb b1
 have cf1:=CELLF.out _ b1
 have hz1:w.heap.size+1<w1.heap.size:=by have:=b1.size;omega
 clear b1 cf0
 have C0:True:=trivial
 go_wp2_with fail
 refine wp_region_held_drew (S:=fun w'=>True) (by kernel_rfl) C0 (fun hS0=>?_)
 simp only[rz,Nat.zero_add,Nat.reduceAdd]
 refine tq 0 111 ?_
 simp only[Act.put,pz]
 refine tq 1 112 ?_
 simp only[Act.put,pz]
 refine tq 2 113 ?_
 simp only[Act.put,pz]
 refine tn 3 114 ?_
 simp only[Act.put,pz]
 refine tn 4 115 ?_
 simp only[Act.put,pz]
 refine tn 5 116 ?_
 simp only[Act.put,pz]
 refine tn 6 117 ?_
 simp only[Act.put,pz]
 refine tn 7 118 ?_
 simp only[Act.put,pz]
 refine tn 8 119 ?_
 simp only[Act.put,pz]
 refine tq 9 120 ?_
 simp only[Act.put,pz]
 refine tq 10 121 ?_
 simp only[Act.put,pz]
 refine tn 11 122 ?_
 simp only[Act.put,pz]
 refine tn 12 123 ?_
 simp only[Act.put,pz]
 refine tn 13 124 ?_
 simp only[Act.put,pz]
 refine tn 14 125 ?_
 simp only[Act.put,pz]
 refine tn 15 126 ?_
 simp only[Act.put,pz]
 refine tn 16 127 ?_
 simp only[Act.put,pz]
 refine tn 17 128 ?_
 simp only[Act.put,pz]
 refine tn 18 129 ?_
 simp only[Act.put,pz]
 refine tn 19 130 ?_
 simp only[Act.put,pz]
 refine tn 20 131 ?_
 simp only[Act.put,pz]
 refine tn 21 132 ?_
 simp only[Act.put,pz]
 refine tn 22 133 ?_
 simp only[Act.put,pz]
 refine tq 23 134 ?_
 simp only[Act.put,pz]
 refine tq 24 10 ?_
 simp only[Act.put,pz]
 refine zD (by kernel_rfl) ?_ _
 go_wp2_with fail
 go_ret
 exact⟨qm HRR.out.symm,HB0.out.trans (HB1.out.drew.mono HB0.out.size)⟩
theorem q7U (v:Value)(u:List Tok)(lv dv:Value)(DL:List (LPt × Value))(vF vL:Value)(HF HL:Nat→Nat→Nat→Bool)(i x y:Nat)(hi':DL.length≤i+1)(hi2:i≤1000)(w:World)(h:qB w v u)(hw:hd u=[110,101,120,116])(hT:TabsAt w lv false vF vL DL.length HF HL)(hL:DLogAt w dv DL) :
  Calls Tryz.prog 148 #[v,lv,dv,.int .i64 i,.agg #[.int .i64 x,.int .i64 y]] w fun e w'=>e=.returned (.bool (false))∧Below w.heap.size w w':=by
 obtain⟨b,o,cap,rfl,h1,h2,h3,h4,h5,h6⟩:=qe h
 obtain⟨da,dc,rfl⟩:=qr hL.row
 obtain⟨gl,cl,rfl,hgl,l1,l2,lc1⟩:=hT.one
 obtain⟨fa,fc,rfl⟩:=hT.fst.form
 obtain⟨ta,tc,rfl⟩:=hT.lst.form
 have hsm:=hL.small
 obtain⟨R,hR⟩:∃R,R=(false):=⟨_,rfl⟩
 rw[←hR]
 have HRR:=zb hR
 clear hR
 have hwr:IntKind.i64.wrap ((i:Int)+1)=(i:Int)+1:=by rw[IntKind.wrap_i64];omega
 have hlt:¬(i:Int)+1<(DL.length:Int):=by omega
 have HT:=zb hT
 have HFR:=zb h
 have HLG:=zb hL
 have HWD:=zb (fun W (q:qB W (.agg #[.slice (some ⟨b,o,none⟩) u.length cap]) u)=>q0b _ u W q)
 rw[hw]at HWD
 clear h h6 hT hL hw
 unfold maxLen at h2 l2
 generalize hun:u.length=ul at *
 clear hun
 go_enter Tryz.func148,Tryz.ntmps148
 go_wp2_with fail
 obtain⟨W0,hW0,hP0,hQ0,hz0,B0⟩:=q7d w #[.slice (some ⟨b,o,none⟩) ul cap] #[.int .i64 x,.int .i64 y] 112 245
 rw[←hW0]
 have HB0:=zb B0
 have HP0:=zb hP0
 have HQ0:=zb hQ0
 have HT0:=zb (HT.out.below B0)
 have HF0:=zb (HFR.out.below B0)
 have HL0:=zb (HLG.out.below B0)
 have lc1:=(zo B0 gl 0 hgl).trans lc1
 have hgl:=zT hgl B0.size
 have HLC:=zb (And.intro lc1 trivial)
 have CELLF:Hid (∀w',Below W0.heap.size W0 w'→w'.cell? ⟨w.heap.size,0,none⟩=some (.slice (some ⟨b,o,none⟩) ul cap)):=zb (fun w' hb=>by
  have e0:=(hb.block w.heap.size (by omega)).trans HQ0.out
  exact zC _ _ 0 _ _ _ e0)
 have cf0:=CELLF.out _ (zB _ _)
 clear hW0 hP0 hQ0 B0 HT HFR HLG lc1
 go_wp2_with fail
 refine(HWD.out _ HF0.out).mono ?_
 rintro e w1 ⟨rfl,b1⟩
 have HB1:=zb b1
 have cf1:=CELLF.out _ b1
 have hz1:w.heap.size+1<w1.heap.size:=by have:=b1.size;omega
 clear b1 cf0
 have C0:True:=trivial
 go_wp2_with fail
 refine wp_region_held_drew (S:=fun w'=>True) (by kernel_rfl) C0 (fun hS0=>?_)
 simp only[rz,Nat.zero_add,Nat.reduceAdd]
 refine tq 0 137 ?_
 simp only[Act.put,pz]
 refine tq 1 138 ?_
 simp only[Act.put,pz]
 refine tq 2 139 ?_
 simp only[Act.put,pz]
 refine tq 3 140 ?_
 simp only[Act.put,pz]
 refine q4Y (i:=4) (v:=.bool false) 141 rfl rfl (by kernel_rfl) (by kernel_rfl) (by kernel_rfl) (fun _ _ _ h=>h) (by rfl) (by assumption) (by intro w hSw;(try dsimp only at hSw);go_simp;(try(first|omega|(simp;omega)))) ?_
 simp only[Act.put,pz]
 refine tq 5 142 ?_
 simp only[Act.put,pz]
 refine tn 6 143 ?_
 simp only[Act.put,pz]
 refine tn 7 144 ?_
 simp only[Act.put,pz]
 refine tn 8 145 ?_
 simp only[Act.put,pz]
 refine tn 9 146 ?_
 simp only[Act.put,pz]
 refine tn 10 147 ?_
 simp only[Act.put,pz]
 refine tn 11 148 ?_
 simp only[Act.put,pz]
 refine tq 12 149 ?_
 simp only[Act.put,pz]
 refine tq 13 150 ?_
 simp only[Act.put,pz]
 refine tn 14 151 ?_
 simp only[Act.put,pz]
 refine tn 15 152 ?_
 simp only[Act.put,pz]
 refine tn 16 153 ?_
 simp only[Act.put,pz]
 refine tn 17 154 ?_
 simp only[Act.put,pz]
 refine tn 18 155 ?_
 simp only[Act.put,pz]
 refine tn 19 156 ?_
 simp only[Act.put,pz]
 refine tn 20 157 ?_
 simp only[Act.put,pz]
 refine tn 21 158 ?_
 simp only[Act.put,pz]
 refine tn 22 159 ?_
 simp only[Act.put,pz]
 refine tn 23 160 ?_
 simp only[Act.put,pz]
 refine tn 24 161 ?_
 simp only[Act.put,pz]
 refine tn 25 162 ?_
 simp only[Act.put,pz]
 refine tq 26 163 ?_
 simp only[Act.put,pz]
 refine tq 27 10 ?_
 simp only[Act.put,pz]
 refine zD (by kernel_rfl) ?_ _
 go_wp2_with fail
 go_ret
 exact⟨qm HRR.out.symm,HB0.out.trans (HB1.out.drew.mono HB0.out.size)⟩
end Go.Proofs.YtiamjjonoeaggabGreatDoor
