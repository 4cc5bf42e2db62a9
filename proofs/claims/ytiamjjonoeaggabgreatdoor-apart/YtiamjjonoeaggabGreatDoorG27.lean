import Derived.Test.YtiamjjonoeaggabGreatDoorGA
import Derived.Test.YtiamjjonoeaggabGreatDoorGB
import Derived.Test.YtiamjjonoeaggabGreatDoorG25
import Derived.Test.YtiamjjonoeaggabGreatDoorG26
set_option maxRecDepth 100000
set_option maxHeartbeats 16000000
namespace Go.Proofs.YtiamjjonoeaggabGreatDoor
open Go.RowKit
theorem j7a (V:Value)(nd:PNode)(lb lo:Nat)(ao:OA)(cap:Nat)(PL:List PPt)(vf vs:Value)(hV:V=.agg (q1a nd lb lo vf vs).toArray)(mA mB:Nat)(A B:Nat→Nat→Nat→Bool)(i:Nat)(_hi:i<PL.length)(w:World)(h:VwAt w lb lo ao cap PL vf vs mA mB A B)(hk:nd.kind=6) :
  Calls Tryz.prog 103 #[V,.int .i64 i] w fun e w'=>e=.returned (zr (zm fun x y=>qD nd (zz PL) A B i x y))∧Below w.heap.size w w':=by
 obtain⟨fa,fc,rfl⟩:=h.fst.form
 obtain⟨sa,sc,rfl⟩:=h.snd.form
 have HV:=zb hV
 have HVW:=zb h
 have HSF:=zb (fun W (q:Tb W (.slice fa mA fc) mA A)=>q0x (.slice fa mA fc) mA A h.szA i W q)
 have HSS:=zb (fun W (q:Tb W (.slice sa mB sc) mB B)=>q0x (.slice sa mB sc) mB B h.szB i W q)
 obtain⟨UF,hUF⟩:∃U,U=zr (zm (A i)):=⟨_,rfl⟩
 obtain⟨US,hUS⟩:∃U,U=zr (zm (B i)):=⟨_,rfl⟩
 rw[←hUF]at HSF
 rw[←hUS]at HSS
 have HUF:=zb hUF
 have HUS:=zb hUS
 clear hV h hUF hUS
 have e:(fun x y=>qD nd (zz PL) A B i x y)=fun x y=>A i x y&&B i x y:=by funext x y;unfold qD;rw[hk];rfl
 rw[e]
 have HC:=zb (q6Y (A i) (B i))
 rw[←HUF.out,←HUS.out]at HC
 generalize zm (fun x y=>A i x y&&B i x y)=r at *
 obtain⟨T,hT⟩:∃T,T=zr r:=⟨_,rfl⟩
 rw[←hT]at HC ⊢
 have HTT:=zb hT
 clear e hT
 go_enter Tryz.func103,Tryz.ntmps103
 go_wp2_with (first|(refine qF rfl 168 (.tmp 0) rfl V _ rfl HV.out ?_;intro W0 g0 b0 z0;have HZ0:=zb z0;have HG0:=zb g0;have HB0:=zb b0;have c23:=q0I g0 23;simp only[List.getElem?_cons_zero,List.getElem?_cons_succ]at c23;have hl0:w.heap.size<W0.heap.size:=(by omega);clear g0 z0 b0))
 have ew0:W0.heap.size=w.heap.size+1:=HZ0.out
 have hb1:BsAt w (W0.alloc (.cells zCs 43)) nd lb lo (.slice fa mA fc) (.slice sa mB sc):=⟨(zO _ _ hl0).trans HG0.out,by rw[←HZ0.out];exact zN _ _,HB0.out.alloc HB0.out.size _⟩
 have HBS:=zb hb1
 rw[ew0]
 clear hb1 HZ0 HG0 HB0 c23
 generalize W0.alloc (.cells zCs 43)=W1 at *
 clear hl0 ew0
 refine(HSF.out _ (HVW.out.fst.below HBS.out.bel)).mono ?_
 rintro e w2 ⟨rfl,b2⟩
 obtain⟨W3,S3,g3,b3,z3⟩:=q0w w2 (zm (A i))
 rw[←HUF.out]at S3
 have HB3:=zb (HBS.out.below (b2.trans (b3.mono b2.size)))
 have HG3:=zb g3
 have c24:=q0I HB3.out.view 24
 simp only[List.getElem?_cons_zero,List.getElem?_cons_succ]at c24
 have hl3:w.heap.size<W3.heap.size:=zd HB3.out.view
 have hl5:w2.heap.size<W3.heap.size:=zd g3
 have h5:w.heap.size+1<w2.heap.size:=zT (zd HBS.out.res) b2.size
 clear b2 b3 g3 z3 HBS
 go_wp2_with (refine ze rfl 43 (.tmp 5) (.tmp 10) rfl ⟨w2.heap.size,0,none⟩ UF rfl rfl W3 S3 ?_)
 generalize w2.heap.size=b5 at *
 refine(HSS.out _ (HVW.out.snd.below HB3.out.bel)).mono ?_
 rintro e w4 ⟨rfl,b4⟩
 obtain⟨W5,S5,g5,b5',z5⟩:=q0w w4 (zm (B i))
 rw[←HUS.out]at S5
 have HB5:=zb (HB3.out.below (b4.trans (b5'.mono b4.size)))
 have HGA:Hid (W5.heap[b5]?=some (.cells (qA (zm (A i))).toArray 43 (0,0))):=zb (((b4.trans (b5'.mono b4.size)).block b5 hl5).trans HG3.out)
 have HGB:=zb g5
 have c0:=q0I HB5.out.view 0
 simp only[List.getElem?_cons_zero,hk]at c0
 have hl6:w.heap.size<W5.heap.size:=zd HB5.out.view
 clear b4 b5' g5 z5 HB3 HG3 c24 S3 hl5
 have L5:=qg HGA.out
 have L6:=qg HGB.out
 rw[←HUF.out]at L5
 rw[←HUS.out]at L6
 go_wp2_with (first|(refine ze rfl 43 (.tmp 6) (.tmp 14) rfl ⟨w4.heap.size,0,none⟩ US rfl rfl W5 S5 ?_)|(refine zj rfl 43 (.tmp 5) rfl ⟨b5,0,none⟩ UF rfl L5 ?_)|(refine zj rfl 43 (.tmp 6) rfl ⟨w4.heap.size,0,none⟩ US rfl L6 ?_))
 refine(HC.out _).mono ?_
 rintro e w7 ⟨rfl,b7⟩
 obtain⟨W,S1,LV,BW⟩:=q1L HB5.out.res (by omega) HB5.out.bel b7 r
 rw[←HTT.out]at S1 LV
 have HW:=zb BW
 clear b7 BW c0 L5 L6
 go_wp2_with (refine ze rfl 43 (.tmp 4) (.tmp 35) rfl ⟨w.heap.size+1,0,none⟩ T rfl rfl W S1 ?_)
 exact zP (v:=T) (zl rfl _ _ _ _ rfl LV) rfl ⟨rfl,HW.out⟩
theorem j7b (V:Value)(nd:PNode)(lb lo:Nat)(ao:OA)(cap:Nat)(PL:List PPt)(vf vs:Value)(hV:V=.agg (q1a nd lb lo vf vs).toArray)(mA mB:Nat)(A B:Nat→Nat→Nat→Bool)(i:Nat)(_hi:i<PL.length)(w:World)(h:VwAt w lb lo ao cap PL vf vs mA mB A B)(hk:nd.kind=7) :
  Calls Tryz.prog 103 #[V,.int .i64 i] w fun e w'=>e=.returned (zr (zm fun x y=>qD nd (zz PL) A B i x y))∧Below w.heap.size w w':=by
 obtain⟨fa,fc,rfl⟩:=h.fst.form
 obtain⟨sa,sc,rfl⟩:=h.snd.form
 have HV:=zb hV
 have HVW:=zb h
 have HSF:=zb (fun W (q:Tb W (.slice fa mA fc) mA A)=>q0x (.slice fa mA fc) mA A h.szA i W q)
 have HSS:=zb (fun W (q:Tb W (.slice sa mB sc) mB B)=>q0x (.slice sa mB sc) mB B h.szB i W q)
 obtain⟨UF,hUF⟩:∃U,U=zr (zm (A i)):=⟨_,rfl⟩
 obtain⟨US,hUS⟩:∃U,U=zr (zm (B i)):=⟨_,rfl⟩
 rw[←hUF]at HSF
 rw[←hUS]at HSS
 have HUF:=zb hUF
 have HUS:=zb hUS
 clear hV h hUF hUS
 have e:(fun x y=>qD nd (zz PL) A B i x y)=fun x y=>A i x y&&!B i x y:=by funext x y;unfold qD;rw[hk];rfl
 rw[e]
 have HC:=zb (j0o (A i) (B i))
 rw[←HUF.out,←HUS.out]at HC
 generalize zm (fun x y=>A i x y&&!B i x y)=r at *
 obtain⟨T,hT⟩:∃T,T=zr r:=⟨_,rfl⟩
 rw[←hT]at HC ⊢
 have HTT:=zb hT
 clear e hT
 go_enter Tryz.func103,Tryz.ntmps103
 go_wp2_with (first|(refine qF rfl 168 (.tmp 0) rfl V _ rfl HV.out ?_;intro W0 g0 b0 z0;have HZ0:=zb z0;have HG0:=zb g0;have HB0:=zb b0;have c23:=q0I g0 23;simp only[List.getElem?_cons_zero,List.getElem?_cons_succ]at c23;have hl0:w.heap.size<W0.heap.size:=(by omega);clear g0 z0 b0))
 have ew0:W0.heap.size=w.heap.size+1:=HZ0.out
 have hb1:BsAt w (W0.alloc (.cells zCs 43)) nd lb lo (.slice fa mA fc) (.slice sa mB sc):=⟨(zO _ _ hl0).trans HG0.out,by rw[←HZ0.out];exact zN _ _,HB0.out.alloc HB0.out.size _⟩
 have HBS:=zb hb1
 rw[ew0]
 clear hb1 HZ0 HG0 HB0 c23
 generalize W0.alloc (.cells zCs 43)=W1 at *
 clear hl0 ew0
 refine(HSF.out _ (HVW.out.fst.below HBS.out.bel)).mono ?_
 rintro e w2 ⟨rfl,b2⟩
 obtain⟨W3,S3,g3,b3,z3⟩:=q0w w2 (zm (A i))
 rw[←HUF.out]at S3
 have HB3:=zb (HBS.out.below (b2.trans (b3.mono b2.size)))
 have HG3:=zb g3
 have c24:=q0I HB3.out.view 24
 simp only[List.getElem?_cons_zero,List.getElem?_cons_succ]at c24
 have hl3:w.heap.size<W3.heap.size:=zd HB3.out.view
 have hl5:w2.heap.size<W3.heap.size:=zd g3
 have h5:w.heap.size+1<w2.heap.size:=zT (zd HBS.out.res) b2.size
 clear b2 b3 g3 z3 HBS
 go_wp2_with (refine ze rfl 43 (.tmp 5) (.tmp 10) rfl ⟨w2.heap.size,0,none⟩ UF rfl rfl W3 S3 ?_)
 generalize w2.heap.size=b5 at *
 refine(HSS.out _ (HVW.out.snd.below HB3.out.bel)).mono ?_
 rintro e w4 ⟨rfl,b4⟩
 obtain⟨W5,S5,g5,b5',z5⟩:=q0w w4 (zm (B i))
 rw[←HUS.out]at S5
 have HB5:=zb (HB3.out.below (b4.trans (b5'.mono b4.size)))
 have HGA:Hid (W5.heap[b5]?=some (.cells (qA (zm (A i))).toArray 43 (0,0))):=zb (((b4.trans (b5'.mono b4.size)).block b5 hl5).trans HG3.out)
 have HGB:=zb g5
 have c0:=q0I HB5.out.view 0
 simp only[List.getElem?_cons_zero,hk]at c0
 have hl6:w.heap.size<W5.heap.size:=zd HB5.out.view
 clear b4 b5' g5 z5 HB3 HG3 c24 S3 hl5
 have L5:=qg HGA.out
 have L6:=qg HGB.out
 rw[←HUF.out]at L5
 rw[←HUS.out]at L6
 go_wp2_with (first|(refine ze rfl 43 (.tmp 6) (.tmp 14) rfl ⟨w4.heap.size,0,none⟩ US rfl rfl W5 S5 ?_)|(refine zj rfl 43 (.tmp 5) rfl ⟨b5,0,none⟩ UF rfl L5 ?_)|(refine zj rfl 43 (.tmp 6) rfl ⟨w4.heap.size,0,none⟩ US rfl L6 ?_))
 refine(HC.out _).mono ?_
 rintro e w7 ⟨rfl,b7⟩
 obtain⟨W,S1,LV,BW⟩:=q1L HB5.out.res (by omega) HB5.out.bel b7 r
 rw[←HTT.out]at S1 LV
 have HW:=zb BW
 clear b7 BW c0 L5 L6
 go_wp2_with (refine ze rfl 43 (.tmp 4) (.tmp 40) rfl ⟨w.heap.size+1,0,none⟩ T rfl rfl W S1 ?_)
 exact zP (v:=T) (zl rfl _ _ _ _ rfl LV) rfl ⟨rfl,HW.out⟩
theorem j9q (V:Value)(nd:PNode)(lb lo:Nat)(ao:OA)(cap:Nat)(PL:List PPt)(vf vs:Value)(hV:V=.agg (q1a nd lb lo vf vs).toArray)(mA mB:Nat)(A B:Nat→Nat→Nat→Bool)(i:Nat)(_hi:i<PL.length)(w:World)(h:VwAt w lb lo ao cap PL vf vs mA mB A B)(hk:nd.kind=8) :
  Calls Tryz.prog 103 #[V,.int .i64 i] w fun e w'=>e=.returned (zr (zm fun x y=>qD nd (zz PL) A B i x y))∧Below w.heap.size w w':=by
 obtain⟨fa,fc,rfl⟩:=h.fst.form
 obtain⟨sa,sc,rfl⟩:=h.snd.form
 have HV:=zb hV
 have HVW:=zb h
 have HSF:=zb (fun W (q:Tb W (.slice fa mA fc) mA A)=>q0x (.slice fa mA fc) mA A h.szA i W q)
 have HSS:=zb (fun W (q:Tb W (.slice sa mB sc) mB B)=>q0x (.slice sa mB sc) mB B h.szB i W q)
 obtain⟨UF,hUF⟩:∃U,U=zr (zm (A i)):=⟨_,rfl⟩
 obtain⟨US,hUS⟩:∃U,U=zr (zm (B i)):=⟨_,rfl⟩
 rw[←hUF]at HSF
 rw[←hUS]at HSS
 have HUF:=zb hUF
 have HUS:=zb hUS
 clear hV h hUF hUS
 have e:(fun x y=>qD nd (zz PL) A B i x y)=fun x y=>A i x y || B i x y:=by funext x y;unfold qD;rw[hk];rfl
 rw[e]
 have HC:=zb (q8r (A i) (B i))
 rw[←HUF.out,←HUS.out]at HC
 generalize zm (fun x y=>A i x y || B i x y)=r at *
 obtain⟨T,hT⟩:∃T,T=zr r:=⟨_,rfl⟩
 rw[←hT]at HC ⊢
 have HTT:=zb hT
 clear e hT
 go_enter Tryz.func103,Tryz.ntmps103
 go_wp2_with (first|(refine qF rfl 168 (.tmp 0) rfl V _ rfl HV.out ?_;intro W0 g0 b0 z0;have HZ0:=zb z0;have HG0:=zb g0;have HB0:=zb b0;have c23:=q0I g0 23;simp only[List.getElem?_cons_zero,List.getElem?_cons_succ]at c23;have hl0:w.heap.size<W0.heap.size:=(by omega);clear g0 z0 b0))
 have ew0:W0.heap.size=w.heap.size+1:=HZ0.out
 have hb1:BsAt w (W0.alloc (.cells zCs 43)) nd lb lo (.slice fa mA fc) (.slice sa mB sc):=⟨(zO _ _ hl0).trans HG0.out,by rw[←HZ0.out];exact zN _ _,HB0.out.alloc HB0.out.size _⟩
 have HBS:=zb hb1
 rw[ew0]
 clear hb1 HZ0 HG0 HB0 c23
 generalize W0.alloc (.cells zCs 43)=W1 at *
 clear hl0 ew0
 refine(HSF.out _ (HVW.out.fst.below HBS.out.bel)).mono ?_
 rintro e w2 ⟨rfl,b2⟩
 obtain⟨W3,S3,g3,b3,z3⟩:=q0w w2 (zm (A i))
 rw[←HUF.out]at S3
 have HB3:=zb (HBS.out.below (b2.trans (b3.mono b2.size)))
 have HG3:=zb g3
 have c24:=q0I HB3.out.view 24
 simp only[List.getElem?_cons_zero,List.getElem?_cons_succ]at c24
 have hl3:w.heap.size<W3.heap.size:=zd HB3.out.view
 have hl5:w2.heap.size<W3.heap.size:=zd g3
 have h5:w.heap.size+1<w2.heap.size:=zT (zd HBS.out.res) b2.size
 clear b2 b3 g3 z3 HBS
 go_wp2_with (refine ze rfl 43 (.tmp 5) (.tmp 10) rfl ⟨w2.heap.size,0,none⟩ UF rfl rfl W3 S3 ?_)
 generalize w2.heap.size=b5 at *
 refine(HSS.out _ (HVW.out.snd.below HB3.out.bel)).mono ?_
 rintro e w4 ⟨rfl,b4⟩
 obtain⟨W5,S5,g5,b5',z5⟩:=q0w w4 (zm (B i))
 rw[←HUS.out]at S5
 have HB5:=zb (HB3.out.below (b4.trans (b5'.mono b4.size)))
 have HGA:Hid (W5.heap[b5]?=some (.cells (qA (zm (A i))).toArray 43 (0,0))):=zb (((b4.trans (b5'.mono b4.size)).block b5 hl5).trans HG3.out)
 have HGB:=zb g5
 have c0:=q0I HB5.out.view 0
 simp only[List.getElem?_cons_zero,hk]at c0
 have hl6:w.heap.size<W5.heap.size:=zd HB5.out.view
 clear b4 b5' g5 z5 HB3 HG3 c24 S3 hl5
 have L5:=qg HGA.out
 have L6:=qg HGB.out
 rw[←HUF.out]at L5
 rw[←HUS.out]at L6
 go_wp2_with (first|(refine ze rfl 43 (.tmp 6) (.tmp 14) rfl ⟨w4.heap.size,0,none⟩ US rfl rfl W5 S5 ?_)|(refine zj rfl 43 (.tmp 5) rfl ⟨b5,0,none⟩ UF rfl L5 ?_)|(refine zj rfl 43 (.tmp 6) rfl ⟨w4.heap.size,0,none⟩ US rfl L6 ?_))
 refine(HC.out _).mono ?_
 rintro e w7 ⟨rfl,b7⟩
 obtain⟨W,S1,LV,BW⟩:=q1L HB5.out.res (by omega) HB5.out.bel b7 r
 rw[←HTT.out]at S1 LV
 have HW:=zb BW
 clear b7 BW c0 L5 L6
 go_wp2_with (refine ze rfl 43 (.tmp 4) (.tmp 45) rfl ⟨w.heap.size+1,0,none⟩ T rfl rfl W S1 ?_)
 exact zP (v:=T) (zl rfl _ _ _ _ rfl LV) rfl ⟨rfl,HW.out⟩
theorem j4Y (V:Value)(nd:PNode)(lb lo:Nat)(ao:OA)(cap:Nat)(PL:List PPt)(vf vs:Value)(hV:V=.agg (q1a nd lb lo vf vs).toArray)(mA mB:Nat)(A B:Nat→Nat→Nat→Bool)(i:Nat)(_hi:i<PL.length)(w:World)(h:VwAt w lb lo ao cap PL vf vs mA mB A B)(hk:nd.kind=5) :
  Calls Tryz.prog 103 #[V,.int .i64 i] w fun e w'=>e=.returned (zr (zm fun x y=>qD nd (zz PL) A B i x y))∧Below w.heap.size w w':=by
 obtain⟨fa,fc,rfl⟩:=h.fst.form
 obtain⟨sa,sc,rfl⟩:=h.snd.form
 have HV:=zb hV
 have HVW:=zb h
 have HSF:=zb (fun W (q:Tb W (.slice fa mA fc) mA A)=>q0x (.slice fa mA fc) mA A h.szA i W q)
 have HSS:=zb (fun W (q:Tb W (.slice sa mB sc) mB B)=>q0x (.slice sa mB sc) mB B h.szB i W q)
 obtain⟨UF,hUF⟩:∃U,U=zr (zm (A i)):=⟨_,rfl⟩
 obtain⟨US,hUS⟩:∃U,U=zr (zm (B i)):=⟨_,rfl⟩
 rw[←hUF]at HSF
 rw[←hUS]at HSS
 have HUF:=zb hUF
 have HUS:=zb hUS
 clear hV h hUF hUS
 have e:(fun x y=>qD nd (zz PL) A B i x y)=fun _ _=>true:=by funext x y;unfold qD;rw[hk];rfl
 rw[e]
 have HC:=zb q3g
 generalize zm (fun _ _=>true)=r at *
 obtain⟨T,hT⟩:∃T,T=zr r:=⟨_,rfl⟩
 rw[←hT]at HC ⊢
 have HTT:=zb hT
 clear e hT
 go_enter Tryz.func103,Tryz.ntmps103
 go_wp2_with (first|(refine qF rfl 168 (.tmp 0) rfl V _ rfl HV.out ?_;intro W0 g0 b0 z0;have HZ0:=zb z0;have HG0:=zb g0;have HB0:=zb b0;have c23:=q0I g0 23;simp only[List.getElem?_cons_zero,List.getElem?_cons_succ]at c23;have hl0:w.heap.size<W0.heap.size:=(by omega);clear g0 z0 b0))
 have ew0:W0.heap.size=w.heap.size+1:=HZ0.out
 have hb1:BsAt w (W0.alloc (.cells zCs 43)) nd lb lo (.slice fa mA fc) (.slice sa mB sc):=⟨(zO _ _ hl0).trans HG0.out,by rw[←HZ0.out];exact zN _ _,HB0.out.alloc HB0.out.size _⟩
 have HBS:=zb hb1
 rw[ew0]
 clear hb1 HZ0 HG0 HB0 c23
 generalize W0.alloc (.cells zCs 43)=W1 at *
 clear hl0 ew0
 refine(HSF.out _ (HVW.out.fst.below HBS.out.bel)).mono ?_
 rintro e w2 ⟨rfl,b2⟩
 obtain⟨W3,S3,g3,b3,z3⟩:=q0w w2 (zm (A i))
 rw[←HUF.out]at S3
 have HB3:=zb (HBS.out.below (b2.trans (b3.mono b2.size)))
 have HG3:=zb g3
 have c24:=q0I HB3.out.view 24
 simp only[List.getElem?_cons_zero,List.getElem?_cons_succ]at c24
 have hl3:w.heap.size<W3.heap.size:=zd HB3.out.view
 have hl5:w2.heap.size<W3.heap.size:=zd g3
 have h5:w.heap.size+1<w2.heap.size:=zT (zd HBS.out.res) b2.size
 clear b2 b3 g3 z3 HBS
 go_wp2_with (refine ze rfl 43 (.tmp 5) (.tmp 10) rfl ⟨w2.heap.size,0,none⟩ UF rfl rfl W3 S3 ?_)
 generalize w2.heap.size=b5 at *
 refine(HSS.out _ (HVW.out.snd.below HB3.out.bel)).mono ?_
 rintro e w4 ⟨rfl,b4⟩
 obtain⟨W5,S5,g5,b5',z5⟩:=q0w w4 (zm (B i))
 rw[←HUS.out]at S5
 have HB5:=zb (HB3.out.below (b4.trans (b5'.mono b4.size)))
 have HGA:Hid (W5.heap[b5]?=some (.cells (qA (zm (A i))).toArray 43 (0,0))):=zb (((b4.trans (b5'.mono b4.size)).block b5 hl5).trans HG3.out)
 have HGB:=zb g5
 have c0:=q0I HB5.out.view 0
 simp only[List.getElem?_cons_zero,hk]at c0
 have hl6:w.heap.size<W5.heap.size:=zd HB5.out.view
 clear b4 b5' g5 z5 HB3 HG3 c24 S3 hl5
 go_wp2_with (refine ze rfl 43 (.tmp 6) (.tmp 14) rfl ⟨w4.heap.size,0,none⟩ US rfl rfl W5 S5 ?_)
 refine(HC.out _).mono ?_
 rintro e w7 ⟨rfl,b7⟩
 obtain⟨W,S1,LV,BW⟩:=q1L HB5.out.res (by omega) HB5.out.bel b7 r
 rw[←HTT.out]at S1 LV
 have HW:=zb BW
 clear b7 BW c0
 go_wp2_with (refine ze rfl 43 (.tmp 4) (.tmp 20) rfl ⟨w.heap.size+1,0,none⟩ T rfl rfl W S1 ?_)
 exact zP (v:=T) (zl rfl _ _ _ _ rfl LV) rfl ⟨rfl,HW.out⟩
theorem j9p (V:Value)(nd:PNode)(lb lo:Nat)(ao:OA)(cap:Nat)(PL:List PPt)(vf vs:Value)(hV:V=.agg (q1a nd lb lo vf vs).toArray)(mA mB:Nat)(A B:Nat→Nat→Nat→Bool)(i:Nat)(_hi:i<PL.length)(w:World)(h:VwAt w lb lo ao cap PL vf vs mA mB A B)(hk:nd.kind=9) :
  Calls Tryz.prog 103 #[V,.int .i64 i] w fun e w'=>e=.returned (zr (zm fun x y=>qD nd (zz PL) A B i x y))∧Below w.heap.size w w':=by
 obtain⟨fa,fc,rfl⟩:=h.fst.form
 obtain⟨sa,sc,rfl⟩:=h.snd.form
 have HV:=zb hV
 have HVW:=zb h
 have HSF:=zb (fun W (q:Tb W (.slice fa mA fc) mA A)=>q0x (.slice fa mA fc) mA A h.szA i W q)
 have HSS:=zb (fun W (q:Tb W (.slice sa mB sc) mB B)=>q0x (.slice sa mB sc) mB B h.szB i W q)
 obtain⟨UF,hUF⟩:∃U,U=zr (zm (A i)):=⟨_,rfl⟩
 obtain⟨US,hUS⟩:∃U,U=zr (zm (B i)):=⟨_,rfl⟩
 rw[←hUF]at HSF
 rw[←hUS]at HSS
 have HUF:=zb hUF
 have HUS:=zb hUS
 clear hV h hUF hUS
 have e:(fun x y=>qD nd (zz PL) A B i x y)=fun x y=>(List.range 10).any fun v=>if nd.var=3 then A i v y else A i x v:=by funext x y;unfold qD;rw[hk];rfl
 rw[e]
 have HC:=zb (j4Z nd.var (A i))
 rw[←HUF.out]at HC
 generalize zm (fun x y=>(List.range 10).any fun v=>if nd.var=3 then A i v y else A i x v)=r at *
 obtain⟨T,hT⟩:∃T,T=zr r:=⟨_,rfl⟩
 rw[←hT]at HC ⊢
 have HTT:=zb hT
 clear e hT
 go_enter Tryz.func103,Tryz.ntmps103
 go_wp2_with (first|(refine qF rfl 168 (.tmp 0) rfl V _ rfl HV.out ?_;intro W0 g0 b0 z0;have HZ0:=zb z0;have HG0:=zb g0;have HB0:=zb b0;have c23:=q0I g0 23;simp only[List.getElem?_cons_zero,List.getElem?_cons_succ]at c23;have hl0:w.heap.size<W0.heap.size:=(by omega);clear g0 z0 b0))
 have ew0:W0.heap.size=w.heap.size+1:=HZ0.out
 have hb1:BsAt w (W0.alloc (.cells zCs 43)) nd lb lo (.slice fa mA fc) (.slice sa mB sc):=⟨(zO _ _ hl0).trans HG0.out,by rw[←HZ0.out];exact zN _ _,HB0.out.alloc HB0.out.size _⟩
 have HBS:=zb hb1
 rw[ew0]
 clear hb1 HZ0 HG0 HB0 c23
 generalize W0.alloc (.cells zCs 43)=W1 at *
 clear hl0 ew0
 refine(HSF.out _ (HVW.out.fst.below HBS.out.bel)).mono ?_
 rintro e w2 ⟨rfl,b2⟩
 obtain⟨W3,S3,g3,b3,z3⟩:=q0w w2 (zm (A i))
 rw[←HUF.out]at S3
 have HB3:=zb (HBS.out.below (b2.trans (b3.mono b2.size)))
 have HG3:=zb g3
 have c24:=q0I HB3.out.view 24
 simp only[List.getElem?_cons_zero,List.getElem?_cons_succ]at c24
 have hl3:w.heap.size<W3.heap.size:=zd HB3.out.view
 have hl5:w2.heap.size<W3.heap.size:=zd g3
 have h5:w.heap.size+1<w2.heap.size:=zT (zd HBS.out.res) b2.size
 clear b2 b3 g3 z3 HBS
 go_wp2_with (refine ze rfl 43 (.tmp 5) (.tmp 10) rfl ⟨w2.heap.size,0,none⟩ UF rfl rfl W3 S3 ?_)
 generalize w2.heap.size=b5 at *
 refine(HSS.out _ (HVW.out.snd.below HB3.out.bel)).mono ?_
 rintro e w4 ⟨rfl,b4⟩
 obtain⟨W5,S5,g5,b5',z5⟩:=q0w w4 (zm (B i))
 rw[←HUS.out]at S5
 have HB5:=zb (HB3.out.below (b4.trans (b5'.mono b4.size)))
 have HGA:Hid (W5.heap[b5]?=some (.cells (qA (zm (A i))).toArray 43 (0,0))):=zb (((b4.trans (b5'.mono b4.size)).block b5 hl5).trans HG3.out)
 have HGB:=zb g5
 have c0:=q0I HB5.out.view 0
 simp only[List.getElem?_cons_zero,hk]at c0
 have hl6:w.heap.size<W5.heap.size:=zd HB5.out.view
 clear b4 b5' g5 z5 HB3 HG3 c24 S3 hl5
 have L5:=qg HGA.out
 rw[←HUF.out]at L5
 have c15:=q0I HB5.out.view 15
 simp only[List.getElem?_cons_succ,List.getElem?_cons_zero]at c15
 go_wp2_with (first|(refine ze rfl 43 (.tmp 6) (.tmp 14) rfl ⟨w4.heap.size,0,none⟩ US rfl rfl W5 S5 ?_)|(refine zj rfl 43 (.tmp 5) rfl ⟨b5,0,none⟩ UF rfl L5 ?_))
 refine(HC.out _).mono ?_
 rintro e w7 ⟨rfl,b7⟩
 obtain⟨W,S1,LV,BW⟩:=q1L HB5.out.res (by omega) HB5.out.bel b7 r
 rw[←HTT.out]at S1 LV
 have HW:=zb BW
 clear b7 BW c0 c15 L5
 go_wp2_with (refine ze rfl 43 (.tmp 4) (.tmp 52) rfl ⟨w.heap.size+1,0,none⟩ T rfl rfl W S1 ?_)
 exact zP (v:=T) (zl rfl _ _ _ _ rfl LV) rfl ⟨rfl,HW.out⟩
theorem VwAt.below' {w w':World}{lb lo:Nat}{ao:OA}{cap:Nat}{PL:List PPt}{vf vs:Value}{mA mB:Nat}{A B:Nat→Nat→Nat→Bool}(h:VwAt w lb lo ao cap PL vf vs mA mB A B)(hb:Below w.heap.size w w'):VwAt w' lb lo ao cap PL vf vs mA mB A B:=h.below hb
theorem q8c (V:Value)(nd:PNode)(lb lo:Nat)(ao:OA)(cap:Nat)(PL:List PPt)(vf vs:Value)(hV:V=.agg (q1a nd lb lo vf vs).toArray)(mA mB:Nat)(A B:Nat→Nat→Nat→Bool)(i:Nat)(_hi:i<PL.length)(w:World)(h:VwAt w lb lo ao cap PL vf vs mA mB A B)(hk:nd.kind=10∨nd.kind=11)(hC:∀W,VwAt W lb lo ao cap PL vf vs mA mB A B→Calls Tryz.prog 139 #[V,.int .i64 i] W fun e w'=>e=.returned (zr (zm fun x y=>qD nd (zz PL) A B i x y))∧Below W.heap.size W w') :
  Calls Tryz.prog 103 #[V,.int .i64 i] w fun e w'=>e=.returned (zr (zm fun x y=>qD nd (zz PL) A B i x y))∧Below w.heap.size w w':=by
 obtain⟨fa,fc,rfl⟩:=h.fst.form
 obtain⟨sa,sc,rfl⟩:=h.snd.form
 have HV:=zb hV
 have HVW:=zb h
 have HSF:=zb (fun W (q:Tb W (.slice fa mA fc) mA A)=>q0x (.slice fa mA fc) mA A h.szA i W q)
 have HSS:=zb (fun W (q:Tb W (.slice sa mB sc) mB B)=>q0x (.slice sa mB sc) mB B h.szB i W q)
 obtain⟨UF,hUF⟩:∃U,U=zr (zm (A i)):=⟨_,rfl⟩
 obtain⟨US,hUS⟩:∃U,U=zr (zm (B i)):=⟨_,rfl⟩
 rw[←hUF]at HSF
 rw[←hUS]at HSS
 have HUF:=zb hUF
 have HUS:=zb hUS
 clear hV h hUF hUS
 obtain⟨T,hT⟩:∃T,T=zr (zm fun x y=>qD nd (zz PL) A B i x y):=⟨_,rfl⟩
 have HC:=zb hC
 rw[←hT]at HC ⊢
 have HTT:=zb hT
 clear hT hC
 rcases hk with hk|hk
 all_goals
  go_enter Tryz.func103,Tryz.ntmps103
  go_wp2_with (first|(refine qF rfl 168 (.tmp 0) rfl V _ rfl HV.out ?_;intro W0 g0 b0 z0;have HZ0:=zb z0;have HG0:=zb g0;have HB0:=zb b0;have c23:=q0I g0 23;simp only[List.getElem?_cons_zero,List.getElem?_cons_succ]at c23;have hl0:w.heap.size<W0.heap.size:=(by omega);clear g0 z0 b0))
  have ew0:W0.heap.size=w.heap.size+1:=HZ0.out
  have hb1:BsAt w (W0.alloc (.cells zCs 43)) nd lb lo (.slice fa mA fc) (.slice sa mB sc):=⟨(zO _ _ hl0).trans HG0.out,by rw[←HZ0.out];exact zN _ _,HB0.out.alloc HB0.out.size _⟩
  have HBS:=zb hb1
  rw[ew0]
  clear hb1 HZ0 HG0 HB0 c23
  generalize W0.alloc (.cells zCs 43)=W1 at *
  clear hl0 ew0
  refine(HSF.out _ (HVW.out.fst.below HBS.out.bel)).mono ?_
  rintro e w2 ⟨rfl,b2⟩
  obtain⟨W3,S3,g3,b3,z3⟩:=q0w w2 (zm (A i))
  rw[←HUF.out]at S3
  have HB3:=zb (HBS.out.below (b2.trans (b3.mono b2.size)))
  have HG3:=zb g3
  have c24:=q0I HB3.out.view 24
  simp only[List.getElem?_cons_zero,List.getElem?_cons_succ]at c24
  have hl3:w.heap.size<W3.heap.size:=zd HB3.out.view
  have hl5:w2.heap.size<W3.heap.size:=zd g3
  have h5:w.heap.size+1<w2.heap.size:=zT (zd HBS.out.res) b2.size
  clear b2 b3 g3 z3 HBS
  go_wp2_with (refine ze rfl 43 (.tmp 5) (.tmp 10) rfl ⟨w2.heap.size,0,none⟩ UF rfl rfl W3 S3 ?_)
  generalize w2.heap.size=b5 at *
  refine(HSS.out _ (HVW.out.snd.below HB3.out.bel)).mono ?_
  rintro e w4 ⟨rfl,b4⟩
  obtain⟨W5,S5,g5,b5',z5⟩:=q0w w4 (zm (B i))
  rw[←HUS.out]at S5
  have HB5:=zb (HB3.out.below (b4.trans (b5'.mono b4.size)))
  have HGA:Hid (W5.heap[b5]?=some (.cells (qA (zm (A i))).toArray 43 (0,0))):=zb (((b4.trans (b5'.mono b4.size)).block b5 hl5).trans HG3.out)
  have HGB:=zb g5
  have c0:=q0I HB5.out.view 0
  simp only[List.getElem?_cons_zero,hk]at c0
  have hl6:w.heap.size<W5.heap.size:=zd HB5.out.view
  clear b4 b5' g5 z5 HB3 HG3 c24 S3 hl5
  have LVw:=q2I HB5.out.view
  rw[←HV.out]at LVw
  go_wp2_with (first|(refine ze rfl 43 (.tmp 6) (.tmp 14) rfl ⟨w4.heap.size,0,none⟩ US rfl rfl W5 S5 ?_)|(refine zj rfl 168 (.tmp 2) rfl ⟨w.heap.size,0,none⟩ V rfl LVw ?_))
  refine(HC.out _ (HVW.out.below' HB5.out.bel)).mono ?_
  rintro e w7 ⟨rfl,b7⟩
  obtain⟨W,S1,LV,BW⟩:=q1L HB5.out.res (by omega) HB5.out.bel b7 (zm fun x y=>qD nd (zz PL) A B i x y)
  rw[←HTT.out]at S1 LV
  have HW:=zb BW
  clear b7 BW c0 LVw
  go_wp2_with (refine ze rfl 43 (.tmp 4) (.tmp 58) rfl ⟨w.heap.size+1,0,none⟩ T rfl rfl W S1 ?_)
  exact zP (v:=T) (zl rfl _ _ _ _ rfl LV) rfl ⟨rfl,HW.out⟩
theorem j3H (V:Value)(nd:PNode)(lb lo:Nat)(ao:OA)(cap:Nat)(PL:List PPt)(vf vs:Value)(hV:V=.agg (q1a nd lb lo vf vs).toArray)(mA mB:Nat)(A B:Nat→Nat→Nat→Bool)(i:Nat)(_hi:i<PL.length)(w:World)(h:VwAt w lb lo ao cap PL vf vs mA mB A B)(hk:12≤nd.kind)(hC:∀W,VwAt W lb lo ao cap PL vf vs mA mB A B→Calls Tryz.prog 140 #[V,.int .i64 i] W fun e w'=>e=.returned (zr (zm fun x y=>qD nd (zz PL) A B i x y))∧Below W.heap.size W w') :
  Calls Tryz.prog 103 #[V,.int .i64 i] w fun e w'=>e=.returned (zr (zm fun x y=>qD nd (zz PL) A B i x y))∧Below w.heap.size w w':=by
 obtain⟨fa,fc,rfl⟩:=h.fst.form
 obtain⟨sa,sc,rfl⟩:=h.snd.form
 have HV:=zb hV
 have HVW:=zb h
 have HSF:=zb (fun W (q:Tb W (.slice fa mA fc) mA A)=>q0x (.slice fa mA fc) mA A h.szA i W q)
 have HSS:=zb (fun W (q:Tb W (.slice sa mB sc) mB B)=>q0x (.slice sa mB sc) mB B h.szB i W q)
 obtain⟨UF,hUF⟩:∃U,U=zr (zm (A i)):=⟨_,rfl⟩
 obtain⟨US,hUS⟩:∃U,U=zr (zm (B i)):=⟨_,rfl⟩
 rw[←hUF]at HSF
 rw[←hUS]at HSS
 have HUF:=zb hUF
 have HUS:=zb hUS
 clear hV h hUF hUS
 obtain⟨T,hT⟩:∃T,T=zr (zm fun x y=>qD nd (zz PL) A B i x y):=⟨_,rfl⟩
 have HC:=zb hC
 rw[←hT]at HC ⊢
 have HTT:=zb hT
 clear hT hC
 have k1:¬nd.kind=5∧¬nd.kind=2∧¬nd.kind=6∧¬nd.kind=7∧¬nd.kind=8∧¬nd.kind=9∧¬nd.kind=10∧¬nd.kind=11:=by omega
 obtain⟨q5,q2,q6,q7,q8,q9,q10,q11⟩:=k1
 have e5:(nd.kind==5)=false:=by simpa using q5
 have e2:(nd.kind==2)=false:=by simpa using q2
 have e6:(nd.kind==6)=false:=by simpa using q6
 have e7:(nd.kind==7)=false:=by simpa using q7
 have e8:(nd.kind==8)=false:=by simpa using q8
 have e9:(nd.kind==9)=false:=by simpa using q9
 have e10:(nd.kind==10)=false:=by simpa using q10
 have e11:(nd.kind==11)=false:=by simpa using q11
 clear hk
 go_enter Tryz.func103,Tryz.ntmps103
 go_wp2_with (first|(refine qF rfl 168 (.tmp 0) rfl V _ rfl HV.out ?_;intro W0 g0 b0 z0;have HZ0:=zb z0;have HG0:=zb g0;have HB0:=zb b0;have c23:=q0I g0 23;simp only[List.getElem?_cons_zero,List.getElem?_cons_succ]at c23;have hl0:w.heap.size<W0.heap.size:=(by omega);clear g0 z0 b0))
 have ew0:W0.heap.size=w.heap.size+1:=HZ0.out
 have hb1:BsAt w (W0.alloc (.cells zCs 43)) nd lb lo (.slice fa mA fc) (.slice sa mB sc):=⟨(zO _ _ hl0).trans HG0.out,by rw[←HZ0.out];exact zN _ _,HB0.out.alloc HB0.out.size _⟩
 have HBS:=zb hb1
 rw[ew0]
 clear hb1 HZ0 HG0 HB0 c23
 generalize W0.alloc (.cells zCs 43)=W1 at *
 clear hl0 ew0
 refine(HSF.out _ (HVW.out.fst.below HBS.out.bel)).mono ?_
 rintro e w2 ⟨rfl,b2⟩
 obtain⟨W3,S3,g3,b3,z3⟩:=q0w w2 (zm (A i))
 rw[←HUF.out]at S3
 have HB3:=zb (HBS.out.below (b2.trans (b3.mono b2.size)))
 have HG3:=zb g3
 have c24:=q0I HB3.out.view 24
 simp only[List.getElem?_cons_zero,List.getElem?_cons_succ]at c24
 have hl3:w.heap.size<W3.heap.size:=zd HB3.out.view
 have hl5:w2.heap.size<W3.heap.size:=zd g3
 have h5:w.heap.size+1<w2.heap.size:=zT (zd HBS.out.res) b2.size
 clear b2 b3 g3 z3 HBS
 go_wp2_with (refine ze rfl 43 (.tmp 5) (.tmp 10) rfl ⟨w2.heap.size,0,none⟩ UF rfl rfl W3 S3 ?_)
 generalize w2.heap.size=b5 at *
 refine(HSS.out _ (HVW.out.snd.below HB3.out.bel)).mono ?_
 rintro e w4 ⟨rfl,b4⟩
 obtain⟨W5,S5,g5,b5',z5⟩:=q0w w4 (zm (B i))
 rw[←HUS.out]at S5
 have HB5:=zb (HB3.out.below (b4.trans (b5'.mono b4.size)))
 have HGA:Hid (W5.heap[b5]?=some (.cells (qA (zm (A i))).toArray 43 (0,0))):=zb (((b4.trans (b5'.mono b4.size)).block b5 hl5).trans HG3.out)
 have HGB:=zb g5
 have c0:=q0I HB5.out.view 0
 simp only[List.getElem?_cons_zero]at c0
 have hl6:w.heap.size<W5.heap.size:=zd HB5.out.view
 clear b4 b5' g5 z5 HB3 HG3 c24 S3 hl5
 have LVw:=q2I HB5.out.view
 rw[←HV.out]at LVw
 go_wp2_with (first|(refine ze rfl 43 (.tmp 6) (.tmp 14) rfl ⟨w4.heap.size,0,none⟩ US rfl rfl W5 S5 ?_)|(refine zj rfl 168 (.tmp 2) rfl ⟨w.heap.size,0,none⟩ V rfl LVw ?_))
 refine(HC.out _ (HVW.out.below' HB5.out.bel)).mono ?_
 rintro e w7 ⟨rfl,b7⟩
 obtain⟨W,S1,LV,BW⟩:=q1L HB5.out.res (by omega) HB5.out.bel b7 (zm fun x y=>qD nd (zz PL) A B i x y)
 rw[←HTT.out]at S1 LV
 have HW:=zb BW
 clear b7 BW c0 LVw
 go_wp2_with (refine ze rfl 43 (.tmp 4) (.tmp 61) rfl ⟨w.heap.size+1,0,none⟩ T rfl rfl W S1 ?_)
 exact zP (v:=T) (zl rfl _ _ _ _ rfl LV) rfl ⟨rfl,HW.out⟩
def q6k (w:World)(PL:List PPt):Prop:=∀p∈PL,w.ownsRow 0 129 11 p.2 p.1.haps.length (q0b p.1.haps)∧p.1.haps.length≤80∧∀h∈p.1.haps,∀d∈h.ds,d≤9
theorem q6k.below {w w':World}{PL:List PPt}(h:q6k w PL)(hb:Below w.heap.size w w'):q6k w' PL:=fun p hp=>⟨zp (h p hp).1 hb,(h p hp).2⟩
theorem fld_haps (st:Int)(va:OA)(n vc:Nat)(w:World):(Instr.field 96 (.agg #[.int .u16 st,.slice va n vc]) 1).run Tryz.prog w=.ok (.slice va n vc) w:=by kernel_rfl
theorem j8a {ops:Array Oper}{S:World→Prop}{op:Oper}{a:Act}(hw:Region.wanted op (yielded ops a.tmps)=true)(x:Operand)(ho:op.op=.field 96 x 1)(st:Int)(va:OA)(n vc:Nat)(hx:a.eval x=.agg #[.int .u16 st,.slice va n vc]):YieldsIf Tryz.prog ops S op (.slice va n vc) a:=
 .inl ⟨hw,fun w _=>by
  unfold execOp
  simp only[ho,hx,fld_haps,Sem.run_bind,Sem.run_pure,Result.andThen_ok]⟩
theorem j2n {w:World}{b:Nat}{nd:PNode}{lb lo:Nat}{vf vs:Value}(h:w.heap[b]?=some (.cells (q1a nd lb lo vf vs).toArray 168 (0,0))):(Instr.loadAt 166 (.pointer (some ⟨b,0,none⟩))).run Tryz.prog w=.ok (q1C nd) w:=
 run_loadAt_mid w b 0 166 (zq nd) _ (fun j u hj=>by
  have hj2:j<22:=(List.getElem?_eq_some_iff.1 hj).1
  rw[Nat.zero_add,q0I h j]
  have e:q1a nd lb lo vf vs=zq nd++[.pointer (some ⟨lb,lo,none⟩),vf,vs]:=rfl
  rw[e,List.getElem?_append_left (by show j<22;exact hj2)]
  exact hj) Tryz.underlying166 rfl (by kernel_rfl)
theorem j3r {w:World}{b:Nat}{nd:PNode}{lb lo:Nat}{vf vs:Value}(h:w.heap[b]?=some (.cells (q1a nd lb lo vf vs).toArray 168 (0,0))):(Instr.loadAt 132 (.pointer (some ⟨b,22,none⟩))).run Tryz.prog w=.ok (.pointer (some ⟨lb,lo,none⟩)) w:=by
 have hc:w.cell? ⟨b,22,none⟩=some (.pointer (some ⟨lb,lo,none⟩)):=by rw[q0I h 22];rfl
 simp[go_sem,hc]
theorem j3G (V:Value)(nd:PNode)(lb lo:Nat)(ao:OA)(cap:Nat)(PL:List PPt)(vf vs:Value)(hV:V=.agg (q1a nd lb lo vf vs).toArray)(mA mB:Nat)(A B:Nat→Nat→Nat→Bool)(i:Nat)(hi:i<PL.length)(w:World)(h:VwAt w lb lo ao cap PL vf vs mA mB A B)(hk:nd.kind=2)(hcn:∃n:Nat,nd.cnt=(n:Int)∧n≤2)(hH:q6k w PL) :
  Calls Tryz.prog 103 #[V,.int .i64 i] w fun e w'=>e=.returned (zr (zm fun x y=>qD nd (zz PL) A B i x y))∧Below w.heap.size w w':=by
 obtain⟨fa,fc,rfl⟩:=h.fst.form
 obtain⟨sa,sc,rfl⟩:=h.snd.form
 have HV:=zb hV
 have HVW:=zb h
 have HSF:=zb (fun W (q:Tb W (.slice fa mA fc) mA A)=>q0x (.slice fa mA fc) mA A h.szA i W q)
 have HSS:=zb (fun W (q:Tb W (.slice sa mB sc) mB B)=>q0x (.slice sa mB sc) mB B h.szB i W q)
 obtain⟨UF,hUF⟩:∃U,U=zr (zm (A i)):=⟨_,rfl⟩
 obtain⟨US,hUS⟩:∃U,U=zr (zm (B i)):=⟨_,rfl⟩
 rw[←hUF]at HSF
 rw[←hUS]at HSS
 have HUF:=zb hUF
 have HUS:=zb hUS
 clear hV h hUF hUS
 have e:(fun x y=>qD nd (zz PL) A B i x y)=fun x y=>(PL[i]).1.haps.any (evP nd x y):=by
  funext x y
  unfold qD
  rw[hk,if_neg (by decide),if_pos rfl]
  unfold q5y
  rw[List.getElem?_map,zG hi]
  rfl
 rw[e]
 obtain⟨hr,hr80,hrd⟩:=hH _ (List.getElem_mem hi)
 obtain⟨va,vc,ev⟩:=q1n hr
 obtain⟨n,hn,hn2⟩:=hcn
 obtain⟨NV,hNV⟩:∃NV,NV=q1C nd:=⟨_,rfl⟩
 have HAT:=zb (fun W (q:LogAt W lb lo ao cap PL)=>pts_At lb lo ao cap PL i hi W q (fun p hp=>by obtain⟨a,c,e⟩:=q1n (hH p hp).1;exact⟨a,_,c,e⟩))
 rw[ev]at HAT
 have HHP:=zb (fun W (q:W.ownsRow 0 129 11 (.slice va (PL[i]).1.haps.length vc) (PL[i]).1.haps.length (q0b (PL[i]).1.haps))=>j5a NV nd hNV n hn hn2 (.slice va (PL[i]).1.haps.length vc) (PL[i]).1.haps hr80 hrd W q)
 rw[ev]at hr
 have HRW:=zb hr
 obtain⟨T,hT⟩:∃T,T=zr (zm fun x y=>(PL[i]).1.haps.any (evP nd x y)):=⟨_,rfl⟩
 rw[←hT]at HHP ⊢
 have HTT:=zb hT
 have HNV:=zb hNV
 generalize hhl:(PL[i]).1.haps.length=hl at *
 generalize (PL[i]).1.stamp=st at *
 generalize q0b (PL[i]).1.haps=hcs at *
 clear e hT hNV hr hr80 hrd ev hhl hH hn
 go_enter Tryz.func103,Tryz.ntmps103
 go_wp2_with (first|(refine qF rfl 168 (.tmp 0) rfl V _ rfl HV.out ?_;intro W0 g0 b0 z0;have HZ0:=zb z0;have HG0:=zb g0;have HB0:=zb b0;have c23:=q0I g0 23;simp only[List.getElem?_cons_zero,List.getElem?_cons_succ]at c23;have hl0:w.heap.size<W0.heap.size:=(by omega);clear g0 z0 b0))
 have ew0:W0.heap.size=w.heap.size+1:=HZ0.out
 have hb1:BsAt w (W0.alloc (.cells zCs 43)) nd lb lo (.slice fa mA fc) (.slice sa mB sc):=⟨(zO _ _ hl0).trans HG0.out,by rw[←HZ0.out];exact zN _ _,HB0.out.alloc HB0.out.size _⟩
 have HBS:=zb hb1
 rw[ew0]
 clear hb1 HZ0 HG0 HB0 c23
 generalize W0.alloc (.cells zCs 43)=W1 at *
 clear hl0 ew0
 refine(HSF.out _ (HVW.out.fst.below HBS.out.bel)).mono ?_
 rintro e w2 ⟨rfl,b2⟩
 obtain⟨W3,S3,g3,b3,z3⟩:=q0w w2 (zm (A i))
 rw[←HUF.out]at S3
 have HB3:=zb (HBS.out.below (b2.trans (b3.mono b2.size)))
 have HG3:=zb g3
 have c24:=q0I HB3.out.view 24
 simp only[List.getElem?_cons_zero,List.getElem?_cons_succ]at c24
 have hl3:w.heap.size<W3.heap.size:=zd HB3.out.view
 have hl5:w2.heap.size<W3.heap.size:=zd g3
 have h5:w.heap.size+1<w2.heap.size:=zT (zd HBS.out.res) b2.size
 clear b2 b3 g3 z3 HBS
 go_wp2_with (refine ze rfl 43 (.tmp 5) (.tmp 10) rfl ⟨w2.heap.size,0,none⟩ UF rfl rfl W3 S3 ?_)
 generalize w2.heap.size=b5 at *
 refine(HSS.out _ (HVW.out.snd.below HB3.out.bel)).mono ?_
 rintro e w4 ⟨rfl,b4⟩
 obtain⟨W5,S5,g5,b5',z5⟩:=q0w w4 (zm (B i))
 rw[←HUS.out]at S5
 have HB5:=zb (HB3.out.below (b4.trans (b5'.mono b4.size)))
 have HGA:Hid (W5.heap[b5]?=some (.cells (qA (zm (A i))).toArray 43 (0,0))):=zb (((b4.trans (b5'.mono b4.size)).block b5 hl5).trans HG3.out)
 have HGB:=zb g5
 have c0:=q0I HB5.out.view 0
 simp only[List.getElem?_cons_zero,hk]at c0
 have hl6:w.heap.size<W5.heap.size:=zd HB5.out.view
 clear b4 b5' g5 z5 HB3 HG3 c24 S3 hl5
 go_wp2_with (refine ze rfl 43 (.tmp 6) (.tmp 14) rfl ⟨w4.heap.size,0,none⟩ US rfl rfl W5 S5 ?_)
 obtain⟨W,hWd⟩:∃W:World,W=W5:=⟨_,rfl⟩
 rw[←hWd]at HB5 ⊢
 clear hWd c0 S5 HGA HGB hl6
 have HB0:Hid (Below W.heap.size W W.drew):=zb ((zB _ _).drew)
 have HS:Hid (∀w',Below W.heap.size W w'→(Instr.loadAt 166 (.pointer (some ⟨w.heap.size,0,none⟩))).run Tryz.prog w'=.ok NV w'∧(Instr.loadAt 132 (.pointer (some ⟨w.heap.size,22,none⟩))).run Tryz.prog w'=.ok (.pointer (some ⟨lb,lo,none⟩)) w'):=zb (fun w' hb=>⟨by rw[HNV.out];exact j2n (HB5.out.below hb).view,j3r (HB5.out.below hb).view⟩)
 have FIN:Hid (∀w',Below W.heap.size W w'→∃WS,(Instr.storeAt 43 (.pointer (some ⟨w.heap.size+1,0,none⟩)) T).run Tryz.prog w'=.ok () WS∧((Instr.loadAt 166 (.pointer (some ⟨w.heap.size,0,none⟩))).run Tryz.prog WS=.ok NV WS∧(Instr.loadAt 132 (.pointer (some ⟨w.heap.size,22,none⟩))).run Tryz.prog WS=.ok (.pointer (some ⟨lb,lo,none⟩)) WS)∧((loadVar 43 ⟨w.heap.size+1,0,none⟩).run Tryz.prog WS=.ok T WS∧Below w.heap.size w WS)):=zb (fun w' hb=>by
  have hb5:=HB5.out.below hb
  obtain⟨WS,s1,s2,s3,s4,s5,s6,s7⟩:=q4Y w' (w.heap.size+1) _ (zm fun x y=>(PL[i]).1.haps.any (evP nd x y)) hb5.res rfl
  have hv:WS.heap[w.heap.size]?=_:=(s3 w.heap.size (by omega)).trans hb5.view
  exact⟨WS,by rw[HTT.out];exact s1,⟨by rw[HNV.out];exact j2n hv,j3r hv⟩,by rw[HTT.out];exact(Arr.of_row (f:=zm fun x y=>(PL[i]).1.haps.any (evP nd x y)) s2).loadV,⟨s5.trans hb5.bel.os,s6.trans hb5.bel.tape,s7.trans hb5.bel.output,by rw[s4];exact hb5.bel.size,fun q hq=>by rw[s3 q (by omega)];exact hb5.bel.block q hq⟩⟩)
 refine wp_region_held_drew (S:=fun w'=>(Instr.loadAt 166 (.pointer (some ⟨w.heap.size,0,none⟩))).run Tryz.prog w'=.ok NV w'∧(Instr.loadAt 132 (.pointer (some ⟨w.heap.size,22,none⟩))).run Tryz.prog w'=.ok (.pointer (some ⟨lb,lo,none⟩)) w') (by kernel_rfl) (HS.out _ HB0.out) (fun _=>?_)
 refine q0k (i:=0) (v:=.pointer (some ⟨w.heap.size,0,none⟩)) 23 rfl rfl (by kernel_rfl) (by kernel_rfl) (by kernel_rfl) (fun _ _ _ h=>h) (Or.inl ⟨by rfl,fun w _=>by go_simp⟩) (HS.out _ HB0.out) ?_
 simp only[Act.put,List.setIfInBounds_toArray,List.set_cons_succ,List.set_cons_zero]
 refine q0k (i:=1) (v:=NV) 24 rfl rfl (by kernel_rfl) (by kernel_rfl) (by kernel_rfl) (fun _ _ _ h=>h) (q0Q (by rfl) 166 (.tmp 23) rfl ⟨w.heap.size,0,none⟩ _ rfl (fun w h=>h.1)) (HS.out _ HB0.out) ?_
 simp only[Act.put,List.setIfInBounds_toArray,List.set_cons_succ,List.set_cons_zero]
 refine q0k (i:=2) (v:=.pointer (some ⟨w.heap.size,22,none⟩)) 25 rfl rfl (by kernel_rfl) (by kernel_rfl) (by kernel_rfl) (fun _ _ _ h=>h) (Or.inl ⟨by rfl,fun w _=>by go_simp⟩) (HS.out _ HB0.out) ?_
 simp only[Act.put,List.setIfInBounds_toArray,List.set_cons_succ,List.set_cons_zero]
 refine q0k (i:=3) (v:=.pointer (some ⟨lb,lo,none⟩)) 26 rfl rfl (by kernel_rfl) (by kernel_rfl) (by kernel_rfl) (fun _ _ _ h=>h) (q0Q (by rfl) 132 (.tmp 25) rfl ⟨w.heap.size,22,none⟩ _ rfl (fun w h=>h.2)) (HS.out _ HB0.out) ?_
 simp only[Act.put,List.setIfInBounds_toArray,List.set_cons_succ,List.set_cons_zero]
 refine q0k (i:=4) (v:=.int .i64 i) 27 rfl rfl (by kernel_rfl) (by kernel_rfl) (by kernel_rfl) (fun _ _ _ h=>h) (Or.inl ⟨by rfl,fun w _=>by go_simp⟩) (HS.out _ HB0.out) ?_
 simp only[Act.put,List.setIfInBounds_toArray,List.set_cons_succ,List.set_cons_zero]
 refine rd1 5 rfl fun K hK=>?_
 go_simp
 refine(HAT.out _ (HVW.out.log.below (HB5.out.below HB0.out).bel)).mono ?_
 rintro e w6 ⟨rfl,b6⟩
 have Bb6:Below W.heap.size W w6:=(HB0.out).trans (b6.mono (HB0.out).size)
 go_simp
 refine hK.out _ _ (HS.out _ Bb6) (fun _=>?_)
 clear hK K b6
 refine q0k (i:=6) (v:=.slice va hl vc) 29 rfl rfl (by kernel_rfl) (by kernel_rfl) (by kernel_rfl) (fun _ _ _ h=>h) (j8a (by rfl) (.tmp 28) rfl st va hl vc rfl) (HS.out _ Bb6) ?_
 simp only[Act.put,List.setIfInBounds_toArray,List.set_cons_succ,List.set_cons_zero]
 refine rd1 7 rfl fun K hK=>?_
 go_simp
 refine(HHP.out _ (zp HRW.out (HB5.out.below Bb6).bel)).mono ?_
 rintro e w7 ⟨rfl,b7⟩
 have Bb7:Below W.heap.size W w7:=(Bb6).trans (b7.mono (Bb6).size)
 go_simp
 refine hK.out _ _ (HS.out _ Bb7) (fun _=>?_)
 clear hK K b7
 obtain⟨WS,S1,HSW,PW⟩:=FIN.out _ Bb7
 refine rd1 8 rfl fun K hK=>?_
 refine qe 43 (.tmp 4) (.tmp 30) rfl ⟨w.heap.size+1,0,none⟩ T rfl rfl WS S1 ?_
 refine hK.out _ _ HSW (fun _=>?_)
 clear hK K
 refine zD (by kernel_rfl) ?_ _
 simp only[Act.put,List.setIfInBounds_toArray]
 go_wp2_with fail
 exact zP (v:=T) (zl rfl _ _ _ _ rfl PW.1) rfl ⟨rfl,PW.2⟩
end Go.Proofs.YtiamjjonoeaggabGreatDoor
