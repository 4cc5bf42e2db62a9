import Derived.Test.YtiamjjonoeaggabGreatDoorGA
import Derived.Test.YtiamjjonoeaggabGreatDoorGB
import Derived.Test.YtiamjjonoeaggabGreatDoorG17
import Derived.Test.YtiamjjonoeaggabGreatDoorG20
import Derived.Test.YtiamjjonoeaggabGreatDoorG31
set_option maxRecDepth 100000
set_option maxHeartbeats 16000000
namespace Go.Proofs.YtiamjjonoeaggabGreatDoor
open Go.RowKit
theorem j4P (V:Value)(nd:PNode)(lb lo:Nat)(ao:OA)(cap:Nat)(PL:List PPt)(vf vs:Value)(hV:V=.agg (q0D nd lb lo vf vs).toArray)(mA mB:Nat)(A B:Nat→Nat→Nat→Bool)(i:Nat)(_hi:i<PL.length)(w:World)(h:VwAt w lb lo ao cap PL vf vs mA mB A B)(hk:nd.kind=6) :
  Calls Tryz.prog 103 #[V,.int .i64 i] w fun e w'=>e=.returned (zn (zf fun x y=>qu nd (zA PL) A B i x y))∧Below w.heap.size w w':=by
 obtain⟨fa,fc,rfl⟩:=h.fst.form
 obtain⟨sa,sc,rfl⟩:=h.snd.form
 have HV:=zb hV
 have HVW:=zb h
 have HSF:=zb (fun W (q:Tb W (.slice fa mA fc) mA A)=>q0g (.slice fa mA fc) mA A h.szA i W q)
 have HSS:=zb (fun W (q:Tb W (.slice sa mB sc) mB B)=>q0g (.slice sa mB sc) mB B h.szB i W q)
 obtain⟨UF,hUF⟩:∃U,U=zn (zf (A i)):=⟨_,rfl⟩
 obtain⟨US,hUS⟩:∃U,U=zn (zf (B i)):=⟨_,rfl⟩
 rw[←hUF]at HSF
 rw[←hUS]at HSS
 have HUF:=zb hUF
 have HUS:=zb hUS
 clear hV h hUF hUS
 have e:(fun x y=>qu nd (zA PL) A B i x y)=fun x y=>A i x y&&B i x y:=by funext x y;unfold qu;rw[hk];rfl
 rw[e]
 have HC:=zb (q6e (A i) (B i))
 rw[←HUF.out,←HUS.out]at HC
 generalize zf (fun x y=>A i x y&&B i x y)=r at *
 obtain⟨T,hT⟩:∃T,T=zn r:=⟨_,rfl⟩
 rw[←hT]at HC ⊢
 have HTT:=zb hT
 clear e hT
 go_enter Tryz.func103,Tryz.ntmps103
 go_wp2_with (first|(refine qo rfl 168 (.tmp 0) rfl V _ rfl HV.out ?_;intro W0 g0 b0 z0;have HZ0:=zb z0;have HG0:=zb g0;have HB0:=zb b0;have c23:=q0q g0 23;simp only[List.getElem?_cons_zero,List.getElem?_cons_succ]at c23;have hl0:w.heap.size<W0.heap.size:=(by omega);clear g0 z0 b0))
 have ew0:W0.heap.size=w.heap.size+1:=HZ0.out
 have hb1:BsAt w (W0.alloc (.cells zCs 43)) nd lb lo (.slice fa mA fc) (.slice sa mB sc):=⟨(zO _ _ hl0).trans HG0.out,by rw[←HZ0.out];exact zN _ _,HB0.out.alloc HB0.out.size _⟩
 have HBS:=zb hb1
 rw[ew0]
 clear hb1 HZ0 HG0 HB0 c23
 generalize W0.alloc (.cells zCs 43)=W1 at *
 clear hl0 ew0
 refine(HSF.out _ (HVW.out.fst.below HBS.out.bel)).mono ?_
 rintro e w2 ⟨rfl,b2⟩
 obtain⟨W3,S3,g3,b3,z3⟩:=q0f w2 (zf (A i))
 rw[←HUF.out]at S3
 have HB3:=zb (HBS.out.below (b2.trans (b3.mono b2.size)))
 have HG3:=zb g3
 have c24:=q0q HB3.out.view 24
 simp only[List.getElem?_cons_zero,List.getElem?_cons_succ]at c24
 have hl3:w.heap.size<W3.heap.size:=zd HB3.out.view
 have hl5:w2.heap.size<W3.heap.size:=zd g3
 have h5:w.heap.size+1<w2.heap.size:=zT (zd HBS.out.res) b2.size
 clear b2 b3 g3 z3 HBS
 go_wp2_with (refine ze rfl 43 (.tmp 5) (.tmp 10) rfl ⟨w2.heap.size,0,none⟩ UF rfl rfl W3 S3 ?_)
 generalize w2.heap.size=b5 at *
 refine(HSS.out _ (HVW.out.snd.below HB3.out.bel)).mono ?_
 rintro e w4 ⟨rfl,b4⟩
 obtain⟨W5,S5,g5,b5',z5⟩:=q0f w4 (zf (B i))
 rw[←HUS.out]at S5
 have HB5:=zb (HB3.out.below (b4.trans (b5'.mono b4.size)))
 have HGA:Hid (W5.heap[b5]?=some (.cells (zx (zf (A i))).toArray 43 (0,0))):=zb (((b4.trans (b5'.mono b4.size)).block b5 hl5).trans HG3.out)
 have HGB:=zb g5
 have c0:=q0q HB5.out.view 0
 simp only[List.getElem?_cons_zero,hk]at c0
 have hl6:w.heap.size<W5.heap.size:=zd HB5.out.view
 clear b4 b5' g5 z5 HB3 HG3 c24 S3 hl5
 have L5:=qb HGA.out
 have L6:=qb HGB.out
 rw[←HUF.out]at L5
 rw[←HUS.out]at L6
 go_wp2_with (first|(refine ze rfl 43 (.tmp 6) (.tmp 14) rfl ⟨w4.heap.size,0,none⟩ US rfl rfl W5 S5 ?_)|(refine zg rfl 43 (.tmp 5) rfl ⟨b5,0,none⟩ UF rfl L5 ?_)|(refine zg rfl 43 (.tmp 6) rfl ⟨w4.heap.size,0,none⟩ US rfl L6 ?_))
 refine(HC.out _).mono ?_
 rintro e w7 ⟨rfl,b7⟩
 obtain⟨W,S1,LV,BW⟩:=q1k HB5.out.res (by omega) HB5.out.bel b7 r
 rw[←HTT.out]at S1 LV
 have HW:=zb BW
 clear b7 BW c0 L5 L6
 go_wp2_with (refine ze rfl 43 (.tmp 4) (.tmp 35) rfl ⟨w.heap.size+1,0,none⟩ T rfl rfl W S1 ?_)
 exact zP (v:=T) (zr rfl _ _ _ _ rfl LV) rfl ⟨rfl,HW.out⟩
theorem j4Q (V:Value)(nd:PNode)(lb lo:Nat)(ao:OA)(cap:Nat)(PL:List PPt)(vf vs:Value)(hV:V=.agg (q0D nd lb lo vf vs).toArray)(mA mB:Nat)(A B:Nat→Nat→Nat→Bool)(i:Nat)(_hi:i<PL.length)(w:World)(h:VwAt w lb lo ao cap PL vf vs mA mB A B)(hk:nd.kind=7) :
  Calls Tryz.prog 103 #[V,.int .i64 i] w fun e w'=>e=.returned (zn (zf fun x y=>qu nd (zA PL) A B i x y))∧Below w.heap.size w w':=by
 obtain⟨fa,fc,rfl⟩:=h.fst.form
 obtain⟨sa,sc,rfl⟩:=h.snd.form
 have HV:=zb hV
 have HVW:=zb h
 have HSF:=zb (fun W (q:Tb W (.slice fa mA fc) mA A)=>q0g (.slice fa mA fc) mA A h.szA i W q)
 have HSS:=zb (fun W (q:Tb W (.slice sa mB sc) mB B)=>q0g (.slice sa mB sc) mB B h.szB i W q)
 obtain⟨UF,hUF⟩:∃U,U=zn (zf (A i)):=⟨_,rfl⟩
 obtain⟨US,hUS⟩:∃U,U=zn (zf (B i)):=⟨_,rfl⟩
 rw[←hUF]at HSF
 rw[←hUS]at HSS
 have HUF:=zb hUF
 have HUS:=zb hUS
 clear hV h hUF hUS
 have e:(fun x y=>qu nd (zA PL) A B i x y)=fun x y=>A i x y&&!B i x y:=by funext x y;unfold qu;rw[hk];rfl
 rw[e]
 have HC:=zb (q9a (A i) (B i))
 rw[←HUF.out,←HUS.out]at HC
 generalize zf (fun x y=>A i x y&&!B i x y)=r at *
 obtain⟨T,hT⟩:∃T,T=zn r:=⟨_,rfl⟩
 rw[←hT]at HC ⊢
 have HTT:=zb hT
 clear e hT
 go_enter Tryz.func103,Tryz.ntmps103
 go_wp2_with (first|(refine qo rfl 168 (.tmp 0) rfl V _ rfl HV.out ?_;intro W0 g0 b0 z0;have HZ0:=zb z0;have HG0:=zb g0;have HB0:=zb b0;have c23:=q0q g0 23;simp only[List.getElem?_cons_zero,List.getElem?_cons_succ]at c23;have hl0:w.heap.size<W0.heap.size:=(by omega);clear g0 z0 b0))
 have ew0:W0.heap.size=w.heap.size+1:=HZ0.out
 have hb1:BsAt w (W0.alloc (.cells zCs 43)) nd lb lo (.slice fa mA fc) (.slice sa mB sc):=⟨(zO _ _ hl0).trans HG0.out,by rw[←HZ0.out];exact zN _ _,HB0.out.alloc HB0.out.size _⟩
 have HBS:=zb hb1
 rw[ew0]
 clear hb1 HZ0 HG0 HB0 c23
 generalize W0.alloc (.cells zCs 43)=W1 at *
 clear hl0 ew0
 refine(HSF.out _ (HVW.out.fst.below HBS.out.bel)).mono ?_
 rintro e w2 ⟨rfl,b2⟩
 obtain⟨W3,S3,g3,b3,z3⟩:=q0f w2 (zf (A i))
 rw[←HUF.out]at S3
 have HB3:=zb (HBS.out.below (b2.trans (b3.mono b2.size)))
 have HG3:=zb g3
 have c24:=q0q HB3.out.view 24
 simp only[List.getElem?_cons_zero,List.getElem?_cons_succ]at c24
 have hl3:w.heap.size<W3.heap.size:=zd HB3.out.view
 have hl5:w2.heap.size<W3.heap.size:=zd g3
 have h5:w.heap.size+1<w2.heap.size:=zT (zd HBS.out.res) b2.size
 clear b2 b3 g3 z3 HBS
 go_wp2_with (refine ze rfl 43 (.tmp 5) (.tmp 10) rfl ⟨w2.heap.size,0,none⟩ UF rfl rfl W3 S3 ?_)
 generalize w2.heap.size=b5 at *
 refine(HSS.out _ (HVW.out.snd.below HB3.out.bel)).mono ?_
 rintro e w4 ⟨rfl,b4⟩
 obtain⟨W5,S5,g5,b5',z5⟩:=q0f w4 (zf (B i))
 rw[←HUS.out]at S5
 have HB5:=zb (HB3.out.below (b4.trans (b5'.mono b4.size)))
 have HGA:Hid (W5.heap[b5]?=some (.cells (zx (zf (A i))).toArray 43 (0,0))):=zb (((b4.trans (b5'.mono b4.size)).block b5 hl5).trans HG3.out)
 have HGB:=zb g5
 have c0:=q0q HB5.out.view 0
 simp only[List.getElem?_cons_zero,hk]at c0
 have hl6:w.heap.size<W5.heap.size:=zd HB5.out.view
 clear b4 b5' g5 z5 HB3 HG3 c24 S3 hl5
 have L5:=qb HGA.out
 have L6:=qb HGB.out
 rw[←HUF.out]at L5
 rw[←HUS.out]at L6
 go_wp2_with (first|(refine ze rfl 43 (.tmp 6) (.tmp 14) rfl ⟨w4.heap.size,0,none⟩ US rfl rfl W5 S5 ?_)|(refine zg rfl 43 (.tmp 5) rfl ⟨b5,0,none⟩ UF rfl L5 ?_)|(refine zg rfl 43 (.tmp 6) rfl ⟨w4.heap.size,0,none⟩ US rfl L6 ?_))
 refine(HC.out _).mono ?_
 rintro e w7 ⟨rfl,b7⟩
 obtain⟨W,S1,LV,BW⟩:=q1k HB5.out.res (by omega) HB5.out.bel b7 r
 rw[←HTT.out]at S1 LV
 have HW:=zb BW
 clear b7 BW c0 L5 L6
 go_wp2_with (refine ze rfl 43 (.tmp 4) (.tmp 40) rfl ⟨w.heap.size+1,0,none⟩ T rfl rfl W S1 ?_)
 exact zP (v:=T) (zr rfl _ _ _ _ rfl LV) rfl ⟨rfl,HW.out⟩
theorem j6G (V:Value)(nd:PNode)(lb lo:Nat)(ao:OA)(cap:Nat)(PL:List PPt)(vf vs:Value)(hV:V=.agg (q0D nd lb lo vf vs).toArray)(mA mB:Nat)(A B:Nat→Nat→Nat→Bool)(i:Nat)(_hi:i<PL.length)(w:World)(h:VwAt w lb lo ao cap PL vf vs mA mB A B)(hk:nd.kind=8) :
  Calls Tryz.prog 103 #[V,.int .i64 i] w fun e w'=>e=.returned (zn (zf fun x y=>qu nd (zA PL) A B i x y))∧Below w.heap.size w w':=by
 obtain⟨fa,fc,rfl⟩:=h.fst.form
 obtain⟨sa,sc,rfl⟩:=h.snd.form
 have HV:=zb hV
 have HVW:=zb h
 have HSF:=zb (fun W (q:Tb W (.slice fa mA fc) mA A)=>q0g (.slice fa mA fc) mA A h.szA i W q)
 have HSS:=zb (fun W (q:Tb W (.slice sa mB sc) mB B)=>q0g (.slice sa mB sc) mB B h.szB i W q)
 obtain⟨UF,hUF⟩:∃U,U=zn (zf (A i)):=⟨_,rfl⟩
 obtain⟨US,hUS⟩:∃U,U=zn (zf (B i)):=⟨_,rfl⟩
 rw[←hUF]at HSF
 rw[←hUS]at HSS
 have HUF:=zb hUF
 have HUS:=zb hUS
 clear hV h hUF hUS
 have e:(fun x y=>qu nd (zA PL) A B i x y)=fun x y=>A i x y || B i x y:=by funext x y;unfold qu;rw[hk];rfl
 rw[e]
 have HC:=zb (q7h (A i) (B i))
 rw[←HUF.out,←HUS.out]at HC
 generalize zf (fun x y=>A i x y || B i x y)=r at *
 obtain⟨T,hT⟩:∃T,T=zn r:=⟨_,rfl⟩
 rw[←hT]at HC ⊢
 have HTT:=zb hT
 clear e hT
 go_enter Tryz.func103,Tryz.ntmps103
 go_wp2_with (first|(refine qo rfl 168 (.tmp 0) rfl V _ rfl HV.out ?_;intro W0 g0 b0 z0;have HZ0:=zb z0;have HG0:=zb g0;have HB0:=zb b0;have c23:=q0q g0 23;simp only[List.getElem?_cons_zero,List.getElem?_cons_succ]at c23;have hl0:w.heap.size<W0.heap.size:=(by omega);clear g0 z0 b0))
 have ew0:W0.heap.size=w.heap.size+1:=HZ0.out
 have hb1:BsAt w (W0.alloc (.cells zCs 43)) nd lb lo (.slice fa mA fc) (.slice sa mB sc):=⟨(zO _ _ hl0).trans HG0.out,by rw[←HZ0.out];exact zN _ _,HB0.out.alloc HB0.out.size _⟩
 have HBS:=zb hb1
 rw[ew0]
 clear hb1 HZ0 HG0 HB0 c23
 generalize W0.alloc (.cells zCs 43)=W1 at *
 clear hl0 ew0
 refine(HSF.out _ (HVW.out.fst.below HBS.out.bel)).mono ?_
 rintro e w2 ⟨rfl,b2⟩
 obtain⟨W3,S3,g3,b3,z3⟩:=q0f w2 (zf (A i))
 rw[←HUF.out]at S3
 have HB3:=zb (HBS.out.below (b2.trans (b3.mono b2.size)))
 have HG3:=zb g3
 have c24:=q0q HB3.out.view 24
 simp only[List.getElem?_cons_zero,List.getElem?_cons_succ]at c24
 have hl3:w.heap.size<W3.heap.size:=zd HB3.out.view
 have hl5:w2.heap.size<W3.heap.size:=zd g3
 have h5:w.heap.size+1<w2.heap.size:=zT (zd HBS.out.res) b2.size
 clear b2 b3 g3 z3 HBS
 go_wp2_with (refine ze rfl 43 (.tmp 5) (.tmp 10) rfl ⟨w2.heap.size,0,none⟩ UF rfl rfl W3 S3 ?_)
 generalize w2.heap.size=b5 at *
 refine(HSS.out _ (HVW.out.snd.below HB3.out.bel)).mono ?_
 rintro e w4 ⟨rfl,b4⟩
 obtain⟨W5,S5,g5,b5',z5⟩:=q0f w4 (zf (B i))
 rw[←HUS.out]at S5
 have HB5:=zb (HB3.out.below (b4.trans (b5'.mono b4.size)))
 have HGA:Hid (W5.heap[b5]?=some (.cells (zx (zf (A i))).toArray 43 (0,0))):=zb (((b4.trans (b5'.mono b4.size)).block b5 hl5).trans HG3.out)
 have HGB:=zb g5
 have c0:=q0q HB5.out.view 0
 simp only[List.getElem?_cons_zero,hk]at c0
 have hl6:w.heap.size<W5.heap.size:=zd HB5.out.view
 clear b4 b5' g5 z5 HB3 HG3 c24 S3 hl5
 have L5:=qb HGA.out
 have L6:=qb HGB.out
 rw[←HUF.out]at L5
 rw[←HUS.out]at L6
 go_wp2_with (first|(refine ze rfl 43 (.tmp 6) (.tmp 14) rfl ⟨w4.heap.size,0,none⟩ US rfl rfl W5 S5 ?_)|(refine zg rfl 43 (.tmp 5) rfl ⟨b5,0,none⟩ UF rfl L5 ?_)|(refine zg rfl 43 (.tmp 6) rfl ⟨w4.heap.size,0,none⟩ US rfl L6 ?_))
 refine(HC.out _).mono ?_
 rintro e w7 ⟨rfl,b7⟩
 obtain⟨W,S1,LV,BW⟩:=q1k HB5.out.res (by omega) HB5.out.bel b7 r
 rw[←HTT.out]at S1 LV
 have HW:=zb BW
 clear b7 BW c0 L5 L6
 go_wp2_with (refine ze rfl 43 (.tmp 4) (.tmp 45) rfl ⟨w.heap.size+1,0,none⟩ T rfl rfl W S1 ?_)
 exact zP (v:=T) (zr rfl _ _ _ _ rfl LV) rfl ⟨rfl,HW.out⟩
theorem j3n (V:Value)(nd:PNode)(lb lo:Nat)(ao:OA)(cap:Nat)(PL:List PPt)(vf vs:Value)(hV:V=.agg (q0D nd lb lo vf vs).toArray)(mA mB:Nat)(A B:Nat→Nat→Nat→Bool)(i:Nat)(_hi:i<PL.length)(w:World)(h:VwAt w lb lo ao cap PL vf vs mA mB A B)(hk:nd.kind=5) :
  Calls Tryz.prog 103 #[V,.int .i64 i] w fun e w'=>e=.returned (zn (zf fun x y=>qu nd (zA PL) A B i x y))∧Below w.heap.size w w':=by
 obtain⟨fa,fc,rfl⟩:=h.fst.form
 obtain⟨sa,sc,rfl⟩:=h.snd.form
 have HV:=zb hV
 have HVW:=zb h
 have HSF:=zb (fun W (q:Tb W (.slice fa mA fc) mA A)=>q0g (.slice fa mA fc) mA A h.szA i W q)
 have HSS:=zb (fun W (q:Tb W (.slice sa mB sc) mB B)=>q0g (.slice sa mB sc) mB B h.szB i W q)
 obtain⟨UF,hUF⟩:∃U,U=zn (zf (A i)):=⟨_,rfl⟩
 obtain⟨US,hUS⟩:∃U,U=zn (zf (B i)):=⟨_,rfl⟩
 rw[←hUF]at HSF
 rw[←hUS]at HSS
 have HUF:=zb hUF
 have HUS:=zb hUS
 clear hV h hUF hUS
 have e:(fun x y=>qu nd (zA PL) A B i x y)=fun _ _=>true:=by funext x y;unfold qu;rw[hk];rfl
 rw[e]
 have HC:=zb q2x
 generalize zf (fun _ _=>true)=r at *
 obtain⟨T,hT⟩:∃T,T=zn r:=⟨_,rfl⟩
 rw[←hT]at HC ⊢
 have HTT:=zb hT
 clear e hT
 go_enter Tryz.func103,Tryz.ntmps103
 go_wp2_with (first|(refine qo rfl 168 (.tmp 0) rfl V _ rfl HV.out ?_;intro W0 g0 b0 z0;have HZ0:=zb z0;have HG0:=zb g0;have HB0:=zb b0;have c23:=q0q g0 23;simp only[List.getElem?_cons_zero,List.getElem?_cons_succ]at c23;have hl0:w.heap.size<W0.heap.size:=(by omega);clear g0 z0 b0))
 have ew0:W0.heap.size=w.heap.size+1:=HZ0.out
 have hb1:BsAt w (W0.alloc (.cells zCs 43)) nd lb lo (.slice fa mA fc) (.slice sa mB sc):=⟨(zO _ _ hl0).trans HG0.out,by rw[←HZ0.out];exact zN _ _,HB0.out.alloc HB0.out.size _⟩
 have HBS:=zb hb1
 rw[ew0]
 clear hb1 HZ0 HG0 HB0 c23
 generalize W0.alloc (.cells zCs 43)=W1 at *
 clear hl0 ew0
 refine(HSF.out _ (HVW.out.fst.below HBS.out.bel)).mono ?_
 rintro e w2 ⟨rfl,b2⟩
 obtain⟨W3,S3,g3,b3,z3⟩:=q0f w2 (zf (A i))
 rw[←HUF.out]at S3
 have HB3:=zb (HBS.out.below (b2.trans (b3.mono b2.size)))
 have HG3:=zb g3
 have c24:=q0q HB3.out.view 24
 simp only[List.getElem?_cons_zero,List.getElem?_cons_succ]at c24
 have hl3:w.heap.size<W3.heap.size:=zd HB3.out.view
 have hl5:w2.heap.size<W3.heap.size:=zd g3
 have h5:w.heap.size+1<w2.heap.size:=zT (zd HBS.out.res) b2.size
 clear b2 b3 g3 z3 HBS
 go_wp2_with (refine ze rfl 43 (.tmp 5) (.tmp 10) rfl ⟨w2.heap.size,0,none⟩ UF rfl rfl W3 S3 ?_)
 generalize w2.heap.size=b5 at *
 refine(HSS.out _ (HVW.out.snd.below HB3.out.bel)).mono ?_
 rintro e w4 ⟨rfl,b4⟩
 obtain⟨W5,S5,g5,b5',z5⟩:=q0f w4 (zf (B i))
 rw[←HUS.out]at S5
 have HB5:=zb (HB3.out.below (b4.trans (b5'.mono b4.size)))
 have HGA:Hid (W5.heap[b5]?=some (.cells (zx (zf (A i))).toArray 43 (0,0))):=zb (((b4.trans (b5'.mono b4.size)).block b5 hl5).trans HG3.out)
 have HGB:=zb g5
 have c0:=q0q HB5.out.view 0
 simp only[List.getElem?_cons_zero,hk]at c0
 have hl6:w.heap.size<W5.heap.size:=zd HB5.out.view
 clear b4 b5' g5 z5 HB3 HG3 c24 S3 hl5
 go_wp2_with (refine ze rfl 43 (.tmp 6) (.tmp 14) rfl ⟨w4.heap.size,0,none⟩ US rfl rfl W5 S5 ?_)
 refine(HC.out _).mono ?_
 rintro e w7 ⟨rfl,b7⟩
 obtain⟨W,S1,LV,BW⟩:=q1k HB5.out.res (by omega) HB5.out.bel b7 r
 rw[←HTT.out]at S1 LV
 have HW:=zb BW
 clear b7 BW c0
 go_wp2_with (refine ze rfl 43 (.tmp 4) (.tmp 20) rfl ⟨w.heap.size+1,0,none⟩ T rfl rfl W S1 ?_)
 exact zP (v:=T) (zr rfl _ _ _ _ rfl LV) rfl ⟨rfl,HW.out⟩
theorem j6F (V:Value)(nd:PNode)(lb lo:Nat)(ao:OA)(cap:Nat)(PL:List PPt)(vf vs:Value)(hV:V=.agg (q0D nd lb lo vf vs).toArray)(mA mB:Nat)(A B:Nat→Nat→Nat→Bool)(i:Nat)(_hi:i<PL.length)(w:World)(h:VwAt w lb lo ao cap PL vf vs mA mB A B)(hk:nd.kind=9) :
  Calls Tryz.prog 103 #[V,.int .i64 i] w fun e w'=>e=.returned (zn (zf fun x y=>qu nd (zA PL) A B i x y))∧Below w.heap.size w w':=by
 obtain⟨fa,fc,rfl⟩:=h.fst.form
 obtain⟨sa,sc,rfl⟩:=h.snd.form
 have HV:=zb hV
 have HVW:=zb h
 have HSF:=zb (fun W (q:Tb W (.slice fa mA fc) mA A)=>q0g (.slice fa mA fc) mA A h.szA i W q)
 have HSS:=zb (fun W (q:Tb W (.slice sa mB sc) mB B)=>q0g (.slice sa mB sc) mB B h.szB i W q)
 obtain⟨UF,hUF⟩:∃U,U=zn (zf (A i)):=⟨_,rfl⟩
 obtain⟨US,hUS⟩:∃U,U=zn (zf (B i)):=⟨_,rfl⟩
 rw[←hUF]at HSF
 rw[←hUS]at HSS
 have HUF:=zb hUF
 have HUS:=zb hUS
 clear hV h hUF hUS
 have e:(fun x y=>qu nd (zA PL) A B i x y)=fun x y=>(List.range 10).any fun v=>if nd.var=3 then A i v y else A i x v:=by funext x y;unfold qu;rw[hk];rfl
 rw[e]
 have HC:=zb (j3o nd.var (A i))
 rw[←HUF.out]at HC
 generalize zf (fun x y=>(List.range 10).any fun v=>if nd.var=3 then A i v y else A i x v)=r at *
 obtain⟨T,hT⟩:∃T,T=zn r:=⟨_,rfl⟩
 rw[←hT]at HC ⊢
 have HTT:=zb hT
 clear e hT
 go_enter Tryz.func103,Tryz.ntmps103
 go_wp2_with (first|(refine qo rfl 168 (.tmp 0) rfl V _ rfl HV.out ?_;intro W0 g0 b0 z0;have HZ0:=zb z0;have HG0:=zb g0;have HB0:=zb b0;have c23:=q0q g0 23;simp only[List.getElem?_cons_zero,List.getElem?_cons_succ]at c23;have hl0:w.heap.size<W0.heap.size:=(by omega);clear g0 z0 b0))
 have ew0:W0.heap.size=w.heap.size+1:=HZ0.out
 have hb1:BsAt w (W0.alloc (.cells zCs 43)) nd lb lo (.slice fa mA fc) (.slice sa mB sc):=⟨(zO _ _ hl0).trans HG0.out,by rw[←HZ0.out];exact zN _ _,HB0.out.alloc HB0.out.size _⟩
 have HBS:=zb hb1
 rw[ew0]
 clear hb1 HZ0 HG0 HB0 c23
 generalize W0.alloc (.cells zCs 43)=W1 at *
 clear hl0 ew0
 refine(HSF.out _ (HVW.out.fst.below HBS.out.bel)).mono ?_
 rintro e w2 ⟨rfl,b2⟩
 obtain⟨W3,S3,g3,b3,z3⟩:=q0f w2 (zf (A i))
 rw[←HUF.out]at S3
 have HB3:=zb (HBS.out.below (b2.trans (b3.mono b2.size)))
 have HG3:=zb g3
 have c24:=q0q HB3.out.view 24
 simp only[List.getElem?_cons_zero,List.getElem?_cons_succ]at c24
 have hl3:w.heap.size<W3.heap.size:=zd HB3.out.view
 have hl5:w2.heap.size<W3.heap.size:=zd g3
 have h5:w.heap.size+1<w2.heap.size:=zT (zd HBS.out.res) b2.size
 clear b2 b3 g3 z3 HBS
 go_wp2_with (refine ze rfl 43 (.tmp 5) (.tmp 10) rfl ⟨w2.heap.size,0,none⟩ UF rfl rfl W3 S3 ?_)
 generalize w2.heap.size=b5 at *
 refine(HSS.out _ (HVW.out.snd.below HB3.out.bel)).mono ?_
 rintro e w4 ⟨rfl,b4⟩
 obtain⟨W5,S5,g5,b5',z5⟩:=q0f w4 (zf (B i))
 rw[←HUS.out]at S5
 have HB5:=zb (HB3.out.below (b4.trans (b5'.mono b4.size)))
 have HGA:Hid (W5.heap[b5]?=some (.cells (zx (zf (A i))).toArray 43 (0,0))):=zb (((b4.trans (b5'.mono b4.size)).block b5 hl5).trans HG3.out)
 have HGB:=zb g5
 have c0:=q0q HB5.out.view 0
 simp only[List.getElem?_cons_zero,hk]at c0
 have hl6:w.heap.size<W5.heap.size:=zd HB5.out.view
 clear b4 b5' g5 z5 HB3 HG3 c24 S3 hl5
 have L5:=qb HGA.out
 rw[←HUF.out]at L5
 have c15:=q0q HB5.out.view 15
 simp only[List.getElem?_cons_succ,List.getElem?_cons_zero]at c15
 go_wp2_with (first|(refine ze rfl 43 (.tmp 6) (.tmp 14) rfl ⟨w4.heap.size,0,none⟩ US rfl rfl W5 S5 ?_)|(refine zg rfl 43 (.tmp 5) rfl ⟨b5,0,none⟩ UF rfl L5 ?_))
 refine(HC.out _).mono ?_
 rintro e w7 ⟨rfl,b7⟩
 obtain⟨W,S1,LV,BW⟩:=q1k HB5.out.res (by omega) HB5.out.bel b7 r
 rw[←HTT.out]at S1 LV
 have HW:=zb BW
 clear b7 BW c0 c15 L5
 go_wp2_with (refine ze rfl 43 (.tmp 4) (.tmp 52) rfl ⟨w.heap.size+1,0,none⟩ T rfl rfl W S1 ?_)
 exact zP (v:=T) (zr rfl _ _ _ _ rfl LV) rfl ⟨rfl,HW.out⟩
theorem VwAt.below' {w w':World}{lb lo:Nat}{ao:OA}{cap:Nat}{PL:List PPt}{vf vs:Value}{mA mB:Nat}{A B:Nat→Nat→Nat→Bool}(h:VwAt w lb lo ao cap PL vf vs mA mB A B)(hb:Below w.heap.size w w'):VwAt w' lb lo ao cap PL vf vs mA mB A B:=h.below hb
theorem q6S (V:Value)(nd:PNode)(lb lo:Nat)(ao:OA)(cap:Nat)(PL:List PPt)(vf vs:Value)(hV:V=.agg (q0D nd lb lo vf vs).toArray)(mA mB:Nat)(A B:Nat→Nat→Nat→Bool)(i:Nat)(_hi:i<PL.length)(w:World)(h:VwAt w lb lo ao cap PL vf vs mA mB A B)(hk:nd.kind=10∨nd.kind=11)(hC:∀W,VwAt W lb lo ao cap PL vf vs mA mB A B→Calls Tryz.prog 139 #[V,.int .i64 i] W fun e w'=>e=.returned (zn (zf fun x y=>qu nd (zA PL) A B i x y))∧Below W.heap.size W w') :
  Calls Tryz.prog 103 #[V,.int .i64 i] w fun e w'=>e=.returned (zn (zf fun x y=>qu nd (zA PL) A B i x y))∧Below w.heap.size w w':=by
 obtain⟨fa,fc,rfl⟩:=h.fst.form
 obtain⟨sa,sc,rfl⟩:=h.snd.form
 have HV:=zb hV
 have HVW:=zb h
 have HSF:=zb (fun W (q:Tb W (.slice fa mA fc) mA A)=>q0g (.slice fa mA fc) mA A h.szA i W q)
 have HSS:=zb (fun W (q:Tb W (.slice sa mB sc) mB B)=>q0g (.slice sa mB sc) mB B h.szB i W q)
 obtain⟨UF,hUF⟩:∃U,U=zn (zf (A i)):=⟨_,rfl⟩
 obtain⟨US,hUS⟩:∃U,U=zn (zf (B i)):=⟨_,rfl⟩
 rw[←hUF]at HSF
 rw[←hUS]at HSS
 have HUF:=zb hUF
 have HUS:=zb hUS
 clear hV h hUF hUS
 obtain⟨T,hT⟩:∃T,T=zn (zf fun x y=>qu nd (zA PL) A B i x y):=⟨_,rfl⟩
 have HC:=zb hC
 rw[←hT]at HC ⊢
 have HTT:=zb hT
 clear hT hC
 rcases hk with hk|hk
 all_goals
  go_enter Tryz.func103,Tryz.ntmps103
  go_wp2_with (first|(refine qo rfl 168 (.tmp 0) rfl V _ rfl HV.out ?_;intro W0 g0 b0 z0;have HZ0:=zb z0;have HG0:=zb g0;have HB0:=zb b0;have c23:=q0q g0 23;simp only[List.getElem?_cons_zero,List.getElem?_cons_succ]at c23;have hl0:w.heap.size<W0.heap.size:=(by omega);clear g0 z0 b0))
  have ew0:W0.heap.size=w.heap.size+1:=HZ0.out
  have hb1:BsAt w (W0.alloc (.cells zCs 43)) nd lb lo (.slice fa mA fc) (.slice sa mB sc):=⟨(zO _ _ hl0).trans HG0.out,by rw[←HZ0.out];exact zN _ _,HB0.out.alloc HB0.out.size _⟩
  have HBS:=zb hb1
  rw[ew0]
  clear hb1 HZ0 HG0 HB0 c23
  generalize W0.alloc (.cells zCs 43)=W1 at *
  clear hl0 ew0
  refine(HSF.out _ (HVW.out.fst.below HBS.out.bel)).mono ?_
  rintro e w2 ⟨rfl,b2⟩
  obtain⟨W3,S3,g3,b3,z3⟩:=q0f w2 (zf (A i))
  rw[←HUF.out]at S3
  have HB3:=zb (HBS.out.below (b2.trans (b3.mono b2.size)))
  have HG3:=zb g3
  have c24:=q0q HB3.out.view 24
  simp only[List.getElem?_cons_zero,List.getElem?_cons_succ]at c24
  have hl3:w.heap.size<W3.heap.size:=zd HB3.out.view
  have hl5:w2.heap.size<W3.heap.size:=zd g3
  have h5:w.heap.size+1<w2.heap.size:=zT (zd HBS.out.res) b2.size
  clear b2 b3 g3 z3 HBS
  go_wp2_with (refine ze rfl 43 (.tmp 5) (.tmp 10) rfl ⟨w2.heap.size,0,none⟩ UF rfl rfl W3 S3 ?_)
  generalize w2.heap.size=b5 at *
  refine(HSS.out _ (HVW.out.snd.below HB3.out.bel)).mono ?_
  rintro e w4 ⟨rfl,b4⟩
  obtain⟨W5,S5,g5,b5',z5⟩:=q0f w4 (zf (B i))
  rw[←HUS.out]at S5
  have HB5:=zb (HB3.out.below (b4.trans (b5'.mono b4.size)))
  have HGA:Hid (W5.heap[b5]?=some (.cells (zx (zf (A i))).toArray 43 (0,0))):=zb (((b4.trans (b5'.mono b4.size)).block b5 hl5).trans HG3.out)
  have HGB:=zb g5
  have c0:=q0q HB5.out.view 0
  simp only[List.getElem?_cons_zero,hk]at c0
  have hl6:w.heap.size<W5.heap.size:=zd HB5.out.view
  clear b4 b5' g5 z5 HB3 HG3 c24 S3 hl5
  have LVw:=q1Y HB5.out.view
  rw[←HV.out]at LVw
  go_wp2_with (first|(refine ze rfl 43 (.tmp 6) (.tmp 14) rfl ⟨w4.heap.size,0,none⟩ US rfl rfl W5 S5 ?_)|(refine zg rfl 168 (.tmp 2) rfl ⟨w.heap.size,0,none⟩ V rfl LVw ?_))
  refine(HC.out _ (HVW.out.below' HB5.out.bel)).mono ?_
  rintro e w7 ⟨rfl,b7⟩
  obtain⟨W,S1,LV,BW⟩:=q1k HB5.out.res (by omega) HB5.out.bel b7 (zf fun x y=>qu nd (zA PL) A B i x y)
  rw[←HTT.out]at S1 LV
  have HW:=zb BW
  clear b7 BW c0 LVw
  go_wp2_with (refine ze rfl 43 (.tmp 4) (.tmp 58) rfl ⟨w.heap.size+1,0,none⟩ T rfl rfl W S1 ?_)
  exact zP (v:=T) (zr rfl _ _ _ _ rfl LV) rfl ⟨rfl,HW.out⟩
theorem j2l (V:Value)(nd:PNode)(lb lo:Nat)(ao:OA)(cap:Nat)(PL:List PPt)(vf vs:Value)(hV:V=.agg (q0D nd lb lo vf vs).toArray)(mA mB:Nat)(A B:Nat→Nat→Nat→Bool)(i:Nat)(_hi:i<PL.length)(w:World)(h:VwAt w lb lo ao cap PL vf vs mA mB A B)(hk:12≤nd.kind)(hC:∀W,VwAt W lb lo ao cap PL vf vs mA mB A B→Calls Tryz.prog 140 #[V,.int .i64 i] W fun e w'=>e=.returned (zn (zf fun x y=>qu nd (zA PL) A B i x y))∧Below W.heap.size W w') :
  Calls Tryz.prog 103 #[V,.int .i64 i] w fun e w'=>e=.returned (zn (zf fun x y=>qu nd (zA PL) A B i x y))∧Below w.heap.size w w':=by
 obtain⟨fa,fc,rfl⟩:=h.fst.form
 obtain⟨sa,sc,rfl⟩:=h.snd.form
 have HV:=zb hV
 have HVW:=zb h
 have HSF:=zb (fun W (q:Tb W (.slice fa mA fc) mA A)=>q0g (.slice fa mA fc) mA A h.szA i W q)
 have HSS:=zb (fun W (q:Tb W (.slice sa mB sc) mB B)=>q0g (.slice sa mB sc) mB B h.szB i W q)
 obtain⟨UF,hUF⟩:∃U,U=zn (zf (A i)):=⟨_,rfl⟩
 obtain⟨US,hUS⟩:∃U,U=zn (zf (B i)):=⟨_,rfl⟩
 rw[←hUF]at HSF
 rw[←hUS]at HSS
 have HUF:=zb hUF
 have HUS:=zb hUS
 clear hV h hUF hUS
 obtain⟨T,hT⟩:∃T,T=zn (zf fun x y=>qu nd (zA PL) A B i x y):=⟨_,rfl⟩
 have HC:=zb hC
 rw[←hT]at HC ⊢
 have HTT:=zb hT
 clear hT hC
 have k1:¬nd.kind=5∧¬nd.kind=2∧¬nd.kind=6∧¬nd.kind=7∧¬nd.kind=8∧¬nd.kind=9∧¬nd.kind=10∧¬nd.kind=11:=by omega
 obtain⟨q5,q2,q6,q7,q8,q9,q10,q11⟩:=k1
 have e5:(nd.kind==5)=false:=by simpa using q5
 have e2:(nd.kind==2)=false:=by simpa using q2
 have e6:(nd.kind==6)=false:=by simpa using q6
 have e7:(nd.kind==7)=false:=by simpa using q7
 have e8:(nd.kind==8)=false:=by simpa using q8
 have e9:(nd.kind==9)=false:=by simpa using q9
 have e10:(nd.kind==10)=false:=by simpa using q10
 have e11:(nd.kind==11)=false:=by simpa using q11
 clear hk
 go_enter Tryz.func103,Tryz.ntmps103
 go_wp2_with (first|(refine qo rfl 168 (.tmp 0) rfl V _ rfl HV.out ?_;intro W0 g0 b0 z0;have HZ0:=zb z0;have HG0:=zb g0;have HB0:=zb b0;have c23:=q0q g0 23;simp only[List.getElem?_cons_zero,List.getElem?_cons_succ]at c23;have hl0:w.heap.size<W0.heap.size:=(by omega);clear g0 z0 b0))
 have ew0:W0.heap.size=w.heap.size+1:=HZ0.out
 have hb1:BsAt w (W0.alloc (.cells zCs 43)) nd lb lo (.slice fa mA fc) (.slice sa mB sc):=⟨(zO _ _ hl0).trans HG0.out,by rw[←HZ0.out];exact zN _ _,HB0.out.alloc HB0.out.size _⟩
 have HBS:=zb hb1
 rw[ew0]
 clear hb1 HZ0 HG0 HB0 c23
 generalize W0.alloc (.cells zCs 43)=W1 at *
 clear hl0 ew0
 refine(HSF.out _ (HVW.out.fst.below HBS.out.bel)).mono ?_
 rintro e w2 ⟨rfl,b2⟩
 obtain⟨W3,S3,g3,b3,z3⟩:=q0f w2 (zf (A i))
 rw[←HUF.out]at S3
 have HB3:=zb (HBS.out.below (b2.trans (b3.mono b2.size)))
 have HG3:=zb g3
 have c24:=q0q HB3.out.view 24
 simp only[List.getElem?_cons_zero,List.getElem?_cons_succ]at c24
 have hl3:w.heap.size<W3.heap.size:=zd HB3.out.view
 have hl5:w2.heap.size<W3.heap.size:=zd g3
 have h5:w.heap.size+1<w2.heap.size:=zT (zd HBS.out.res) b2.size
 clear b2 b3 g3 z3 HBS
 go_wp2_with (refine ze rfl 43 (.tmp 5) (.tmp 10) rfl ⟨w2.heap.size,0,none⟩ UF rfl rfl W3 S3 ?_)
 generalize w2.heap.size=b5 at *
 refine(HSS.out _ (HVW.out.snd.below HB3.out.bel)).mono ?_
 rintro e w4 ⟨rfl,b4⟩
 obtain⟨W5,S5,g5,b5',z5⟩:=q0f w4 (zf (B i))
 rw[←HUS.out]at S5
 have HB5:=zb (HB3.out.below (b4.trans (b5'.mono b4.size)))
 have HGA:Hid (W5.heap[b5]?=some (.cells (zx (zf (A i))).toArray 43 (0,0))):=zb (((b4.trans (b5'.mono b4.size)).block b5 hl5).trans HG3.out)
 have HGB:=zb g5
 have c0:=q0q HB5.out.view 0
 simp only[List.getElem?_cons_zero]at c0
 have hl6:w.heap.size<W5.heap.size:=zd HB5.out.view
 clear b4 b5' g5 z5 HB3 HG3 c24 S3 hl5
 have LVw:=q1Y HB5.out.view
 rw[←HV.out]at LVw
 go_wp2_with (first|(refine ze rfl 43 (.tmp 6) (.tmp 14) rfl ⟨w4.heap.size,0,none⟩ US rfl rfl W5 S5 ?_)|(refine zg rfl 168 (.tmp 2) rfl ⟨w.heap.size,0,none⟩ V rfl LVw ?_))
 refine(HC.out _ (HVW.out.below' HB5.out.bel)).mono ?_
 rintro e w7 ⟨rfl,b7⟩
 obtain⟨W,S1,LV,BW⟩:=q1k HB5.out.res (by omega) HB5.out.bel b7 (zf fun x y=>qu nd (zA PL) A B i x y)
 rw[←HTT.out]at S1 LV
 have HW:=zb BW
 clear b7 BW c0 LVw
 go_wp2_with (refine ze rfl 43 (.tmp 4) (.tmp 61) rfl ⟨w.heap.size+1,0,none⟩ T rfl rfl W S1 ?_)
 exact zP (v:=T) (zr rfl _ _ _ _ rfl LV) rfl ⟨rfl,HW.out⟩
def q5w (w:World)(PL:List PPt):Prop:=∀p∈PL,w.ownsRow 0 129 11 p.2 p.1.haps.length (qG p.1.haps)∧p.1.haps.length≤80∧∀h∈p.1.haps,∀d∈h.ds,d≤9
theorem q5w.below {w w':World}{PL:List PPt}(h:q5w w PL)(hb:Below w.heap.size w w'):q5w w' PL:=fun p hp=>⟨zh (h p hp).1 hb,(h p hp).2⟩
theorem fld_haps (st:Int)(va:OA)(n vc:Nat)(w:World):(Instr.field 96 (.agg #[.int .u16 st,.slice va n vc]) 1).run Tryz.prog w=.ok (.slice va n vc) w:=by kernel_rfl
theorem j5E {ops:Array Oper}{S:World→Prop}{op:Oper}{a:Act}(hw:Region.wanted op (yielded ops a.tmps)=true)(x:Operand)(ho:op.op=.field 96 x 1)(st:Int)(va:OA)(n vc:Nat)(hx:a.eval x=.agg #[.int .u16 st,.slice va n vc]):YieldsIf Tryz.prog ops S op (.slice va n vc) a:=
 .inl ⟨hw,fun w _=>by
  unfold execOp
  simp only[ho,hx,fld_haps,Sem.run_bind,Sem.run_pure,Result.andThen_ok]⟩
theorem j0X {w:World}{b:Nat}{nd:PNode}{lb lo:Nat}{vf vs:Value}(h:w.heap[b]?=some (.cells (q0D nd lb lo vf vs).toArray 168 (0,0))):(Instr.loadAt 166 (.pointer (some ⟨b,0,none⟩))).run Tryz.prog w=.ok (q0Y nd) w:=
 run_loadAt_mid w b 0 166 (zm nd) _ (fun j u hj=>by
  have hj2:j<22:=(List.getElem?_eq_some_iff.1 hj).1
  rw[Nat.zero_add,q0q h j]
  have e:q0D nd lb lo vf vs=zm nd++[.pointer (some ⟨lb,lo,none⟩),vf,vs]:=rfl
  rw[e,List.getElem?_append_left (by show j<22;exact hj2)]
  exact hj) Tryz.underlying166 rfl (by kernel_rfl)
theorem j1W {w:World}{b:Nat}{nd:PNode}{lb lo:Nat}{vf vs:Value}(h:w.heap[b]?=some (.cells (q0D nd lb lo vf vs).toArray 168 (0,0))):(Instr.loadAt 132 (.pointer (some ⟨b,22,none⟩))).run Tryz.prog w=.ok (.pointer (some ⟨lb,lo,none⟩)) w:=by
 have hc:w.cell? ⟨b,22,none⟩=some (.pointer (some ⟨lb,lo,none⟩)):=by rw[q0q h 22];rfl
 simp[go_sem,hc]
theorem j2k (V:Value)(nd:PNode)(lb lo:Nat)(ao:OA)(cap:Nat)(PL:List PPt)(vf vs:Value)(hV:V=.agg (q0D nd lb lo vf vs).toArray)(mA mB:Nat)(A B:Nat→Nat→Nat→Bool)(i:Nat)(hi:i<PL.length)(w:World)(h:VwAt w lb lo ao cap PL vf vs mA mB A B)(hk:nd.kind=2)(hcn:∃n:Nat,nd.cnt=(n:Int)∧n≤2)(hH:q5w w PL) :
  Calls Tryz.prog 103 #[V,.int .i64 i] w fun e w'=>e=.returned (zn (zf fun x y=>qu nd (zA PL) A B i x y))∧Below w.heap.size w w':=by
 obtain⟨fa,fc,rfl⟩:=h.fst.form
 obtain⟨sa,sc,rfl⟩:=h.snd.form
 have HV:=zb hV
 have HVW:=zb h
 have HSF:=zb (fun W (q:Tb W (.slice fa mA fc) mA A)=>q0g (.slice fa mA fc) mA A h.szA i W q)
 have HSS:=zb (fun W (q:Tb W (.slice sa mB sc) mB B)=>q0g (.slice sa mB sc) mB B h.szB i W q)
 obtain⟨UF,hUF⟩:∃U,U=zn (zf (A i)):=⟨_,rfl⟩
 obtain⟨US,hUS⟩:∃U,U=zn (zf (B i)):=⟨_,rfl⟩
 rw[←hUF]at HSF
 rw[←hUS]at HSS
 have HUF:=zb hUF
 have HUS:=zb hUS
 clear hV h hUF hUS
 have e:(fun x y=>qu nd (zA PL) A B i x y)=fun x y=>(PL[i]).1.haps.any (evP nd x y):=by
  funext x y
  unfold qu
  rw[hk,if_neg (by decide),if_pos rfl]
  unfold q8Z
  rw[List.getElem?_map,zG hi]
  rfl
 rw[e]
 obtain⟨hr,hr80,hrd⟩:=hH _ (List.getElem_mem hi)
 obtain⟨va,vc,ev⟩:=q0N hr
 obtain⟨n,hn,hn2⟩:=hcn
 obtain⟨NV,hNV⟩:∃NV,NV=q0Y nd:=⟨_,rfl⟩
 have HAT:=zb (fun W (q:LogAt W lb lo ao cap PL)=>pts_At lb lo ao cap PL i hi W q (fun p hp=>by obtain⟨a,c,e⟩:=q0N (hH p hp).1;exact⟨a,_,c,e⟩))
 rw[ev]at HAT
 have HHP:=zb (fun W (q:W.ownsRow 0 129 11 (.slice va (PL[i]).1.haps.length vc) (PL[i]).1.haps.length (qG (PL[i]).1.haps))=>j3p NV nd hNV n hn hn2 (.slice va (PL[i]).1.haps.length vc) (PL[i]).1.haps hr80 hrd W q)
 rw[ev]at hr
 have HRW:=zb hr
 obtain⟨T,hT⟩:∃T,T=zn (zf fun x y=>(PL[i]).1.haps.any (evP nd x y)):=⟨_,rfl⟩
 rw[←hT]at HHP ⊢
 have HTT:=zb hT
 have HNV:=zb hNV
 generalize hhl:(PL[i]).1.haps.length=hl at *
 generalize (PL[i]).1.stamp=st at *
 generalize qG (PL[i]).1.haps=hcs at *
 clear e hT hNV hr hr80 hrd ev hhl hH hn
 go_enter Tryz.func103,Tryz.ntmps103
 go_wp2_with (first|(refine qo rfl 168 (.tmp 0) rfl V _ rfl HV.out ?_;intro W0 g0 b0 z0;have HZ0:=zb z0;have HG0:=zb g0;have HB0:=zb b0;have c23:=q0q g0 23;simp only[List.getElem?_cons_zero,List.getElem?_cons_succ]at c23;have hl0:w.heap.size<W0.heap.size:=(by omega);clear g0 z0 b0))
 have ew0:W0.heap.size=w.heap.size+1:=HZ0.out
 have hb1:BsAt w (W0.alloc (.cells zCs 43)) nd lb lo (.slice fa mA fc) (.slice sa mB sc):=⟨(zO _ _ hl0).trans HG0.out,by rw[←HZ0.out];exact zN _ _,HB0.out.alloc HB0.out.size _⟩
 have HBS:=zb hb1
 rw[ew0]
 clear hb1 HZ0 HG0 HB0 c23
 generalize W0.alloc (.cells zCs 43)=W1 at *
 clear hl0 ew0
 refine(HSF.out _ (HVW.out.fst.below HBS.out.bel)).mono ?_
 rintro e w2 ⟨rfl,b2⟩
 obtain⟨W3,S3,g3,b3,z3⟩:=q0f w2 (zf (A i))
 rw[←HUF.out]at S3
 have HB3:=zb (HBS.out.below (b2.trans (b3.mono b2.size)))
 have HG3:=zb g3
 have c24:=q0q HB3.out.view 24
 simp only[List.getElem?_cons_zero,List.getElem?_cons_succ]at c24
 have hl3:w.heap.size<W3.heap.size:=zd HB3.out.view
 have hl5:w2.heap.size<W3.heap.size:=zd g3
 have h5:w.heap.size+1<w2.heap.size:=zT (zd HBS.out.res) b2.size
 clear b2 b3 g3 z3 HBS
 go_wp2_with (refine ze rfl 43 (.tmp 5) (.tmp 10) rfl ⟨w2.heap.size,0,none⟩ UF rfl rfl W3 S3 ?_)
 generalize w2.heap.size=b5 at *
 refine(HSS.out _ (HVW.out.snd.below HB3.out.bel)).mono ?_
 rintro e w4 ⟨rfl,b4⟩
 obtain⟨W5,S5,g5,b5',z5⟩:=q0f w4 (zf (B i))
 rw[←HUS.out]at S5
 have HB5:=zb (HB3.out.below (b4.trans (b5'.mono b4.size)))
 have HGA:Hid (W5.heap[b5]?=some (.cells (zx (zf (A i))).toArray 43 (0,0))):=zb (((b4.trans (b5'.mono b4.size)).block b5 hl5).trans HG3.out)
 have HGB:=zb g5
 have c0:=q0q HB5.out.view 0
 simp only[List.getElem?_cons_zero,hk]at c0
 have hl6:w.heap.size<W5.heap.size:=zd HB5.out.view
 clear b4 b5' g5 z5 HB3 HG3 c24 S3 hl5
 go_wp2_with (refine ze rfl 43 (.tmp 6) (.tmp 14) rfl ⟨w4.heap.size,0,none⟩ US rfl rfl W5 S5 ?_)
 obtain⟨W,hWd⟩:∃W:World,W=W5:=⟨_,rfl⟩
 rw[←hWd]at HB5 ⊢
 clear hWd c0 S5 HGA HGB hl6
 have HB0:Hid (Below W.heap.size W W.drew):=zb ((zB _ _).drew)
 have HS:Hid (∀w',Below W.heap.size W w'→(Instr.loadAt 166 (.pointer (some ⟨w.heap.size,0,none⟩))).run Tryz.prog w'=.ok NV w'∧(Instr.loadAt 132 (.pointer (some ⟨w.heap.size,22,none⟩))).run Tryz.prog w'=.ok (.pointer (some ⟨lb,lo,none⟩)) w'):=zb (fun w' hb=>⟨by rw[HNV.out];exact j0X (HB5.out.below hb).view,j1W (HB5.out.below hb).view⟩)
 have FIN:Hid (∀w',Below W.heap.size W w'→∃WS,(Instr.storeAt 43 (.pointer (some ⟨w.heap.size+1,0,none⟩)) T).run Tryz.prog w'=.ok () WS∧((Instr.loadAt 166 (.pointer (some ⟨w.heap.size,0,none⟩))).run Tryz.prog WS=.ok NV WS∧(Instr.loadAt 132 (.pointer (some ⟨w.heap.size,22,none⟩))).run Tryz.prog WS=.ok (.pointer (some ⟨lb,lo,none⟩)) WS)∧((loadVar 43 ⟨w.heap.size+1,0,none⟩).run Tryz.prog WS=.ok T WS∧Below w.heap.size w WS)):=zb (fun w' hb=>by
  have hb5:=HB5.out.below hb
  obtain⟨WS,s1,s2,s3,s4,s5,s6,s7⟩:=q2g w' (w.heap.size+1) _ (zf fun x y=>(PL[i]).1.haps.any (evP nd x y)) hb5.res rfl
  have hv:WS.heap[w.heap.size]?=_:=(s3 w.heap.size (by omega)).trans hb5.view
  exact⟨WS,by rw[HTT.out];exact s1,⟨by rw[HNV.out];exact j0X hv,j1W hv⟩,by rw[HTT.out];exact(Arr.of_row (f:=zf fun x y=>(PL[i]).1.haps.any (evP nd x y)) s2).loadV,⟨s5.trans hb5.bel.os,s6.trans hb5.bel.tape,s7.trans hb5.bel.output,by rw[s4];exact hb5.bel.size,fun q hq=>by rw[s3 q (by omega)];exact hb5.bel.block q hq⟩⟩)
 refine wp_region_held_drew (S:=fun w'=>(Instr.loadAt 166 (.pointer (some ⟨w.heap.size,0,none⟩))).run Tryz.prog w'=.ok NV w'∧(Instr.loadAt 132 (.pointer (some ⟨w.heap.size,22,none⟩))).run Tryz.prog w'=.ok (.pointer (some ⟨lb,lo,none⟩)) w') (by kernel_rfl) (HS.out _ HB0.out) (fun _=>?_)
 refine ql (i:=0) (v:=.pointer (some ⟨w.heap.size,0,none⟩)) 23 rfl rfl (by kernel_rfl) (by kernel_rfl) (by kernel_rfl) (fun _ _ _ h=>h) (Or.inl ⟨by rfl,fun w _=>by go_simp⟩) (HS.out _ HB0.out) ?_
 simp only[Act.put,List.setIfInBounds_toArray,List.set_cons_succ,List.set_cons_zero]
 refine ql (i:=1) (v:=NV) 24 rfl rfl (by kernel_rfl) (by kernel_rfl) (by kernel_rfl) (fun _ _ _ h=>h) (qJ (by rfl) 166 (.tmp 23) rfl ⟨w.heap.size,0,none⟩ _ rfl (fun w h=>h.1)) (HS.out _ HB0.out) ?_
 simp only[Act.put,List.setIfInBounds_toArray,List.set_cons_succ,List.set_cons_zero]
 refine ql (i:=2) (v:=.pointer (some ⟨w.heap.size,22,none⟩)) 25 rfl rfl (by kernel_rfl) (by kernel_rfl) (by kernel_rfl) (fun _ _ _ h=>h) (Or.inl ⟨by rfl,fun w _=>by go_simp⟩) (HS.out _ HB0.out) ?_
 simp only[Act.put,List.setIfInBounds_toArray,List.set_cons_succ,List.set_cons_zero]
 refine ql (i:=3) (v:=.pointer (some ⟨lb,lo,none⟩)) 26 rfl rfl (by kernel_rfl) (by kernel_rfl) (by kernel_rfl) (fun _ _ _ h=>h) (qJ (by rfl) 132 (.tmp 25) rfl ⟨w.heap.size,22,none⟩ _ rfl (fun w h=>h.2)) (HS.out _ HB0.out) ?_
 simp only[Act.put,List.setIfInBounds_toArray,List.set_cons_succ,List.set_cons_zero]
 refine ql (i:=4) (v:=.int .i64 i) 27 rfl rfl (by kernel_rfl) (by kernel_rfl) (by kernel_rfl) (fun _ _ _ h=>h) (Or.inl ⟨by rfl,fun w _=>by go_simp⟩) (HS.out _ HB0.out) ?_
 simp only[Act.put,List.setIfInBounds_toArray,List.set_cons_succ,List.set_cons_zero]
 refine rd1 5 rfl fun K hK=>?_
 go_simp
 refine(HAT.out _ (HVW.out.log.below (HB5.out.below HB0.out).bel)).mono ?_
 rintro e w6 ⟨rfl,b6⟩
 have Bb6:Below W.heap.size W w6:=(HB0.out).trans (b6.mono (HB0.out).size)
 go_simp
 refine hK.out _ _ (HS.out _ Bb6) (fun _=>?_)
 clear hK K b6
 refine ql (i:=6) (v:=.slice va hl vc) 29 rfl rfl (by kernel_rfl) (by kernel_rfl) (by kernel_rfl) (fun _ _ _ h=>h) (j5E (by rfl) (.tmp 28) rfl st va hl vc rfl) (HS.out _ Bb6) ?_
 simp only[Act.put,List.setIfInBounds_toArray,List.set_cons_succ,List.set_cons_zero]
 refine rd1 7 rfl fun K hK=>?_
 go_simp
 refine(HHP.out _ (zh HRW.out (HB5.out.below Bb6).bel)).mono ?_
 rintro e w7 ⟨rfl,b7⟩
 have Bb7:Below W.heap.size W w7:=(Bb6).trans (b7.mono (Bb6).size)
 go_simp
 refine hK.out _ _ (HS.out _ Bb7) (fun _=>?_)
 clear hK K b7
 obtain⟨WS,S1,HSW,PW⟩:=FIN.out _ Bb7
 refine rd1 8 rfl fun K hK=>?_
 refine qE 43 (.tmp 4) (.tmp 30) rfl ⟨w.heap.size+1,0,none⟩ T rfl rfl WS S1 ?_
 refine hK.out _ _ HSW (fun _=>?_)
 clear hK K
 refine zD (by kernel_rfl) ?_ _
 simp only[Act.put,List.setIfInBounds_toArray]
 go_wp2_with fail
 exact zP (v:=T) (zr rfl _ _ _ _ rfl PW.1) rfl ⟨rfl,PW.2⟩
def j2a (nd:PNode):Prop:=(nd.kind=5∨nd.kind=2∨nd.kind=6∨nd.kind=7∨nd.kind=8∨nd.kind=9∨nd.kind=10∨nd.kind=11∨nd.kind=12∨nd.kind=13∨nd.kind=14∨nd.kind=15∨nd.kind=16∨nd.kind=17)∧∃n:Nat,nd.cnt=(n:Int)∧n≤2
theorem hol_at (V:Value)(nd:PNode)(hnd:j2a nd)(lb lo:Nat)(ao:OA)(cap:Nat)(PL:List PPt)(vf vs:Value)(hV:V=.agg (q0D nd lb lo vf vs).toArray)(mA mB:Nat)(A B:Nat→Nat→Nat→Bool)(hmA:mA≤PL.length)(i:Nat)(hi:i<PL.length)(w:World)(h:VwAt w lb lo ao cap PL vf vs mA mB A B)(hH:q5w w PL) :
  Calls Tryz.prog 103 #[V,.int .i64 i] w fun e w'=>e=.returned (zn (zf fun x y=>qu nd (zA PL) A B i x y))∧Below w.heap.size w w':=by
 obtain⟨hk,hcn⟩:=hnd
 have hsm:=h.log.small
 by_cases k5:nd.kind=5
 ·exact j3n V nd lb lo ao cap PL vf vs hV mA mB A B i hi w h k5
 by_cases k2:nd.kind=2
 ·exact j2k V nd lb lo ao cap PL vf vs hV mA mB A B i hi w h k2 hcn hH
 by_cases k6:nd.kind=6
 ·exact j4P V nd lb lo ao cap PL vf vs hV mA mB A B i hi w h k6
 by_cases k7:nd.kind=7
 ·exact j4Q V nd lb lo ao cap PL vf vs hV mA mB A B i hi w h k7
 by_cases k8:nd.kind=8
 ·exact j6G V nd lb lo ao cap PL vf vs hV mA mB A B i hi w h k8
 by_cases k9:nd.kind=9
 ·exact j6F V nd lb lo ao cap PL vf vs hV mA mB A B i hi w h k9
 by_cases k10:nd.kind=10
 ·refine q6S V nd lb lo ao cap PL vf vs hV mA mB A B i hi w h (.inl k10) (fun W hW=>?_)
  have hbk:(if q4F nd.kind=true then(-1:Int)else 1) = -1:=by rw[k10];decide
  by_cases h0:0<i
  ·have e:(fun x y=>qu nd (zA PL) A B i x y)=fun x y=>q0L nd (q0l (zA PL) i (i-1))&&A (i-1) x y:=by
    funext x y
    unfold qu
    rw[if_neg k5,if_neg k2,if_neg k6,if_neg k7,if_neg k8,if_neg k9,if_pos k10,decide_eq_true h0,Bool.true_and]
   rw[e]
   refine q5E V nd lb lo ao cap PL vf vs hV mA mB A B i hi ((i-1:Nat):Int) (by rw[hbk];omega) (q0l (zA PL) i (i-1)) (A (i-1)) W hW (fun W' q=>q6j lb lo ao cap PL i (i-1) hi (by omega) W' q) (fun W' q=>?_)
   obtain⟨fa,fc,rfl⟩:=q.form
   exact q0g _ mA A hW.szA (i-1) W' q
  ·have e:(fun x y=>qu nd (zA PL) A B i x y)=fun x y=>q0L nd 0&&(fun _ _=>false:Nat→Nat→Bool) x y:=by
    funext x y
    unfold qu
    rw[if_neg k5,if_neg k2,if_neg k6,if_neg k7,if_neg k8,if_neg k9,if_pos k10,decide_eq_false h0,Bool.false_and,Bool.and_false]
   rw[e]
   refine q5E V nd lb lo ao cap PL vf vs hV mA mB A B i hi (-1) (by rw[hbk];omega) 0 (fun _ _=>false) W hW (fun W' q=>q7S lb lo ao cap PL i (-1) hi (.inl (by decide)) W' q) (fun W' q=>?_)
   obtain⟨fa,fc,rfl⟩:=q.form
   rw[q4s (fun _ _=>rfl)]
   exact q6U fa mA fc hW.szA (-1) (.inl (by decide)) W'
 by_cases k11:nd.kind=11
 ·refine q6S V nd lb lo ao cap PL vf vs hV mA mB A B i hi w h (.inr k11) (fun W hW=>?_)
  have hbk:(if q4F nd.kind=true then(-1:Int)else 1)=1:=by rw[k11];decide
  have hsa:∀W',Tb W' vf mA A→Calls Tryz.prog 132 #[vf,.int .i64 ((i+1:Nat):Int)] W' fun e w'=>e=.returned (zn (zf (A (i+1))))∧Below W'.heap.size W' w':=fun W' q=>q0g _ mA A hW.szA (i+1) W' q
  by_cases h0:i+1<PL.length
  ·have e:(fun x y=>qu nd (zA PL) A B i x y)=fun x y=>q0L nd (q0l (zA PL) i (i+1))&&A (i+1) x y:=by
    funext x y
    unfold qu
    rw[if_neg k5,if_neg k2,if_neg k6,if_neg k7,if_neg k8,if_neg k9,if_neg k10,if_pos k11,decide_eq_true (by rw[List.length_map];exact h0),Bool.true_and]
   rw[e]
   exact q5E V nd lb lo ao cap PL vf vs hV mA mB A B i hi ((i+1:Nat):Int) (by rw[hbk];omega) (q0l (zA PL) i (i+1)) (A (i+1)) W hW (fun W' q=>q6j lb lo ao cap PL i (i+1) hi h0 W' q) hsa
  ·have e:(fun x y=>qu nd (zA PL) A B i x y)=fun x y=>q0L nd 0&&A (i+1) x y:=by
    funext x y
    unfold qu
    rw[if_neg k5,if_neg k2,if_neg k6,if_neg k7,if_neg k8,if_neg k9,if_neg k10,if_pos k11,decide_eq_false (by rw[List.length_map];exact h0),Bool.false_and,hW.fst.far (i+1) (by omega) x y,Bool.and_false]
   rw[e]
   exact q5E V nd lb lo ao cap PL vf vs hV mA mB A B i hi ((i+1:Nat):Int) (by rw[hbk];omega) 0 (A (i+1)) W hW (fun W' q=>q7S lb lo ao cap PL i _ hi (.inr (by omega)) W' q) hsa
 ·refine j2l V nd lb lo ao cap PL vf vs hV mA mB A B i hi w h (by omega) (fun W hW=>?_)
  by_cases hb:q4F nd.kind=true
  ·have e:(fun x y=>qu nd (zA PL) A B i x y)=fun x y=>q5b (fun j=>q0L nd (q0l (zA PL) i j)) (q1q nd A B x y) (q0y nd A x y) (fun m=>i-m) (i+1):=by
    funext x y
    unfold qu
    rw[if_neg k5,if_neg k2,if_neg k6,if_neg k7,if_neg k8,if_neg k9,if_neg k10,if_neg k11,if_pos hb]
   rw[e]
   exact j1u V nd lb lo ao cap PL vf vs hV mA mB A B i hi (fun m=>i-m) (fun k=>(i:Int)-k) (i+1) (fun k hk=>⟨by omega,by omega⟩) (fun k=>by rw[if_pos hb];omega) (.inl (by omega)) (by simp) (fun k hk=>by omega) W hW
  ·have e:(fun x y=>qu nd (zA PL) A B i x y)=fun x y=>q5b (fun j=>q0L nd (q0l (zA PL) i j)) (q1q nd A B x y) (q0y nd A x y) (fun m=>i+m) (PL.length-i):=by
    funext x y
    unfold qu
    rw[if_neg k5,if_neg k2,if_neg k6,if_neg k7,if_neg k8,if_neg k9,if_neg k10,if_neg k11,if_neg hb,List.length_map]
   rw[e]
   exact j1u V nd lb lo ao cap PL vf vs hV mA mB A B i hi (fun m=>i+m) (fun k=>(i:Int)+k) (PL.length-i) (fun k hk=>⟨by omega,by omega⟩) (fun k=>by rw[if_neg hb];omega) (.inr (by omega)) (by simp) (fun k hk=>by omega) W hW
theorem j3v:(Tryz.prog.info? 43).map (fun i=>(i.zero,i.size,i.bytes))=some (some (.agg zCs),10,20):=by kernel_rfl
def EvRel (w:World)(nd:PNode)(lb lo:Nat)(vf vs:Value)(H:Nat→Nat→Nat→Bool)(n:Nat)(g:Nat)(vl vi:Value)(wr:World):Prop:=
 ∃k:Nat,k≤n∧n-k≤g∧vi=.int .i64 k∧wr.heap[w.heap.size]?=some (.cells (q0D nd lb lo vf vs).toArray 168 (0,0))∧wr.ownsRow (w.heap.size+1) 43 10 vl k (q0H k H)∧Below w.heap.size w wr
theorem q9R (V:Value)(nd:PNode)(hnd:j2a nd)(lb lo:Nat)(ao:OA)(cap:Nat)(PL:List PPt)(vf vs:Value)(hV:V=.agg (q0D nd lb lo vf vs).toArray)(mA mB:Nat)(A B:Nat→Nat→Nat→Bool)(hmA:mA≤PL.length)(w:World)(h:VwAt w lb lo ao cap PL vf vs mA mB A B)(hH:q5w w PL) :
  Calls Tryz.prog 73 #[V] w fun e w'=>∃v,e=.returned v∧w'.ownsRow w.heap.size 43 10 v PL.length (q0H PL.length fun i x y=>qu nd (zA PL) A B i x y)∧Below w.heap.size w w':=by
 have HV:=zb hV
 have HVW:=zb h
 have HHI:=zb hH
 have hsm:=h.log.small
 obtain⟨H,hHd⟩:∃H:Nat→Nat→Nat→Bool,H=fun i x y=>qu nd (zA PL) A B i x y:=⟨_,rfl⟩
 rw[←hHd]
 have HAT:Hid (∀i,i<PL.length→∀W,VwAt W lb lo ao cap PL vf vs mA mB A B→q5w W PL→Calls Tryz.prog 103 #[V,.int .i64 i] W fun e w'=>e=.returned (zn (zf (H i)))∧Below W.heap.size W w'):=zb (fun i hi W hW hh=>by rw[hHd];exact hol_at V nd hnd lb lo ao cap PL vf vs hV mA mB A B hmA i hi W hW hh)
 clear hV h hH hHd
 obtain⟨i0,hi0,iz0,iz1,iz2⟩:=info_parts j3v
 go_enter Tryz.func73,Tryz.ntmps73
 go_wp2_with (first|(refine qo rfl 168 (.tmp 0) rfl V _ rfl HV.out ?_;intro W0 g0 b0 z0;have HZ0:=zb z0;have HG0:=zb g0;have HB0:=zb b0;clear g0 z0 b0))
 go_loopg [3,4] PL.length (fun g vl vi wr=>EvRel w nd lb lo vf vs H PL.length g vl vi wr)
 case atStart=>exact⟨0,zZ _,by omega,rfl,HG0.out,zW _ _ _ _,HB0.out⟩
 case round =>
  obtain⟨k,hk,hg,rfl,hvw,hown,hb⟩:=hrel
  have HG:=zb hg
  have HW0:=zb hvw
  have HO:=zb hown
  have HB:=zb hb
  have c22:=(q1e hvw).1
  have hlw:=zd hvw
  have hCo:=q6E lb lo ao cap PL wr (HVW.out.log.below hb)
  have LV:=q1Y hvw
  rw[←HV.out]at LV
  obtain⟨va,vc,rfl⟩:=q0N hown
  clear hg hvw hown hb
  by_cases hkn:k<PL.length
  ·have HC:=zb (HAT.out k hkn wr (HVW.out.below HB.out) (HHI.out.below HB.out))
   have HTS:=zb (q1E k H)
   generalize zf (H k)=r at *
   go_wp2_with (refine zg rfl 168 (.tmp 1) rfl ⟨w.heap.size,0,none⟩ V rfl LV ?_)
   refine hCo.mono ?_
   rintro e wr' ⟨rfl,rfl⟩
   go_wp2_with (refine zg rfl 168 (.tmp 1) rfl ⟨w.heap.size,0,none⟩ V rfl LV ?_)
   refine(HC.out).mono ?_
   rintro e w2 ⟨rfl,b2⟩
   have HO2:=zb (zh HO.out b2)
   have HV2:=zb ((b2.block _ hlw).trans HW0.out)
   have HB2:=zb (HB.out.trans (b2.mono HB.out.size))
   have hs2:w.heap.size+1≤w2.heap.size:=by have:=b2.size;omega
   clear b2 LV c22 HC hCo
   go_wp2_with (at_builtin;refine q2c rfl (.tmp 12) (.tmp 16) 137 43 rfl Tryz.underlying137 hi0 iz0 iz1 iz2 rfl (by decide) w2 (w.heap.size+1) _ _ _ (zx r) w2 rfl HO2.out (by simp[Act.eval]) rfl (by simp[Value.oneCell']) (by omega) (by decide) (zB _ _) hs2 ?_;intro v' w' hown' hbel' hne)
   have hg1:0<gk:=by have:=HG.out;omega
   go_roundg (gk-1)
   case measure=>omega
   case rel=>exact⟨k+1,by omega,by have:=HG.out;omega,by go_num,(hbel'.block _ (by omega)).trans HV2.out,by rw[HTS.out];exact hown',HB2.out.trans (hbel'.mono (by omega))⟩
  ·have hkn':k=PL.length:=by omega
   have HK:=zb hkn'
   clear hkn' LV
   go_wp2_with fail
   refine hCo.mono ?_
   rintro e wr' ⟨rfl,rfl⟩
   go_wp2_with fail
   go_ret
   exact⟨_,rfl,by rw[←HK.out];exact q1L (by omega) HO.out,HB.out⟩
end Go.Proofs.YtiamjjonoeaggabGreatDoor
