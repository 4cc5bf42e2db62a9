import Derived.Test.YtiamjjonoeaggabGreatDoorGA
import Derived.Test.YtiamjjonoeaggabGreatDoorG36
set_option maxRecDepth 100000
set_option maxHeartbeats 16000000
namespace Go.Proofs.YtiamjjonoeaggabGreatDoor
open Go.RowKit
def q7a (w:World)(b gn cn:Nat)(ao:OA)(F:zl)(PL:List PPt)(told:Nat)(ended:Bool)(s:By)(e:Ending)(w':World):Prop:=
 ∃v,e=.returned (.tuple #[v,.int .i64 (q1a (zA PL) ended s).1,.int .i64 (q1a (zA PL) ended s).2])∧w'.ownsRow w.heap.size 45 12 v (q5a F (zA PL) told ended s).length (zy (q5a F (zA PL) told ended s))∧q4E w w' b gn cn ao F (q3g (zA PL) ended s) (q7u F (zA PL) told ended s) ended
theorem q9x {w w':World}{b gn cn:Nat}{ao:OA}{cap:Nat}{F:zl}{PL:List PPt}{told:Nat}{ended:Bool}{s:By}{er at':Int}(h:MonAt w b gn cn ao cap F PL told ended)(he:q1a (zA PL) ended s=(er,at'))(h0:er≠0)(hb:Below w.heap.size w w') :
  q7a w b gn cn ao F PL told ended s (.returned (.tuple #[.slice none 0 0,.int .i64 er,.int .i64 at'])) w':=by
 have hne:¬(q1a (zA PL) ended s).1=0:=by rw[he];exact h0
 refine⟨_,by rw[he],?_,?_⟩
 ·unfold q5a
  rw[if_neg hne]
  exact zW _ _ _ _
 ·unfold q3g q7u
  rw[if_neg hne,if_neg hne]
  exact q4E.same h hb
theorem j2K (b gn cn:Nat)(ao:OA)(cap:Nat)(F:zl)(PL:List PPt)(told:Nat)(s:By)(w:World)(h:MonAt w b gn cn ao cap F PL told true) :
  Calls Tryz.prog 10 #[.pointer (some ⟨b,0,none⟩),bs s] w fun e w'=>q7a w b gn cn ao F PL told true s e w':=by
 obtain⟨c0,c1,c2,c3,c4,c5,c6⟩:=h.cells
 have hlt:=h.lt
 have HM:=zb h
 clear h c0 c1 c2 c3 c4 c5
 go_enter Tryz.func10,Tryz.ntmps10
 go_wp2_with fail
 go_ret3
 exact q9x HM.out rfl (by decide) (zB _ _)
theorem j2L (b gn cn:Nat)(ao:OA)(cap:Nat)(F:zl)(PL:List PPt)(told:Nat)(s:By)(hs64:s.length≤maxLen)(hl:80<s.length)(w:World)(h:MonAt w b gn cn ao cap F PL told false) :
  Calls Tryz.prog 10 #[.pointer (some ⟨b,0,none⟩),bs s] w fun e w'=>q7a w b gn cn ao F PL told false s e w':=by
 obtain⟨c0,c1,c2,c3,c4,c5,c6⟩:=h.cells
 have hlt:=h.lt
 have HM:=zb h
 have HE:Hid (q1a (zA PL) false s=(1,0)):=zb (by unfold q1a;rw[if_neg (by decide),if_pos hl])
 unfold maxLen at hs64
 clear h c0 c1 c2 c3 c4 c5
 go_enter Tryz.func10,Tryz.ntmps10
 go_wp2_with fail
 go_ret3
 exact q9x HM.out HE.out (by decide) (zB _ _)
theorem j2M (b gn cn:Nat)(ao:OA)(cap:Nat)(F:zl)(PL:List PPt)(told:Nat)(s:By)(hl:s.length≤80)(p:Nat)(hp:q2n s=.inl p)(w:World)(h:MonAt w b gn cn ao cap F PL told false) :
  Calls Tryz.prog 10 #[.pointer (some ⟨b,0,none⟩),bs s] w fun e w'=>q7a w b gn cn ao F PL told false s e w':=by
 obtain⟨c0,c1,c2,c3,c4,c5,c6⟩:=h.cells
 have hlt:=h.lt
 have HM:=zb h
 have HE:Hid (q1a (zA PL) false s=(3,(p:Int))):=zb (by unfold q1a;rw[if_neg (by decide),if_neg (by omega),hp])
 have HR:=zb (j3K s hl p hp)
 clear h c0 c1 c2 c3 c4 c5 hp
 go_enter Tryz.func10,Tryz.ntmps10
 go_wp2_with fail
 refine(HR.out _).mono ?_
 rintro e w1 ⟨rfl,b1⟩
 have HB1:=zb b1
 clear b1
 go_wp2_with fail
 go_ret3
 exact q9x HM.out HE.out (by decide) (by first|exact(HB1.out.alloc HB1.out.size _).setCells _|exact HB1.out.alloc HB1.out.size _)
theorem j2N (b gn cn:Nat)(ao:OA)(cap:Nat)(F:zl)(PL:List PPt)(told:Nat)(s:By)(hl:s.length≤80)(st:Nat)(l:List Hp)(hp:q2n s=.inr (st,l))(hno:¬(toR (zA PL) st<32768∧PL.length<40))(w:World)(h:MonAt w b gn cn ao cap F PL told false) :
  Calls Tryz.prog 10 #[.pointer (some ⟨b,0,none⟩),bs s] w fun e w'=>q7a w b gn cn ao F PL told false s e w':=by
 obtain⟨c0,c1,c2,c3,c4,c5,c6⟩:=h.cells
 have hlt:=h.lt
 have HM:=zb h
 have hst:=(q3w hp).2.2.1
 have HR:=zb (q7H s hl st l hp)
 have HAD:=zb (fun va vn vc W q=>j5n st hst va vn vc b 4 ao cap PL W q hno)
 obtain⟨er,her⟩:∃er:Int,er=if 32768≤toR (zA PL) st then 7 else 8:=⟨_,rfl⟩
 have HE:Hid (q1a (zA PL) false s=(er,0)):=zb (by unfold q1a;rw[if_neg (by decide),if_neg (by omega),hp];simp only[];rw[if_neg (by rw[List.length_map];exact hno),her])
 rw[←her]at HAD
 have her2:(er != 0)=true:=by rw[her];split<;>decide
 have HNE:Hid (er≠0):=zb (by simpa using her2)
 clear h c0 c1 c2 c3 c4 c5 hp her hno
 go_enter Tryz.func10,Tryz.ntmps10
 go_wp2_with fail
 refine(HR.out _).mono ?_
 rintro e w1 ⟨hv,rfl,hO,b1⟩
 obtain⟨va,vc,rfl⟩:=q0N hO
 have HB1:=zb b1
 clear b1 hO
 go_wp2_with fail
 obtain⟨W1,hW1⟩:∃W1,W1=w1.alloc (.cells #[.int .u16 st,.slice va l.length vc] 96):=⟨_,rfl⟩
 have BW1:Below w.heap.size w W1:=by rw[hW1];exact HB1.out.alloc HB1.out.size _
 have G1:W1.heap[w1.heap.size]?=some (.cells #[.int .u16 st,.slice va l.length vc] 96 (0,0)):=by rw[hW1];exact zN _ _
 rw[←hW1]
 have z0:=zC _ _ 0 _ _ _ G1
 have z1:=zC _ _ 1 _ _ _ G1
 simp only[gz]at z0 z1
 have hz1:=zd G1
 have HBW:=zb BW1
 clear hW1 BW1 G1
 go_region_held3 (fun w'=>w'.cell? ⟨w1.heap.size,0,none⟩=some (.int .u16 st)∧w'.cell? ⟨w1.heap.size,1,none⟩=some (.slice va l.length vc)) (first|go_keep|(exact⟨z0,z1⟩)|(exact⟨(zK (a:=⟨w1.heap.size,0,none⟩) (b3.block _ hz1)).trans z0,(zK (a:=⟨w1.heap.size,1,none⟩) (b3.block _ hz1)).trans z1⟩)) ((go_at_call 33;refine(HAD.out _ _ _ _ ((HM.out.below HBW.out).below (by exact(zB _ _).drew)).log).mono ?_;rintro e w3 ⟨rfl,b3⟩))
 have B3:Below w.heap.size w w3:=HBW.out.trans ((((zB _ _).drew).trans b3).mono HBW.out.size)
 have HB3:=zb B3
 clear B3 b3
 go_wp2_with fail
 go_ret3
 exact q9x HM.out HE.out HNE.out HB3.out
theorem MonAt.added {w w':World}{b gn cn:Nat}{ao:OA}{cap:Nat}{F:zl}{PL:List PPt}{told:Nat}{ended:Bool}{g' cap':Nat}{pt:LPt}{hv':Value}(h:MonAt w b gn cn ao cap F PL told ended)(ho:OnlyB (b::zQ ao) w w')(hl:LogAt w' b 4 (some ⟨g',0,none⟩) cap' (PL++[(pt,hv')]))
  (hb:w'.heap[b]?=some (.cells ((j0b (.slice (some ⟨gn,0,none⟩) (zq F) cn) (qj F).x (qj F).y (qj F).reach (.slice ao PL.length cap) told ended).setIfInBounds 4 (.slice (some ⟨g',0,none⟩) (PL.length+1) cap')) 93 (0,0)))
  (hr:w'.ownsRow 0 129 11 hv' pt.haps.length (qG pt.haps))(h80:pt.haps.length≤80)(hd:∀h∈pt.haps,∀d∈h.ds,d≤9):MonAt w' b gn cn (some ⟨g',0,none⟩) cap' F (PL++[(pt,hv')]) told ended:=by
 refine⟨?_,q8a h.nodes ho h.kinds (by decide) (by decide),hl,fun p hp=>?_,by have:=h.few;simp;omega⟩
 ·rw[hb,List.length_append]
  rfl
 ·rcases List.mem_append.1 hp with hp|hp
  ·exact⟨q8a (h.haps p hp).1 ho h.kinds (by decide) (by decide),(h.haps p hp).2⟩
  ·have:p=(pt,hv'):=by simpa using hp
   subst this
   exact⟨hr,h80,hd⟩
theorem j2O (b gn cn:Nat)(ao:OA)(cap:Nat)(F:zl)(hF:FormGood F)(PL:List PPt)(told:Nat)(s:By)(hl:s.length≤80)(st:Nat)(l:List Hp)(hp:q2n s=.inr (st,l))(hyes:toR (zA PL) st<32768∧PL.length<40)(w:World)(h:MonAt w b gn cn ao cap F PL told false) :
  Calls Tryz.prog 10 #[.pointer (some ⟨b,0,none⟩),bs s] w fun e w'=>q7a w b gn cn ao F PL told false s e w':=by
 obtain⟨c0,c1,c2,c3,c4,c5,c6⟩:=h.cells
 have hlt:=h.lt
 have HM:=zb h
 obtain⟨_,hok,hst,_⟩:=q3w hp
 have hfew:=line_few hp
 have HR:=zb (q7H s hl st l hp)
 have HAD:=zb (fun va vc W (q:MonAt W b gn cn ao cap F PL told false) (hr:W.ownsRow 0 129 11 (.slice va l.length vc) l.length (qG l))=>j3Q st hst (.slice va l.length vc) l b 4 ao cap PL W q.log _ _ q.blk (by decide) (by decide) hr (by omega) hyes.1 hyes.2)
 have HE:Hid (q1a (zA PL) false s=(0,0)):=zb (by unfold q1a;rw[if_neg (by decide),if_neg (by omega),hp];simp only[];rw[if_pos (by rw[List.length_map];exact hyes)])
 have HLL:Hid (q3g (zA PL) false s=zA PL++[⟨st,q1B (zA PL) st,l⟩]):=zb (by unfold q3g;rw[if_pos (by rw[HE.out]),hp])
 have HD:Hid (∀h∈l,∀d∈h.ds,d≤9):=zb (fun h hh=>(hok h hh).ds.2)
 have HFE:=zb hfew
 clear h c0 c1 c2 c3 c4 c5 hp hok
 go_enter Tryz.func10,Tryz.ntmps10
 go_wp2_with fail
 refine(HR.out _).mono ?_
 rintro e w1 ⟨hv,rfl,hO,b1⟩
 obtain⟨va,vc,rfl⟩:=q0N hO
 have HB1:=zb b1
 have HO:=zb hO
 clear b1 hO
 go_wp2_with fail
 obtain⟨W1,hW1⟩:∃W1,W1=w1.alloc (.cells #[.int .u16 st,.slice va l.length vc] 96):=⟨_,rfl⟩
 have BW1:Below w.heap.size w W1:=by rw[hW1];exact HB1.out.alloc HB1.out.size _
 have G1:W1.heap[w1.heap.size]?=some (.cells #[.int .u16 st,.slice va l.length vc] 96 (0,0)):=by rw[hW1];exact zN _ _
 have HO1:Hid (W1.ownsRow 0 129 11 (.slice va l.length vc) l.length (qG l)):=zb (by rw[hW1];exact q1L (zZ _) (HO.out.alloc _))
 rw[←hW1]
 have z0:=zC _ _ 0 _ _ _ G1
 have z1:=zC _ _ 1 _ _ _ G1
 simp only[gz]at z0 z1
 have hz1:=zd G1
 have HBW:=zb BW1
 have HG1:=zb G1
 have M1:MonAt W1.drew b gn cn ao cap F PL told false:=(HM.out.below HBW.out).below (by exact(zB _ _).drew)
 have HM1:=zb M1
 have HK1:Hid (w1.heap.size∉b::zQ ao):=zb (by
  intro hm
  obtain⟨cs,t,hc,ht⟩:=M1.kinds _ hm
  have hc':W1.heap[w1.heap.size]?=some (.cells cs t (0,0)):=hc
  rw[G1]at hc'
  simp at hc'
  rcases ht with rfl|rfl
  ·exact absurd hc'.2 (by decide)
  ·exact absurd hc'.2 (by decide))
 clear hW1 BW1 G1 M1
 go_region_held3 (fun w'=>w'.cell? ⟨w1.heap.size,0,none⟩=some (.int .u16 st)∧w'.cell? ⟨w1.heap.size,1,none⟩=some (.slice va l.length vc)) (first|go_keep|(exact⟨z0,z1⟩)|(exact⟨(o3.cell hz1 HK1.out).trans z0,(o3.cell hz1 HK1.out).trans z1⟩)) ((go_at_call 33;refine(HAD.out _ _ _ HM1.out HO1.out.drew).mono ?_;rintro e w3 ⟨rfl,g',cap',hv',hlog,hrow,hblk,o3,hwh⟩))
 have M3:=HM1.out.added o3 hlog hblk (q1L (zZ _) hrow) (by show l.length≤80;have:=HFE.out;omega) HD.out
 have O3:OnlyB (b::zQ ao) w w3:=(OnlyB.of_below (HBW.out.drew)).trans o3
 have hzw:w.heap.size≤W1.heap.size:=HBW.out.size
 have WH:Hid (∀k∈zQ (some ⟨g',0,none⟩),k∈zQ ao∨w.heap.size≤k):=zb (by
  intro k hk
  have:k=g':=by simpa[zQ]using hk
  subst this
  rcases hwh with h|h
  ·exact .inl h
  ·exact .inr (zM hzw h))
 have HPL:Hid (zA (PL++[({stamp:=st,time:=q1B (zA PL) st,haps:=l},hv')])=q3g (zA PL) false s):=zb (by rw[HLL.out];exact List.map_append)
 obtain⟨PL',hPL'⟩:∃PL',PL'=PL++[(({stamp:=st,time:=q1B (zA PL) st,haps:=l}:LPt),hv')]:=⟨_,rfl⟩
 rw[←hPL']at M3 HPL
 have HM3:=zb M3
 have HO3:=zb O3
 have d3:=M3.cells.2.2.2.1
 have hl3:=M3.lt
 have HSE:=zb (fun W (q:MonAt W b gn cn (some ⟨g',0,none⟩) cap' F PL' told false)=>j3R b 4 (some ⟨g',0,none⟩) cap' PL' (qj F).reach W q.log)
 have hle:=q8d (zA PL') (qj F).reach
 rw[List.length_map]at hle
 have HT:=zb (fun W (q:MonAt W b gn cn (some ⟨g',0,none⟩) cap' F PL' told false)=>j4D b gn cn _ cap' F hF PL' told false (q2H (zA PL') (qj F).reach) hle W q)
 generalize hsr:q2H (zA PL') (qj F).reach=sr at *
 have HSR:=zb hsr
 clear hPL' hsr M3 O3 hlog hrow hblk hwh z0 z1 HM1 HO1 HG1 HAD HR HB1 HO o3
 generalize hrc:(qj F).reach=rc at *
 have HRC:=zb hrc
 clear hrc
 go_wp2_with fail
 go_region_held3 (fun w'=>w'.cell? ⟨b,3,none⟩=some (.int .i64 rc)) (first|go_keep|(exact d3)|(exact(zK (a:=⟨b,3,none⟩) (b4.block _ hl3)).trans d3)) ((go_at_call 34;refine(HSE.out _ (HM3.out.below (by exact(zB _ _).drew))).mono ?_;rintro e w4 ⟨rfl,b4⟩))
 have B4:Below w3.heap.size w3 w4:=((zB _ _).drew).trans b4
 have HM4:=zb (HM3.out.below B4)
 have HO4:Hid (OnlyB (b::zQ ao) w w4):=zb (HO3.out.trans (.of_below B4))
 clear b4 B4 d3
 go_wp2_with fail
 refine(HT.out _ HM4.out).mono ?_
 rintro e w5 ⟨v,rfl,hrow5,M5,o5⟩
 obtain⟨va5,vc5,rfl⟩:=q0N hrow5
 have HR5:=zb hrow5
 have HM5:=zb M5
 have HO5:=zb o5
 clear hrow5 M5 o5
 go_wp2_with fail
 go_ret3
 have ev:q5a F (zA PL) told false s=q1x F (zA PL') told sr:=by
  unfold q5a
  rw[HE.out,if_pos rfl,←HPL.out,HRC.out,HSR.out]
 have en:q7u F (zA PL) told false s=max told sr:=by
  unfold q7u
  rw[HE.out,if_pos rfl,←HPL.out,HRC.out,HSR.out]
 refine⟨.slice va5 (sr-told) vc5,by rw[HE.out];rfl,?_,some ⟨g',0,none⟩,cap',PL',?_,HPL.out,?_,WH.out⟩
 ·rw[ev,q1R]
  exact q1L HO4.out.size HR5.out
 ·rw[en]
  exact HM5.out
 ·exact HO4.out.trans (HO5.out.wide (by simp))
theorem vig_Feed (b gn cn:Nat)(ao:OA)(cap:Nat)(F:zl)(hF:FormGood F)(PL:List PPt)(told:Nat)(ended:Bool)(s:By)(hs64:s.length≤maxLen)(w:World)(h:MonAt w b gn cn ao cap F PL told ended) :
  Calls Tryz.prog 10 #[.pointer (some ⟨b,0,none⟩),bs s] w fun e w'=>q7a w b gn cn ao F PL told ended s e w':=by
 cases ended with
 |true=>exact j2K b gn cn ao cap F PL told s w h
 |false =>
  by_cases hl:80<s.length
  ·exact j2L b gn cn ao cap F PL told s hs64 hl w h
  ·cases hp:q2n s with
   |inl p=>exact j2M b gn cn ao cap F PL told s (by omega) p hp w h
   |inr q =>
    obtain⟨st,l⟩:=q
    by_cases hy:toR (zA PL) st<32768∧PL.length<40
    ·exact j2O b gn cn ao cap F hF PL told s (by omega) st l hp hy w h
    ·exact j2N b gn cn ao cap F PL told s (by omega) st l hp hy w h
end Go.Proofs.YtiamjjonoeaggabGreatDoor
