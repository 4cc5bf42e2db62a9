import Derived.Test.YtiamjjonoeaggaaGreatDoorGA
import Derived.Test.YtiamjjonoeaggaaGreatDoorG01
import Derived.Test.YtiamjjonoeaggaaGreatDoorG02
import Derived.Test.YtiamjjonoeaggaaGreatDoorG09
import Derived.Test.YtiamjjonoeaggaaGreatDoorG27
import Derived.Test.YtiamjjonoeaggaaGreatDoorG30
import Derived.Test.YtiamjjonoeaggaaGreatDoorG31
import Derived.Test.YtiamjjonoeaggaaGreatDoorG32
set_option maxRecDepth 100000
set_option maxHeartbeats 16000000
namespace Go.Proofs.YtiamjjonoeaggaaGreatDoor
open Go.RowKit
abbrev Ver:=Nat × Nat × (Nat→Nat→Bool)
abbrev j0g (v:Ver):List Value:=[.int .i64 v.1,.int .u16 v.2.1,.int .u16 (zm v.2.2 0),.int .u16 (zm v.2.2 1),.int .u16 (zm v.2.2 2),.int .u16 (zm v.2.2 3),.int .u16 (zm v.2.2 4),.int .u16 (zm v.2.2 5),.int .u16 (zm v.2.2 6),.int .u16 (zm v.2.2 7),.int .u16 (zm v.2.2 8),.int .u16 (zm v.2.2 9)]
def qn (l:List Ver):List Value:=l.flatMap j0g
theorem q6x (l r:List Ver):qn (l++r)=qn l++qn r:=by simp[qn]
theorem j4j (v:Ver):qn [v]=j0g v:=by simp[qn]
def q4C (L:List LPt)(i:Nat):Nat:=match L[i]? with
 |some p=>p.stamp
 |none=>0
def verR (F:zh)(L:List LPt)(i:Nat):Ver:=(i,q4C L i,q6M (qi F).x (qi F).y (zs L F i))
def q0D (F:zh)(L:List LPt)(a c:Nat):List Ver:=(List.range' a (c-a)).map (verR F L)
theorem j1S (F:zh)(L:List LPt)(a c:Nat)(h:c≤a):q0D F L a c=[]:=by
 unfold q0D
 rw[show c-a=0 by omega]
 rfl
theorem j7B (F:zh)(L:List LPt)(a c:Nat)(h:a≤c):q0D F L a (c+1)=q0D F L a c++[verR F L c]:=by
 unfold q0D
 rw[show c+1-a=(c-a)+1 by omega,List.range'_concat,List.map_append]
 simp
 congr 1
 omega
theorem q1W (F:zh)(L:List LPt)(a c:Nat):(q0D F L a c).length=c-a:=by simp[q0D]
structure FormGood (F:zh):Prop where
 ok:q1K F
 nn:F≠.nil
 sz:zu F≤255
structure MonAt (w:World)(b gn cn:Nat)(ao:OA)(cap:Nat)(F:zh)(PL:List PPt)(told:Nat)(ended:Bool):Prop where
 blk:w.heap[b]?=some (.cells (j2A (.slice (some ⟨gn,0,none⟩) (zu F) cn) (qi F).x (qi F).y (qi F).reach (.slice ao PL.length cap) told ended) 89 (0,0))
 nodes:w.ownsRow 0 168 22 (.slice (some ⟨gn,0,none⟩) (zu F) cn) (zu F) (qr (q0l F 0))
 log:LogAt w b 4 ao cap PL
 haps:q5W w PL
 few:told≤PL.length
theorem q8T {w w':World}{bl:List Nat}{base:Nat}{e:TypeId}{size:Nat}{v:Value}{n:Nat}{xs:List Value}(h:w.ownsRow base e size v n xs)(ho:OnlyB bl w w')(hb:∀k,v.ownBlock=some k→k∉bl):w'.ownsRow base e size v n xs:=by
 refine⟨h.1,?_⟩
 rcases h.2 with h'|⟨g,cap,cur,rfl,h2,h3,h4⟩
 ·exact .inl h'
 ·refine .inr ⟨g,cap,cur,rfl,h2,?_,h4⟩
  rw[ho.block g (zd h3) (hb g rfl)]
  exact h3
def Kinds (bl:List Nat)(w:World):Prop:=∀k∈bl,∃cs t,w.heap[k]?=some (.cells cs t (0,0))∧(t=89∨t=137)
theorem q6V {w w':World}{bl:List Nat}{base:Nat}{e:TypeId}{size:Nat}{v:Value}{n:Nat}{xs:List Value}(h:w.ownsRow base e size v n xs)(ho:OnlyB bl w w')(hk:Kinds bl w)(h1:e≠89)(h2:e≠137):w'.ownsRow base e size v n xs:=by
 refine q8T h ho (fun k hv hm=>?_)
 obtain⟨cs,t,hc,ht⟩:=hk k hm
 refine q8f hc h ?_ hv.symm
 rcases ht with rfl|rfl
 ·exact Ne.symm h1
 ·exact Ne.symm h2
theorem MonAt.lt {w:World}{b gn cn:Nat}{ao:OA}{cap:Nat}{F:zh}{PL:List PPt}{told:Nat}{ended:Bool}(h:MonAt w b gn cn ao cap F PL told ended):b<w.heap.size:=zd h.blk
theorem MonAt.kinds {w:World}{b gn cn:Nat}{ao:OA}{cap:Nat}{F:zh}{PL:List PPt}{told:Nat}{ended:Bool}(h:MonAt w b gn cn ao cap F PL told ended):Kinds (b::q1Z ao) w:=by
 intro k hk
 rcases List.mem_cons.1 hk with rfl|hk
 ·exact⟨_,_,h.blk,.inl rfl⟩
 ·rcases h.log.row.2 with⟨h',_⟩|⟨g,cap',cur,h',_,h3,_⟩
  ·simp only[Value.slice.injEq]at h'
   rw[h'.1]at hk
   simp[q1Z]at hk
  ·simp only[Value.slice.injEq]at h'
   rw[h'.1]at hk
   simp[q1Z]at hk
   subst hk
   exact⟨_,_,h3,.inr rfl⟩
theorem MonAt.keep {w w':World}{b gn cn:Nat}{ao:OA}{cap:Nat}{F:zh}{PL:List PPt}{told:Nat}{ended:Bool}{bl:List Nat}(h:MonAt w b gn cn ao cap F PL told ended)(ho:OnlyB bl w w')(hk:Kinds bl w)(h1:b∉bl)(h2:∀k∈q1Z ao,k∉bl):MonAt w' b gn cn ao cap F PL told ended:=by
 refine⟨(ho.block b h.lt h1).trans h.blk,q6V h.nodes ho hk (by decide) (by decide),?_,fun p hp=>⟨q6V (h.haps p hp).1 ho hk (by decide) (by decide),(h.haps p hp).2⟩,h.few⟩
 refine⟨by rw[ho.cell h.lt h1];exact h.log.cell,zT h.lt ho.size,q8T h.log.row ho (fun k hv=>h2 k ?_),h.log.small,h.log.times⟩
 cases ao with
 |none=>simp[Value.ownBlock]at hv
 |some a=>simp only[Value.ownBlock,Option.some.injEq]at hv;simp[q1Z,hv]
theorem MonAt.below {w w':World}{b gn cn:Nat}{ao:OA}{cap:Nat}{F:zh}{PL:List PPt}{told:Nat}{ended:Bool}(h:MonAt w b gn cn ao cap F PL told ended)(hb:Below w.heap.size w w'):MonAt w' b gn cn ao cap F PL told ended:=
 h.keep (bl:=[]) (.of_below hb) (fun k hk=>by simp at hk) (by simp) (by simp)
theorem MonAt.cells {w:World}{b gn cn:Nat}{ao:OA}{cap:Nat}{F:zh}{PL:List PPt}{told:Nat}{ended:Bool}(h:MonAt w b gn cn ao cap F PL told ended) :
  w.cell? ⟨b,0,none⟩=some (.slice (some ⟨gn,0,none⟩) (zu F) cn)∧w.cell? ⟨b,1,none⟩=some (.bool (qi F).x)∧w.cell? ⟨b,2,none⟩=some (.bool (qi F).y)∧w.cell? ⟨b,3,none⟩=some (.int .i64 (qi F).reach)∧w.cell? ⟨b,4,none⟩=some (.slice ao PL.length cap)∧w.cell? ⟨b,5,none⟩=some (.int .i64 told)∧w.cell? ⟨b,6,none⟩=some (.bool ended):=by
 have q:=fun j=>zC w b j _ _ _ h.blk
 exact⟨q 0,q 1,q 2,q 3,q 4,q 5,q 6⟩
theorem MonAt.frozen {w:World}{b gn cn:Nat}{ao:OA}{cap:Nat}{F:zh}{PL:List PPt}{told:Nat}{ended:Bool}(h:MonAt w b gn cn ao cap F PL told ended)(o:Nat):w.frozen? ⟨b,o,none⟩=false:=zF _ _ o _ _ h.blk
theorem LogAt.other {w:World}{b o:Nat}{ao:OA}{cap:Nat}{PL:List PPt}(h:LogAt w b o ao cap PL){cs:Array Value}{t:TypeId}(hb:w.heap[b]?=some (.cells cs t (0,0)))(ht:t≠137){o':Nat}(hne:o'≠o)(u:Value):LogAt (w.setCell ⟨b,o',none⟩ u) b o ao cap PL:=by
 refine⟨?_,by simpa using h.lt,q2i h.row hb ht u,h.small,h.times⟩
 have hc:=h.cell
 rw[zC _ _ o _ _ _ hb]at hc
 rw[zC _ _ o _ _ _ (zH w b o' _ _ u hb),Array.getElem?_setIfInBounds_ne hne]
 exact hc
theorem MonAt.setTold {w:World}{b gn cn:Nat}{ao:OA}{cap:Nat}{F:zh}{PL:List PPt}{told:Nat}{ended:Bool}(h:MonAt w b gn cn ao cap F PL told ended)(n:Nat)(hn:n≤PL.length):MonAt (w.setCell ⟨b,5,none⟩ (.int .i64 n)) b gn cn ao cap F PL n ended:=
 ⟨zH w b 5 _ _ (.int .i64 n) h.blk,q2i h.nodes h.blk (by decide) _,h.log.other h.blk (by decide) (by decide) _,fun p hp=>⟨q2i (h.haps p hp).1 h.blk (by decide) _,(h.haps p hp).2⟩,hn⟩
theorem MonAt.setEnded {w:World}{b gn cn:Nat}{ao:OA}{cap:Nat}{F:zh}{PL:List PPt}{told:Nat}{ended:Bool}(h:MonAt w b gn cn ao cap F PL told ended)(e:Bool):MonAt (w.setCell ⟨b,6,none⟩ (.bool e)) b gn cn ao cap F PL told e:=
 ⟨zH w b 6 _ _ (.bool e) h.blk,q2i h.nodes h.blk (by decide) _,h.log.other h.blk (by decide) (by decide) _,fun p hp=>⟨q2i (h.haps p hp).1 h.blk (by decide) _,(h.haps p hp).2⟩,h.few⟩
theorem MonAt.nodesAt {w:World}{b gn cn:Nat}{ao:OA}{cap:Nat}{F:zh}{PL:List PPt}{told:Nat}{ended:Bool}(h:MonAt w b gn cn ao cap F PL told ended):NodesAt w gn cn (q0l F 0):=
 NodesAt.of_row (base:=0) (by rw[q1M];exact h.nodes)
theorem vig_Seen (b gn cn:Nat)(ao:OA)(cap:Nat)(F:zh)(PL:List PPt)(told:Nat)(ended:Bool)(w:World)(h:MonAt w b gn cn ao cap F PL told ended) :
  Calls Tryz.prog 18 #[.pointer (some ⟨b,0,none⟩)] w fun e w'=>e=.returned (.tuple #[.int .i64 PL.length,.int .i64 told])∧Below w.heap.size w w':=by
 have HC:=zb (fun W (q:LogAt W b 4 ao cap PL)=>q7r b 4 ao cap PL W q)
 obtain⟨c0,c1,c2,c3,c4,c5,c6⟩:=h.cells
 have hlt:=h.lt
 have HL:=zb h.log
 clear h c0 c1 c2 c3 c4 c6
 go_enter Tryz.func18,Tryz.ntmps18
 go_wp2_with fail
 go_region_held3 (fun w'=>w'.cell? ⟨b,5,none⟩=some (.int .i64 told)) (first|go_keep|(exact c5)) ((go_at_call 42;refine(HC.out _ (HL.out.below (by exact(zB _ _).drew))).mono ?_;rintro e w3 ⟨rfl,rfl⟩))
 all_goals
  go_wp2_with fail
  go_ret2
  exact⟨rfl,(zB _ _).drew⟩
theorem j4Z:(Tryz.prog.info? 49).map (fun i=>(i.zero,i.size,i.bytes))=some (some (.agg #[.int .i64 0,.int .u16 0,.int .u16 0,.int .u16 0,.int .u16 0,.int .u16 0,.int .u16 0,.int .u16 0,.int .u16 0,.int .u16 0,.int .u16 0,.int .u16 0]),12,32):=by kernel_rfl
theorem j8J (st:Int)(va:OA)(n vc:Nat)(w:World):(Instr.field 92 (.agg #[.int .u16 st,.slice va n vc]) 0).run Tryz.prog w=.ok (.int .u16 st) w:=by kernel_rfl
theorem stamp_at {PL:List PPt}{i:Nat}(h:i<PL.length):q4C (zA PL) i=(PL[i]).1.stamp:=by
 unfold q4C
 rw[List.getElem?_map,zG h]
 rfl
def TlRel (F:zh)(L:List LPt)(W2:World)(told c:Nat)(g:Nat)(vl vi:Value)(wr:World):Prop:=
 ∃k:Nat,told≤k∧k≤c∧c-k≤g∧vi=.int .i64 k∧wr.ownsRow W2.heap.size 49 12 vl (k-told) (qn (q0D F L told k))∧Below W2.heap.size W2 wr
theorem j6t (b gn cn:Nat)(ao:OA)(cap:Nat)(F:zh)(hF:FormGood F)(PL:List PPt)(told:Nat)(ended:Bool)(c:Nat)(hc:c≤PL.length)(w:World)(h:MonAt w b gn cn ao cap F PL told ended) :
  Calls Tryz.prog 41 #[.pointer (some ⟨b,0,none⟩),.int .i64 c] w fun e w'=>∃v,e=.returned v∧w'.ownsRow w.heap.size 49 12 v (c-told) (qn (q0D F (zA PL) told c))∧MonAt w' b gn cn ao cap F PL (max told c) ended∧OnlyB [b] w w':=by
 obtain⟨c0,c1,c2,c3,c4,c5,c6⟩:=h.cells
 have hlt:=h.lt
 have hsm:=h.log.small
 have hfew:=h.few
 have HM:=zb h
 by_cases hle:c≤told
 ·clear h c0 c1 c2 c3 c4 c6
  go_enter Tryz.func41,Tryz.ntmps41
  go_wp2_with fail
  go_ret
  refine⟨_,rfl,?_,by rw[Nat.max_eq_left hle];exact HM.out,OnlyB.refl _ _⟩
  rw[j1S _ _ _ _ hle,show c-told=0 by omega]
  exact zW _ _ _ _
 ·have HA:=zb (fun W (q:MonAt W b gn cn ao cap F PL told ended)=>j4P F hF.ok hF.nn hF.sz gn cn (qi F).x (qi F).y (qi F).reach b 4 ao cap PL W q.nodesAt q.log q.haps)
  have HAT:=zb (fun i hi W (q:MonAt W b gn cn ao cap F PL told ended)=>pts_At b 4 ao cap PL i hi W q.log (fun p hp=>by obtain⟨a',c',e'⟩:=q1i (q.haps p hp).1;exact⟨_,_,_,e'⟩))
  obtain⟨H2,hH2⟩:∃H2:Nat→Nat→Nat→Bool,H2=fun i=>q6M (qi F).x (qi F).y (zs (zA PL) F i):=⟨_,rfl⟩
  rw[←hH2]at HA
  have HVR:Hid (∀i (hi:i<PL.length),j0g (verR F (zA PL) i)=[.int .i64 i,.int .u16 (PL[i]).1.stamp,.int .u16 (zm (H2 i) 0),.int .u16 (zm (H2 i) 1),.int .u16 (zm (H2 i) 2),.int .u16 (zm (H2 i) 3),.int .u16 (zm (H2 i) 4),.int .u16 (zm (H2 i) 5),.int .u16 (zm (H2 i) 6),.int .u16 (zm (H2 i) 7),.int .u16 (zm (H2 i) 8),.int .u16 (zm (H2 i) 9)]):=zb (fun i hi=>by rw[hH2,←stamp_at hi];rfl)
  have HTS:=zb (fun k hk=>j7B F (zA PL) told k hk)
  have HT0:=zb (j1S F (zA PL) told told (zL _))
  clear h hH2
  generalize (qi F).x=fx at *
  generalize (qi F).y=fy at *
  generalize (qi F).reach=rc at *
  generalize hN:zu F=N at *
  go_enter Tryz.func41,Tryz.ntmps41
  go_wp2_with fail
  go_region_held3 (fun w'=>w'.cell? ⟨b,0,none⟩=some (.slice (some ⟨gn,0,none⟩) N cn)∧w'.cell? ⟨b,1,none⟩=some (.bool fx)∧w'.cell? ⟨b,2,none⟩=some (.bool fy)∧w'.cell? ⟨b,3,none⟩=some (.int .i64 rc)) (first|go_keep|(exact⟨c0,c1,c2,c3⟩)|(exact KEEP3.out)) ((go_at_call 59;refine(HA.out _ (HM.out.below (by exact(zB _ _).drew))).mono ?_;rintro e w3 ⟨av,rfl,hO3,b3⟩;obtain⟨aa,ac,rfl⟩:=q1i hO3;have B3:Below w.heap.size w w3:=((zB _ _).drew).trans b3;have KEEP3:Hid (w3.cell? ⟨b,0,none⟩=some (.slice (some ⟨gn,0,none⟩) N cn)∧w3.cell? ⟨b,1,none⟩=some (.bool fx)∧w3.cell? ⟨b,2,none⟩=some (.bool fy)∧w3.cell? ⟨b,3,none⟩=some (.int .i64 rc)):=zb ⟨(zK (a:=⟨b,0,none⟩) (B3.block b hlt)).trans c0,(zK (a:=⟨b,1,none⟩) (B3.block b hlt)).trans c1,(zK (a:=⟨b,2,none⟩) (B3.block b hlt)).trans c2,(zK (a:=⟨b,3,none⟩) (B3.block b hlt)).trans c3⟩))
  have M3:=HM.out.below B3
  have d5:=M3.cells.2.2.2.2.2.1
  have hl3:=M3.lt
  have T3:Tb w3 (.slice aa PL.length ac) PL.length (fun i x y=>decide (i<PL.length)&&H2 i x y):=⟨by rw[q6Y (B:=H2) (fun i hi=>by funext x y;rw[decide_eq_true hi,Bool.true_and])];exact q4B (zZ _) hO3,fun i hi x y=>by rw[decide_eq_false (by omega),Bool.false_and]⟩
  have HT3:=zb T3
  have HM3:=zb M3
  have HB3:=zb B3
  obtain⟨i1,hi1,iz0,iz1,iz2⟩:=info_parts j4Z
  clear M3 T3 B3 b3 hO3 KEEP3 HA c0 c1 c2 c3 c4 c5 c6 hlt
  go_wp2_with fail
  go_loopg [6,7] c (fun g vl vi wr=>TlRel F (zA PL) w3 told c g vl vi wr)
  case atStart=>exact⟨told,zL _,by omega,by omega,rfl,by rw[HT0.out,Nat.sub_self];exact zW _ _ _ _,zB _ _⟩
  case round =>
   obtain⟨k,hk0,hk,hg,rfl,hown,hb⟩:=hrel
   have HG:=zb hg
   have HO:=zb hown
   have HB:=zb hb
   obtain⟨va,vc,rfl⟩:=q1i hown
   clear hg hown hb
   by_cases hkc:k<c
   ·have hkn:k<PL.length:=by omega
    have HAK:=zb (HAT.out k hkn wr (HM3.out.below HB.out))
    obtain⟨ha,hc',hhv⟩:=q1i (HM3.out.haps _ (List.getElem_mem hkn)).1
    rw[hhv]at HAK
    clear hhv
    generalize (PL[k]).1.haps.length=hn at *
    have HVK:=zb (HVR.out k hkn)
    have HTK:=zb (HTS.out k hk0)
    obtain⟨gt,rfl,_,ht1,ht2,_⟩:=HT3.out.load hkn
    have HLD:Hid (∀w',Below w3.heap.size w3 w'→(Instr.loadAt 47 (.pointer (some ⟨gt,k*10,none⟩))).run Tryz.prog w'=.ok (zr (zm (H2 k))) w'):=zb (fun w' hb=>by
     obtain⟨g',e',_,_,_,hr⟩:=(HT3.out.below hb).load hkn
     simp only[Option.some.injEq,Addr.mk.injEq,and_true]at e'
     subst e'
     rw[show(fun x y=>decide (k<PL.length)&&H2 k x y)=H2 k by funext x y;rw[decide_eq_true hkn,Bool.true_and]]at hr
     exact j3S hr)
    unfold maxLen at ht2
    generalize zm (H2 k)=r at *
    generalize (PL[k]).1.stamp=st at *
    go_wp2_with fail
    refine HAK.out.mono ?_
    rintro e w4 ⟨rfl,b4⟩
    have HB4:=zb (HB.out.trans (b4.mono HB.out.size))
    have HO4:=zb (zo HO.out b4)
    have L4:=HLD.out _ HB4.out
    have FL:=j8J st ha hn hc' w4
    clear b4
    go_wp2_with (first|(refine zj rfl 47 (.tmp 53) rfl ⟨gt,k*10,none⟩ (zr r) rfl L4 ?_)|(at_builtin;refine q3a rfl (.tmp 48) (.tmp 56) 38 49 rfl Tryz.underlying38 hi1 iz0 iz1 iz2 rfl (by decide) w3 w3.heap.size _ _ _ [.int .i64 k,.int .u16 st,.int .u16 (r 0),.int .u16 (r 1),.int .u16 (r 2),.int .u16 (r 3),.int .u16 (r 4),.int .u16 (r 5),.int .u16 (r 6),.int .u16 (r 7),.int .u16 (r 8),.int .u16 (r 9)] w4 rfl HO4.out (by simp[Act.eval]) rfl (by simp[Value.oneCell']) (by omega) (by decide) HB4.out HB4.out.size ?_;intro v' w' hown' hbel' hne))
    have hg1:0<gk:=by have:=HG.out;omega
    go_roundg (gk-1)
    case measure=>omega
    case rel=>exact⟨k+1,by omega,by omega,by have:=HG.out;omega,by go_num,by rw[HTK.out,q6x,j4j,HVK.out,show k+1-told=k-told+1 by omega];exact hown',hbel'⟩
   ·have hkc':k=c:=by omega
    have HK:=zb hkc'
    have M4:=HM3.out.below HB.out
    have f5:=M4.frozen 5
    have e5:=M4.cells.2.2.2.2.2.1
    have hl4:=M4.lt
    have HM4:=zb M4
    clear hkc' M4
    go_wp2_with fail
    go_ret
    refine⟨.slice va (k-told) vc,rfl,?_,by rw[Nat.max_eq_right (by omega)];exact HM4.out.setTold c hc,?_⟩
    ·have q:=HO.out
     rw[HK.out]at q ⊢
     exact q2i (q4B HB3.out.size q) HM4.out.blk (by decide) _
    ·exact(OnlyB.of_below (HB3.out.trans (HB.out.mono HB3.out.size))).setCell (by simp) _
theorem settF_le (L:List LPt)(rc:Int):∀f c,c≤L.length→q3S L rc f c≤L.length:=by
 intro f
 induction f with
 |zero=>intro c h;exact h
 |succ f ih =>
  intro c h
  rw[q3S]
  split
  ·rename_i hh
   exact ih (c+1) hh.1
  ·exact h
theorem q5O (L:List LPt)(rc:Int):q0u L rc≤L.length:=settF_le L rc _ 0 (zZ _)
theorem hapsF_le (s:By):∀(f i:Nat) (acc R:List Hp),q2g s f i acc=.inr R→R.length≤acc.length+f:=by
 intro f
 induction f with
 |zero =>
  intro i acc R h
  rw[q2g]at h
  have:acc=R:=by simpa using h
  rw[this]
  omega
 |succ f ih =>
  intro i acc R h
  rw[q2g]at h
  split at h
  ·split at h
   ·have:=ih _ _ _ h
    simp at this
    omega
   ·exact absurd h (by simp)
  ·have:acc=R:=by simpa using h
   rw[this]
   omega
theorem line_few {s:By}{n:Nat}{l:List Hp}(h:q3D s=.inr (n,l)):l.length≤s.length:=by
 unfold q3D at h
 split at h
 ·split at h
  ·split at h
   ·exact absurd h (by simp)
   ·rename_i l' he
    have:l'=l:=by simpa using (by simpa using h:_∧_).2
    subst this
    have:=hapsF_le s _ _ _ _ he
    simpa using this
  ·exact absurd h (by simp)
 ·exact absurd h (by simp)
def q3Q (L:List LPt)(ended:Bool)(s:By):Int × Int:=
 if ended=true then(9,0)else if 80<s.length then(1,0)else match q3D s with
  | .inl p=>(3,p)
  | .inr (st,_)=>if toR L st<32768∧L.length<40 then(0,0)else(if 32768≤toR L st then 7 else 8,0)
def q6G (L:List LPt)(ended:Bool)(s:By):List LPt:=
 if (q3Q L ended s).1=0 then(match q3D s with
  | .inl _=>L
  | .inr (st,l)=>L++[⟨st,q7B L st,l⟩])else L
def j2l (F:zh)(L:List LPt)(told:Nat)(ended:Bool)(s:By):Nat:=if (q3Q L ended s).1=0 then max told (q0u (q6G L ended s) (qi F).reach)else told
def j0N (F:zh)(L:List LPt)(told:Nat)(ended:Bool)(s:By):List Ver:=if (q3Q L ended s).1=0 then q0D F (q6G L ended s) told (q0u (q6G L ended s) (qi F).reach)else []
def j2f (w w':World)(b gn cn:Nat)(ao:OA)(F:zh)(L:List LPt)(told:Nat)(ended:Bool):Prop:=
 ∃ao' cap' PL',MonAt w' b gn cn ao' cap' F PL' told ended∧zA PL'=L∧OnlyB (b::q1Z ao) w w'∧(∀k∈q1Z ao',k∈q1Z ao∨w.heap.size≤k)
theorem j2f.same {w w':World}{b gn cn:Nat}{ao:OA}{cap:Nat}{F:zh}{PL:List PPt}{told:Nat}{ended:Bool}(h:MonAt w b gn cn ao cap F PL told ended)(hb:Below w.heap.size w w'):j2f w w' b gn cn ao F (zA PL) told ended:=
 ⟨ao,cap,PL,h.below hb,rfl,.of_below hb,fun _ hk=>.inl hk⟩
def endE (ended:Bool):Int:=if ended=true then 9 else 0
def endN (L:List LPt)(told:Nat)(ended:Bool):Nat:=if ended=true then told else L.length
def endV (F:zh)(L:List LPt)(told:Nat)(ended:Bool):List Ver:=if ended=true then []else q0D F L told L.length
theorem vig_End (b gn cn:Nat)(ao:OA)(cap:Nat)(F:zh)(hF:FormGood F)(PL:List PPt)(told:Nat)(ended:Bool)(w:World)(h:MonAt w b gn cn ao cap F PL told ended) :
  Calls Tryz.prog 19 #[.pointer (some ⟨b,0,none⟩)] w fun e w'=>∃v,e=.returned (.tuple #[v,.int .i64 (endE ended)])∧w'.ownsRow w.heap.size 49 12 v (endV F (zA PL) told ended).length (qn (endV F (zA PL) told ended))∧j2f w w' b gn cn ao F (zA PL) (endN (zA PL) told ended) true:=by
 obtain⟨c0,c1,c2,c3,c4,c5,c6⟩:=h.cells
 have hlt:=h.lt
 have hfz:=h.frozen 6
 have HM:=zb h
 cases ended with
 |true =>
  clear h c0 c1 c2 c3 c4 c5
  go_enter Tryz.func19,Tryz.ntmps19
  go_wp2_with fail
  go_ret2
  exact⟨.slice none 0 0,rfl,zW _ _ _ _,j2f.same HM.out (zB _ _)⟩
 |false =>
  have HM1:=zb (h.setEnded true)
  have HC:=zb (q7r b 4 ao cap PL _ HM1.out.log)
  have HT:=zb (j6t b gn cn ao cap F hF PL told true PL.length (zL _) _ HM1.out)
  have hfew:=h.few
  clear h c0 c1 c2 c3 c4 c5
  go_enter Tryz.func19,Tryz.ntmps19
  go_wp2_with fail
  refine HC.out.mono ?_
  rintro e w1 ⟨rfl,rfl⟩
  go_wp2_with fail
  refine HT.out.mono ?_
  rintro e w2 ⟨v,rfl,hO,hM2,hb2⟩
  obtain⟨va,vc,rfl⟩:=q1i hO
  go_wp2_with fail
  go_ret2
  have e1:endV F (zA PL) told false=q0D F (zA PL) told PL.length:=by unfold endV;rw[if_neg (by decide),List.length_map]
  have e2:endN (zA PL) told false=PL.length:=by unfold endN;rw[if_neg (by decide),List.length_map]
  refine⟨.slice va (PL.length-told) vc,rfl,?_,ao,cap,PL,?_,rfl,?_,fun _ hk=>.inl hk⟩
  ·rw[e1,q1W]
   simpa using hO
  ·rw[Nat.max_eq_right hfew]at hM2
   rw[e2]
   exact hM2
  ·exact((OnlyB.refl [b] w).setCell (by simp) _).trans hb2 |>.wide (by simp)
def q7Y (w:World)(b gn cn:Nat)(ao:OA)(F:zh)(PL:List PPt)(told:Nat)(ended:Bool)(s:By)(e:Ending)(w':World):Prop:=
 ∃v,e=.returned (.tuple #[v,.int .i64 (q3Q (zA PL) ended s).1,.int .i64 (q3Q (zA PL) ended s).2])∧w'.ownsRow w.heap.size 49 12 v (j0N F (zA PL) told ended s).length (qn (j0N F (zA PL) told ended s))∧j2f w w' b gn cn ao F (q6G (zA PL) ended s) (j2l F (zA PL) told ended s) ended
theorem j0p {w w':World}{b gn cn:Nat}{ao:OA}{cap:Nat}{F:zh}{PL:List PPt}{told:Nat}{ended:Bool}{s:By}{er at':Int}(h:MonAt w b gn cn ao cap F PL told ended)(he:q3Q (zA PL) ended s=(er,at'))(h0:er≠0)(hb:Below w.heap.size w w') :
  q7Y w b gn cn ao F PL told ended s (.returned (.tuple #[.slice none 0 0,.int .i64 er,.int .i64 at'])) w':=by
 have hne:¬(q3Q (zA PL) ended s).1=0:=by rw[he];exact h0
 refine⟨_,by rw[he],?_,?_⟩
 ·unfold j0N
  rw[if_neg hne]
  exact zW _ _ _ _
 ·unfold q6G j2l
  rw[if_neg hne,if_neg hne]
  exact j2f.same h hb
theorem j4k (b gn cn:Nat)(ao:OA)(cap:Nat)(F:zh)(PL:List PPt)(told:Nat)(s:By)(w:World)(h:MonAt w b gn cn ao cap F PL told true) :
  Calls Tryz.prog 16 #[.pointer (some ⟨b,0,none⟩),bs s] w fun e w'=>q7Y w b gn cn ao F PL told true s e w':=by
 obtain⟨c0,c1,c2,c3,c4,c5,c6⟩:=h.cells
 have hlt:=h.lt
 have HM:=zb h
 clear h c0 c1 c2 c3 c4 c5
 go_enter Tryz.func16,Tryz.ntmps16
 go_wp2_with fail
 go_ret3
 exact j0p HM.out rfl (by decide) (zB _ _)
theorem j4l (b gn cn:Nat)(ao:OA)(cap:Nat)(F:zh)(PL:List PPt)(told:Nat)(s:By)(hs64:s.length≤maxLen)(hl:80<s.length)(w:World)(h:MonAt w b gn cn ao cap F PL told false) :
  Calls Tryz.prog 16 #[.pointer (some ⟨b,0,none⟩),bs s] w fun e w'=>q7Y w b gn cn ao F PL told false s e w':=by
 obtain⟨c0,c1,c2,c3,c4,c5,c6⟩:=h.cells
 have hlt:=h.lt
 have HM:=zb h
 have HE:Hid (q3Q (zA PL) false s=(1,0)):=zb (by unfold q3Q;rw[if_neg (by decide),if_pos hl])
 unfold maxLen at hs64
 clear h c0 c1 c2 c3 c4 c5
 go_enter Tryz.func16,Tryz.ntmps16
 go_wp2_with fail
 go_ret3
 exact j0p HM.out HE.out (by decide) (zB _ _)
theorem j4m (b gn cn:Nat)(ao:OA)(cap:Nat)(F:zh)(PL:List PPt)(told:Nat)(s:By)(hl:s.length≤80)(p:Nat)(hp:q3D s=.inl p)(w:World)(h:MonAt w b gn cn ao cap F PL told false) :
  Calls Tryz.prog 16 #[.pointer (some ⟨b,0,none⟩),bs s] w fun e w'=>q7Y w b gn cn ao F PL told false s e w':=by
 obtain⟨c0,c1,c2,c3,c4,c5,c6⟩:=h.cells
 have hlt:=h.lt
 have HM:=zb h
 have HE:Hid (q3Q (zA PL) false s=(3,(p:Int))):=zb (by unfold q3Q;rw[if_neg (by decide),if_neg (by omega),hp])
 have HR:=zb (j5q s hl p hp)
 clear h c0 c1 c2 c3 c4 c5 hp
 go_enter Tryz.func16,Tryz.ntmps16
 go_wp2_with fail
 refine(HR.out _).mono ?_
 rintro e w1 ⟨rfl,b1⟩
 have HB1:=zb b1
 clear b1
 go_wp2_with fail
 go_ret3
 exact j0p HM.out HE.out (by decide) (by first|exact(HB1.out.alloc HB1.out.size _).setCells _|exact HB1.out.alloc HB1.out.size _)
theorem j4n (b gn cn:Nat)(ao:OA)(cap:Nat)(F:zh)(PL:List PPt)(told:Nat)(s:By)(hl:s.length≤80)(st:Nat)(l:List Hp)(hp:q3D s=.inr (st,l))(hno:¬(toR (zA PL) st<32768∧PL.length<40))(w:World)(h:MonAt w b gn cn ao cap F PL told false) :
  Calls Tryz.prog 16 #[.pointer (some ⟨b,0,none⟩),bs s] w fun e w'=>q7Y w b gn cn ao F PL told false s e w':=by
 obtain⟨c0,c1,c2,c3,c4,c5,c6⟩:=h.cells
 have hlt:=h.lt
 have HM:=zb h
 have hst:=(j1c hp).2.2.1
 have HR:=zb (q8H s hl st l hp)
 have HAD:=zb (fun va vn vc W q=>j7o st hst va vn vc b 4 ao cap PL W q hno)
 obtain⟨er,her⟩:∃er:Int,er=if 32768≤toR (zA PL) st then 7 else 8:=⟨_,rfl⟩
 have HE:Hid (q3Q (zA PL) false s=(er,0)):=zb (by unfold q3Q;rw[if_neg (by decide),if_neg (by omega),hp];simp only[];rw[if_neg (by rw[List.length_map];exact hno),her])
 rw[←her]at HAD
 have her2:(er != 0)=true:=by rw[her];split<;>decide
 have HNE:Hid (er≠0):=zb (by simpa using her2)
 clear h c0 c1 c2 c3 c4 c5 hp her hno
 go_enter Tryz.func16,Tryz.ntmps16
 go_wp2_with fail
 refine(HR.out _).mono ?_
 rintro e w1 ⟨hv,rfl,hO,b1⟩
 obtain⟨va,vc,rfl⟩:=q1i hO
 have HB1:=zb b1
 clear b1 hO
 go_wp2_with fail
 obtain⟨W1,hW1⟩:∃W1,W1=w1.alloc (.cells #[.int .u16 st,.slice va l.length vc] 92):=⟨_,rfl⟩
 have BW1:Below w.heap.size w W1:=by rw[hW1];exact HB1.out.alloc HB1.out.size _
 have G1:W1.heap[w1.heap.size]?=some (.cells #[.int .u16 st,.slice va l.length vc] 92 (0,0)):=by rw[hW1];exact zN _ _
 rw[←hW1]
 have z0:=zC _ _ 0 _ _ _ G1
 have z1:=zC _ _ 1 _ _ _ G1
 simp only[gz]at z0 z1
 have hz1:=zd G1
 have HBW:=zb BW1
 clear hW1 BW1 G1
 go_region_held3 (fun w'=>w'.cell? ⟨w1.heap.size,0,none⟩=some (.int .u16 st)∧w'.cell? ⟨w1.heap.size,1,none⟩=some (.slice va l.length vc)) (first|go_keep|(exact⟨z0,z1⟩)|(exact⟨(zK (a:=⟨w1.heap.size,0,none⟩) (b3.block _ hz1)).trans z0,(zK (a:=⟨w1.heap.size,1,none⟩) (b3.block _ hz1)).trans z1⟩)) ((go_at_call 39;refine(HAD.out _ _ _ _ ((HM.out.below HBW.out).below (by exact(zB _ _).drew)).log).mono ?_;rintro e w3 ⟨rfl,b3⟩))
 have B3:Below w.heap.size w w3:=HBW.out.trans ((((zB _ _).drew).trans b3).mono HBW.out.size)
 have HB3:=zb B3
 clear B3 b3
 go_wp2_with fail
 go_ret3
 exact j0p HM.out HE.out HNE.out HB3.out
theorem MonAt.added {w w':World}{b gn cn:Nat}{ao:OA}{cap:Nat}{F:zh}{PL:List PPt}{told:Nat}{ended:Bool}{g' cap':Nat}{pt:LPt}{hv':Value}(h:MonAt w b gn cn ao cap F PL told ended)(ho:OnlyB (b::q1Z ao) w w')(hl:LogAt w' b 4 (some ⟨g',0,none⟩) cap' (PL++[(pt,hv')]))
  (hb:w'.heap[b]?=some (.cells ((j2A (.slice (some ⟨gn,0,none⟩) (zu F) cn) (qi F).x (qi F).y (qi F).reach (.slice ao PL.length cap) told ended).setIfInBounds 4 (.slice (some ⟨g',0,none⟩) (PL.length+1) cap')) 89 (0,0)))
  (hr:w'.ownsRow 0 130 11 hv' pt.haps.length (qH pt.haps))(h80:pt.haps.length≤80)(hd:∀h∈pt.haps,∀d∈h.ds,d≤9):MonAt w' b gn cn (some ⟨g',0,none⟩) cap' F (PL++[(pt,hv')]) told ended:=by
 refine⟨?_,q6V h.nodes ho h.kinds (by decide) (by decide),hl,fun p hp=>?_,by have:=h.few;simp;omega⟩
 ·rw[hb,List.length_append]
  rfl
 ·rcases List.mem_append.1 hp with hp|hp
  ·exact⟨q6V (h.haps p hp).1 ho h.kinds (by decide) (by decide),(h.haps p hp).2⟩
  ·have:p=(pt,hv'):=by simpa using hp
   subst this
   exact⟨hr,h80,hd⟩
theorem j4o (b gn cn:Nat)(ao:OA)(cap:Nat)(F:zh)(hF:FormGood F)(PL:List PPt)(told:Nat)(s:By)(hl:s.length≤80)(st:Nat)(l:List Hp)(hp:q3D s=.inr (st,l))(hyes:toR (zA PL) st<32768∧PL.length<40)(w:World)(h:MonAt w b gn cn ao cap F PL told false) :
  Calls Tryz.prog 16 #[.pointer (some ⟨b,0,none⟩),bs s] w fun e w'=>q7Y w b gn cn ao F PL told false s e w':=by
 obtain⟨c0,c1,c2,c3,c4,c5,c6⟩:=h.cells
 have hlt:=h.lt
 have HM:=zb h
 obtain⟨_,hok,hst,_⟩:=j1c hp
 have hfew:=line_few hp
 have HR:=zb (q8H s hl st l hp)
 have HAD:=zb (fun va vc W (q:MonAt W b gn cn ao cap F PL told false) (hr:W.ownsRow 0 130 11 (.slice va l.length vc) l.length (qH l))=>j5A st hst (.slice va l.length vc) l b 4 ao cap PL W q.log _ _ q.blk (by decide) (by decide) hr (by omega) hyes.1 hyes.2)
 have HE:Hid (q3Q (zA PL) false s=(0,0)):=zb (by unfold q3Q;rw[if_neg (by decide),if_neg (by omega),hp];simp only[];rw[if_pos (by rw[List.length_map];exact hyes)])
 have HLL:Hid (q6G (zA PL) false s=zA PL++[⟨st,q7B (zA PL) st,l⟩]):=zb (by unfold q6G;rw[if_pos (by rw[HE.out]),hp])
 have HD:Hid (∀h∈l,∀d∈h.ds,d≤9):=zb (fun h hh=>(hok h hh).ds.2)
 have HFE:=zb hfew
 clear h c0 c1 c2 c3 c4 c5 hp hok
 go_enter Tryz.func16,Tryz.ntmps16
 go_wp2_with fail
 refine(HR.out _).mono ?_
 rintro e w1 ⟨hv,rfl,hO,b1⟩
 obtain⟨va,vc,rfl⟩:=q1i hO
 have HB1:=zb b1
 have HO:=zb hO
 clear b1 hO
 go_wp2_with fail
 obtain⟨W1,hW1⟩:∃W1,W1=w1.alloc (.cells #[.int .u16 st,.slice va l.length vc] 92):=⟨_,rfl⟩
 have BW1:Below w.heap.size w W1:=by rw[hW1];exact HB1.out.alloc HB1.out.size _
 have G1:W1.heap[w1.heap.size]?=some (.cells #[.int .u16 st,.slice va l.length vc] 92 (0,0)):=by rw[hW1];exact zN _ _
 have HO1:Hid (W1.ownsRow 0 130 11 (.slice va l.length vc) l.length (qH l)):=zb (by rw[hW1];exact q4B (zZ _) (HO.out.alloc _))
 rw[←hW1]
 have z0:=zC _ _ 0 _ _ _ G1
 have z1:=zC _ _ 1 _ _ _ G1
 simp only[gz]at z0 z1
 have hz1:=zd G1
 have HBW:=zb BW1
 have HG1:=zb G1
 have M1:MonAt W1.drew b gn cn ao cap F PL told false:=(HM.out.below HBW.out).below (by exact(zB _ _).drew)
 have HM1:=zb M1
 have HK1:Hid (w1.heap.size∉b::q1Z ao):=zb (by
  intro hm
  obtain⟨cs,t,hc,ht⟩:=M1.kinds _ hm
  have hc':W1.heap[w1.heap.size]?=some (.cells cs t (0,0)):=hc
  rw[G1]at hc'
  simp at hc'
  rcases ht with rfl|rfl
  ·exact absurd hc'.2 (by decide)
  ·exact absurd hc'.2 (by decide))
 clear hW1 BW1 G1 M1
 go_region_held3 (fun w'=>w'.cell? ⟨w1.heap.size,0,none⟩=some (.int .u16 st)∧w'.cell? ⟨w1.heap.size,1,none⟩=some (.slice va l.length vc)) (first|go_keep|(exact⟨z0,z1⟩)|(exact⟨(o3.cell hz1 HK1.out).trans z0,(o3.cell hz1 HK1.out).trans z1⟩)) ((go_at_call 39;refine(HAD.out _ _ _ HM1.out HO1.out.drew).mono ?_;rintro e w3 ⟨rfl,g',cap',hv',hlog,hrow,hblk,o3,hwh⟩))
 have M3:=HM1.out.added o3 hlog hblk (q4B (zZ _) hrow) (by show l.length≤80;have:=HFE.out;omega) HD.out
 have O3:OnlyB (b::q1Z ao) w w3:=(OnlyB.of_below (HBW.out.drew)).trans o3
 have hzw:w.heap.size≤W1.heap.size:=HBW.out.size
 have WH:Hid (∀k∈q1Z (some ⟨g',0,none⟩),k∈q1Z ao∨w.heap.size≤k):=zb (by
  intro k hk
  have:k=g':=by simpa[q1Z]using hk
  subst this
  rcases hwh with h|h
  ·exact .inl h
  ·exact .inr (zM hzw h))
 have HPL:Hid (zA (PL++[({stamp:=st,time:=q7B (zA PL) st,haps:=l},hv')])=q6G (zA PL) false s):=zb (by rw[HLL.out];exact List.map_append)
 obtain⟨PL',hPL'⟩:∃PL',PL'=PL++[(({stamp:=st,time:=q7B (zA PL) st,haps:=l}:LPt),hv')]:=⟨_,rfl⟩
 rw[←hPL']at M3 HPL
 have HM3:=zb M3
 have HO3:=zb O3
 have d3:=M3.cells.2.2.2.1
 have hl3:=M3.lt
 have HSE:=zb (fun W (q:MonAt W b gn cn (some ⟨g',0,none⟩) cap' F PL' told false)=>j5B b 4 (some ⟨g',0,none⟩) cap' PL' (qi F).reach W q.log)
 have hle:=q5O (zA PL') (qi F).reach
 rw[List.length_map]at hle
 have HT:=zb (fun W (q:MonAt W b gn cn (some ⟨g',0,none⟩) cap' F PL' told false)=>j6t b gn cn _ cap' F hF PL' told false (q0u (zA PL') (qi F).reach) hle W q)
 generalize hsr:q0u (zA PL') (qi F).reach=sr at *
 have HSR:=zb hsr
 clear hPL' hsr M3 O3 hlog hrow hblk hwh z0 z1 HM1 HO1 HG1 HAD HR HB1 HO o3
 generalize hrc:(qi F).reach=rc at *
 have HRC:=zb hrc
 clear hrc
 go_wp2_with fail
 go_region_held3 (fun w'=>w'.cell? ⟨b,3,none⟩=some (.int .i64 rc)) (first|go_keep|(exact d3)|(exact(zK (a:=⟨b,3,none⟩) (b4.block _ hl3)).trans d3)) ((go_at_call 40;refine(HSE.out _ (HM3.out.below (by exact(zB _ _).drew))).mono ?_;rintro e w4 ⟨rfl,b4⟩))
 have B4:Below w3.heap.size w3 w4:=((zB _ _).drew).trans b4
 have HM4:=zb (HM3.out.below B4)
 have HO4:Hid (OnlyB (b::q1Z ao) w w4):=zb (HO3.out.trans (.of_below B4))
 clear b4 B4 d3
 go_wp2_with fail
 refine(HT.out _ HM4.out).mono ?_
 rintro e w5 ⟨v,rfl,hrow5,M5,o5⟩
 obtain⟨va5,vc5,rfl⟩:=q1i hrow5
 have HR5:=zb hrow5
 have HM5:=zb M5
 have HO5:=zb o5
 clear hrow5 M5 o5
 go_wp2_with fail
 go_ret3
 have ev:j0N F (zA PL) told false s=q0D F (zA PL') told sr:=by
  unfold j0N
  rw[HE.out,if_pos rfl,←HPL.out,HRC.out,HSR.out]
 have en:j2l F (zA PL) told false s=max told sr:=by
  unfold j2l
  rw[HE.out,if_pos rfl,←HPL.out,HRC.out,HSR.out]
 refine⟨.slice va5 (sr-told) vc5,by rw[HE.out];rfl,?_,some ⟨g',0,none⟩,cap',PL',?_,HPL.out,?_,WH.out⟩
 ·rw[ev,q1W]
  exact q4B HO4.out.size HR5.out
 ·rw[en]
  exact HM5.out
 ·exact HO4.out.trans (HO5.out.wide (by simp))
theorem vig_Feed (b gn cn:Nat)(ao:OA)(cap:Nat)(F:zh)(hF:FormGood F)(PL:List PPt)(told:Nat)(ended:Bool)(s:By)(hs64:s.length≤maxLen)(w:World)(h:MonAt w b gn cn ao cap F PL told ended) :
  Calls Tryz.prog 16 #[.pointer (some ⟨b,0,none⟩),bs s] w fun e w'=>q7Y w b gn cn ao F PL told ended s e w':=by
 cases ended with
 |true=>exact j4k b gn cn ao cap F PL told s w h
 |false =>
  by_cases hl:80<s.length
  ·exact j4l b gn cn ao cap F PL told s hs64 hl w h
  ·cases hp:q3D s with
   |inl p=>exact j4m b gn cn ao cap F PL told s (by omega) p hp w h
   |inr q =>
    obtain⟨st,l⟩:=q
    by_cases hy:toR (zA PL) st<32768∧PL.length<40
    ·exact j4o b gn cn ao cap F hF PL told s (by omega) st l hp hy w h
    ·exact j4n b gn cn ao cap F PL told s (by omega) st l hp hy w h
theorem j3t {s:By}(h:(qe s).1=0):FormGood (qK s)∧q2B (qK s)=true∧q3R s=qi (qK s):=by
 obtain⟨h0,ha⟩:=j0J h
 have hrd:=q7u h0
 have hg:q5t (q0S s).1:=q5E s
 have h240:¬240<s.length:=by
  intro hl
  unfold q1p at h0
  rw[if_pos hl]at h0
  simp at h0
 have hll:=j3H s
 have hsz:=j1N _ _ hrd
 rw[q0c]at hsz
 refine⟨⟨j5J _ _ hrd hg,q3y hrd,by omega⟩,ha,?_⟩
 have hgd:=j0I h0
 have e1:q3R s=(q3I (qK s)).1:=by rw[hgd]
 have e2:(q3I (qK s)).2.1=0:=by rw[hgd];exact h
 rw[e1]
 unfold q3I at e2 ⊢
 by_cases hf:(q0F (qK s)).1=0
 ·rw[if_pos hf]
 ·rw[if_neg hf]at e2
  exact absurd e2 hf
theorem j0C (L:List LPt):∀F:zh,zs L (q1f F)=zs L F:=by
 intro F
 induction F with
 |nil=>rfl
 |node p sp y l r ihl ihr =>
  funext i x z
  simp only[q1f,zs]
  rw[ihl,ihr]
  rfl
theorem j1V {F F':zh}(h:q1f F'=q1f F)(L:List LPt):zs L F'=zs L F:=by rw[←j0C,h,j0C]
theorem j8W (L M:List LPt)(hL:Mono (L++M)):∀F:zh,q1K F→q2B F=true→∀i,i<L.length→zf F<(tmL L (L.length-1):Int)-tmL L i→∀x z,zs (L++M) F i x z=zs L F i x z:=by
 intro F
 induction F with
 |nil=>intros;rfl
 |node p sp y l r ihl ihr =>
  intro hF ha i hi hs x z
  obtain⟨hn,hl,hr⟩:=hF
  simp only[q2B,Bool.and_eq_true]at ha
  obtain⟨⟨ha1,ha2⟩,ha3⟩:=ha
  have hk:=(j8e 0 p sp hn).1
  have hR:zf (.node p sp y l r)=if q1R (zz 0 p sp y l r).kind=true then q4e (zz 0 p sp y l r).shi (if zf r > zf l then zf r else zf l)else(if zf r > zf l then zf r else zf l):=(j5G 0 p sp hn).symm
  have e:=node_ext (zz 0 p sp y l r) L M hL (zs L l) (zs L r) (zs (L++M) l) (zs (L++M) r) (zf l) (zf r) _ (q2O l) (q2O r) (by
   show 0≤q3k y.hi
   rw[hn.hi]
   omega) (by
   intro hk
   show(y.hi==[42])=false
   have h1:q0y y.word=true:=by rw[hn.word.ahead];exact hk
   rw[h1]at ha1
   simpa using ha1) hk hR (fun j hj hs x y=>ihl hl ha2 j hj hs x y) (fun j hj hs x y=>ihr hr ha3 j hj hs x y) i hi hs x z
  rw[zs,zs,e]
  congr 1
  simp
  omega
theorem j2Y {L M:List LPt}{i:Nat}(h:i<L.length):q4C (L++M) i=q4C L i:=by
 unfold q4C
 rw[List.getElem?_append_left h]
theorem tell_ext {F:zh}(hF:q1K F)(ha:q2B F=true){L M:List LPt}(hL:Mono (L++M))(a c:Nat)(hc:c≤q0u L (zf F)):q0D F L a c=q0D F (L++M) a c:=by
 have hm:Mono L:=fun i j h1 h2=>by
  have:=hL i j h1 (by simp;omega)
  rw[q3N (by omega),q3N h2]at this
  exact this
 have hsl:=q5O L (zf F)
 unfold q0D
 refine List.map_congr_left (fun i hi=>?_)
 have hi2:=List.mem_range'_1.1 hi
 have hil:i<L.length:=by omega
 have e:zs (L++M) F i=zs L F i:=by
  funext x z
  exact j8W L M hL F hF ha i hil ((j3V hm _ hil).2 (by omega)) x z
 unfold verR
 rw[e,j2Y hil]
theorem j3c (F:zh)(L:List LPt)(a b c:Nat)(h1:a≤b)(h2:b≤c):q0D F L a b++q0D F L b c=q0D F L a c:=by
 unfold q0D
 rw[←List.map_append,show c-a=(b-a)+(c-b)by omega,←List.range'_append_1,show a+(b-a)=b by omega]
abbrev Lin:=Nat × List Hp
def q2G (L:List LPt)(a:Lin):List LPt:=L++[⟨a.1,q7B L a.1,a.2⟩]
def q0A (ls:List Lin):List LPt:=ls.foldl q2G []
theorem j9n (ls:List Lin)(a:Lin):q0A (ls++[a])=q2G (q0A ls) a:=by
 unfold q0A
 rw[List.foldl_append]
 rfl
theorem j0A (L:List LPt):∀ls:List Lin,∃M,ls.foldl q2G L=L++M∧M.length=ls.length:=by
 intro ls
 induction ls generalizing L with
 |nil=>exact⟨[],by simp,rfl⟩
 |cons a r ih =>
  obtain⟨M,e,l⟩:=ih (q2G L a)
  refine⟨[⟨a.1,q7B L a.1,a.2⟩]++M,?_,by simp[l]⟩
  rw[List.foldl_cons,e]
  unfold q2G
  rw[List.append_assoc]
theorem q8G (ls:List Lin):(q0A ls).length=ls.length:=by
 obtain⟨M,e,l⟩:=j0A [] ls
 unfold q0A
 rw[e]
 simpa using l
theorem logF_pre (ls:List Lin)(k:Nat):∃M,q0A ls=q0A (ls.take k)++M:=by
 obtain⟨M,e,_⟩:=j0A (q0A (ls.take k)) (ls.drop k)
 refine⟨M,?_⟩
 rw[←e]
 unfold q0A
 rw[←List.foldl_append,List.take_append_drop]
theorem addL_ok (ls:List Lin):∀L,LogOk L→LogOk (ls.foldl q2G L):=by
 induction ls with
 |nil=>intro L h;exact h
 |cons a r ih=>intro L h;exact ih _ (h.add a.1 a.2)
theorem j3I (ls:List Lin):LogOk (q0A ls):=addL_ok ls [] .nil
theorem q9v (ls:List Lin)(k:Nat)(h:k<ls.length):q0A (ls.take (k+1))=q2G (q0A (ls.take k)) ls[k]:=by
 rw[←j9n,List.take_append_getElem h]
structure LinOk (L:List LPt)(s:By)(a:Lin):Prop where
 line:q3D s=.inr a
 len:s.length≤80
 near:toR L a.1<32768
 few:L.length<40
theorem feed_ok {L:List LPt}{s:By}{a:Lin}(h:LinOk L s a)(F:zh)(told:Nat):q3Q L false s=(0,0)∧q6G L false s=q2G L a∧j2l F L told false s=max told (q0u (q2G L a) (zf F))∧j0N F L told false s=q0D F (q2G L a) told (q0u (q2G L a) (zf F)):=by
 have e1:q3Q L false s=(0,0):=by
  unfold q3Q
  rw[if_neg (by decide),if_neg (by have:=h.len;omega),h.line]
  simp only[]
  rw[if_pos ⟨h.near,h.few⟩]
 have e2:q6G L false s=q2G L a:=by
  unfold q6G
  rw[e1,if_pos rfl,h.line]
  rfl
 refine⟨e1,e2,?_,?_⟩
 ·unfold j2l
  rw[e1,if_pos rfl,e2]
  rfl
 ·unfold j0N
  rw[e1,if_pos rfl,e2]
  rfl
end Go.Proofs.YtiamjjonoeaggaaGreatDoor
