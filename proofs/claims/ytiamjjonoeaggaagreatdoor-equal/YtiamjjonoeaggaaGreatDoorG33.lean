import Derived.Test.YtiamjjonoeaggaaGreatDoorGA
import Derived.Test.YtiamjjonoeaggaaGreatDoorG01
import Derived.Test.YtiamjjonoeaggaaGreatDoorG02
import Derived.Test.YtiamjjonoeaggaaGreatDoorG04
import Derived.Test.YtiamjjonoeaggaaGreatDoorG09
import Derived.Test.YtiamjjonoeaggaaGreatDoorG30
import Derived.Test.YtiamjjonoeaggaaGreatDoorG31
import Derived.Test.YtiamjjonoeaggaaGreatDoorG32
import Derived.Lib.ItoaNum
set_option maxRecDepth 100000
set_option maxHeartbeats 16000000
namespace Go.Proofs.YtiamjjonoeaggaaGreatDoor
open Go.RowKit
theorem j4Z:(Tryz.prog.info? 49).map (fun i=>(i.zero,i.size,i.bytes))=some (some (.agg #[.int .i64 0,.int .u16 0,.int .u16 0,.int .u16 0,.int .u16 0,.int .u16 0,.int .u16 0,.int .u16 0,.int .u16 0,.int .u16 0,.int .u16 0,.int .u16 0]),12,32):=by kernel_rfl
theorem j8J (st:Int)(va:OA)(n vc:Nat)(w:World):(Instr.field 92 (.agg #[.int .u16 st,.slice va n vc]) 0).run Tryz.prog w=.ok (.int .u16 st) w:=by kernel_rfl
theorem stamp_at {PL:List PPt}{i:Nat}(h:i<PL.length):q4C (zA PL) i=(PL[i]).1.stamp:=by
 unfold q4C
 rw[List.getElem?_map,zG h]
 rfl
def TlRel (F:zh)(L:List LPt)(W2:World)(told c:Nat)(g:Nat)(vl vi:Value)(wr:World):Prop:=
 ∃k:Nat,told≤k∧k≤c∧c-k≤g∧vi=.int .i64 k∧wr.ownsRow W2.heap.size 49 12 vl (k-told) (qn (q0D F L told k))∧Below W2.heap.size W2 wr
theorem j6t (b gn cn:Nat)(ao:OA)(cap:Nat)(F:zh)(hF:FormGood F)(PL:List PPt)(told:Nat)(ended:Bool)(c:Nat)(hc:c≤PL.length)(w:World)(h:MonAt w b gn cn ao cap F PL told ended) :
  Calls Tryz.prog 41 #[.pointer (some ⟨b,0,none⟩),.int .i64 c] w fun e w'=>∃v,e=.returned v∧w'.ownsRow w.heap.size 49 12 v (c-told) (qn (q0D F (zA PL) told c))∧MonAt w' b gn cn ao cap F PL (max told c) ended∧OnlyB [b] w w':=by
 obtain⟨c0,c1,c2,c3,c4,c5,c6⟩:=h.cells
 have hlt:=h.lt
 have hsm:=h.log.small
 have hfew:=h.few
 have HM:=zb h
 by_cases hle:c≤told
 ·clear h c0 c1 c2 c3 c4 c6
  go_enter Tryz.func41,Tryz.ntmps41
  go_wp2_with fail
  go_ret
  refine⟨_,rfl,?_,by rw[Nat.max_eq_left hle];exact HM.out,OnlyB.refl _ _⟩
  rw[j1S _ _ _ _ hle,show c-told=0 by omega]
  exact zW _ _ _ _
 ·have HA:=zb (fun W (q:MonAt W b gn cn ao cap F PL told ended)=>j4P F hF.ok hF.nn hF.sz gn cn (qi F).x (qi F).y (qi F).reach b 4 ao cap PL W q.nodesAt q.log q.haps)
  have HAT:=zb (fun i hi W (q:MonAt W b gn cn ao cap F PL told ended)=>pts_At b 4 ao cap PL i hi W q.log (fun p hp=>by obtain⟨a',c',e'⟩:=q1i (q.haps p hp).1;exact⟨_,_,_,e'⟩))
  obtain⟨H2,hH2⟩:∃H2:Nat→Nat→Nat→Bool,H2=fun i=>q6M (qi F).x (qi F).y (zs (zA PL) F i):=⟨_,rfl⟩
  rw[←hH2]at HA
  have HVR:Hid (∀i (hi:i<PL.length),j0g (verR F (zA PL) i)=[.int .i64 i,.int .u16 (PL[i]).1.stamp,.int .u16 (zm (H2 i) 0),.int .u16 (zm (H2 i) 1),.int .u16 (zm (H2 i) 2),.int .u16 (zm (H2 i) 3),.int .u16 (zm (H2 i) 4),.int .u16 (zm (H2 i) 5),.int .u16 (zm (H2 i) 6),.int .u16 (zm (H2 i) 7),.int .u16 (zm (H2 i) 8),.int .u16 (zm (H2 i) 9)]):=zb (fun i hi=>by rw[hH2,←stamp_at hi];rfl)
  have HTS:=zb (fun k hk=>j7B F (zA PL) told k hk)
  have HT0:=zb (j1S F (zA PL) told told (zL _))
  clear h hH2
  generalize (qi F).x=fx at *
  generalize (qi F).y=fy at *
  generalize (qi F).reach=rc at *
  generalize hN:zu F=N at *
  go_enter Tryz.func41,Tryz.ntmps41
  go_wp2_with fail
  go_region_held3 (fun w'=>w'.cell? ⟨b,0,none⟩=some (.slice (some ⟨gn,0,none⟩) N cn)∧w'.cell? ⟨b,1,none⟩=some (.bool fx)∧w'.cell? ⟨b,2,none⟩=some (.bool fy)∧w'.cell? ⟨b,3,none⟩=some (.int .i64 rc)) (first|go_keep|(exact⟨c0,c1,c2,c3⟩)|(exact KEEP3.out)) ((go_at_call 59;refine(HA.out _ (HM.out.below (by exact(zB _ _).drew))).mono ?_;rintro e w3 ⟨av,rfl,hO3,b3⟩;obtain⟨aa,ac,rfl⟩:=q1i hO3;have B3:Below w.heap.size w w3:=((zB _ _).drew).trans b3;have KEEP3:Hid (w3.cell? ⟨b,0,none⟩=some (.slice (some ⟨gn,0,none⟩) N cn)∧w3.cell? ⟨b,1,none⟩=some (.bool fx)∧w3.cell? ⟨b,2,none⟩=some (.bool fy)∧w3.cell? ⟨b,3,none⟩=some (.int .i64 rc)):=zb ⟨(zK (a:=⟨b,0,none⟩) (B3.block b hlt)).trans c0,(zK (a:=⟨b,1,none⟩) (B3.block b hlt)).trans c1,(zK (a:=⟨b,2,none⟩) (B3.block b hlt)).trans c2,(zK (a:=⟨b,3,none⟩) (B3.block b hlt)).trans c3⟩))
  have M3:=HM.out.below B3
  have d5:=M3.cells.2.2.2.2.2.1
  have hl3:=M3.lt
  have T3:Tb w3 (.slice aa PL.length ac) PL.length (fun i x y=>decide (i<PL.length)&&H2 i x y):=⟨by rw[q6Y (B:=H2) (fun i hi=>by funext x y;rw[decide_eq_true hi,Bool.true_and])];exact q4B (zZ _) hO3,fun i hi x y=>by rw[decide_eq_false (by omega),Bool.false_and]⟩
  have HT3:=zb T3
  have HM3:=zb M3
  have HB3:=zb B3
  obtain⟨i1,hi1,iz0,iz1,iz2⟩:=info_parts j4Z
  clear M3 T3 B3 b3 hO3 KEEP3 HA c0 c1 c2 c3 c4 c5 c6 hlt
  go_wp2_with fail
  go_loopg [6,7] c (fun g vl vi wr=>TlRel F (zA PL) w3 told c g vl vi wr)
  case atStart=>exact⟨told,zL _,by omega,by omega,rfl,by rw[HT0.out,Nat.sub_self];exact zW _ _ _ _,zB _ _⟩
  case round =>
   obtain⟨k,hk0,hk,hg,rfl,hown,hb⟩:=hrel
   have HG:=zb hg
   have HO:=zb hown
   have HB:=zb hb
   obtain⟨va,vc,rfl⟩:=q1i hown
   clear hg hown hb
   by_cases hkc:k<c
   ·have hkn:k<PL.length:=by omega
    have HAK:=zb (HAT.out k hkn wr (HM3.out.below HB.out))
    obtain⟨ha,hc',hhv⟩:=q1i (HM3.out.haps _ (List.getElem_mem hkn)).1
    rw[hhv]at HAK
    clear hhv
    generalize (PL[k]).1.haps.length=hn at *
    have HVK:=zb (HVR.out k hkn)
    have HTK:=zb (HTS.out k hk0)
    obtain⟨gt,rfl,_,ht1,ht2,_⟩:=HT3.out.load hkn
    have HLD:Hid (∀w',Below w3.heap.size w3 w'→(Instr.loadAt 47 (.pointer (some ⟨gt,k*10,none⟩))).run Tryz.prog w'=.ok (zr (zm (H2 k))) w'):=zb (fun w' hb=>by
     obtain⟨g',e',_,_,_,hr⟩:=(HT3.out.below hb).load hkn
     simp only[Option.some.injEq,Addr.mk.injEq,and_true]at e'
     subst e'
     rw[show(fun x y=>decide (k<PL.length)&&H2 k x y)=H2 k by funext x y;rw[decide_eq_true hkn,Bool.true_and]]at hr
     exact j3S hr)
    unfold maxLen at ht2
    generalize zm (H2 k)=r at *
    generalize (PL[k]).1.stamp=st at *
    go_wp2_with fail
    refine HAK.out.mono ?_
    rintro e w4 ⟨rfl,b4⟩
    have HB4:=zb (HB.out.trans (b4.mono HB.out.size))
    have HO4:=zb (zo HO.out b4)
    have L4:=HLD.out _ HB4.out
    have FL:=j8J st ha hn hc' w4
    clear b4
    go_wp2_with (first|(refine zj rfl 47 (.tmp 53) rfl ⟨gt,k*10,none⟩ (zr r) rfl L4 ?_)|(at_builtin;refine q3a rfl (.tmp 48) (.tmp 56) 38 49 rfl Tryz.underlying38 hi1 iz0 iz1 iz2 rfl (by decide) w3 w3.heap.size _ _ _ [.int .i64 k,.int .u16 st,.int .u16 (r 0),.int .u16 (r 1),.int .u16 (r 2),.int .u16 (r 3),.int .u16 (r 4),.int .u16 (r 5),.int .u16 (r 6),.int .u16 (r 7),.int .u16 (r 8),.int .u16 (r 9)] w4 rfl HO4.out (by simp[Act.eval]) rfl (by simp[Value.oneCell']) (by omega) (by decide) HB4.out HB4.out.size ?_;intro v' w' hown' hbel' hne))
    have hg1:0<gk:=by have:=HG.out;omega
    go_roundg (gk-1)
    case measure=>omega
    case rel=>exact⟨k+1,by omega,by omega,by have:=HG.out;omega,by go_num,by rw[HTK.out,q6x,j4j,HVK.out,show k+1-told=k-told+1 by omega];exact hown',hbel'⟩
   ·have hkc':k=c:=by omega
    have HK:=zb hkc'
    have M4:=HM3.out.below HB.out
    have f5:=M4.frozen 5
    have e5:=M4.cells.2.2.2.2.2.1
    have hl4:=M4.lt
    have HM4:=zb M4
    clear hkc' M4
    go_wp2_with fail
    go_ret
    refine⟨.slice va (k-told) vc,rfl,?_,by rw[Nat.max_eq_right (by omega)];exact HM4.out.setTold c hc,?_⟩
    ·have q:=HO.out
     rw[HK.out]at q ⊢
     exact q2i (q4B HB3.out.size q) HM4.out.blk (by decide) _
    ·exact(OnlyB.of_below (HB3.out.trans (HB.out.mono HB3.out.size))).setCell (by simp) _
theorem settF_le (L:List LPt)(rc:Int):∀f c,c≤L.length→q3S L rc f c≤L.length:=by
 intro f
 induction f with
 |zero=>intro c h;exact h
 |succ f ih =>
  intro c h
  rw[q3S]
  split
  ·rename_i hh
   exact ih (c+1) hh.1
  ·exact h
theorem q5O (L:List LPt)(rc:Int):q0u L rc≤L.length:=settF_le L rc _ 0 (zZ _)
theorem hapsF_le (s:By):∀(f i:Nat) (acc R:List Hp),q2g s f i acc=.inr R→R.length≤acc.length+f:=by
 intro f
 induction f with
 |zero =>
  intro i acc R h
  rw[q2g]at h
  have:acc=R:=by simpa using h
  rw[this]
  omega
 |succ f ih =>
  intro i acc R h
  rw[q2g]at h
  split at h
  ·split at h
   ·have:=ih _ _ _ h
    simp at this
    omega
   ·exact absurd h (by simp)
  ·have:acc=R:=by simpa using h
   rw[this]
   omega
theorem line_few {s:By}{n:Nat}{l:List Hp}(h:q3D s=.inr (n,l)):l.length≤s.length:=by
 unfold q3D at h
 split at h
 ·split at h
  ·split at h
   ·exact absurd h (by simp)
   ·rename_i l' he
    have:l'=l:=by simpa using (by simpa using h:_∧_).2
    subst this
    have:=hapsF_le s _ _ _ _ he
    simpa using this
  ·exact absurd h (by simp)
 ·exact absurd h (by simp)
def q3Q (L:List LPt)(ended:Bool)(s:By):Int × Int:=
 if ended=true then(9,0)else if 80<s.length then(1,0)else match q3D s with
  | .inl p=>(3,p)
  | .inr (st,_)=>if toR L st<32768∧L.length<40 then(0,0)else(if 32768≤toR L st then 7 else 8,0)
def q6G (L:List LPt)(ended:Bool)(s:By):List LPt:=
 if (q3Q L ended s).1=0 then(match q3D s with
  | .inl _=>L
  | .inr (st,l)=>L++[⟨st,q7B L st,l⟩])else L
def j2l (F:zh)(L:List LPt)(told:Nat)(ended:Bool)(s:By):Nat:=if (q3Q L ended s).1=0 then max told (q0u (q6G L ended s) (qi F).reach)else told
def j0N (F:zh)(L:List LPt)(told:Nat)(ended:Bool)(s:By):List Ver:=if (q3Q L ended s).1=0 then q0D F (q6G L ended s) told (q0u (q6G L ended s) (qi F).reach)else []
def j2f (w w':World)(b gn cn:Nat)(ao:OA)(F:zh)(L:List LPt)(told:Nat)(ended:Bool):Prop:=
 ∃ao' cap' PL',MonAt w' b gn cn ao' cap' F PL' told ended∧zA PL'=L∧OnlyB (b::q1Z ao) w w'∧(∀k∈q1Z ao',k∈q1Z ao∨w.heap.size≤k)
theorem j2f.same {w w':World}{b gn cn:Nat}{ao:OA}{cap:Nat}{F:zh}{PL:List PPt}{told:Nat}{ended:Bool}(h:MonAt w b gn cn ao cap F PL told ended)(hb:Below w.heap.size w w'):j2f w w' b gn cn ao F (zA PL) told ended:=
 ⟨ao,cap,PL,h.below hb,rfl,.of_below hb,fun _ hk=>.inl hk⟩
def endE (ended:Bool):Int:=if ended=true then 9 else 0
def endN (L:List LPt)(told:Nat)(ended:Bool):Nat:=if ended=true then told else L.length
def endV (F:zh)(L:List LPt)(told:Nat)(ended:Bool):List Ver:=if ended=true then []else q0D F L told L.length
theorem vig_End (b gn cn:Nat)(ao:OA)(cap:Nat)(F:zh)(hF:FormGood F)(PL:List PPt)(told:Nat)(ended:Bool)(w:World)(h:MonAt w b gn cn ao cap F PL told ended) :
  Calls Tryz.prog 19 #[.pointer (some ⟨b,0,none⟩)] w fun e w'=>∃v,e=.returned (.tuple #[v,.int .i64 (endE ended)])∧w'.ownsRow w.heap.size 49 12 v (endV F (zA PL) told ended).length (qn (endV F (zA PL) told ended))∧j2f w w' b gn cn ao F (zA PL) (endN (zA PL) told ended) true:=by
 obtain⟨c0,c1,c2,c3,c4,c5,c6⟩:=h.cells
 have hlt:=h.lt
 have hfz:=h.frozen 6
 have HM:=zb h
 cases ended with
 |true =>
  clear h c0 c1 c2 c3 c4 c5
  go_enter Tryz.func19,Tryz.ntmps19
  go_wp2_with fail
  go_ret2
  exact⟨.slice none 0 0,rfl,zW _ _ _ _,j2f.same HM.out (zB _ _)⟩
 |false =>
  have HM1:=zb (h.setEnded true)
  have HC:=zb (q7r b 4 ao cap PL _ HM1.out.log)
  have HT:=zb (j6t b gn cn ao cap F hF PL told true PL.length (zL _) _ HM1.out)
  have hfew:=h.few
  clear h c0 c1 c2 c3 c4 c5
  go_enter Tryz.func19,Tryz.ntmps19
  go_wp2_with fail
  refine HC.out.mono ?_
  rintro e w1 ⟨rfl,rfl⟩
  go_wp2_with fail
  refine HT.out.mono ?_
  rintro e w2 ⟨v,rfl,hO,hM2,hb2⟩
  obtain⟨va,vc,rfl⟩:=q1i hO
  go_wp2_with fail
  go_ret2
  have e1:endV F (zA PL) told false=q0D F (zA PL) told PL.length:=by unfold endV;rw[if_neg (by decide),List.length_map]
  have e2:endN (zA PL) told false=PL.length:=by unfold endN;rw[if_neg (by decide),List.length_map]
  refine⟨.slice va (PL.length-told) vc,rfl,?_,ao,cap,PL,?_,rfl,?_,fun _ hk=>.inl hk⟩
  ·rw[e1,q1W]
   simpa using hO
  ·rw[Nat.max_eq_right hfew]at hM2
   rw[e2]
   exact hM2
  ·exact((OnlyB.refl [b] w).setCell (by simp) _).trans hb2 |>.wide (by simp)
def q7Y (w:World)(b gn cn:Nat)(ao:OA)(F:zh)(PL:List PPt)(told:Nat)(ended:Bool)(s:By)(e:Ending)(w':World):Prop:=
 ∃v,e=.returned (.tuple #[v,.int .i64 (q3Q (zA PL) ended s).1,.int .i64 (q3Q (zA PL) ended s).2])∧w'.ownsRow w.heap.size 49 12 v (j0N F (zA PL) told ended s).length (qn (j0N F (zA PL) told ended s))∧j2f w w' b gn cn ao F (q6G (zA PL) ended s) (j2l F (zA PL) told ended s) ended
theorem j0p {w w':World}{b gn cn:Nat}{ao:OA}{cap:Nat}{F:zh}{PL:List PPt}{told:Nat}{ended:Bool}{s:By}{er at':Int}(h:MonAt w b gn cn ao cap F PL told ended)(he:q3Q (zA PL) ended s=(er,at'))(h0:er≠0)(hb:Below w.heap.size w w') :
  q7Y w b gn cn ao F PL told ended s (.returned (.tuple #[.slice none 0 0,.int .i64 er,.int .i64 at'])) w':=by
 have hne:¬(q3Q (zA PL) ended s).1=0:=by rw[he];exact h0
 refine⟨_,by rw[he],?_,?_⟩
 ·unfold j0N
  rw[if_neg hne]
  exact zW _ _ _ _
 ·unfold q6G j2l
  rw[if_neg hne,if_neg hne]
  exact j2f.same h hb
theorem j4k (b gn cn:Nat)(ao:OA)(cap:Nat)(F:zh)(PL:List PPt)(told:Nat)(s:By)(w:World)(h:MonAt w b gn cn ao cap F PL told true) :
  Calls Tryz.prog 16 #[.pointer (some ⟨b,0,none⟩),bs s] w fun e w'=>q7Y w b gn cn ao F PL told true s e w':=by
 obtain⟨c0,c1,c2,c3,c4,c5,c6⟩:=h.cells
 have hlt:=h.lt
 have HM:=zb h
 clear h c0 c1 c2 c3 c4 c5
 go_enter Tryz.func16,Tryz.ntmps16
 go_wp2_with fail
 go_ret3
 exact j0p HM.out rfl (by decide) (zB _ _)
theorem j4l (b gn cn:Nat)(ao:OA)(cap:Nat)(F:zh)(PL:List PPt)(told:Nat)(s:By)(hs64:s.length≤maxLen)(hl:80<s.length)(w:World)(h:MonAt w b gn cn ao cap F PL told false) :
  Calls Tryz.prog 16 #[.pointer (some ⟨b,0,none⟩),bs s] w fun e w'=>q7Y w b gn cn ao F PL told false s e w':=by
 obtain⟨c0,c1,c2,c3,c4,c5,c6⟩:=h.cells
 have hlt:=h.lt
 have HM:=zb h
 have HE:Hid (q3Q (zA PL) false s=(1,0)):=zb (by unfold q3Q;rw[if_neg (by decide),if_pos hl])
 unfold maxLen at hs64
 clear h c0 c1 c2 c3 c4 c5
 go_enter Tryz.func16,Tryz.ntmps16
 go_wp2_with fail
 go_ret3
 exact j0p HM.out HE.out (by decide) (zB _ _)
theorem j4m (b gn cn:Nat)(ao:OA)(cap:Nat)(F:zh)(PL:List PPt)(told:Nat)(s:By)(hl:s.length≤80)(p:Nat)(hp:q3D s=.inl p)(w:World)(h:MonAt w b gn cn ao cap F PL told false) :
  Calls Tryz.prog 16 #[.pointer (some ⟨b,0,none⟩),bs s] w fun e w'=>q7Y w b gn cn ao F PL told false s e w':=by
 obtain⟨c0,c1,c2,c3,c4,c5,c6⟩:=h.cells
 have hlt:=h.lt
 have HM:=zb h
 have HE:Hid (q3Q (zA PL) false s=(3,(p:Int))):=zb (by unfold q3Q;rw[if_neg (by decide),if_neg (by omega),hp])
 have HR:=zb (j5q s hl p hp)
 clear h c0 c1 c2 c3 c4 c5 hp
 go_enter Tryz.func16,Tryz.ntmps16
 go_wp2_with fail
 refine(HR.out _).mono ?_
 rintro e w1 ⟨rfl,b1⟩
 have HB1:=zb b1
 clear b1
 go_wp2_with fail
 go_ret3
 exact j0p HM.out HE.out (by decide) (by first|exact(HB1.out.alloc HB1.out.size _).setCells _|exact HB1.out.alloc HB1.out.size _)
theorem j4n (b gn cn:Nat)(ao:OA)(cap:Nat)(F:zh)(PL:List PPt)(told:Nat)(s:By)(hl:s.length≤80)(st:Nat)(l:List Hp)(hp:q3D s=.inr (st,l))(hno:¬(toR (zA PL) st<32768∧PL.length<40))(w:World)(h:MonAt w b gn cn ao cap F PL told false) :
  Calls Tryz.prog 16 #[.pointer (some ⟨b,0,none⟩),bs s] w fun e w'=>q7Y w b gn cn ao F PL told false s e w':=by
 obtain⟨c0,c1,c2,c3,c4,c5,c6⟩:=h.cells
 have hlt:=h.lt
 have HM:=zb h
 have hst:=(j1c hp).2.2.1
 have HR:=zb (q8H s hl st l hp)
 have HAD:=zb (fun va vn vc W q=>j7o st hst va vn vc b 4 ao cap PL W q hno)
 obtain⟨er,her⟩:∃er:Int,er=if 32768≤toR (zA PL) st then 7 else 8:=⟨_,rfl⟩
 have HE:Hid (q3Q (zA PL) false s=(er,0)):=zb (by unfold q3Q;rw[if_neg (by decide),if_neg (by omega),hp];simp only[];rw[if_neg (by rw[List.length_map];exact hno),her])
 rw[←her]at HAD
 have her2:(er != 0)=true:=by rw[her];split<;>decide
 have HNE:Hid (er≠0):=zb (by simpa using her2)
 clear h c0 c1 c2 c3 c4 c5 hp her hno
 go_enter Tryz.func16,Tryz.ntmps16
 go_wp2_with fail
 refine(HR.out _).mono ?_
 rintro e w1 ⟨hv,rfl,hO,b1⟩
 obtain⟨va,vc,rfl⟩:=q1i hO
 have HB1:=zb b1
 clear b1 hO
 go_wp2_with fail
 obtain⟨W1,hW1⟩:∃W1,W1=w1.alloc (.cells #[.int .u16 st,.slice va l.length vc] 92):=⟨_,rfl⟩
 have BW1:Below w.heap.size w W1:=by rw[hW1];exact HB1.out.alloc HB1.out.size _
 have G1:W1.heap[w1.heap.size]?=some (.cells #[.int .u16 st,.slice va l.length vc] 92 (0,0)):=by rw[hW1];exact zN _ _
 rw[←hW1]
 have z0:=zC _ _ 0 _ _ _ G1
 have z1:=zC _ _ 1 _ _ _ G1
 simp only[gz]at z0 z1
 have hz1:=zd G1
 have HBW:=zb BW1
 clear hW1 BW1 G1
 go_region_held3 (fun w'=>w'.cell? ⟨w1.heap.size,0,none⟩=some (.int .u16 st)∧w'.cell? ⟨w1.heap.size,1,none⟩=some (.slice va l.length vc)) (first|go_keep|(exact⟨z0,z1⟩)|(exact⟨(zK (a:=⟨w1.heap.size,0,none⟩) (b3.block _ hz1)).trans z0,(zK (a:=⟨w1.heap.size,1,none⟩) (b3.block _ hz1)).trans z1⟩)) ((go_at_call 39;refine(HAD.out _ _ _ _ ((HM.out.below HBW.out).below (by exact(zB _ _).drew)).log).mono ?_;rintro e w3 ⟨rfl,b3⟩))
 have B3:Below w.heap.size w w3:=HBW.out.trans ((((zB _ _).drew).trans b3).mono HBW.out.size)
 have HB3:=zb B3
 clear B3 b3
 go_wp2_with fail
 go_ret3
 exact j0p HM.out HE.out HNE.out HB3.out
theorem MonAt.added {w w':World}{b gn cn:Nat}{ao:OA}{cap:Nat}{F:zh}{PL:List PPt}{told:Nat}{ended:Bool}{g' cap':Nat}{pt:LPt}{hv':Value}(h:MonAt w b gn cn ao cap F PL told ended)(ho:OnlyB (b::q1Z ao) w w')(hl:LogAt w' b 4 (some ⟨g',0,none⟩) cap' (PL++[(pt,hv')]))
  (hb:w'.heap[b]?=some (.cells ((j2A (.slice (some ⟨gn,0,none⟩) (zu F) cn) (qi F).x (qi F).y (qi F).reach (.slice ao PL.length cap) told ended).setIfInBounds 4 (.slice (some ⟨g',0,none⟩) (PL.length+1) cap')) 89 (0,0)))
  (hr:w'.ownsRow 0 130 11 hv' pt.haps.length (qH pt.haps))(h80:pt.haps.length≤80)(hd:∀h∈pt.haps,∀d∈h.ds,d≤9):MonAt w' b gn cn (some ⟨g',0,none⟩) cap' F (PL++[(pt,hv')]) told ended:=by
 refine⟨?_,q6V h.nodes ho h.kinds (by decide) (by decide),hl,fun p hp=>?_,by have:=h.few;simp;omega⟩
 ·rw[hb,List.length_append]
  rfl
 ·rcases List.mem_append.1 hp with hp|hp
  ·exact⟨q6V (h.haps p hp).1 ho h.kinds (by decide) (by decide),(h.haps p hp).2⟩
  ·have:p=(pt,hv'):=by simpa using hp
   subst this
   exact⟨hr,h80,hd⟩
theorem j4o (b gn cn:Nat)(ao:OA)(cap:Nat)(F:zh)(hF:FormGood F)(PL:List PPt)(told:Nat)(s:By)(hl:s.length≤80)(st:Nat)(l:List Hp)(hp:q3D s=.inr (st,l))(hyes:toR (zA PL) st<32768∧PL.length<40)(w:World)(h:MonAt w b gn cn ao cap F PL told false) :
  Calls Tryz.prog 16 #[.pointer (some ⟨b,0,none⟩),bs s] w fun e w'=>q7Y w b gn cn ao F PL told false s e w':=by
 obtain⟨c0,c1,c2,c3,c4,c5,c6⟩:=h.cells
 have hlt:=h.lt
 have HM:=zb h
 obtain⟨_,hok,hst,_⟩:=j1c hp
 have hfew:=line_few hp
 have HR:=zb (q8H s hl st l hp)
 have HAD:=zb (fun va vc W (q:MonAt W b gn cn ao cap F PL told false) (hr:W.ownsRow 0 130 11 (.slice va l.length vc) l.length (qH l))=>j5A st hst (.slice va l.length vc) l b 4 ao cap PL W q.log _ _ q.blk (by decide) (by decide) hr (by omega) hyes.1 hyes.2)
 have HE:Hid (q3Q (zA PL) false s=(0,0)):=zb (by unfold q3Q;rw[if_neg (by decide),if_neg (by omega),hp];simp only[];rw[if_pos (by rw[List.length_map];exact hyes)])
 have HLL:Hid (q6G (zA PL) false s=zA PL++[⟨st,q7B (zA PL) st,l⟩]):=zb (by unfold q6G;rw[if_pos (by rw[HE.out]),hp])
 have HD:Hid (∀h∈l,∀d∈h.ds,d≤9):=zb (fun h hh=>(hok h hh).ds.2)
 have HFE:=zb hfew
 clear h c0 c1 c2 c3 c4 c5 hp hok
 go_enter Tryz.func16,Tryz.ntmps16
 go_wp2_with fail
 refine(HR.out _).mono ?_
 rintro e w1 ⟨hv,rfl,hO,b1⟩
 obtain⟨va,vc,rfl⟩:=q1i hO
 have HB1:=zb b1
 have HO:=zb hO
 clear b1 hO
 go_wp2_with fail
 obtain⟨W1,hW1⟩:∃W1,W1=w1.alloc (.cells #[.int .u16 st,.slice va l.length vc] 92):=⟨_,rfl⟩
 have BW1:Below w.heap.size w W1:=by rw[hW1];exact HB1.out.alloc HB1.out.size _
 have G1:W1.heap[w1.heap.size]?=some (.cells #[.int .u16 st,.slice va l.length vc] 92 (0,0)):=by rw[hW1];exact zN _ _
 have HO1:Hid (W1.ownsRow 0 130 11 (.slice va l.length vc) l.length (qH l)):=zb (by rw[hW1];exact q4B (zZ _) (HO.out.alloc _))
 rw[←hW1]
 have z0:=zC _ _ 0 _ _ _ G1
 have z1:=zC _ _ 1 _ _ _ G1
 simp only[gz]at z0 z1
 have hz1:=zd G1
 have HBW:=zb BW1
 have HG1:=zb G1
 have M1:MonAt W1.drew b gn cn ao cap F PL told false:=(HM.out.below HBW.out).below (by exact(zB _ _).drew)
 have HM1:=zb M1
 have HK1:Hid (w1.heap.size∉b::q1Z ao):=zb (by
  intro hm
  obtain⟨cs,t,hc,ht⟩:=M1.kinds _ hm
  have hc':W1.heap[w1.heap.size]?=some (.cells cs t (0,0)):=hc
  rw[G1]at hc'
  simp at hc'
  rcases ht with rfl|rfl
  ·exact absurd hc'.2 (by decide)
  ·exact absurd hc'.2 (by decide))
 clear hW1 BW1 G1 M1
 go_region_held3 (fun w'=>w'.cell? ⟨w1.heap.size,0,none⟩=some (.int .u16 st)∧w'.cell? ⟨w1.heap.size,1,none⟩=some (.slice va l.length vc)) (first|go_keep|(exact⟨z0,z1⟩)|(exact⟨(o3.cell hz1 HK1.out).trans z0,(o3.cell hz1 HK1.out).trans z1⟩)) ((go_at_call 39;refine(HAD.out _ _ _ HM1.out HO1.out.drew).mono ?_;rintro e w3 ⟨rfl,g',cap',hv',hlog,hrow,hblk,o3,hwh⟩))
 have M3:=HM1.out.added o3 hlog hblk (q4B (zZ _) hrow) (by show l.length≤80;have:=HFE.out;omega) HD.out
 have O3:OnlyB (b::q1Z ao) w w3:=(OnlyB.of_below (HBW.out.drew)).trans o3
 have hzw:w.heap.size≤W1.heap.size:=HBW.out.size
 have WH:Hid (∀k∈q1Z (some ⟨g',0,none⟩),k∈q1Z ao∨w.heap.size≤k):=zb (by
  intro k hk
  have:k=g':=by simpa[q1Z]using hk
  subst this
  rcases hwh with h|h
  ·exact .inl h
  ·exact .inr (zM hzw h))
 have HPL:Hid (zA (PL++[({stamp:=st,time:=q7B (zA PL) st,haps:=l},hv')])=q6G (zA PL) false s):=zb (by rw[HLL.out];exact List.map_append)
 obtain⟨PL',hPL'⟩:∃PL',PL'=PL++[(({stamp:=st,time:=q7B (zA PL) st,haps:=l}:LPt),hv')]:=⟨_,rfl⟩
 rw[←hPL']at M3 HPL
 have HM3:=zb M3
 have HO3:=zb O3
 have d3:=M3.cells.2.2.2.1
 have hl3:=M3.lt
 have HSE:=zb (fun W (q:MonAt W b gn cn (some ⟨g',0,none⟩) cap' F PL' told false)=>j5B b 4 (some ⟨g',0,none⟩) cap' PL' (qi F).reach W q.log)
 have hle:=q5O (zA PL') (qi F).reach
 rw[List.length_map]at hle
 have HT:=zb (fun W (q:MonAt W b gn cn (some ⟨g',0,none⟩) cap' F PL' told false)=>j6t b gn cn _ cap' F hF PL' told false (q0u (zA PL') (qi F).reach) hle W q)
 generalize hsr:q0u (zA PL') (qi F).reach=sr at *
 have HSR:=zb hsr
 clear hPL' hsr M3 O3 hlog hrow hblk hwh z0 z1 HM1 HO1 HG1 HAD HR HB1 HO o3
 generalize hrc:(qi F).reach=rc at *
 have HRC:=zb hrc
 clear hrc
 go_wp2_with fail
 go_region_held3 (fun w'=>w'.cell? ⟨b,3,none⟩=some (.int .i64 rc)) (first|go_keep|(exact d3)|(exact(zK (a:=⟨b,3,none⟩) (b4.block _ hl3)).trans d3)) ((go_at_call 40;refine(HSE.out _ (HM3.out.below (by exact(zB _ _).drew))).mono ?_;rintro e w4 ⟨rfl,b4⟩))
 have B4:Below w3.heap.size w3 w4:=((zB _ _).drew).trans b4
 have HM4:=zb (HM3.out.below B4)
 have HO4:Hid (OnlyB (b::q1Z ao) w w4):=zb (HO3.out.trans (.of_below B4))
 clear b4 B4 d3
 go_wp2_with fail
 refine(HT.out _ HM4.out).mono ?_
 rintro e w5 ⟨v,rfl,hrow5,M5,o5⟩
 obtain⟨va5,vc5,rfl⟩:=q1i hrow5
 have HR5:=zb hrow5
 have HM5:=zb M5
 have HO5:=zb o5
 clear hrow5 M5 o5
 go_wp2_with fail
 go_ret3
 have ev:j0N F (zA PL) told false s=q0D F (zA PL') told sr:=by
  unfold j0N
  rw[HE.out,if_pos rfl,←HPL.out,HRC.out,HSR.out]
 have en:j2l F (zA PL) told false s=max told sr:=by
  unfold j2l
  rw[HE.out,if_pos rfl,←HPL.out,HRC.out,HSR.out]
 refine⟨.slice va5 (sr-told) vc5,by rw[HE.out];rfl,?_,some ⟨g',0,none⟩,cap',PL',?_,HPL.out,?_,WH.out⟩
 ·rw[ev,q1W]
  exact q4B HO4.out.size HR5.out
 ·rw[en]
  exact HM5.out
 ·exact HO4.out.trans (HO5.out.wide (by simp))
theorem vig_Feed (b gn cn:Nat)(ao:OA)(cap:Nat)(F:zh)(hF:FormGood F)(PL:List PPt)(told:Nat)(ended:Bool)(s:By)(hs64:s.length≤maxLen)(w:World)(h:MonAt w b gn cn ao cap F PL told ended) :
  Calls Tryz.prog 16 #[.pointer (some ⟨b,0,none⟩),bs s] w fun e w'=>q7Y w b gn cn ao F PL told ended s e w':=by
 cases ended with
 |true=>exact j4k b gn cn ao cap F PL told s w h
 |false =>
  by_cases hl:80<s.length
  ·exact j4l b gn cn ao cap F PL told s hs64 hl w h
  ·cases hp:q3D s with
   |inl p=>exact j4m b gn cn ao cap F PL told s (by omega) p hp w h
   |inr q =>
    obtain⟨st,l⟩:=q
    by_cases hy:toR (zA PL) st<32768∧PL.length<40
    ·exact j4o b gn cn ao cap F hF PL told s (by omega) st l hp hy w h
    ·exact j4n b gn cn ao cap F PL told s (by omega) st l hp hy w h
theorem j3t {s:By}(h:(qe s).1=0):FormGood (qK s)∧q2B (qK s)=true∧q3R s=qi (qK s):=by
 obtain⟨h0,ha⟩:=j0J h
 have hrd:=q7u h0
 have hg:q5t (q0S s).1:=q5E s
 have h240:¬240<s.length:=by
  intro hl
  unfold q1p at h0
  rw[if_pos hl]at h0
  simp at h0
 have hll:=j3H s
 have hsz:=j1N _ _ hrd
 rw[q0c]at hsz
 refine⟨⟨j5J _ _ hrd hg,q3y hrd,by omega⟩,ha,?_⟩
 have hgd:=j0I h0
 have e1:q3R s=(q3I (qK s)).1:=by rw[hgd]
 have e2:(q3I (qK s)).2.1=0:=by rw[hgd];exact h
 rw[e1]
 unfold q3I at e2 ⊢
 by_cases hf:(q0F (qK s)).1=0
 ·rw[if_pos hf]
 ·rw[if_neg hf]at e2
  exact absurd e2 hf
theorem j0C (L:List LPt):∀F:zh,zs L (q1f F)=zs L F:=by
 intro F
 induction F with
 |nil=>rfl
 |node p sp y l r ihl ihr =>
  funext i x z
  simp only[q1f,zs]
  rw[ihl,ihr]
  rfl
theorem j1V {F F':zh}(h:q1f F'=q1f F)(L:List LPt):zs L F'=zs L F:=by rw[←j0C,h,j0C]
theorem j8W (L M:List LPt)(hL:Mono (L++M)):∀F:zh,q1K F→q2B F=true→∀i,i<L.length→zf F<(tmL L (L.length-1):Int)-tmL L i→∀x z,zs (L++M) F i x z=zs L F i x z:=by
 intro F
 induction F with
 |nil=>intros;rfl
 |node p sp y l r ihl ihr =>
  intro hF ha i hi hs x z
  obtain⟨hn,hl,hr⟩:=hF
  simp only[q2B,Bool.and_eq_true]at ha
  obtain⟨⟨ha1,ha2⟩,ha3⟩:=ha
  have hk:=(j8e 0 p sp hn).1
  have hR:zf (.node p sp y l r)=if q1R (zz 0 p sp y l r).kind=true then q4e (zz 0 p sp y l r).shi (if zf r > zf l then zf r else zf l)else(if zf r > zf l then zf r else zf l):=(j5G 0 p sp hn).symm
  have e:=node_ext (zz 0 p sp y l r) L M hL (zs L l) (zs L r) (zs (L++M) l) (zs (L++M) r) (zf l) (zf r) _ (q2O l) (q2O r) (by
   show 0≤q3k y.hi
   rw[hn.hi]
   omega) (by
   intro hk
   show(y.hi==[42])=false
   have h1:q0y y.word=true:=by rw[hn.word.ahead];exact hk
   rw[h1]at ha1
   simpa using ha1) hk hR (fun j hj hs x y=>ihl hl ha2 j hj hs x y) (fun j hj hs x y=>ihr hr ha3 j hj hs x y) i hi hs x z
  rw[zs,zs,e]
  congr 1
  simp
  omega
theorem j2Y {L M:List LPt}{i:Nat}(h:i<L.length):q4C (L++M) i=q4C L i:=by
 unfold q4C
 rw[List.getElem?_append_left h]
theorem tell_ext {F:zh}(hF:q1K F)(ha:q2B F=true){L M:List LPt}(hL:Mono (L++M))(a c:Nat)(hc:c≤q0u L (zf F)):q0D F L a c=q0D F (L++M) a c:=by
 have hm:Mono L:=fun i j h1 h2=>by
  have:=hL i j h1 (by simp;omega)
  rw[q3N (by omega),q3N h2]at this
  exact this
 have hsl:=q5O L (zf F)
 unfold q0D
 refine List.map_congr_left (fun i hi=>?_)
 have hi2:=List.mem_range'_1.1 hi
 have hil:i<L.length:=by omega
 have e:zs (L++M) F i=zs L F i:=by
  funext x z
  exact j8W L M hL F hF ha i hil ((j3V hm _ hil).2 (by omega)) x z
 unfold verR
 rw[e,j2Y hil]
theorem j3c (F:zh)(L:List LPt)(a b c:Nat)(h1:a≤b)(h2:b≤c):q0D F L a b++q0D F L b c=q0D F L a c:=by
 unfold q0D
 rw[←List.map_append,show c-a=(b-a)+(c-b)by omega,←List.range'_append_1,show a+(b-a)=b by omega]
abbrev Lin:=Nat × List Hp
def q2G (L:List LPt)(a:Lin):List LPt:=L++[⟨a.1,q7B L a.1,a.2⟩]
def q0A (ls:List Lin):List LPt:=ls.foldl q2G []
theorem j9n (ls:List Lin)(a:Lin):q0A (ls++[a])=q2G (q0A ls) a:=by
 unfold q0A
 rw[List.foldl_append]
 rfl
theorem j0A (L:List LPt):∀ls:List Lin,∃M,ls.foldl q2G L=L++M∧M.length=ls.length:=by
 intro ls
 induction ls generalizing L with
 |nil=>exact⟨[],by simp,rfl⟩
 |cons a r ih =>
  obtain⟨M,e,l⟩:=ih (q2G L a)
  refine⟨[⟨a.1,q7B L a.1,a.2⟩]++M,?_,by simp[l]⟩
  rw[List.foldl_cons,e]
  unfold q2G
  rw[List.append_assoc]
theorem q8G (ls:List Lin):(q0A ls).length=ls.length:=by
 obtain⟨M,e,l⟩:=j0A [] ls
 unfold q0A
 rw[e]
 simpa using l
theorem logF_pre (ls:List Lin)(k:Nat):∃M,q0A ls=q0A (ls.take k)++M:=by
 obtain⟨M,e,_⟩:=j0A (q0A (ls.take k)) (ls.drop k)
 refine⟨M,?_⟩
 rw[←e]
 unfold q0A
 rw[←List.foldl_append,List.take_append_drop]
theorem addL_ok (ls:List Lin):∀L,LogOk L→LogOk (ls.foldl q2G L):=by
 induction ls with
 |nil=>intro L h;exact h
 |cons a r ih=>intro L h;exact ih _ (h.add a.1 a.2)
theorem j3I (ls:List Lin):LogOk (q0A ls):=addL_ok ls [] .nil
theorem q9v (ls:List Lin)(k:Nat)(h:k<ls.length):q0A (ls.take (k+1))=q2G (q0A (ls.take k)) ls[k]:=by
 rw[←j9n,List.take_append_getElem h]
structure LinOk (L:List LPt)(s:By)(a:Lin):Prop where
 line:q3D s=.inr a
 len:s.length≤80
 near:toR L a.1<32768
 few:L.length<40
theorem feed_ok {L:List LPt}{s:By}{a:Lin}(h:LinOk L s a)(F:zh)(told:Nat):q3Q L false s=(0,0)∧q6G L false s=q2G L a∧j2l F L told false s=max told (q0u (q2G L a) (zf F))∧j0N F L told false s=q0D F (q2G L a) told (q0u (q2G L a) (zf F)):=by
 have e1:q3Q L false s=(0,0):=by
  unfold q3Q
  rw[if_neg (by decide),if_neg (by have:=h.len;omega),h.line]
  simp only[]
  rw[if_pos ⟨h.near,h.few⟩]
 have e2:q6G L false s=q2G L a:=by
  unfold q6G
  rw[e1,if_pos rfl,h.line]
  rfl
 refine⟨e1,e2,?_,?_⟩
 ·unfold j2l
  rw[e1,if_pos rfl,e2]
  rfl
 ·unfold j0N
  rw[e1,if_pos rfl,e2]
  rfl
def j0Q (n:Nat)(t:By):Nat:=t.foldl (fun n c=>10*n+(c.toNat-48)) n
theorem foldV_ge:∀(t:By) (n:Nat),n≤j0Q n t:=by
 intro t
 induction t with
 |nil=>intro n;exact zL _
 |cons c r ih =>
  intro n
  have:=ih (10*n+(c.toNat-48))
  show n≤j0Q (10*n+(c.toNat-48)) r
  omega
theorem q2D {s l:By}{i:Nat}(h:s.drop i=l)(k:Nat):cI s (i+k)=((l.getD k 0).toNat:Int):=by
 unfold cI
 subst h
 simp[List.getD,List.getElem?_drop]
theorem j0n {s l:By}{i:Nat}(h:s.drop i=l)(k:Nat):dI s (i+k)=(l.getD k 0).toNat-48:=by
 unfold dI
 subst h
 simp[List.getD,List.getElem?_drop]
theorem q9m {s a b:By}{i:Nat}(h:s.drop i=a++b):s.drop (i+a.length)=b:=by
 rw[←List.drop_drop,h]
 simp
theorem stF_digs:∀(t s rest:By) (f n i:Nat),s.drop i=t++rest→t.length≤f→(∀c∈t,zQ (c.toNat:Int)=true)→zQ ((rest.getD 0 0).toNat:Int)=false→j0Q n t≤65535→stF s f n i=(true,j0Q n t,i+t.length):=by
 intro t
 induction t with
 |nil =>
  intro s rest f n i h _ _ hr _
  have e:=q2D (k:=0) h
  cases f with
  |zero=>rfl
  |succ f =>
   rw[stF,if_neg]
   ·rfl
   ·rw[show i=i+0 by omega,e]
    simp only[List.nil_append]
    rw[hr]
    decide
 |cons c r ih =>
  intro s rest f n i h hl hd hr hv
  have e:=q2D (k:=0) h
  have e2:=j0n (k:=0) h
  simp only[List.cons_append,List.getD_cons_zero,Nat.add_zero]at e e2
  have hc:=hd c (by simp)
  have hv2:j0Q (10*n+(c.toNat-48)) r≤65535:=hv
  have hge:=foldV_ge r (10*n+(c.toNat-48))
  cases f with
  |zero=>simp at hl
  |succ f =>
   rw[stF,e,e2,if_pos hc,if_neg (by omega)]
   have hdr:s.drop (i+1)=r++rest:=q9m (a:=[c]) h
   rw[ih s rest f _ (i+1) hdr (by simp at hl;omega) (fun d hd'=>hd d (by simp[hd'])) hr hv2]
   simp only[List.length_cons]
   rw[show i+1+r.length=i+(r.length+1)by omega]
   rfl
structure HpL (h:Hp):Prop where
 nm:∃c:UInt8,h.nm=[c]∧q0n (c.toNat:Int)=true
 ds:∃d:Nat,d≤9∧(h.ds=[d]∨∃d':Nat,d'≤9∧h.ds=[d,d'])
theorem q4J {d:Nat}(h:d≤9):(UInt8.ofNat (48+d)).toNat=48+d∧zQ (((UInt8.ofNat (48+d)).toNat:Nat):Int)=true:=by
 have e:(UInt8.ofNat (48+d)).toNat=48+d:=by rw[UInt8.toNat_ofNat_of_lt' (by show 48+d<256;omega)]
 refine⟨e,?_⟩
 rw[e]
 unfold zQ
 simp
 omega
theorem hap_read {s rest:By}{i:Nat}{h:Hp}(hh:HpL h)(hs:s.drop i=32::(q4a h++rest)):q2H s i=(true,i+1+(q4a h).length,h):=by
 obtain⟨nm,ds⟩:=h
 obtain⟨⟨c,rfl,hc⟩,d,hd,hds⟩:=hh
 simp only[]at hds
 have hc2:=hc
 have q0:q0n (40:Int)=false:=by decide
 obtain⟨v1,v2⟩:=q4J hd
 rcases hds with rfl|⟨d',hd',rfl⟩
 ·have hs':s.drop i=32::c::40::UInt8.ofNat (48+d)::41::rest:=by rw[hs];rfl
  have c0:=q2D hs' 0
  have c1:=q2D hs' 1
  have c2:=q2D hs' 2
  have c3:=q2D hs' 3
  have c4:=q2D hs' 4
  have d3:=j0n hs' 3
  simp only[List.getD_cons_zero,List.getD_cons_succ,Nat.add_zero,v1]at c0 c1 c2 c3 c4 d3
  have hn:nmF s 8 (i+1)=i+2:=by
   rw[nmF,c1,if_pos hc,nmF,c2,if_neg (by decide)]
  have hlen:i+2≤s.length:=by
   have:=congrArg List.length hs'
   simp at this
   omega
  have hcut:cut s (i+1) (i+2)=[c]:=by
   unfold cut
   rw[←List.drop_drop,hs',show i+2-(i+1)=1 by omega]
   rfl
  unfold q2H
  rw[c0,if_pos (by rfl),hn,if_pos (by omega),c2,if_pos (by rfl),show i+2+1=i+3 from rfl,c3,if_pos (by rw[←v1];exact v2),hcut]
  unfold q7D
  rw[show i+2+2=i+4 from rfl,c4,if_neg (by decide),if_pos (by rfl),d3]
  have e:48+d-48=d:=by omega
  rw[e]
  simp only[q4a,List.length_append,List.length_cons,List.length_nil]
 ·obtain⟨u1,u2⟩:=q4J hd'
  have hs':s.drop i=32::c::40::UInt8.ofNat (48+d)::44::UInt8.ofNat (48+d')::41::rest:=by rw[hs];rfl
  have c0:=q2D hs' 0
  have c1:=q2D hs' 1
  have c2:=q2D hs' 2
  have c3:=q2D hs' 3
  have c4:=q2D hs' 4
  have c5:=q2D hs' 5
  have c6:=q2D hs' 6
  have d3:=j0n hs' 3
  have d5:=j0n hs' 5
  simp only[List.getD_cons_zero,List.getD_cons_succ,Nat.add_zero,v1,u1]at c0 c1 c2 c3 c4 c5 c6 d3 d5
  have hn:nmF s 8 (i+1)=i+2:=by
   rw[nmF,c1,if_pos hc,nmF,c2,if_neg (by decide)]
  have hcut:cut s (i+1) (i+2)=[c]:=by
   unfold cut
   rw[←List.drop_drop,hs',show i+2-(i+1)=1 by omega]
   rfl
  unfold q2H
  rw[c0,if_pos (by rfl),hn,if_pos (by omega),c2,if_pos (by rfl),show i+2+1=i+3 from rfl,c3,if_pos (by rw[←v1];exact v2),hcut]
  unfold q7D
  rw[show i+2+2=i+4 from rfl,c4,if_pos (by rfl),show i+4+1=i+5 from rfl,c5,if_pos (by rw[←u1];exact u2),show i+4+2=i+6 from rfl,c6,if_pos (by rfl),d3,d5]
  have e:48+d-48=d:=by omega
  have e':48+d'-48=d':=by omega
  rw[e,e']
  simp only[q4a,List.length_append,List.length_cons,List.length_nil]
def q0I (l:List Hp):By:=l.flatMap fun h=>32::q4a h
theorem j8S:∀(l:List Hp) (s:By) (f i:Nat) (acc:List Hp),(∀h∈l,HpL h)→s.drop i=q0I l→i≤s.length→l.length≤f→q2g s f i acc=.inr (acc++l):=by
 intro l
 induction l with
 |nil =>
  intro s f i acc _ hs hi _
  have hl:s.length-i=0:=by
   have:=congrArg List.length hs
   simpa[q0I]using this
  cases f with
  |zero=>simp[q2g]
  |succ f=>rw[q2g,if_neg (by omega)];simp
 |cons h r ih =>
  intro s f i acc hh hs hi hf
  have hs':s.drop i=32::(q4a h++q0I r):=by rw[hs];simp[q0I]
  have hl:s.length-i=1+((q4a h).length+(q0I r).length):=by
   have:=congrArg List.length hs'
   simp only[List.length_drop,List.length_cons,List.length_append]at this
   omega
  cases f with
  |zero=>simp at hf
  |succ f =>
   have hr:=hap_read (hh h (by simp)) hs'
   rw[q2g,if_pos (by omega),hr]
   simp only[if_true]
   rw[ih s f (i+1+(q4a h).length) (acc++[h]) (fun g hg=>hh g (by simp[hg])) (by
    have:=q9m (a:=32::q4a h) (b:=q0I r) (by rw[hs'];rfl)
    rw[←this]
    simp only[List.length_cons]
    rw[show i+1+(q4a h).length=i+((q4a h).length+1)by omega]) (by omega) (by simp at hf;omega)]
   simp
theorem dec_digs (u:Nat):∀c∈Lib.decDigits u,zQ (c.toNat:Int)=true:=by
 induction u using Nat.strongRecOn with
 |ind u ih =>
  rw[Lib.decDigits]
  split
  ·rename_i h
   intro c hc
   rw[List.mem_singleton]at hc
   subst hc
   exact(q4J (d:=u) (by omega)).2
  ·rename_i h
   intro c hc
   rcases List.mem_append.1 hc with hc|hc
   ·exact ih (u / 10) (by omega) c hc
   ·rw[List.mem_singleton]at hc
    subst hc
    exact(q4J (d:=u % 10) (by omega)).2
theorem j7Q (u:Nat):j0Q 0 (Lib.decDigits u)=u:=by
 induction u using Nat.strongRecOn with
 |ind u ih =>
  rw[Lib.decDigits]
  split
  ·rename_i h
   show 10*0+((UInt8.ofNat (48+u)).toNat-48)=u
   rw[(q4J (d:=u) (by omega)).1]
   omega
  ·rename_i h
   unfold j0Q at ih ⊢
   rw[List.foldl_append,ih (u / 10) (by omega)]
   show 10*(u / 10)+((UInt8.ofNat (48+u % 10)).toNat-48)=u
   rw[(q4J (d:=u % 10) (by omega)).1]
   omega
theorem q7f {u:Nat}(h:u≤65535):(Lib.decDigits u).length≤5∧1≤(Lib.decDigits u).length:=by
 rw[Lib.decDigits_length]
 refine⟨?_,Lib.nDigits_pos u⟩
 rcases Nat.lt_or_ge u 10 with g|g
 ·rw[Lib.nDigits_small g];omega
 ·rcases Nat.lt_or_ge u 100 with g2|g2
  ·rw[Lib.nDigits_unique 1 u (by simpa using g) (by simpa using g2)];omega
  ·rcases Nat.lt_or_ge u 1000 with g3|g3
   ·rw[Lib.nDigits_unique 2 u (by simpa using g2) (by simpa using g3)];omega
   ·rcases Nat.lt_or_ge u 10000 with g4|g4
    ·rw[Lib.nDigits_unique 3 u (by simpa using g3) (by simpa using g4)];omega
    ·rw[Lib.nDigits_unique 4 u (by simpa using g4) (by simp;omega)];omega
def q1Q (st:Nat)(l:List Hp):By:=64::(Lib.decDigits st++q0I l)
theorem j6I (l:List Hp):zQ (((q0I l).getD 0 0).toNat:Int)=false:=by
 cases l with
 |nil=>decide
 |cons h r=>show zQ ((32:UInt8).toNat:Int)=false;decide
theorem hapS_len {h:Hp}(hh:HpL h):(q4a h).length≤6:=by
 obtain⟨nm,ds⟩:=h
 obtain⟨⟨c,rfl,hc⟩,d,hd,hds⟩:=hh
 simp only[]at hds
 rcases hds with rfl|⟨d',hd',rfl⟩<;>simp[q4a]
theorem q2t (l:List Hp)(hh:∀h∈l,HpL h):(q0I l).length≤7*l.length∧l.length≤(q0I l).length:=by
 induction l with
 |nil=>exact⟨zL _,zL _⟩
 |cons h r ih =>
  have:=ih (fun g hg=>hh g (by simp[hg]))
  have h6:=hapS_len (hh h (by simp))
  have e:(q0I (h::r)).length=1+(q4a h).length+(q0I r).length:=by simp[q0I];omega
  rw[e,List.length_cons]
  omega
theorem j9k (st:Nat)(l:List Hp)(hst:st≤65535)(hh:∀h∈l,HpL h):q3D (q1Q st l)=.inr (st,l):=by
 have hd:(q1Q st l).drop 1=Lib.decDigits st++q0I l:=rfl
 have hlen:=q7f hst
 have hs:=stF_digs (Lib.decDigits st) (q1Q st l) (q0I l) 5 0 1 hd hlen.1 (dec_digs st) (j6I l) (by rw[j7Q];exact hst)
 rw[j7Q]at hs
 unfold q3D
 rw[if_pos (by rfl),hs]
 simp only[]
 rw[if_pos ⟨trivial,by omega⟩]
 have hl2:(q1Q st l).length=1+((Lib.decDigits st).length+(q0I l).length):=by simp[q1Q];omega
 have hq:=q2t l hh
 rw[j8S l (q1Q st l) _ (1+(Lib.decDigits st).length) [] hh (q9m hd) (by omega) (by omega)]
 rfl
theorem line_len (st:Nat)(l:List Hp)(hst:st≤65535)(hh:∀h∈l,HpL h)(hl:l.length≤4):(q1Q st l).length≤80:=by
 have hlen:=q7f hst
 have hq:=q2t l hh
 simp only[q1Q,List.length_cons,List.length_append]
 omega
def nmL (k:Nat):By:=if k=0 then [112]else if k=1 then [113]else if k=2 then [114]else [120]
def q8v (s:By)(i:Nat):Hp × Nat:=
 let a:=zk s i 4
 let b:=zk s a.2 4
 let c:=zk s b.2 2
 let d:=zk s c.2 4
 if c.1=1 then(⟨nmL a.1,[b.1,d.1]⟩,d.2)else(⟨nmL a.1,[b.1]⟩,c.2)
theorem q8w (s:By)(i:Nat):HpL (q8v s i).1:=by
 unfold q8v
 simp only[]
 have ha:=qj s i (n:=4) (by omega)
 generalize zk s i 4=ra at *
 have hb:=qj s ra.2 (n:=4) (by omega)
 generalize zk s ra.2 4=rb at *
 generalize zk s rb.2 2=rc at *
 have hd:=qj s rc.2 (n:=4) (by omega)
 generalize zk s rc.2 4=rd at *
 have hn:∃c:UInt8,nmL ra.1=[c]∧q0n (c.toNat:Int)=true:=by
  unfold nmL
  split
  ·exact⟨112,rfl,by decide⟩
  ·split
   ·exact⟨113,rfl,by decide⟩
   ·split
    ·exact⟨114,rfl,by decide⟩
    ·exact⟨120,rfl,by decide⟩
 split
 ·exact⟨hn,rb.1,by omega,.inr ⟨rd.1,by omega,rfl⟩⟩
 ·exact⟨hn,rb.1,by omega,.inl rfl⟩
def q3f (s:By):Nat→Nat→List Hp × Nat
 | 0,i=>([],i)
 |k+1,i=>((q8v s i).1::(q3f s k (q8v s i).2).1,(q3f s k (q8v s i).2).2)
theorem hapsK_ok (s:By):∀k i,(∀h∈(q3f s k i).1,HpL h)∧(q3f s k i).1.length=k:=by
 intro k
 induction k with
 |zero=>intro i;exact⟨fun h hh=>by simp[q3f]at hh,rfl⟩
 |succ k ih =>
  intro i
  obtain⟨h1,h2⟩:=ih (q8v s i).2
  refine⟨fun h hh=>?_,by simp[q3f,h2]⟩
  simp only[q3f,List.mem_cons]at hh
  rcases hh with rfl|hh
  ·exact q8w s i
  ·exact h1 h hh
def q8b (s:By)(i:Nat):Nat × Nat:=
 let d:=zk s i 5
 let e:=zk s d.2 16
 let g:=zk s e.2 256
 if e.1=1 then(128*g.1,g.2)else(d.1,e.2)
theorem j7W (s:By)(i:Nat):(q8b s i).1<32768:=by
 unfold q8b
 simp only[]
 have hd:=qj s i (n:=5) (by omega)
 have hg:=qj s (zk s (zk s i 5).2 16).2 (n:=256) (by omega)
 split
 ·simp only[];omega
 ·simp only[];omega
structure LnK where
 stamp:Nat
 time:Nat
 haps:List Hp
def lnK (s:By)(i k:Nat)(st t:Nat):LnK × Nat:=
 let g:=q8b s i
 let n:=zk s g.2 5
 let h:=q3f s n.1 n.2
 (⟨if 0<k then(st+g.1) % 65536 else st,if 0<k then t+g.1 else t,h.1⟩,h.2)
def q8F (s:By):Nat→Nat→Nat→Nat→Nat→List LnK
 | 0,_,_,_,_=>[]
 |n+1,i,k,st,t=>(lnK s i k st t).1::q8F s n (lnK s i k st t).2 (k+1) (lnK s i k st t).1.stamp (lnK s i k st t).1.time
def q0T (s:By)(sh:Nat):List LnK:=
 let a:=zk s 0 8
 let n:=zk s a.2 13
 q8F s n.1 n.2 0 ((65530+a.1+sh) % 65536) 0
end Go.Proofs.YtiamjjonoeaggaaGreatDoor
