import Derived.Test.YtiamjjonoeaggabGreatDoorGA
import Derived.Test.YtiamjjonoeaggabGreatDoorGB
import Derived.Test.YtiamjjonoeaggabGreatDoorG01
import Derived.Test.YtiamjjonoeaggabGreatDoorG13
import Derived.Test.YtiamjjonoeaggabGreatDoorG14
import Derived.Test.YtiamjjonoeaggabGreatDoorG16
import Derived.Test.YtiamjjonoeaggabGreatDoorG28
import Derived.Deep.RegionLaw
set_option maxRecDepth 100000
set_option maxHeartbeats 16000000
namespace Go.Proofs.YtiamjjonoeaggabGreatDoor
open Go.RowKit
theorem q4N {w:World}{b b':Nat}{e:TypeId}{size:Nat}{v:Value}{n:Nat}{xs:List Value}(hb:b≤b')(h:w.ownsRow b' e size v n xs):w.ownsRow b e size v n xs:=by
 refine⟨h.1,?_⟩
 rcases h.2 with h|⟨g,cap,cur,h1,h2,h3⟩
 ·exact .inl h
 ·exact .inr ⟨g,cap,cur,h1,zM hb h2,h3⟩
theorem build0 (w:World):(Instr.buildSlice 94 0 #[]).run Tryz.prog w=.ok (.slice (some ⟨w.heap.size,0,none⟩) 0 0) (w.alloc (.cells #[] 129)):=by kernel_rfl
theorem j3u {P:Program}{ops:Array Oper}{rest:List Oper}{o:Oper}{a:Act}{W:World}{Q:Exit→Act→World→Prop}(hgd:o.guard=none)(ty:TypeId)(ho:o.op=.buildSlice ty 0 #[])
  (v:Value)(W':World)(hr:(Instr.buildSlice ty 0 #[]).run P W=.ok v W')
  (h:wpList P ops Q rest (a.put o.dst v) W'):wpList P ops Q (o::rest) a W:=by
 refine wpList_plain hgd fun _ hK=>?_
 unfold Oper.wp execOp
 simp only[ho,hr,Sem.run_bind,Sem.run_pure,Result.andThen_ok,Array.map_empty]
 exact hK _ _ h
theorem app_nil (w:World)(g:Nat)(ty:TypeId):(Builtin.append_ #[94,94] ty #[.slice (some ⟨g,0,none⟩) 0 0,.slice none 0 0]).run Tryz.prog w=.ok (.slice (some ⟨g,0,none⟩) 0 0) w:=by kernel_rfl
theorem j7X {P:Program}{ops:Array Oper}{rest:List Oper}{o:Oper}{a:Act}{W:World}{Q:Exit→Act→World→Prop}(hgd:o.guard=none)(x y:Operand)(t:TypeId)(ho:o.op=.call {callee:=.builtin .append,args:=#[x,y],argTypes:=#[t,t]})
  (vx vy v':Value)(W':World)(hx:a.eval x=vx)(hy:a.eval y=vy)(hr:(Builtin.append_ #[t,t] o.type #[vx,vy]).run P W=.ok v' W')(h:wpList P ops Q rest (a.put o.dst v') W'):wpList P ops Q (o::rest) a W:=by
 refine wpList_plain hgd fun _ hK=>?_
 unfold Oper.wp execOp
 simp only[ho,resolve,invoke,builtin,Sem.run_bind,Sem.run_pure,Result.andThen_ok,List.map_toArray,List.map_cons,List.map_nil,hx,hy,hr]
 exact hK _ _ h
theorem j3E (l:List Hp):∀u∈q0b l,u.oneCell'=true:=by
 intro u hu
 unfold q0b at hu
 rw[List.mem_flatMap]at hu
 obtain⟨h,_,hu⟩:=hu
 simp[q5N]at hu
 rcases hu with rfl|rfl|rfl|rfl|rfl|rfl|rfl|rfl|rfl|rfl|rfl<;>rfl
theorem j5N (st:Nat)(hv:Value)(l:List Hp)(w:World)(h:w.ownsRow 0 129 11 hv l.length (q0b l))(hl:l.length≤80) :
  Calls Tryz.prog 53 #[.agg #[.int .u16 st,hv]] w fun e w'=>∃hv',e=.returned (.agg #[.int .u16 st,hv'])∧w'.ownsRow w.heap.size 129 11 hv' l.length (q0b l)∧Below w.heap.size w w':=by
 have H:=zb h
 rcases h.2 with⟨rfl,hn⟩|⟨g,cap,cur,rfl,_,hg,hc1,hc2,_⟩
 ·have hl0:l=[]:=List.eq_nil_of_length_eq_zero hn
  subst hl0
  clear h hn
  go_enter Tryz.func53,Tryz.ntmps53
  go_wp2_with (first|(refine j3u rfl 94 rfl _ _ (build0 _) ?_)|(at_builtin;refine j7X rfl (.tmp 3) (.tmp 5) 94 rfl _ _ _ _ rfl rfl (app_nil _ (w.heap.size+1+1) _) ?_))
  exact zP (v:=.agg #[.int .u16 st,.slice (some ⟨w.heap.size+1+1,0,none⟩) 0 0]) (by simp[results,Tryz.results53,go_sem]) rfl ⟨_,rfl,by have:=World.ownsRow_made (base:=w.heap.size) (e:=129) (size:=11) ((w.alloc (.cells #[.int .u16 st,.slice (some ⟨w.heap.size+1+1,0,none⟩) 0 0] 96)).alloc (.cells #[.int .u16 st,.slice (some ⟨w.heap.size+1+1,0,none⟩) 0 0] 96)) #[] 0 (by simp;omega) (by decide) rfl;rw[show((w.alloc (.cells #[.int .u16 st,.slice (some ⟨w.heap.size+1+1,0,none⟩) 0 0] 96)).alloc (.cells #[.int .u16 st,.slice (some ⟨w.heap.size+1+1,0,none⟩) 0 0] 96)).heap.size=w.heap.size+1+1 by simp]at this;exact this,(((zB _ _).alloc (zL _) _).alloc (by simp) _).alloc (by simp;omega) _⟩
 ·have hlt:g<w.heap.size:=by
   rcases Nat.lt_or_ge g w.heap.size with q|q
   ·exact q
   ·rw[Array.getElem?_eq_none q]at hg;simp at hg
  have hcl:=h.1
  have hcc:∀j u,(q0b l)[j]?=some u→w.cell? ⟨g,0+j,none⟩=some u:=fun j u hj=>by
   rw[Nat.zero_add,h.cellAt j (by have:=(List.getElem?_eq_some_iff.1 hj).1;omega)]
   exact hj
  have HCL:=zb hcl
  have HCC:=zb hcc
  clear h hg hcl hcc
  obtain⟨i0,hi0,hz0,hz1,hz2⟩:=info_parts j1q
  have HOW:=zb (World.ownsRow_made (base:=w.heap.size+2) (e:=129) (size:=11) ((w.alloc (.cells #[.int .u16 st,.slice (some ⟨g,0,none⟩) l.length cap] 96)).alloc (.cells q0l 96)) #[] 0 (by simp) (by decide) rfl)
  have BW:Below w.heap.size w (((w.alloc (.cells #[.int .u16 st,.slice (some ⟨g,0,none⟩) l.length cap] 96)).alloc (.cells q0l 96)).alloc (.cells #[] 129)):=(((zB _ _).alloc (zL _) _).alloc (by simp) _).alloc (by simp;omega) _
  have HCW:Hid (∀j u,(q0b l)[j]?=some u→(((w.alloc (.cells #[.int .u16 st,.slice (some ⟨g,0,none⟩) l.length cap] 96)).alloc (.cells q0l 96)).alloc (.cells #[] 129)).cell? ⟨g,0+j,none⟩=some u):=zb (fun j u hj=>by
   rw[zK (w:=w) (BW.block g hlt)]
   exact HCC.out j u hj)
  have G0:(((w.alloc (.cells #[.int .u16 st,.slice (some ⟨g,0,none⟩) l.length cap] 96)).alloc (.cells q0l 96)).alloc (.cells #[] 129)).heap[w.heap.size]?=some (.cells #[.int .u16 st,.slice (some ⟨g,0,none⟩) l.length cap] 96 (0,0)):=by
   rw[zO _ _ (by simp;omega),zO _ _ (by simp)];exact zN _ _
  have G1:(((w.alloc (.cells #[.int .u16 st,.slice (some ⟨g,0,none⟩) l.length cap] 96)).alloc (.cells q0l 96)).alloc (.cells #[] 129)).heap[w.heap.size+1]?=some (.cells q0l 96 (0,0)):=by
   rw[zO _ _ (by simp)]
   have:=zN (w.alloc (.cells #[.int .u16 st,.slice (some ⟨g,0,none⟩) l.length cap] 96)) (.cells q0l 96)
   simpa using this
  have hsz:w.heap.size+2<(((w.alloc (.cells #[.int .u16 st,.slice (some ⟨g,0,none⟩) l.length cap] 96)).alloc (.cells q0l 96)).alloc (.cells #[] 129)).heap.size:=by simp
  have HG0:=zb G0
  have HG1:=zb G1
  have HBW:=zb BW
  have HSZ:=zb hsz
  clear G0 G1 BW hsz HCC
  have HON:=zb (j3E l)
  go_enter Tryz.func53,Tryz.ntmps53
  go_wp2_with (first|(refine j3u rfl 94 rfl _ _ (build0 _) ?_)|(at_builtin;(have hX:=HOW.out;rw[show((w.alloc (.cells #[.int .u16 st,.slice (some ⟨g,0,none⟩) l.length cap] 96)).alloc (.cells q0l 96)).heap.size=w.heap.size+1+1 by simp]at hX;refine q2P rfl (.tmp 3) (.tmp 5) 94 129 rfl Tryz.underlying94 hi0 hz0 hz1 hz2 rfl (by decide) (((w.alloc (.cells #[.int .u16 st,.slice (some ⟨g,0,none⟩) l.length cap] 96)).alloc (.cells q0l 96)).alloc (.cells #[] 129)) (w.heap.size+2) _ 0 [] (q0b l) _ rfl hX g 0 l.length cap rfl HCL.out HCW.out HON.out (by omega) (by decide) (zB _ _) (Nat.le_of_lt HSZ.out) ?_);intro v' w' hown' hbel' _;obtain⟨va',vc',rfl⟩:=q1n hown';have q0:=(hbel'.block w.heap.size (by omega)).trans HG0.out;have q1:=(hbel'.block (w.heap.size+1) (by omega)).trans HG1.out;have z0:=zC _ _ 0 _ _ _ q0;have z1:=zC _ _ 1 _ _ _ q0;have y0:=zC _ _ 0 _ _ _ q1;have y1:=zC _ _ 1 _ _ _ q1;have f0:=fun j=>zF _ _ j _ _ q0;have f1:=fun j=>zF _ _ j _ _ q1;simp only[gz]at z0 z1 y0 y1;have hs':w.heap.size+1<w'.heap.size:=(by have:=hbel'.size;have:=HSZ.out;omega);have hs0:w.heap.size<w'.heap.size:=(by omega);have HOW':=zb hown';have HB':=zb (HBW.out.trans (hbel'.mono (by omega)));clear hown' hbel' q0 q1))
  have hO:w'.ownsRow (w.heap.size+2) 129 11 (.slice va' l.length vc') l.length (q0b l):=by have:=HOW'.out;simpa using this
  have hO2:=ownsRow_setCell_below (a:=⟨w.heap.size+1,1,none⟩) (ownsRow_setCell_below (a:=⟨w.heap.size+1,0,none⟩) (ownsRow_setCell_below (a:=⟨w.heap.size,1,none⟩) hO (by simp) (.slice va' l.length vc')) (by simp) (.int .u16 st)) (by simp) (.slice va' l.length vc')
  exact zP (v:=.agg #[.int .u16 st,.slice va' l.length vc']) (by simp[results,Tryz.results53,go_sem,y0,y1]) rfl ⟨_,rfl,q4N (by omega) hO2,((HB'.out.setCell (zL _) _).setCell (by simp) _).setCell (by simp) _⟩
theorem j5e:(Tryz.prog.info? 43).map (fun i=>(i.zero,i.size,i.bytes))=some (some (.agg zCs),10,20):=by kernel_rfl
def EvRel (w:World)(nd:PNode)(lb lo:Nat)(vf vs:Value)(H:Nat→Nat→Nat→Bool)(n:Nat)(g:Nat)(vl vi:Value)(wr:World):Prop:=
 ∃k:Nat,k≤n∧n-k≤g∧vi=.int .i64 k∧wr.heap[w.heap.size]?=some (.cells (q1a nd lb lo vf vs).toArray 168 (0,0))∧wr.ownsRow (w.heap.size+1) 43 10 vl k (q1I k H)∧Below w.heap.size w wr
theorem j1i (V:Value)(nd:PNode)(hnd:j3v nd)(lb lo:Nat)(ao:OA)(cap:Nat)(PL:List PPt)(vf vs:Value)(hV:V=.agg (q1a nd lb lo vf vs).toArray)(mA mB:Nat)(A B:Nat→Nat→Nat→Bool)(hmA:mA≤PL.length)(w:World)(h:VwAt w lb lo ao cap PL vf vs mA mB A B)(hH:q6k w PL) :
  Calls Tryz.prog 73 #[V] w fun e w'=>∃v,e=.returned v∧w'.ownsRow w.heap.size 43 10 v PL.length (q1I PL.length fun i x y=>qD nd (zz PL) A B i x y)∧Below w.heap.size w w':=by
 have HV:=zb hV
 have HVW:=zb h
 have HHI:=zb hH
 have hsm:=h.log.small
 obtain⟨H,hHd⟩:∃H:Nat→Nat→Nat→Bool,H=fun i x y=>qD nd (zz PL) A B i x y:=⟨_,rfl⟩
 rw[←hHd]
 have HAT:Hid (∀i,i<PL.length→∀W,VwAt W lb lo ao cap PL vf vs mA mB A B→q6k W PL→Calls Tryz.prog 103 #[V,.int .i64 i] W fun e w'=>e=.returned (zr (zm (H i)))∧Below W.heap.size W w'):=zb (fun i hi W hW hh=>by rw[hHd];exact hol_at V nd hnd lb lo ao cap PL vf vs hV mA mB A B hmA i hi W hW hh)
 clear hV h hH hHd
 obtain⟨i0,hi0,iz0,iz1,iz2⟩:=info_parts j5e
 go_enter Tryz.func73,Tryz.ntmps73
 go_wp2_with (first|(refine qF rfl 168 (.tmp 0) rfl V _ rfl HV.out ?_;intro W0 g0 b0 z0;have HZ0:=zb z0;have HG0:=zb g0;have HB0:=zb b0;clear g0 z0 b0))
 go_loopg [3,4] PL.length (fun g vl vi wr=>EvRel w nd lb lo vf vs H PL.length g vl vi wr)
 case atStart=>exact⟨0,zZ _,by omega,rfl,HG0.out,zW _ _ _ _,HB0.out⟩
 case round =>
  obtain⟨k,hk,hg,rfl,hvw,hown,hb⟩:=hrel
  have HG:=zb hg
  have HW0:=zb hvw
  have HO:=zb hown
  have HB:=zb hb
  have c22:=(q1G hvw).1
  have hlw:=zd hvw
  have hCo:=q7H lb lo ao cap PL wr (HVW.out.log.below hb)
  have LV:=q2I hvw
  rw[←HV.out]at LV
  obtain⟨va,vc,rfl⟩:=q1n hown
  clear hg hvw hown hb
  by_cases hkn:k<PL.length
  ·have HC:=zb (HAT.out k hkn wr (HVW.out.below HB.out) (HHI.out.below HB.out))
   have HTS:=zb (q2H k H)
   generalize zm (H k)=r at *
   go_wp2_with (refine zj rfl 168 (.tmp 1) rfl ⟨w.heap.size,0,none⟩ V rfl LV ?_)
   refine hCo.mono ?_
   rintro e wr' ⟨rfl,rfl⟩
   go_wp2_with (refine zj rfl 168 (.tmp 1) rfl ⟨w.heap.size,0,none⟩ V rfl LV ?_)
   refine(HC.out).mono ?_
   rintro e w2 ⟨rfl,b2⟩
   have HO2:=zb (zp HO.out b2)
   have HV2:=zb ((b2.block _ hlw).trans HW0.out)
   have HB2:=zb (HB.out.trans (b2.mono HB.out.size))
   have hs2:w.heap.size+1≤w2.heap.size:=by have:=b2.size;omega
   clear b2 LV c22 HC hCo
   go_wp2_with (at_builtin;refine q3k rfl (.tmp 12) (.tmp 16) 137 43 rfl Tryz.underlying137 hi0 iz0 iz1 iz2 rfl (by decide) w2 (w.heap.size+1) _ _ _ (qA r) w2 rfl HO2.out (by simp[Act.eval]) rfl (by simp[Value.oneCell']) (by omega) (by decide) (zB _ _) hs2 ?_;intro v' w' hown' hbel' hne)
   have hg1:0<gk:=by have:=HG.out;omega
   go_roundg (gk-1)
   case measure=>omega
   case rel=>exact⟨k+1,by omega,by have:=HG.out;omega,by go_num,(hbel'.block _ (by omega)).trans HV2.out,by rw[HTS.out];exact hown',HB2.out.trans (hbel'.mono (by omega))⟩
  ·have hkn':k=PL.length:=by omega
   have HK:=zb hkn'
   clear hkn' LV
   go_wp2_with fail
   refine hCo.mono ?_
   rintro e wr' ⟨rfl,rfl⟩
   go_wp2_with fail
   go_ret
   exact⟨_,rfl,by rw[←HK.out];exact q4N (by omega) HO.out,HB.out⟩
def q0P (ao:OA):List Nat:=match ao with
 |some a=>[a.block]
 |none=>[]
def q7S (L:List LPt)(st:Nat):Nat:=if L.length=0 then 0 else q0G L 0 (L.length-1)+toR L st
theorem info_pt:(Tryz.prog.info? 136).map (fun i=>(i.zero,i.size,i.bytes))=some (some (.agg #[.int .u16 0,.slice none 0 0,.int .i64 0]),3,40):=by kernel_rfl
theorem j4a (b o:Nat)(ao:OA)(cap:Nat)(PL:List PPt)(w:World)(h:LogAt w b o ao cap PL) :
  Calls Tryz.prog 52 #[.pointer (some ⟨b,o,none⟩),.int .i64 0,.int .i64 ((PL.length:Int)-1)] w fun e w'=>e=.returned (.int .i64 (if PL.length=0 then 0 else q0G (zz PL) 0 (PL.length-1):Nat))∧Below w.heap.size w w':=by
 by_cases hn:PL.length=0
 ·rw[if_pos hn]
  exact j1K b o ao cap PL _ hn w h
 ·rw[if_neg hn]
  have:=q7e b o ao cap PL 0 (PL.length-1) (by omega) (by omega) w h
  rwa [show((PL.length-1:Nat):Int)=(PL.length:Int)-1 by omega]at this
theorem q8v {w:World}{b base size n:Nat}{cs:Array Value}{t e:TypeId}{v:Value}{xs:List Value}(h:w.heap[b]?=some (.cells cs t (0,0)))(ho:w.ownsRow base e size v n xs)(ht:t≠e):some b≠v.ownBlock:=by
 rcases ho.2 with⟨rfl,_⟩|⟨g,cap,cur,rfl,_,hg,_⟩
 ·simp[Value.ownBlock]
 ·intro hb
  simp only[Value.ownBlock,Option.some.injEq]at hb
  subst hb
  rw[h]at hg
  simp at hg
  exact ht hg.2
theorem news3_at (W:World)(e:TypeId)(x y z:Value):∀j u,[x,y,z][j]?=some u→(W.alloc (.cells #[x,y,z] e)).cell? ((⟨W.heap.size,0,none⟩:Addr).add j)=some u:=by
 intro j u hj
 rw[q4x,Nat.zero_add,zC _ _ j _ _ _ (zN W _)]
 simpa using hj
theorem add_time (PL:List PPt)(st:Nat):q7S (zz PL) st=(if PL.length=0 then 0 else q0G (zz PL) 0 (PL.length-1))+toR (zz PL) st:=by
 unfold q7S
 rw[List.length_map]
 by_cases h:PL.length=0
 ·rw[if_pos h,if_pos h]
  have:PL=[]:=List.eq_nil_of_length_eq_zero h
  rw[this]
  rfl
 ·rw[if_neg h,if_neg h]
theorem q2q {w:World}{b o base size n:Nat}{cs:Array Value}{t e:TypeId}{v:Value}{xs:List Value}(ho:w.ownsRow base e size v n xs)(h:w.heap[b]?=some (.cells cs t (0,0)))(ht:t≠e)(u:Value):(w.setCell ⟨b,o,none⟩ u).ownsRow base e size v n xs:=by
 refine⟨ho.1,?_⟩
 rcases ho.2 with h'|⟨g,cap,cur,h1,h2,h3,h4⟩
 ·exact .inl h'
 ·refine .inr ⟨g,cap,cur,h1,h2,?_,h4⟩
  rw[Below.heap_setCell _ _ _ _ (by intro e';simp at e';subst e';rw[h]at h3;simp at h3;exact ht h3.2)]
  exact h3
theorem add_post {w W0 w2 w5 w6:World}{b o:Nat}{ao:OA}{cap:Nat}{PL:List PPt}{cs:Array Value}{t:TypeId}{st T:Nat}{l:List Hp}{hv5:Value}{ob:Obj}{g6 cap6:Nat}{vt:Int}(hst:st≤65535)(hn:PL.length<40)
  (htm:∀(i:Nat) (hi:i<PL.length),(PL[i]).1.time≤32768*i∧(PL[i]).1.stamp≤65535)(hT:T≤32768*PL.length)(hvt:vt=(T:Int))(hlb:b<w.heap.size)(ht:t≠136)(hth:t≠129)
  (B0:Below w.heap.size w W0)(B02:Below W0.heap.size W0 w2)(M2:w2.heap[b]?=some (.cells cs t (0,0)))(hown:w2.ownsRow 0 136 3 (.slice ao PL.length cap) PL.length (q2A PL))
  (b5:Below w2.drew.heap.size w2.drew w5)(hO5:w5.ownsRow w2.drew.heap.size 129 11 hv5 l.length (q0b l))(hgrow6:(w5.alloc ob).grownBy w6 (Value.slice ao PL.length cap).ownBlock)
  (hown6:w6.ownsRow 0 136 3 (.slice (some ⟨g6,0,none⟩) (PL.length+1) cap6) (PL.length+1) (q2A PL++[.int .u16 st,hv5,.int .i64 vt])){ov:Value}(c6:w6.cell? ⟨b,o,none⟩=some ov) :
  LogAt (w6.setCell ⟨b,o,none⟩ (.slice (some ⟨g6,0,none⟩) (PL.length+1) cap6)) b o (some ⟨g6,0,none⟩) cap6 (PL++[(⟨st,T,l⟩,hv5)])∧(w6.setCell ⟨b,o,none⟩ (.slice (some ⟨g6,0,none⟩) (PL.length+1) cap6)).ownsRow w.heap.size 129 11 hv5 l.length (q0b l)∧(w6.setCell ⟨b,o,none⟩ (.slice (some ⟨g6,0,none⟩) (PL.length+1) cap6)).heap[b]?=some (.cells (cs.setIfInBounds o (.slice (some ⟨g6,0,none⟩) (PL.length+1) cap6)) t (0,0))∧OnlyB (b::q0P ao) w (w6.setCell ⟨b,o,none⟩ (.slice (some ⟨g6,0,none⟩) (PL.length+1) cap6)):=by
 have z1:=B0.size
 have z2:=B02.size
 have z5:w2.heap.size≤w5.heap.size:=b5.size
 have z6:=hgrow6.size
 simp at z6
 have hb2:b<w2.heap.size:=by omega
 have hb6:w6.heap[b]?=some (.cells cs t (0,0)):=by
  rw[hgrow6.block b (by simp;omega) (q8v M2 hown ht),zO _ _ (by omega),b5.block b hb2]
  exact M2
 have e1:(PL++[((⟨st,T,l⟩:LPt),hv5)]).length=PL.length+1:=by simp
 have hrow:w6.ownsRow 0 136 3 (.slice (some ⟨g6,0,none⟩) (PL.length+1) cap6) (PL.length+1) (q2A (PL++[(⟨st,T,l⟩,hv5)])):=by
  rw[hvt]at hown6
  have e2:q2A (PL++[((⟨st,T,l⟩:LPt),hv5)])=q2A PL++[.int .u16 st,hv5,.int .i64 T]:=by simp[q2A]
  rw[e2]
  exact hown6
 have hO6:w6.ownsRow w2.drew.heap.size 129 11 hv5 l.length (q0b l):=by
  refine(hO5.alloc ob).kept hgrow6 ?_
  cases hx:hv5.ownBlock with
  |none=>exact .inl rfl
  |some k =>
   right
   intro e
   rw[←e]at hgrow6
   have h5:=(hO5.lt k hx).1
   have h2:k<w2.heap.size:=(hown.lt k e.symm).2
   have h5':w2.heap.size≤k:=h5
   omega
 refine⟨⟨?_,?_,?_,?_,?_⟩,?_,?_,?_⟩
 ·rw[e1];exact zS w6 _ _ c6
 ·simp;omega
 ·rw[e1];exact q2q hrow hb6 ht _
 ·rw[e1];omega
 ·intro i hi
  rw[e1]at hi
  by_cases h:i<PL.length
  ·rw[List.getElem_append_left h];exact htm i h
  ·have:i=PL.length:=by omega
   subst this
   simp
   exact⟨hT,hst⟩
 ·exact q4N (by show w.heap.size≤w2.heap.size;omega) (q2q hO6 hb6 hth _)
 ·exact zH w6 b o cs t _ hb6
 ·refine⟨(hgrow6.os.trans b5.os).trans (B02.os.trans B0.os),(hgrow6.tape.trans b5.tape).trans (B02.tape.trans B0.tape),(hgrow6.output.trans b5.output).trans (B02.output.trans B0.output),by simp;omega,fun k hk hnm=>?_⟩
  have hkb:k≠b:=fun e=>hnm (by rw[e];exact List.mem_cons_self)
  rw[Below.heap_setCell _ _ _ _ (by simpa using hkb),hgrow6.block k (by simp;omega) ?_,zO _ _ (by omega),b5.block k (show k<w2.heap.size by omega)]
  ·show w2.heap[k]?=_
   rw[B02.block k (by omega),B0.block k hk]
  ·intro e
   apply hnm
   cases ao with
   |none=>simp[Value.ownBlock]at e
   |some a =>
    simp only[Value.ownBlock,Option.some.injEq]at e
    subst e
    simp[q0P]
theorem j5L (st:Nat)(hst:st≤65535)(hv:Value)(l:List Hp)(b o:Nat)(ao:OA)(cap:Nat)(PL:List PPt)(w:World)(h:LogAt w b o ao cap PL)(cs:Array Value)(t:TypeId)(hm:w.heap[b]?=some (.cells cs t (0,0)))(ht:t≠136)(hth:t≠129)
  (hl:w.ownsRow 0 129 11 hv l.length (q0b l))(hl80:l.length≤80)(hstep:toR (zz PL) st<32768)(hn:PL.length<40) :
  Calls Tryz.prog 33 #[.pointer (some ⟨b,o,none⟩),.agg #[.int .u16 st,hv]] w fun e w'=>e=.returned (.int .i64 0)∧∃g' cap' hv',LogAt w' b o (some ⟨g',0,none⟩) cap' (PL++[(⟨st,q7S (zz PL) st,l⟩,hv')])∧w'.ownsRow w.heap.size 129 11 hv' l.length (q0b l)∧w'.heap[b]?=some (.cells (cs.setIfInBounds o (.slice (some ⟨g',0,none⟩) (PL.length+1) cap')) t (0,0))∧OnlyB (b::q0P ao) w w'∧(g'∈q0P ao∨w.heap.size≤g'):=by
 obtain⟨va,vc,rfl⟩:=q1n hl
 have B0:Below w.heap.size w (w.alloc (.cells #[.int .u16 st,.slice va l.length vc] 96)):=(zB _ _).alloc (zL _) _
 have H0:=zb (h.below B0)
 have HL0:=zb (zp hl B0)
 have HB0:=zb B0
 have HT1:=zb (fun W hW=>j1L b o ao cap PL st hst W hW)
 have HT2:=zb (fun W hW=>j4a b o ao cap PL W hW)
 have hsm:=h.small
 have htimes:=h.times
 have HTM:=zb h.times
 have G0:=zN w (.cells #[.int .u16 st,.slice va l.length vc] 96)
 have s0:(w.alloc (.cells #[.int .u16 st,.slice va l.length vc] 96)).heap.size=w.heap.size+1:=by simp
 have HG0:=zb G0
 have hlb:=h.lt
 have HM:Hid ((w.alloc (.cells #[.int .u16 st,.slice va l.length vc] 96)).heap[b]?=some (.cells cs t (0,0))):=zb (by rw[zO _ _ h.lt];exact hm)
 have HS0:=zb s0
 clear h hl B0 G0 hm s0
 have HAT:Hid (q7S (zz PL) st=(if PL.length=0 then 0 else q0G (zz PL) 0 (PL.length-1))+toR (zz PL) st):=zb (add_time PL st)
 have HZR:Hid (PL.length=0→toR (zz PL) st=0):=zb (fun h=>by
  have:PL=[]:=List.eq_nil_of_length_eq_zero h
  rw[this]
  rfl)
 generalize q7S (zz PL) st=T at *
 generalize toR (zz PL) st=step at *
 obtain⟨z,hz⟩:∃z:Int,z=(step:Int):=⟨_,rfl⟩
 rw[←hz]at HT1
 have hz0:0≤z:=by omega
 have hz1:z<32768:=by omega
 have HZS:=zb hz
 have HSTEP:=zb hstep
 clear hstep hz
 have hwh:(if PL.length=0 then 0 else q0G (zz PL) 0 (PL.length-1):Nat)≤32768*(PL.length-1):=by
  split
  ·omega
  ·unfold q0G
   rw[j4g (show 0<PL.length by omega),j4g (show PL.length-1<PL.length by omega)]
   have a1:=(htimes 0 (by omega)).1
   have a2:=(htimes (PL.length-1) (by omega)).1
   omega
 generalize (if PL.length=0 then 0 else q0G (zz PL) 0 (PL.length-1):Nat)=wh at *
 obtain⟨whole,hw⟩:∃z:Int,z=(wh:Int):=⟨_,rfl⟩
 rw[←hw]at HT2
 have hw0:0≤whole:=by omega
 have hw1:whole≤2000000:=by omega
 have HWH:=zb hw
 have HWB:=zb hwh
 clear hw hwh
 go_enter Tryz.func33,Tryz.ntmps33
 go_wp2_with fail
 generalize w.alloc (.cells #[.int .u16 st,.slice va l.length vc] 96)=W0 at *
 refine(HT1.out _ H0.out).mono ?_
 rintro e w1 ⟨rfl,b1⟩
 have h1:=H0.out.below b1
 have c1:=h1.cell
 have hlt1:=h1.lt
 have H1:=zb h1
 have HB1:=zb b1
 have HTT:=zb ht
 have HST:=zb hst
 clear b1 h1 HT1 ht hst
 go_wp2_with fail
 refine(HT2.out _ H1.out).mono ?_
 rintro e w2 ⟨rfl,b2⟩
 have b02:Below W0.heap.size W0 w2:=HB1.out.trans (b2.mono HB1.out.size)
 have h2:=H0.out.below b02
 have c2:=h2.cell
 have hlt2:=h2.lt
 have hL2:=zp HL0.out b02
 have G2:=(b02.block w.heap.size (by have:=HS0.out;omega)).trans HG0.out
 have z0:=zC _ _ 0 _ _ _ G2
 have z1:=zC _ _ 1 _ _ _ G2
 simp only[gz]at z0 z1
 have hlz:w.heap.size<w2.heap.size:=by have:=b02.size;have:=HS0.out;omega
 have HC:=zb (fun W (hW:W.ownsRow 0 129 11 (.slice va l.length vc) l.length (q0b l))=>j5N st (.slice va l.length vc) l W hW hl80)
 have H2:=zb h2
 have HL2:=zb hL2
 have HB02:=zb b02
 obtain⟨i0,hi0,iz0,iz1,iz2⟩:=info_parts info_pt
 clear b2 b02 h2 hL2 G2 H1 HB1 HT2 c1 hlt1
 go_wp2_with fail
 clear htimes
 have HOWN:=zb H2.out.row
 have M2:w2.heap[b]?=some (.cells cs t (0,0)):=(HB02.out.block b (by have:=HS0.out;omega)).trans HM.out
 have G2:w2.heap[w.heap.size]?=some (.cells #[.int .u16 st,.slice va l.length vc] 96 (0,0)):=(HB02.out.block w.heap.size (by have:=HS0.out;omega)).trans HG0.out
 have fz:=zF _ _ o _ _ M2
 have KEEP5:Hid (∀w5,Below w2.drew.heap.size w2.drew w5→w5.cell? ⟨b,o,none⟩=some (.slice ao PL.length cap)∧w5.cell? ⟨w.heap.size,0,none⟩=some (.int .u16 st)∧w5.cell? ⟨w.heap.size,1,none⟩=some (.slice va l.length vc)):=zb (fun w5 b5=>⟨by rw[zK (b5.block b hlt2)];exact c2,by rw[zK (b5.block w.heap.size hlz)];exact z0,by rw[zK (b5.block w.heap.size hlz)];exact z1⟩)
 have KEEP6:Hid (∀w5 w6 ob,Below w2.drew.heap.size w2.drew w5→(w5.alloc ob).grownBy w6 (Value.slice ao PL.length cap).ownBlock→w6.heap[b]?=w2.heap[b]?∧w6.heap[w.heap.size]?=w2.heap[w.heap.size]?):=zb (fun w5 w6 ob b5 hg=>by
  have ha:=q8v M2 HOWN.out HTT.out
  have hb:=q8v G2 HOWN.out (by decide)
  refine⟨?_,?_⟩
  ·rw[hg.block b (by have:=b5.size;simp;exact Nat.lt_succ_of_lt (zT hlt2 this)) ha,zO _ _ (zT hlt2 b5.size)]
   exact b5.block b hlt2
  ·rw[hg.block w.heap.size (by have:=b5.size;simp;exact Nat.lt_succ_of_lt (zT hlz this)) hb,zO _ _ (zT hlz b5.size)]
   exact b5.block w.heap.size hlz)
 have HM2:=zb M2
 clear M2 G2
 go_region_law ((first|(refine j2d (by rfl) (.tmp 33) (.tmp 38) 89 (by rfl) 0 136 Tryz.underlying89 hi0 iz0 iz1 iz2 rfl (by decide) (.slice ao PL.length cap) PL.length (q2A PL) (by rfl) ((zp HOWN.out.drew b5).alloc _) ⟨w5.heap.size,0,none⟩ 1 1 [.int .u16 st,.slice va5 l.length vc5,.int .i64 (whole+z)] (by rfl) rfl (news3_at w5 _ _ _ _) (by simp[Value.oneCell']) (by unfold maxLen;omega) (by omega) (zZ _) (by decide) ?_;intro v6 w6 hown6 hgrow6 hwh6;obtain⟨g6,cap6,rfl⟩:=zJ hown6 (by omega);have fz6:=(World.frozen?_of_block (a:=⟨b,o,none⟩) (KEEP6.out _ _ _ b5 hgrow6).1).trans fz;have c6:=(zK (a:=⟨b,o,none⟩) (KEEP6.out _ _ _ b5 hgrow6).1).trans c2)|(rw[if_pos (by rfl)];go_simp;go_at_call 53;refine(HC.out _ HL2.out.drew).mono ?_;rintro e w5 ⟨hv',rfl,hO5,b5⟩;obtain⟨va5,vc5,rfl⟩:=q1n hO5;have c5:=(KEEP5.out _ b5).1;have hl5:=zT hlt2 b5.size)))
 all_goals
  have P:=add_post (T:=T) HST.out hn HTM.out (by have:=HAT.out;have:=HWB.out;have:=HSTEP.out;have h0:=HZR.out;by_cases e:PL.length=0;exact(by have:=h0 e;omega);omega) (by have:=HAT.out;have:=HWH.out;have:=HZS.out;omega) hlb HTT.out hth HB0.out HB02.out HM2.out HOWN.out b5 hO5 hgrow6 hown6 c6
  have HP:=zb P
  have WH:Hid (g6∈q0P ao∨w.heap.size≤g6):=zb (by
   have z5:=b5.size
   have z2:=HB02.out.size
   have z0:=HS0.out
   rcases hwh6 with h6|h6
   ·left
    cases ao with
    |none=>simp[Value.ownBlock]at h6
    |some a0=>simp only[Value.ownBlock,Option.some.injEq]at h6;simp[q0P,h6]
   ·right
    simp only[Value.ownBlock,Option.some.injEq]at h6
    have e5:(w5.alloc (.cells #[.int .u16 st,.slice va5 l.length vc5,.int .i64 (whole+z)] 136)).heap.size=w5.heap.size+1:=by simp
    have z2':w2.drew.heap.size=w2.heap.size:=rfl
    omega)
  clear P hwh6 b5 hO5 hgrow6 hown6 c6 fz6 c5
  generalize w6.setCell ⟨b,o,none⟩ (.slice (some ⟨g6,0,none⟩) (PL.length+1) cap6)=w7 at *
  go_wp2_with fail
  go_ret
  obtain⟨P1,P2,P3,P4⟩:=HP.out
  exact⟨rfl,g6,cap6,_,P1,P2,P3,P4,WH.out⟩
theorem j7E (st:Nat)(hst:st≤65535)(va:OA)(vn vc:Nat)(b o:Nat)(ao:OA)(cap:Nat)(PL:List PPt)(w:World)(h:LogAt w b o ao cap PL)(hno:¬(toR (zz PL) st<32768∧PL.length<40)) :
  Calls Tryz.prog 33 #[.pointer (some ⟨b,o,none⟩),.agg #[.int .u16 st,.slice va vn vc]] w fun e w'=>e=.returned (.int .i64 (if 32768≤toR (zz PL) st then 7 else 8))∧Below w.heap.size w w':=by
 have B0:Below w.heap.size w (w.alloc (.cells #[.int .u16 st,.slice va vn vc] 96)):=(zB _ _).alloc (zL _) _
 have H0:=zb (h.below B0)
 have HB0:=zb B0
 have HT1:=zb (fun W hW=>j1L b o ao cap PL st hst W hW)
 have hsm:=h.small
 have hsz:w.heap.size≤(w.alloc (.cells #[.int .u16 st,.slice va vn vc] 96)).heap.size:=by simp
 have HSZ:=zb hsz
 clear h B0 hsz
 generalize toR (zz PL) st=step at *
 obtain⟨z,hz⟩:∃z:Int,z=(step:Int):=⟨_,rfl⟩
 rw[←hz]at HT1
 by_cases hs:32768≤step
 ·rw[if_pos hs]
  have hz1:32768≤z:=by omega
  clear hz hs hno
  go_enter Tryz.func33,Tryz.ntmps33
  go_wp2_with fail
  generalize w.alloc (.cells #[.int .u16 st,.slice va vn vc] 96)=W0 at *
  refine(HT1.out _ H0.out).mono ?_
  rintro e w1 ⟨rfl,b1⟩
  have HB1:Hid (Below w.heap.size w w1):=zb (HB0.out.trans (b1.mono HSZ.out))
  clear b1 HT1
  go_wp2_with fail
  go_ret
  exact⟨rfl,HB1.out⟩
 ·rw[if_neg hs]
  have hz1:z<32768:=by omega
  have hz0:0≤z:=by omega
  have hn:40≤PL.length:=by omega
  clear hz hs hno
  go_enter Tryz.func33,Tryz.ntmps33
  go_wp2_with fail
  generalize w.alloc (.cells #[.int .u16 st,.slice va vn vc] 96)=W0 at *
  refine(HT1.out _ H0.out).mono ?_
  rintro e w1 ⟨rfl,b1⟩
  have HB1:Hid (Below w.heap.size w w1):=zb (HB0.out.trans (b1.mono HSZ.out))
  have h1:=H0.out.below b1
  have c1:=h1.cell
  have hlt1:=h1.lt
  clear b1 h1 HT1
  go_wp2_with fail
  go_ret
  exact⟨rfl,HB1.out⟩
structure LogOk (L:List LPt):Prop where
 mono:Mono L
 zero:tmL L 0=0
theorem LogOk.nil:LogOk []:=⟨fun i j _ h=>absurd h (by simp),rfl⟩
theorem j8b {L:List LPt}(h:LogOk L)(st:Nat)(hn:0<L.length):q7S L st=tmL L (L.length-1)+toR L st:=by
 unfold q7S
 rw[if_neg (by omega)]
 unfold q0G
 rw[h.zero]
 omega
theorem j4h (L:List LPt)(p:LPt):tmL (L++[p]) L.length=p.time:=by
 unfold tmL
 rw[List.getElem?_append_right (zL _),Nat.sub_self]
 rfl
theorem LogOk.add {L:List LPt}(h:LogOk L)(st:Nat)(l:List Hp):LogOk (L++[⟨st,q7S L st,l⟩]):=by
 constructor
 ·intro i j hij hj
  simp only[List.length_append,List.length_cons,List.length_nil]at hj
  rcases Nat.lt_or_ge j L.length with g|g
  ·rw[q3D g,q3D (Nat.lt_of_le_of_lt hij g)]
   exact h.mono i j hij g
  ·have e:j=L.length:=by omega
   subst e
   rw[j4h]
   rcases Nat.lt_or_ge i L.length with gi|gi
   ·rw[q3D gi,j8b h st (by omega)]
    have:=h.mono i (L.length-1) (by omega) (by omega)
    show tmL L i≤tmL L (L.length-1)+toR L st
    omega
   ·have e:i=L.length:=by omega
    subst e
    rw[j4h]
    exact zL _
 ·by_cases hn:L.length=0
  ·have:L=[]:=List.length_eq_zero_iff.1 hn
   subst this
   rfl
  ·rw[q3D (by omega)]
   exact h.zero
theorem j7L (L:List LPt)(rc:Int):∀f c,c≤L.length→L.length≤c+f→c≤q4e L rc f c∧q4e L rc f c≤L.length∧(∀k,c≤k→k<q4e L rc f c→rc<(q0G L k (L.length-1):Int))∧(q4e L rc f c<L.length→¬rc<(q0G L (q4e L rc f c) (L.length-1):Int)):=by
 intro f
 induction f with
 |zero=>intro c h1 h2;exact⟨zL _,h1,fun k k1 k2=>absurd k2 (by simp[q4e];omega),fun h=>absurd h (by simp[q4e];omega)⟩
 |succ f ih =>
  intro c h1 h2
  rw[q4e]
  by_cases hc:c+1≤L.length∧rc<(q0G L c (L.length-1):Int)
  ·rw[if_pos hc]
   obtain⟨a1,a2,a3,a4⟩:=ih (c+1) hc.1 (by omega)
   refine⟨by omega,a2,fun k k1 k2=>?_,a4⟩
   by_cases e:k=c
   ·rw[e];exact hc.2
   ·exact a3 k (by omega) k2
  ·rw[if_neg hc]
   exact⟨zL _,h1,fun k k1 k2=>absurd k2 (by omega),fun h h'=>hc ⟨by omega,h'⟩⟩
theorem j8X {L:List LPt}(hM:Mono L){a c:Nat}(h:a≤c)(hc:c<L.length):q0G L c (L.length-1)≤q0G L a (L.length-1):=by
 have h1:=hM a c h hc
 have h2:=hM c (L.length-1) (by omega) (by omega)
 unfold q0G
 omega
theorem sett_iff {L:List LPt}(hM:Mono L)(rc:Int){c:Nat}(hc:c<L.length):rc<(q0G L c (L.length-1):Int)↔c<qp L rc:=by
 obtain⟨_,a2,a3,a4⟩:=j7L L rc L.length 0 (zZ _) (by omega)
 constructor
 ·intro h
  rcases Nat.lt_or_ge c (qp L rc)with g|g
  ·exact g
  ·have hs:qp L rc<L.length:=by omega
   have:=j8X hM g hc
   exact absurd (show rc<(q0G L (qp L rc) (L.length-1):Int)by omega) (a4 hs)
 ·intro h
  exact a3 c (zZ _) h
theorem q9m {L:List LPt}(hM:Mono L)(rc:Int){c:Nat}(hc:c<L.length):rc<(tmL L (L.length-1):Int)-(tmL L c:Int)↔c<qp L rc:=by
 rw[←sett_iff hM rc hc]
 have h2:=hM c (L.length-1) (by omega) (by omega)
 unfold q0G
 omega
end Go.Proofs.YtiamjjonoeaggabGreatDoor
