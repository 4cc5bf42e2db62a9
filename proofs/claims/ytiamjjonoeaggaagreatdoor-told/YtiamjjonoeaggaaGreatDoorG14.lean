import Derived.Test.YtiamjjonoeaggaaGreatDoorGA
import Derived.Test.YtiamjjonoeaggaaGreatDoorG10
import Derived.Test.YtiamjjonoeaggaaGreatDoorG11
import Derived.Test.YtiamjjonoeaggaaGreatDoorG13
import Derived.Deep.RegionHeld3
import Derived.Laws.StructEq
import Derived.ChangeKeysEq
set_option maxRecDepth 100000
set_option maxHeartbeats 16000000
namespace Go.Proofs.YtiamjjonoeaggaaGreatDoor
open Go.RowKit
theorem q8R (b o:Nat)(ao:OA)(cap:Nat)(PL:List PPt)(i:Nat)(j:Int)(hi:i<PL.length)(hj:j<0∨(PL.length:Int)≤j)(w:World)(h:LogAt w b o ao cap PL) :
  Calls Tryz.prog 57 #[.pointer (some ⟨b,o,none⟩),.int .i64 i,.int .i64 j] w fun e w'=>e=.returned (.int .i64 0)∧Below w.heap.size w w':=by
 have HI:=zb (fun W (h:LogAt W b o ao cap PL)=>q7s b o ao cap PL i W h)
 have HJ:=zb (fun W (h:LogAt W b o ao cap PL)=>q7s b o ao cap PL j W h)
 rw[q8x hi]at HI
 rw[j7Z hj]at HJ
 have H:=zb h
 clear h
 go_enter Tryz.func57,Tryz.ntmps57
 go_wp2_with fail
 refine(HI.out _ H.out).mono ?_
 rintro e w1 ⟨rfl,b1⟩
 have HB1:=zb b1
 have H1:=zb (H.out.below b1)
 clear b1
 go_wp2_with fail
 refine(HJ.out _ H1.out).mono ?_
 rintro e w2 ⟨rfl,b2⟩
 have HB2:Hid (Below w.heap.size w w2):=zb (HB1.out.trans (b2.mono HB1.out.size))
 clear b2
 go_wp2_with fail
 go_ret
 exact⟨rfl,HB2.out⟩
theorem j1s (b o:Nat)(ao:OA)(cap:Nat)(PL:List PPt)(j:Int)(hn:PL.length=0)(w:World)(h:LogAt w b o ao cap PL) :
  Calls Tryz.prog 57 #[.pointer (some ⟨b,o,none⟩),.int .i64 0,.int .i64 j] w fun e w'=>e=.returned (.int .i64 0)∧Below w.heap.size w w':=by
 have HI:=zb (fun W (h:LogAt W b o ao cap PL)=>q7s b o ao cap PL 0 W h)
 rw[j7Z (by omega)]at HI
 have H:=zb h
 clear h hn
 go_enter Tryz.func57,Tryz.ntmps57
 go_wp2_with fail
 refine(HI.out _ H.out).mono ?_
 rintro e w1 ⟨rfl,b1⟩
 go_wp2_with fail
 go_ret
 exact⟨rfl,b1⟩
theorem pts_At (b o:Nat)(ao:OA)(cap:Nat)(PL:List PPt)(i:Nat)(hi:i<PL.length)(w:World)(h:LogAt w b o ao cap PL)(ha:∀p∈PL,∃va vn vc,p.2=.slice va vn vc) :
  Calls Tryz.prog 60 #[.pointer (some ⟨b,o,none⟩),.int .i64 i] w fun e w'=>e=.returned (.agg #[.int .u16 (PL[i]).1.stamp,(PL[i]).2])∧Below w.heap.size w w':=by
 have HI:=zb (fun W (h:LogAt W b o ao cap PL)=>q7s b o ao cap PL i W h)
 rw[q8x hi]at HI
 obtain⟨va,vn,vc,ev⟩:=ha _ (List.getElem_mem hi)
 obtain⟨st,hst⟩:∃st,st=(PL[i]).1.stamp:=⟨_,rfl⟩
 rw[ev,←hst]
 have EV:=zb ev
 have EST:=zb hst
 clear ev hst
 have hsm:=h.small
 have B0:Below w.heap.size w (w.alloc (.cells q0i 92)):=(zB _ _).alloc (zL _) _
 have H:=zb (h.below B0)
 have HB0:=zb B0
 clear h B0
 go_enter Tryz.func60,Tryz.ntmps60
 go_wp2_with fail
 have HZ0:=zb (zN w (.cells q0i 92))
 have s0:(w.alloc (.cells q0i 92)).heap.size=w.heap.size+1:=by simp
 generalize w.alloc (.cells q0i 92)=W0 at *
 refine(HI.out _ H.out).mono ?_
 rintro e w1 ⟨rfl,b1⟩
 have h1:=H.out.below b1
 have c0:=h1.cell
 have hlt:=h1.lt
 obtain⟨g,rfl,hg,k1,k2,cs,ch,_⟩:=h1.at' hi
 unfold maxLen at k2
 rw[EV.out]at ch
 rw[←EST.out]at cs
 have Z2:=(b1.block w.heap.size (by omega)).trans HZ0.out
 have z0:=zC _ _ 0 _ _ _ Z2
 have z1:=zC _ _ 1 _ _ _ Z2
 have y0:=fun j=>zF _ _ j _ _ Z2
 simp only[gz]at z0 z1
 have hlz:w.heap.size<w1.heap.size:=by have:=b1.size;omega
 have HB1:Hid (Below w.heap.size w w1):=zb (HB0.out.trans (b1.mono (by omega)))
 clear b1 h1 H HI HB0 HZ0 Z2 EV EST s0
 go_wp2_with fail
 exact zP (v:=.agg #[.int .u16 st,.slice va vn vc]) (by simp[results,Tryz.results60,go_sem,z0,z1]) rfl ⟨rfl,(HB1.out.setCell (zL _) _).setCell (zL _) _⟩
def toR (L:List LPt)(st:Nat):Nat:=match L[L.length-1]? with
 |some p=>(st+65536-p.stamp) % 65536
 |none=>0
theorem j1t (b o:Nat)(ao:OA)(cap:Nat)(PL:List PPt)(st:Nat)(hst:st≤65535)(w:World)(h:LogAt w b o ao cap PL) :
  Calls Tryz.prog 56 #[.pointer (some ⟨b,o,none⟩),.int .u16 st] w fun e w'=>e=.returned (.int .i64 (toR (zA PL) st))∧Below w.heap.size w w':=by
 have c0:=h.cell
 have hlt:=h.lt
 have hsm:=h.small
 by_cases hn:PL.length=0
 ·have e:toR (zA PL) st=0:=by
   have:PL=[]:=List.eq_nil_of_length_eq_zero hn
   rw[this];rfl
  rw[e]
  rw[hn]at c0
  clear h e hn hsm
  go_enter Tryz.func56,Tryz.ntmps56
  go_wp2_with fail
  go_ret
  exact⟨rfl,zB _ _⟩
 ·have hi:PL.length-1<PL.length:=by omega
  have e:toR (zA PL) st=(st+65536-(PL[PL.length-1]).1.stamp) % 65536:=by
   unfold toR
   simp only[zA,List.length_map,List.getElem?_map,zG hi,Option.map_some]
  have hs2:=(h.bnd hi).2
  obtain⟨g,rfl,hg,k1,k2,cs,c8,c9⟩:=h.at' hi
  clear c8 c9
  have HE:Hid ((toR (zA PL) st:Int)=((st:Int)-(PL[PL.length-1]).1.stamp+65536) % 65536):=zb (by rw[e];omega)
  generalize toR (zA PL) st=d at *
  generalize (PL[PL.length-1]).1.stamp=x at *
  unfold maxLen at k2
  clear h e
  generalize PL.length=n at *
  obtain⟨m,rfl⟩:∃m,n=m+1:=⟨n-1,by omega⟩
  rw[show m+1-1=m from rfl]at cs
  clear hn hi
  go_enter Tryz.func56,Tryz.ntmps56
  go_wp2_with fail
  try go_region
  try go_wp2_with fail
  go_ret
  exact⟨q1m HE.out.symm,by first|exact zB _ _|exact(zB _ _).drew⟩
def SeRel (w:World)(n R:Nat)(S:Nat→Nat→Nat)(g:Nat)(vc:Value)(wr:World):Prop:=∃c f:Nat,c+f=n∧f≤g∧vc=.int .i64 c∧S f c=R∧Below w.heap.size w wr
theorem j5B (b o:Nat)(ao:OA)(cap:Nat)(PL:List PPt)(rc:Int)(w:World)(h:LogAt w b o ao cap PL) :
  Calls Tryz.prog 40 #[.pointer (some ⟨b,o,none⟩),.int .i64 rc] w fun e w'=>e=.returned (.int .i64 (q0u (zA PL) rc))∧Below w.heap.size w w':=by
 have H:=zb h
 have hsm:=h.small
 have c0:=h.cell
 have hlt:=h.lt
 obtain⟨R,hR⟩:∃R,R=q0u (zA PL) rc:=⟨_,rfl⟩
 rw[←hR]
 have HR:Hid (q3S (zA PL) rc PL.length 0=R):=zb (by rw[hR];unfold q0u;rw[List.length_map])
 have HS:Hid (∀f c,q3S (zA PL) rc (f+1) c=if c+1≤PL.length∧rc<(q0C (zA PL) c (PL.length-1):Int)then q3S (zA PL) rc f (c+1)else c):=zb (fun f c=>by rw[q3S,List.length_map])
 have HT:Hid (∀c,c<PL.length→∀W,LogAt W b o ao cap PL→Calls Tryz.prog 57 #[.pointer (some ⟨b,o,none⟩),.int .i64 (c:Nat),.int .i64 ((PL.length:Int)-1)] W fun e w'=>e=.returned (.int .i64 (q0C (zA PL) c (PL.length-1)))∧Below W.heap.size W w'):=zb (fun c hc W hW=>by
  have:=q6Q b o ao cap PL c (PL.length-1) hc (by omega) W hW
  rwa [show((PL.length-1:Nat):Int)=(PL.length:Int)-1 by omega]at this)
 have HZ:Hid (∀c,q3S (zA PL) rc 0 c=c):=zb (fun c=>rfl)
 clear h hR
 generalize q3S (zA PL) rc=S at *
 go_enter Tryz.func40,Tryz.ntmps40
 go_wp2_with fail
 go_loopg [6] PL.length (fun g vc wr=>SeRel w PL.length R S g vc wr)
 case atStart=>exact⟨0,PL.length,by omega,zL _,rfl,HR.out,zB _ _⟩
 case round =>
  obtain⟨c,f,hcf,hfg,rfl,hst,hb⟩:=hrel
  have HB:=zb hb
  have HF:=zb hfg
  have H1:=zb (H.out.below hb)
  clear hb hfg HR
  by_cases hc:c<PL.length
  ·have HCF:=zb hcf
   obtain⟨f',hf'⟩:∃f',f=f'+1:=⟨f-1,by omega⟩
   rw[hf',HS.out]at hst
   have HTc:=zb (HT.out c hc)
   have HFF:=zb hf'
   generalize q0C (zA PL) c (PL.length-1)=d at *
   clear hf' hcf
   by_cases hd:rc<(d:Int)
   ·rw[if_pos ⟨by omega,hd⟩]at hst
    have HST:=zb hst
    clear hst
    go_wp2_with fail
    refine(HTc.out _ H1.out).mono ?_
    rintro e w2 ⟨rfl,b2⟩
    have HB2:=zb (HB.out.trans (b2.mono HB.out.size))
    clear b2
    go_wp2_with fail
    have hg1:0<gk:=by have:=HF.out;have:=HFF.out;omega
    go_roundg (gk-1)
    case measure=>omega
    case rel=>exact⟨c+1,f',by have:=HCF.out;have:=HFF.out;omega,by have:=HF.out;have:=HFF.out;omega,by go_num,HST.out,HB2.out⟩
   ·rw[if_neg (fun h=>hd h.2)]at hst
    have HST:=zb hst
    clear hst
    go_wp2_with fail
    refine(HTc.out _ H1.out).mono ?_
    rintro e w2 ⟨rfl,b2⟩
    have HB2:=zb (HB.out.trans (b2.mono HB.out.size))
    clear b2
    go_wp2_with fail
    go_ret
    exact⟨by rw[←HST.out];rfl,HB2.out⟩
  ·have hf0:f=0:=by omega
   subst hf0
   rw[HZ.out]at hst
   have HST:=zb hst
   clear hst hcf
   go_wp2_with fail
   go_ret
   exact⟨by rw[←HST.out];rfl,HB.out⟩
abbrev q0W (nd:PNode)(lb lo:Nat)(vf vs:Value):List Value:=[.int .i64 nd.kind,.int .i64 nd.pos,.int .u8 (zn nd.name 0),.int .u8 (zn nd.name 1),.int .u8 (zn nd.name 2),.int .u8 (zn nd.name 3),.int .u8 (zn nd.name 4),.int .u8 (zn nd.name 5),.int .u8 (zn nd.name 6),.int .u8 (zn nd.name 7),.int .i64 nd.k0,.int .i64 nd.v0,.int .i64 nd.k1,.int .i64 nd.v1,.int .i64 nd.cnt,.int .i64 nd.var,.int .i64 nd.sat,.int .i64 nd.slo,.int .i64 nd.shi,.bool nd.sop,.int .i64 nd.fst,.int .i64 nd.snd,.pointer (some ⟨lb,lo,none⟩),vf,vs]
theorem q1F {w W1 w2:World}{b:Nat}(G1:W1.heap[b]?=some (.cells zCs 47 (0,0)))(hw:w.heap.size≤b)(B1:Below w.heap.size w W1)(b2:Below W1.heap.size W1 w2)(r:Nat→Int) :
  ∃W,(Instr.storeAt 47 (.pointer (some ⟨b,0,none⟩)) (zr r)).run Tryz.prog w2=.ok () W∧(loadVar 47 ⟨b,0,none⟩).run Tryz.prog W=.ok (zr r) W∧Below w.heap.size w W:=by
 have hb:b<W1.heap.size:=by
  rcases Nat.lt_or_ge b W1.heap.size with g|g
  ·exact g
  ·rw[Array.getElem?_eq_none g]at G1;simp at G1
 have G2:=(b2.block b hb).trans G1
 have B2:Below w.heap.size w w2:=B1.trans (b2.mono B1.size)
 obtain⟨W,S1,s2,s3,s4,s5,s6,s7⟩:=q4O _ b _ r G2 rfl
 exact⟨W,S1,(Arr.of_row (f:=r) s2).loadV,⟨s5.trans B2.os,s6.trans B2.tape,s7.trans B2.output,by rw[s4];exact B2.size,fun k hk=>by rw[s3 k (by omega)];exact B2.block k hk⟩⟩
theorem q0E {W0:World}{b:Nat}{nd:PNode}{lb lo:Nat}{vf vs:Value}(g0:W0.heap[b]?=some (.cells (q0W nd lb lo vf vs).toArray 182 (0,0)))(j:Nat):W0.cell? ⟨b,j,none⟩=(q0W nd lb lo vf vs)[j]?:=by
 rw[zC _ _ j _ _ _ g0,List.getElem?_toArray]
theorem hol_goal (V:Value)(nd:PNode)(lb lo:Nat)(vf vs:Value)(hV:V=.agg (q0W nd lb lo vf vs).toArray)(mA mB:Nat)(hA40:mA≤40)(hB40:mB≤40)(A B:Nat→Nat→Nat→Bool)(j:Nat)(w:World)(hA:Tb w vf mA A)(hB:Tb w vs mB B) :
  Calls Tryz.prog 168 #[V,.int .i64 j] w fun e w'=>e=.returned (zr (zm fun x y=>q1L nd A B x y j))∧Below w.heap.size w w':=by
 obtain⟨fa,fc,rfl⟩:=hA.form
 obtain⟨sa,sc,rfl⟩:=hB.form
 have HV:=zb hV
 have HA:=zb hA
 have HB:=zb hB
 clear hV hA hB
 by_cases hk:nd.kind=12∨nd.kind=13
 ·have hg:(fun x y=>q1L nd A B x y j)=A j:=by funext x y;unfold q1L;rw[if_pos hk]
  rw[hg]
  have HC:=zb (fun W (h:Tb W (.slice fa mA fc) mA A)=>q0t (.slice fa mA fc) mA A hA40 j W h)
  generalize zm (A j)=r at *
  obtain⟨U,hU⟩:∃U,U=zr r:=⟨_,rfl⟩
  rw[←hU]
  have HU:=zb hU
  clear hU hg
  rcases hk with hk|hk
  all_goals
   go_enter Tryz.func168,Tryz.ntmps168
   go_wp2_with (first|(refine qA rfl 182 (.tmp 0) rfl V _ rfl HV.out ?_;intro W0 g0 b0 z0;have c0:=q0E g0 0;have c23:=q0E g0 23;simp only[List.getElem?_cons_zero,List.getElem?_cons_succ,hk]at c0 c23;have hl0:w.heap.size<W0.heap.size:=(by omega);have B1:=b0.alloc b0.size (.cells zCs 47);have G1:=zN W0 (.cells zCs 47);have HB1:=zb B1;have HG1:=zb G1;have HZ0:=zb z0;clear B1 G1 g0 z0))
   refine(HC.out _ ((HA.out.below b0).below (by exact(zB _ _).alloc (zL _) _))).mono ?_
   rintro e w2 ⟨rfl,b2⟩
   obtain⟨W,S1,LV,BW⟩:=q1F HG1.out (by omega) HB1.out b2 r
   rw[←HU.out]at S1 LV ⊢
   have HW:=zb BW
   clear b2 BW c0 c23 b0
   go_wp2_with (refine ze rfl 47 (.tmp 4) (.tmp 14) rfl ⟨W0.heap.size,0,none⟩ U rfl rfl W S1 ?_)
   exact zP (v:=U) (zl rfl _ _ _ _ rfl LV) rfl ⟨rfl,HW.out⟩
 ·have hg:(fun x y=>q1L nd A B x y j)=B j:=by funext x y;unfold q1L;rw[if_neg hk]
  rw[hg]
  have HC:=zb (fun W (h:Tb W (.slice sa mB sc) mB B)=>q0t (.slice sa mB sc) mB B hB40 j W h)
  generalize zm (B j)=r at *
  obtain⟨U,hU⟩:∃U,U=zr r:=⟨_,rfl⟩
  rw[←hU]
  have HU:=zb hU
  have k1:¬nd.kind=12:=fun h=>hk (.inl h)
  have k2:¬nd.kind=13:=fun h=>hk (.inr h)
  have e1:(nd.kind==12)=false:=by simpa using k1
  have e2:(nd.kind==13)=false:=by simpa using k2
  generalize hkk:nd.kind=kk at *
  have HKK:=zb hkk
  clear hU hg hk hkk
  go_enter Tryz.func168,Tryz.ntmps168
  go_wp2_with (first|(refine qA rfl 182 (.tmp 0) rfl V _ rfl HV.out ?_;intro W0 g0 b0 z0;have c0:=q0E g0 0;have c24:=q0E g0 24;simp only[List.getElem?_cons_zero,List.getElem?_cons_succ,HKK.out]at c0 c24;have hl0:w.heap.size<W0.heap.size:=(by omega);have B1:=b0.alloc b0.size (.cells zCs 47);have G1:=zN W0 (.cells zCs 47);have HB1:=zb B1;have HG1:=zb G1;have HZ0:=zb z0;clear B1 G1 g0 z0))
  refine(HC.out _ ((HB.out.below b0).below (by exact(zB _ _).alloc (zL _) _))).mono ?_
  rintro e w2 ⟨rfl,b2⟩
  obtain⟨W,S1,LV,BW⟩:=q1F HG1.out (by omega) HB1.out b2 r
  rw[←HU.out]at S1 LV ⊢
  have HW:=zb BW
  clear b2 BW c0 c24 b0
  go_wp2_with (refine ze rfl 47 (.tmp 4) (.tmp 18) rfl ⟨W0.heap.size,0,none⟩ U rfl rfl W S1 ?_)
  exact zP (v:=U) (zl rfl _ _ _ _ rfl LV) rfl ⟨rfl,HW.out⟩
theorem qa {P:Program}{o:Oper}{a:Act}{w:World}{K:Act→World→Prop}{Q:Exit→Act→World→Prop}(ty:TypeId)(x y:Operand)(ho:o.op=.store ty x y)(ad:Addr)(v:Value)(hx:a.eval x=.pointer (some ad))(hy:a.eval y=v)(W':World)(hr:(Instr.storeAt ty (.pointer (some ad)) v).run P w=.ok () W')
  (h:K (a.put o.dst undef) W'):o.wp P a w K Q:=by
 unfold Oper.wp execOp
 simp only[ho,hx,hy,hr,Sem.run_bind,Sem.run_pure,Result.andThen_ok]
 exact h
theorem q0s (W:World)(r:Nat→Int):∃W',(Instr.storeAt 47 (.pointer (some ⟨W.heap.size,0,none⟩)) (zr r)).run Tryz.prog (W.alloc (.cells zCs 47))=.ok () W'∧W'.heap[W.heap.size]?=some (.cells (qw r).toArray 47 (0,0))∧Below W.heap.size W W'∧W'.heap.size=W.heap.size+1:=
 qI (P:=Tryz.prog) 47 W zCs #[.int .u16 (r 0),.int .u16 (r 1),.int .u16 (r 2),.int .u16 (r 3),.int .u16 (r 4),.int .u16 (r 5),.int .u16 (r 6),.int .u16 (r 7),.int .u16 (r 8),.int .u16 (r 9)] (by kernel_rfl) rfl (by simp[Value.oneCell'])
theorem qb {w:World}{b:Nat}{r:Nat→Int}(h:w.heap[b]?=some (.cells (qw r).toArray 47 (0,0))):(Instr.loadAt 47 (.pointer (some ⟨b,0,none⟩))).run Tryz.prog w=.ok (zr r) w:=(Arr.of_row (f:=r) h).load
theorem j2p (V:Value)(nd:PNode)(lb lo:Nat)(vf vs:Value)(hV:V=.agg (q0W nd lb lo vf vs).toArray)(mA:Nat)(hA40:mA≤40)(A:Nat→Nat→Nat→Bool)(j:Nat)(w:World)(hA:Tb w vf mA A) :
  Calls Tryz.prog 169 #[V,.int .i64 j] w fun e w'=>e=.returned (zr (zm fun x y=>q0N nd A x y j))∧Below w.heap.size w w':=by
 obtain⟨fa,fc,rfl⟩:=hA.form
 have HV:=zb hV
 have HA:=zb hA
 have HC:=zb (fun W (h:Tb W (.slice fa mA fc) mA A)=>q0t (.slice fa mA fc) mA A hA40 j W h)
 clear hV hA
 obtain⟨U,hU⟩:∃U,U=zr (zm (A j)):=⟨_,rfl⟩
 rw[←hU]at HC
 have HU:=zb hU
 clear hU
 by_cases hk:nd.kind=14∨nd.kind=16
 ·have hg:(fun x y=>q0N nd A x y j)=A j:=by funext x y;unfold q0N;rw[if_pos hk]
  rw[hg,←HU.out]
  clear hg
  rcases hk with hk|hk
  all_goals
   go_enter Tryz.func169,Tryz.ntmps169
   go_wp2_with (first|(refine qA rfl 182 (.tmp 0) rfl V _ rfl HV.out ?_;intro W0 g0 b0 z0;have c23:=q0E g0 23;simp only[List.getElem?_cons_zero,List.getElem?_cons_succ]at c23;have hl0:w.heap.size<W0.heap.size:=(by omega);have B1:=b0.alloc b0.size (.cells zCs 47);have G1:=zN W0 (.cells zCs 47);have HB1:=zb B1;have HG1:=zb G1;have HZ0:=zb z0;have HG0:=zb g0;clear B1 G1 g0 z0))
   refine(HC.out _ ((HA.out.below b0).below (by exact(zB _ _).alloc (zL _) _))).mono ?_
   rintro e w2 ⟨rfl,b2⟩
   obtain⟨W3,S3,g3,b3,z3⟩:=q0s w2 (zm (A j))
   have b23:Below (W0.alloc (.cells zCs 47)).heap.size (W0.alloc (.cells zCs 47)) W3:=b2.trans (b3.mono b2.size)
   obtain⟨W,S1,LV,BW⟩:=q1F HG1.out (by omega) HB1.out b23 (zm (A j))
   have L3:=qb g3
   rw[←HU.out]at S1 LV S3 L3
   have G03:W3.heap[w.heap.size]?=_:=(b23.block w.heap.size (by simp;omega)).trans ((zO _ _ hl0).trans HG0.out)
   have c0:=q0E G03 0
   simp only[List.getElem?_cons_zero,hk]at c0
   have hl3:w.heap.size<W3.heap.size:=by have:=b23.size;simp at this;omega
   have HW:=zb BW
   clear b2 BW c23 b0 b3 b23 g3 z3 G03
   go_wp2_with (first|(refine ze rfl 47 (.tmp 5) (.tmp 9) rfl ⟨w2.heap.size,0,none⟩ U rfl rfl W3 S3 ?_)|(refine zj rfl 47 (.tmp 5) rfl ⟨w2.heap.size,0,none⟩ U rfl L3 ?_)|(refine ze rfl 47 (.tmp 4) (.tmp 16) rfl ⟨W0.heap.size,0,none⟩ U rfl rfl W S1 ?_))
   exact zP (v:=U) (zl rfl _ _ _ _ rfl LV) rfl ⟨rfl,HW.out⟩
 ·by_cases hk2:nd.kind=15∨nd.kind=17
  ·have hg:(fun x y=>q0N nd A x y j)=(fun x y=>true&&!A j x y):=by funext x y;unfold q0N;rw[if_neg hk,if_pos hk2];simp
   rw[hg]
   have HWO:=zb (q9X (fun _ _=>true) (A j))
   have HAL:=zb q2W
   rw[←HU.out]at HWO
   generalize zm (fun x y=>true&&!A j x y)=r at *
   generalize zm (fun _ _=>true)=ra at *
   obtain⟨T,hT⟩:∃T,T=zr r:=⟨_,rfl⟩
   obtain⟨TA,hTA⟩:∃TA,TA=zr ra:=⟨_,rfl⟩
   rw[←hT]
   rw[←hT,←hTA]at HWO
   rw[←hTA]at HAL
   have HTT:=zb hT
   clear hg hT hTA hk
   rcases hk2 with HKK|HKK
   all_goals
    go_enter Tryz.func169,Tryz.ntmps169
    go_wp2_with (first|(refine qA rfl 182 (.tmp 0) rfl V _ rfl HV.out ?_;intro W0 g0 b0 z0;have c23:=q0E g0 23;simp only[List.getElem?_cons_zero,List.getElem?_cons_succ]at c23;have hl0:w.heap.size<W0.heap.size:=(by omega);have B1:=b0.alloc b0.size (.cells zCs 47);have G1:=zN W0 (.cells zCs 47);have HB1:=zb B1;have HG1:=zb G1;have HZ0:=zb z0;have HG0:=zb g0;clear B1 G1 g0 z0))
    refine(HC.out _ ((HA.out.below b0).below (by exact(zB _ _).alloc (zL _) _))).mono ?_
    rintro e w2 ⟨rfl,b2⟩
    obtain⟨W3,S3,g3,b3,z3⟩:=q0s w2 (zm (A j))
    have b23:Below (W0.alloc (.cells zCs 47)).heap.size (W0.alloc (.cells zCs 47)) W3:=b2.trans (b3.mono b2.size)
    have L3:=fun(W:World) (h:Below W3.heap.size W3 W)=>qb ((h.block w2.heap.size (by omega)).trans g3)
    rw[←HU.out]at S3 L3
    have G03:W3.heap[w.heap.size]?=_:=(b23.block w.heap.size (by simp;omega)).trans ((zO _ _ hl0).trans HG0.out)
    have c0:=q0E G03 0
    simp only[List.getElem?_cons_zero,HKK]at c0
    have hl3:w.heap.size<W3.heap.size:=by have:=b23.size;simp at this;omega
    have HL3:=zb L3
    have HB23:=zb b23
    clear b2 c23 b0 b3 b23 g3 z3 G03 L3
    go_wp2_with (refine ze rfl 47 (.tmp 5) (.tmp 9) rfl ⟨w2.heap.size,0,none⟩ U rfl rfl W3 S3 ?_)
    have fin:∀w7,Below W3.heap.size W3 w7→∃W,(Instr.storeAt 47 (.pointer (some ⟨W0.heap.size,0,none⟩)) T).run Tryz.prog w7=.ok () W∧(loadVar 47 ⟨W0.heap.size,0,none⟩).run Tryz.prog W=.ok T W∧Below w.heap.size w W:=fun w7 b7=>by
     obtain⟨W,S1,LV,BW⟩:=q1F HG1.out (by omega) HB1.out (HB23.out.trans (b7.mono HB23.out.size)) r
     rw[←HTT.out]at S1 LV
     exact⟨W,S1,LV,BW⟩
    have FIN:=zb fin
    clear fin
    refine wp_region_any (by kernel_rfl) ?_
    change wpAny _ _ _ _ _ _ _ (World.drew _)
    refine wpAny_ready (rs:=[0,1]) (by kernel_rfl) (by simp) ?_
    refine AllReady.cons rfl (fun K hK=>?_) (AllReady.cons rfl (fun K hK=>?_) AllReady.nil)
    ·rw[if_pos (by rfl)]
     go_simp
     refine(HAL.out _).mono ?_
     rintro e w4 ⟨rfl,b4⟩
     have B4:Below W3.heap.size W3 w4:=((zB _ _).drew).trans b4
     have L4:=HL3.out _ B4
     go_simp
     refine hK _ _ ?_
     clear hK K b4
     refine wpAny_ready (rs:=[1]) (by kernel_rfl) (by simp) ?_
     refine AllReady.cons rfl (fun K hK=>?_) AllReady.nil
     rw[if_pos (by rfl)]
     refine q0b 47 (.tmp 5) rfl ⟨w2.heap.size,0,none⟩ U rfl L4 ?_
     refine hK _ _ ?_
     clear hK K L4
     simp only[Act.put]
     refine wpAny_ready (rs:=[2]) (by kernel_rfl) (by simp) ?_
     refine AllReady.cons rfl (fun K hK=>?_) AllReady.nil
     rw[if_pos (by rfl)]
     go_simp
     refine(HWO.out _).mono ?_
     rintro e w5 ⟨rfl,b5⟩
     obtain⟨W,S1,LV,BW⟩:=FIN.out w5 (B4.trans (b5.mono B4.size))
     have HW:=zb BW
     go_simp
     refine hK _ _ ?_
     clear hK K b5 BW B4
     refine wpAny_ready (rs:=[3]) (by kernel_rfl) (by simp) ?_
     refine AllReady.cons rfl (fun K hK=>?_) AllReady.nil
     rw[if_pos (by rfl)]
     refine qa 47 (.tmp 4) (.tmp 22) rfl ⟨W0.heap.size,0,none⟩ T rfl rfl W S1 ?_
     refine hK _ _ ?_
     clear hK K
     refine wpAny_done (by kernel_rfl) ?_ _
     simp only[Act.put]
     go_wp2_with fail
     exact zP (v:=T) (zl rfl _ _ _ _ rfl LV) rfl ⟨rfl,HW.out⟩
    ·rw[if_pos (by rfl)]
     refine q0b 47 (.tmp 5) rfl ⟨w2.heap.size,0,none⟩ U rfl (HL3.out _ ((zB _ _).drew)) ?_
     refine hK _ _ ?_
     clear hK K
     simp only[Act.put]
     refine wpAny_ready (rs:=[0]) (by kernel_rfl) (by simp) ?_
     refine AllReady.cons rfl (fun K hK=>?_) AllReady.nil
     rw[if_pos (by rfl)]
     go_simp
     refine(HAL.out _).mono ?_
     rintro e w4 ⟨rfl,b4⟩
     have B4:Below W3.heap.size W3 w4:=((zB _ _).drew).trans b4
     go_simp
     refine hK _ _ ?_
     clear hK K b4
     refine wpAny_ready (rs:=[2]) (by kernel_rfl) (by simp) ?_
     refine AllReady.cons rfl (fun K hK=>?_) AllReady.nil
     rw[if_pos (by rfl)]
     go_simp
     refine(HWO.out _).mono ?_
     rintro e w5 ⟨rfl,b5⟩
     obtain⟨W,S1,LV,BW⟩:=FIN.out w5 (B4.trans (b5.mono B4.size))
     have HW:=zb BW
     go_simp
     refine hK _ _ ?_
     clear hK K b5 BW B4
     refine wpAny_ready (rs:=[3]) (by kernel_rfl) (by simp) ?_
     refine AllReady.cons rfl (fun K hK=>?_) AllReady.nil
     rw[if_pos (by rfl)]
     refine qa 47 (.tmp 4) (.tmp 22) rfl ⟨W0.heap.size,0,none⟩ T rfl rfl W S1 ?_
     refine hK _ _ ?_
     clear hK K
     refine wpAny_done (by kernel_rfl) ?_ _
     simp only[Act.put]
     go_wp2_with fail
     exact zP (v:=T) (zl rfl _ _ _ _ rfl LV) rfl ⟨rfl,HW.out⟩
  ·have hg:(fun x y=>q0N nd A x y j)=(fun _ _=>true):=by funext x y;unfold q0N;rw[if_neg hk,if_neg hk2]
   rw[hg]
   have HAL:=zb q2W
   generalize zm (fun _ _=>true)=r at *
   obtain⟨T,hT⟩:∃T,T=zr r:=⟨_,rfl⟩
   rw[←hT]
   rw[←hT]at HAL
   have HTT:=zb hT
   have k1:¬nd.kind=14:=fun h=>hk (.inl h)
   have k2:¬nd.kind=16:=fun h=>hk (.inr h)
   have k3:¬nd.kind=15:=fun h=>hk2 (.inl h)
   have k4:¬nd.kind=17:=fun h=>hk2 (.inr h)
   have e1:(nd.kind==14)=false:=by simpa using k1
   have e2:(nd.kind==16)=false:=by simpa using k2
   have e3:(nd.kind==15)=false:=by simpa using k3
   have e4:(nd.kind==17)=false:=by simpa using k4
   generalize hkk:nd.kind=kk at *
   have HKQ:=zb hkk
   clear hT hg hk hk2 hkk
   go_enter Tryz.func169,Tryz.ntmps169
   go_wp2_with (first|(refine qA rfl 182 (.tmp 0) rfl V _ rfl HV.out ?_;intro W0 g0 b0 z0;have c23:=q0E g0 23;simp only[List.getElem?_cons_zero,List.getElem?_cons_succ]at c23;have hl0:w.heap.size<W0.heap.size:=(by omega);have B1:=b0.alloc b0.size (.cells zCs 47);have G1:=zN W0 (.cells zCs 47);have HB1:=zb B1;have HG1:=zb G1;have HZ0:=zb z0;have HG0:=zb g0;clear B1 G1 g0 z0))
   refine(HC.out _ ((HA.out.below b0).below (by exact(zB _ _).alloc (zL _) _))).mono ?_
   rintro e w2 ⟨rfl,b2⟩
   obtain⟨W3,S3,g3,b3,z3⟩:=q0s w2 (zm (A j))
   have b23:Below (W0.alloc (.cells zCs 47)).heap.size (W0.alloc (.cells zCs 47)) W3:=b2.trans (b3.mono b2.size)
   have L3:=fun(W:World) (h:Below W3.heap.size W3 W)=>qb ((h.block w2.heap.size (by omega)).trans g3)
   rw[←HU.out]at S3 L3
   have G03:W3.heap[w.heap.size]?=_:=(b23.block w.heap.size (by simp;omega)).trans ((zO _ _ hl0).trans HG0.out)
   have c0:=q0E G03 0
   simp only[List.getElem?_cons_zero,HKQ.out]at c0
   have hl3:w.heap.size<W3.heap.size:=by have:=b23.size;simp at this;omega
   have HL3:=zb L3
   have HB23:=zb b23
   clear b2 c23 b0 b3 b23 g3 z3 G03 L3
   go_wp2_with (refine ze rfl 47 (.tmp 5) (.tmp 9) rfl ⟨w2.heap.size,0,none⟩ U rfl rfl W3 S3 ?_)
   refine(HAL.out _).mono ?_
   rintro e w5 ⟨rfl,b5⟩
   obtain⟨W,S1,LV,BW⟩:=q1F HG1.out (by omega) HB1.out (HB23.out.trans (b5.mono HB23.out.size)) r
   rw[←HTT.out]at S1 LV
   have HW:=zb BW
   clear b5 BW c0
   go_wp2_with (refine ze rfl 47 (.tmp 4) (.tmp 23) rfl ⟨W0.heap.size,0,none⟩ T rfl rfl W S1 ?_)
   exact zP (v:=T) (zl rfl _ _ _ _ rfl LV) rfl ⟨rfl,HW.out⟩
theorem q0L {P:Program}{ops:Array Oper}{S:World→Prop}{op:Oper}{a:Act}(hw:Region.wanted op (yielded ops a.tmps)=true)(ty:TypeId)(x:Operand)(ho:op.op=.load ty x)(ad:Addr)(v:Value)(hx:a.eval x=.pointer (some ad))
  (hr:∀w,S w→(Instr.loadAt ty (.pointer (some ad))).run P w=.ok v w):YieldsIf P ops S op v a:=
 .inl ⟨hw,fun w hS=>by
  unfold execOp
  simp only[ho,hx,hr w hS,Sem.run_bind,Sem.run_pure,Result.andThen_ok]⟩
structure VwAt (w:World)(lb lo:Nat)(ao:OA)(cap:Nat)(PL:List PPt)(vf vs:Value)(mA mB:Nat)(A B:Nat→Nat→Nat→Bool):Prop where
 log:LogAt w lb lo ao cap PL
 fst:Tb w vf mA A
 snd:Tb w vs mB B
 szA:mA≤40
 szB:mB≤40
theorem VwAt.below {w w':World}{lb lo:Nat}{ao:OA}{cap:Nat}{PL:List PPt}{vf vs:Value}{mA mB:Nat}{A B:Nat→Nat→Nat→Bool}(h:VwAt w lb lo ao cap PL vf vs mA mB A B)(hb:Below w.heap.size w w'):VwAt w' lb lo ao cap PL vf vs mA mB A B:=
 ⟨h.log.below hb,h.fst.below hb,h.snd.below hb,h.szA,h.szB⟩
theorem q2z {w:World}{b:Nat}{nd:PNode}{lb lo:Nat}{vf vs:Value}(h:w.heap[b]?=some (.cells (q0W nd lb lo vf vs).toArray 182 (0,0))):(Instr.loadAt 182 (.pointer (some ⟨b,0,none⟩))).run Tryz.prog w=.ok (.agg (q0W nd lb lo vf vs).toArray) w:=
 qC (P:=Tryz.prog) 182 182 w b (q0W nd lb lo vf vs).toArray (0,0) _ h Tryz.underlying182 rfl (by kernel_rfl)
structure FdAt (w wr:World)(nd:PNode)(lb lo:Nat)(vf vs:Value)(bk:Nat)(f k:Nat→Nat→Bool):Prop where
 view:wr.heap[w.heap.size]?=some (.cells (q0W nd lb lo vf vs).toArray 182 (0,0))
 res:wr.heap[w.heap.size+1]?=some (.cells zCs 47 (0,0))
 fnd:wr.heap[w.heap.size+2]?=some (.cells (qw (zm f)).toArray 47 (0,0))
 kep:wr.heap[bk]?=some (.cells (qw (zm k)).toArray 47 (0,0))
 bel:Below w.heap.size w wr
 ge:w.heap.size+3≤bk
theorem zd {w:World}{b:Nat}{o:Obj}(h:w.heap[b]?=some o):b<w.heap.size:=by
 rcases Nat.lt_or_ge b w.heap.size with g|g
 ·exact g
 ·rw[Array.getElem?_eq_none g]at h;simp at h
theorem FdAt.below {w wr w':World}{nd:PNode}{lb lo:Nat}{vf vs:Value}{bk:Nat}{f k:Nat→Nat→Bool}(h:FdAt w wr nd lb lo vf vs bk f k)(hb:Below wr.heap.size wr w'):FdAt w w' nd lb lo vf vs bk f k:=
 ⟨(hb.block _ (zd h.view)).trans h.view,(hb.block _ (zd h.res)).trans h.res,(hb.block _ (zd h.fnd)).trans h.fnd,(hb.block _ (zd h.kep)).trans h.kep,h.bel.trans (hb.mono h.bel.size),h.ge⟩
theorem FdAt.setF {w wr:World}{nd:PNode}{lb lo:Nat}{vf vs:Value}{bk:Nat}{f k:Nat→Nat→Bool}(h:FdAt w wr nd lb lo vf vs bk f k)(g:Nat→Nat→Bool) :
  ∃W,(Instr.storeAt 47 (.pointer (some ⟨w.heap.size+2,0,none⟩)) (zr (zm g))).run Tryz.prog wr=.ok () W∧FdAt w W nd lb lo vf vs bk g k∧∀q,q≠w.heap.size+2→W.heap[q]?=wr.heap[q]?:=by
 obtain⟨W,s1,s2,s3,s4,s5,s6,s7⟩:=q4O wr (w.heap.size+2) _ (zm g) h.fnd rfl
 have hge:=h.ge
 exact⟨W,s1,⟨(s3 _ (by omega)).trans h.view,(s3 _ (by omega)).trans h.res,s2,(s3 _ (by omega)).trans h.kep,⟨s5.trans h.bel.os,s6.trans h.bel.tape,s7.trans h.bel.output,by rw[s4];exact h.bel.size,fun q hq=>by rw[s3 q (by omega)];exact h.bel.block q hq⟩,h.ge⟩,s3⟩
theorem FdAt.setK {w wr:World}{nd:PNode}{lb lo:Nat}{vf vs:Value}{bk:Nat}{f k:Nat→Nat→Bool}(h:FdAt w wr nd lb lo vf vs bk f k)(g:Nat→Nat→Bool) :
  ∃W,(Instr.storeAt 47 (.pointer (some ⟨bk,0,none⟩)) (zr (zm g))).run Tryz.prog wr=.ok () W∧FdAt w W nd lb lo vf vs bk f g∧∀q,q≠bk→W.heap[q]?=wr.heap[q]?:=by
 obtain⟨W,s1,s2,s3,s4,s5,s6,s7⟩:=q4O wr bk _ (zm g) h.kep rfl
 have hge:=h.ge
 exact⟨W,s1,⟨(s3 _ (by omega)).trans h.view,(s3 _ (by omega)).trans h.res,(s3 _ (by omega)).trans h.fnd,s2,⟨s5.trans h.bel.os,s6.trans h.bel.tape,s7.trans h.bel.output,by rw[s4];exact h.bel.size,fun q hq=>by rw[s3 q (by omega)];exact h.bel.block q hq⟩,h.ge⟩,s3⟩
theorem q5A (k v:Int)(d:Nat)(hd:d<10)(w:World) :
  Calls Tryz.prog 179 #[.agg #[.int .i64 k,.int .i64 v],.int .i64 d] w fun e w'=>e=.returned (zr (zm fun x y=>q4m k v d x y))∧Below w.heap.size w w':=by
 have HB1:Hid (Below w.heap.size w ((w.alloc (.cells #[.int .i64 k,.int .i64 v] 163)).alloc (.cells zCs 47))):=zb (((zB _ _).alloc (zL _) _).alloc (by simp) _)
 have G1:((w.alloc (.cells #[.int .i64 k,.int .i64 v] 163)).alloc (.cells zCs 47)).heap[w.heap.size+1]?=some (.cells zCs 47 (0,0)):=by
  have:=zN (w.alloc (.cells #[.int .i64 k,.int .i64 v] 163)) (.cells zCs 47)
  simpa using this
 have HG1:=zb G1
 clear G1
 by_cases hk:k=3∨k=4
 ·have e:(fun x y=>q4m k v d x y)=valS k d:=by
   funext x y
   unfold q4m valS
   rcases hk with rfl|rfl
   ·rw[if_pos rfl,if_pos rfl]
   ·rw[if_neg (by decide),if_pos rfl,if_neg (by decide)]
  rw[e]
  have HC:=zb (j1Z k d hd)
  generalize zm (valS k d)=r at *
  obtain⟨T,hT⟩:∃T,T=zr r:=⟨_,rfl⟩
  rw[←hT]at HC ⊢
  have HT:=zb hT
  clear e hT
  rcases hk with rfl|rfl
  all_goals
   go_enter Tryz.func179,Tryz.ntmps179
   go_wp2_with fail
   refine(HC.out _).mono ?_
   rintro e w2 ⟨rfl,b2⟩
   obtain⟨W,S1,LV,BW⟩:=q1F HG1.out (by omega) HB1.out b2 r
   rw[←HT.out]at S1 LV
   have HW:=zb BW
   clear b2 BW
   go_wp2_with (refine ze rfl 47 (.tmp 4) (.tmp 16) rfl ⟨w.heap.size+1,0,none⟩ T rfl rfl W S1 ?_)
   exact zP (v:=T) (zl rfl _ _ _ _ rfl LV) rfl ⟨rfl,HW.out⟩
 ·have k1:¬k=3:=fun h=>hk (.inl h)
  have k2:¬k=4:=fun h=>hk (.inr h)
  have e1:(k==3)=false:=by simpa using k1
  have e2:(k==4)=false:=by simpa using k2
  by_cases hv:v=(d:Int)
  ·have e:(fun x y=>q4m k v d x y)=(fun _ _=>true):=by funext x y;unfold q4m;rw[if_neg k1,if_neg k2,decide_eq_true hv]
   rw[e]
   have HC:=zb q2W
   generalize zm (fun _ _=>true)=r at *
   obtain⟨T,hT⟩:∃T,T=zr r:=⟨_,rfl⟩
   rw[←hT]at HC ⊢
   have HT:=zb hT
   subst hv
   clear e hT hk
   go_enter Tryz.func179,Tryz.ntmps179
   go_wp2_with fail
   refine(HC.out _).mono ?_
   rintro e w2 ⟨rfl,b2⟩
   obtain⟨W,S1,LV,BW⟩:=q1F HG1.out (by omega) HB1.out b2 r
   rw[←HT.out]at S1 LV
   have HW:=zb BW
   clear b2 BW
   go_wp2_with (refine ze rfl 47 (.tmp 4) (.tmp 21) rfl ⟨w.heap.size+1,0,none⟩ T rfl rfl W S1 ?_)
   exact zP (v:=T) (zl rfl _ _ _ _ rfl LV) rfl ⟨rfl,HW.out⟩
  ·have e:(fun x y=>q4m k v d x y)=(fun _ _=>false):=by funext x y;unfold q4m;rw[if_neg k1,if_neg k2,decide_eq_false hv]
   rw[e,q5M (fun _ _=>rfl)]
   have e3:(v==(d:Int))=false:=by simpa using hv
   clear e hk HB1 HG1
   go_enter Tryz.func179,Tryz.ntmps179
   go_wp2_with fail
   exact zP (v:=zr fun _=>0) (by simp[results,Tryz.results179,go_sem]) rfl ⟨rfl,((zB _ _).alloc (zL _) _).alloc (by simp) _⟩
theorem j8p (xs:Array Value)(j:Nat)(v:Value)(h:xs[j]?=some v)(w:World):(part 5 xs j).run Tryz.prog w=.ok v w:=by
 simp[part,go_sem,h]
theorem q2K (xs ys:Array Value)(w:World)(j:Nat)(is:List Nat)(a b:Int)(r:Bool)(h1:xs[j]?=some (.int .u8 a))(h2:ys[j]?=some (.int .u8 b))(hr:(Op.eqItems 9999 5 1 xs ys is).run Tryz.prog w=.ok r w):(Op.eqItems 9999 5 1 xs ys (j::is)).run Tryz.prog w=.ok (a==b&&r) w:=by
 have he:(Op.equalIn 9999 5 (.int .u8 a) (.int .u8 b)).run Tryz.prog w=.ok (a==b) w:=run_equalIn_int w 9998 5 .u8 .u8 a b Tryz.underlying5
 simp only[Op.eqItems,Sem.run_bind,Nat.mul_one,j8p _ _ _ h1,j8p _ _ _ h2,Result.andThen_ok,he]
 cases a==b
 ·rfl
 ·simpa using hr
theorem j8t (a c:By)(w:World):(Op.equalIn 10000 127 (q3U a) (q3U c)).run Tryz.prog w=.ok (j2B a c) w:=by
 obtain⟨i,hi⟩:∃i,Tryz.prog.info? 5=some i:=⟨Tryz.t5,by kernel_rfl⟩
 rw[show(10000:Nat)=9999+1 from rfl,run_equalIn_array w 9999 _ _ Tryz.underlying127 hi,show Tryz.prog.cellsOf 5=1 by kernel_rfl]
 have e:j2B a c=(zn a 0==zn c 0&&(zn a 1==zn c 1&&(zn a 2==zn c 2&&(zn a 3==zn c 3&&(zn a 4==zn c 4&&(zn a 5==zn c 5&&(zn a 6==zn c 6&&(zn a 7==zn c 7&&true)))))))):=by
  unfold j2B
  rw[show List.range 8=[0,1,2,3,4,5,6,7] from rfl]
  rfl
 rw[e,show List.range 8=[0,1,2,3,4,5,6,7] from rfl]
 refine q2K _ _ w 0 _ _ _ _ rfl rfl (q2K _ _ w 1 _ _ _ _ rfl rfl (q2K _ _ w 2 _ _ _ _ rfl rfl (q2K _ _ w 3 _ _ _ _ rfl rfl (q2K _ _ w 4 _ _ _ _ rfl rfl (q2K _ _ w 5 _ _ _ _ rfl rfl (q2K _ _ w 6 _ _ _ _ rfl rfl (q2K _ _ w 7 _ _ _ _ rfl rfl ?_)))))))
 rfl
theorem q4B {w:World}{b b':Nat}{e:TypeId}{size:Nat}{v:Value}{n:Nat}{xs:List Value}(hb:b≤b')(h:w.ownsRow b' e size v n xs):w.ownsRow b e size v n xs:=by
 refine⟨h.1,?_⟩
 rcases h.2 with h|⟨g,cap,cur,h1,h2,h3⟩
 ·exact .inl h
 ·exact .inr ⟨g,cap,cur,h1,zM hb h2,h3⟩
theorem build0 (w:World):(Instr.buildSlice 90 0 #[]).run Tryz.prog w=.ok (.slice (some ⟨w.heap.size,0,none⟩) 0 0) (w.alloc (.cells #[] 130)):=by kernel_rfl
theorem j3i {P:Program}{ops:Array Oper}{rest:List Oper}{o:Oper}{a:Act}{W:World}{Q:Exit→Act→World→Prop}(hgd:o.guard=none)(ty:TypeId)(ho:o.op=.buildSlice ty 0 #[])
  (v:Value)(W':World)(hr:(Instr.buildSlice ty 0 #[]).run P W=.ok v W')
  (h:wpList P ops Q rest (a.put o.dst v) W'):wpList P ops Q (o::rest) a W:=by
 refine wpList_plain hgd fun _ hK=>?_
 unfold Oper.wp execOp
 simp only[ho,hr,Sem.run_bind,Sem.run_pure,Result.andThen_ok,Array.map_empty]
 exact hK _ _ h
theorem app_nil (w:World)(g:Nat)(ty:TypeId):(Builtin.append_ #[90,90] ty #[.slice (some ⟨g,0,none⟩) 0 0,.slice none 0 0]).run Tryz.prog w=.ok (.slice (some ⟨g,0,none⟩) 0 0) w:=by kernel_rfl
theorem j7H {P:Program}{ops:Array Oper}{rest:List Oper}{o:Oper}{a:Act}{W:World}{Q:Exit→Act→World→Prop}(hgd:o.guard=none)(x y:Operand)(t:TypeId)(ho:o.op=.call {callee:=.builtin .append,args:=#[x,y],argTypes:=#[t,t]})
  (vx vy v':Value)(W':World)(hx:a.eval x=vx)(hy:a.eval y=vy)(hr:(Builtin.append_ #[t,t] o.type #[vx,vy]).run P W=.ok v' W')(h:wpList P ops Q rest (a.put o.dst v') W'):wpList P ops Q (o::rest) a W:=by
 refine wpList_plain hgd fun _ hK=>?_
 unfold Oper.wp execOp
 simp only[ho,resolve,invoke,builtin,Sem.run_bind,Sem.run_pure,Result.andThen_ok,List.map_toArray,List.map_cons,List.map_nil,hx,hy,hr]
 exact hK _ _ h
theorem j3u (l:List Hp):∀u∈qH l,u.oneCell'=true:=by
 intro u hu
 unfold qH at hu
 rw[List.mem_flatMap]at hu
 obtain⟨h,_,hu⟩:=hu
 simp[q5z]at hu
 rcases hu with rfl|rfl|rfl|rfl|rfl|rfl|rfl|rfl|rfl|rfl|rfl<;>rfl
theorem j5C (st:Nat)(hv:Value)(l:List Hp)(w:World)(h:w.ownsRow 0 130 11 hv l.length (qH l))(hl:l.length≤80) :
  Calls Tryz.prog 58 #[.agg #[.int .u16 st,hv]] w fun e w'=>∃hv',e=.returned (.agg #[.int .u16 st,hv'])∧w'.ownsRow w.heap.size 130 11 hv' l.length (qH l)∧Below w.heap.size w w':=by
 have H:=zb h
 rcases h.2 with⟨rfl,hn⟩|⟨g,cap,cur,rfl,_,hg,hc1,hc2,_⟩
 ·have hl0:l=[]:=List.eq_nil_of_length_eq_zero hn
  subst hl0
  clear h hn
  go_enter Tryz.func58,Tryz.ntmps58
  go_wp2_with (first|(refine j3i rfl 90 rfl _ _ (build0 _) ?_)|(at_builtin;refine j7H rfl (.tmp 3) (.tmp 5) 90 rfl _ _ _ _ rfl rfl (app_nil _ (w.heap.size+1+1) _) ?_))
  exact zP (v:=.agg #[.int .u16 st,.slice (some ⟨w.heap.size+1+1,0,none⟩) 0 0]) (by simp[results,Tryz.results58,go_sem]) rfl ⟨_,rfl,by have:=World.ownsRow_made (base:=w.heap.size) (e:=130) (size:=11) ((w.alloc (.cells #[.int .u16 st,.slice (some ⟨w.heap.size+1+1,0,none⟩) 0 0] 92)).alloc (.cells #[.int .u16 st,.slice (some ⟨w.heap.size+1+1,0,none⟩) 0 0] 92)) #[] 0 (by simp;omega) (by decide) rfl;rw[show((w.alloc (.cells #[.int .u16 st,.slice (some ⟨w.heap.size+1+1,0,none⟩) 0 0] 92)).alloc (.cells #[.int .u16 st,.slice (some ⟨w.heap.size+1+1,0,none⟩) 0 0] 92)).heap.size=w.heap.size+1+1 by simp]at this;exact this,(((zB _ _).alloc (zL _) _).alloc (by simp) _).alloc (by simp;omega) _⟩
 ·have hlt:g<w.heap.size:=by
   rcases Nat.lt_or_ge g w.heap.size with q|q
   ·exact q
   ·rw[Array.getElem?_eq_none q]at hg;simp at hg
  have hcl:=h.1
  have hcc:∀j u,(qH l)[j]?=some u→w.cell? ⟨g,0+j,none⟩=some u:=fun j u hj=>by
   rw[Nat.zero_add,h.cellAt j (by have:=(List.getElem?_eq_some_iff.1 hj).1;omega)]
   exact hj
  have HCL:=zb hcl
  have HCC:=zb hcc
  clear h hg hcl hcc
  obtain⟨i0,hi0,hz0,hz1,hz2⟩:=info_parts j0Y
  have HOW:=zb (World.ownsRow_made (base:=w.heap.size+2) (e:=130) (size:=11) ((w.alloc (.cells #[.int .u16 st,.slice (some ⟨g,0,none⟩) l.length cap] 92)).alloc (.cells q0i 92)) #[] 0 (by simp) (by decide) rfl)
  have BW:Below w.heap.size w (((w.alloc (.cells #[.int .u16 st,.slice (some ⟨g,0,none⟩) l.length cap] 92)).alloc (.cells q0i 92)).alloc (.cells #[] 130)):=(((zB _ _).alloc (zL _) _).alloc (by simp) _).alloc (by simp;omega) _
  have HCW:Hid (∀j u,(qH l)[j]?=some u→(((w.alloc (.cells #[.int .u16 st,.slice (some ⟨g,0,none⟩) l.length cap] 92)).alloc (.cells q0i 92)).alloc (.cells #[] 130)).cell? ⟨g,0+j,none⟩=some u):=zb (fun j u hj=>by
   rw[zK (w:=w) (BW.block g hlt)]
   exact HCC.out j u hj)
  have G0:(((w.alloc (.cells #[.int .u16 st,.slice (some ⟨g,0,none⟩) l.length cap] 92)).alloc (.cells q0i 92)).alloc (.cells #[] 130)).heap[w.heap.size]?=some (.cells #[.int .u16 st,.slice (some ⟨g,0,none⟩) l.length cap] 92 (0,0)):=by
   rw[zO _ _ (by simp;omega),zO _ _ (by simp)];exact zN _ _
  have G1:(((w.alloc (.cells #[.int .u16 st,.slice (some ⟨g,0,none⟩) l.length cap] 92)).alloc (.cells q0i 92)).alloc (.cells #[] 130)).heap[w.heap.size+1]?=some (.cells q0i 92 (0,0)):=by
   rw[zO _ _ (by simp)]
   have:=zN (w.alloc (.cells #[.int .u16 st,.slice (some ⟨g,0,none⟩) l.length cap] 92)) (.cells q0i 92)
   simpa using this
  have hsz:w.heap.size+2<(((w.alloc (.cells #[.int .u16 st,.slice (some ⟨g,0,none⟩) l.length cap] 92)).alloc (.cells q0i 92)).alloc (.cells #[] 130)).heap.size:=by simp
  have HG0:=zb G0
  have HG1:=zb G1
  have HBW:=zb BW
  have HSZ:=zb hsz
  clear G0 G1 BW hsz HCC
  have HON:=zb (j3u l)
  go_enter Tryz.func58,Tryz.ntmps58
  go_wp2_with (first|(refine j3i rfl 90 rfl _ _ (build0 _) ?_)|(at_builtin;(have hX:=HOW.out;rw[show((w.alloc (.cells #[.int .u16 st,.slice (some ⟨g,0,none⟩) l.length cap] 92)).alloc (.cells q0i 92)).heap.size=w.heap.size+1+1 by simp]at hX;refine q2F rfl (.tmp 3) (.tmp 5) 90 130 rfl Tryz.underlying90 hi0 hz0 hz1 hz2 rfl (by decide) (((w.alloc (.cells #[.int .u16 st,.slice (some ⟨g,0,none⟩) l.length cap] 92)).alloc (.cells q0i 92)).alloc (.cells #[] 130)) (w.heap.size+2) _ 0 [] (qH l) _ rfl hX g 0 l.length cap rfl HCL.out HCW.out HON.out (by omega) (by decide) (zB _ _) (Nat.le_of_lt HSZ.out) ?_);intro v' w' hown' hbel' _;obtain⟨va',vc',rfl⟩:=q1i hown';have q0:=(hbel'.block w.heap.size (by omega)).trans HG0.out;have q1:=(hbel'.block (w.heap.size+1) (by omega)).trans HG1.out;have z0:=zC _ _ 0 _ _ _ q0;have z1:=zC _ _ 1 _ _ _ q0;have y0:=zC _ _ 0 _ _ _ q1;have y1:=zC _ _ 1 _ _ _ q1;have f0:=fun j=>zF _ _ j _ _ q0;have f1:=fun j=>zF _ _ j _ _ q1;simp only[gz]at z0 z1 y0 y1;have hs':w.heap.size+1<w'.heap.size:=(by have:=hbel'.size;have:=HSZ.out;omega);have hs0:w.heap.size<w'.heap.size:=(by omega);have HOW':=zb hown';have HB':=zb (HBW.out.trans (hbel'.mono (by omega)));clear hown' hbel' q0 q1))
  have hO:w'.ownsRow (w.heap.size+2) 130 11 (.slice va' l.length vc') l.length (qH l):=by have:=HOW'.out;simpa using this
  have hO2:=ownsRow_setCell_below (a:=⟨w.heap.size+1,1,none⟩) (ownsRow_setCell_below (a:=⟨w.heap.size+1,0,none⟩) (ownsRow_setCell_below (a:=⟨w.heap.size,1,none⟩) hO (by simp) (.slice va' l.length vc')) (by simp) (.int .u16 st)) (by simp) (.slice va' l.length vc')
  exact zP (v:=.agg #[.int .u16 st,.slice va' l.length vc']) (by simp[results,Tryz.results58,go_sem,y0,y1]) rfl ⟨_,rfl,q4B (by omega) hO2,((HB'.out.setCell (zL _) _).setCell (by simp) _).setCell (by simp) _⟩
end Go.Proofs.YtiamjjonoeaggaaGreatDoor
