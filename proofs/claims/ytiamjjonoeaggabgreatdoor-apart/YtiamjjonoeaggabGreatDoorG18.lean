import Derived.Test.YtiamjjonoeaggabGreatDoorGA
import Derived.Test.YtiamjjonoeaggabGreatDoorGB
import Derived.Test.YtiamjjonoeaggabGreatDoorG01
import Derived.Test.YtiamjjonoeaggabGreatDoorG09
import Derived.Test.YtiamjjonoeaggabGreatDoorG10
import Derived.Test.YtiamjjonoeaggabGreatDoorG14
import Derived.Test.YtiamjjonoeaggabGreatDoorG17
import Derived.Deep.RegionHeld3
import Derived.Laws.StructEq
import Derived.ChangeKeysEq
set_option maxRecDepth 100000
set_option maxHeartbeats 16000000
namespace Go.Proofs.YtiamjjonoeaggabGreatDoor
open Go.RowKit
theorem q0Q {P:Program}{ops:Array Oper}{S:World→Prop}{op:Oper}{a:Act}(hw:Region.wanted op (yielded ops a.tmps)=true)(ty:TypeId)(x:Operand)(ho:op.op=.load ty x)(ad:Addr)(v:Value)(hx:a.eval x=.pointer (some ad))
  (hr:∀w,S w→(Instr.loadAt ty (.pointer (some ad))).run P w=.ok v w):YieldsIf P ops S op v a:=
 .inl ⟨hw,fun w hS=>by
  unfold execOp
  simp only[ho,hx,hr w hS,Sem.run_bind,Sem.run_pure,Result.andThen_ok]⟩
structure VwAt (w:World)(lb lo:Nat)(ao:OA)(cap:Nat)(PL:List PPt)(vf vs:Value)(mA mB:Nat)(A B:Nat→Nat→Nat→Bool):Prop where
 log:LogAt w lb lo ao cap PL
 fst:Tb w vf mA A
 snd:Tb w vs mB B
 szA:mA≤40
 szB:mB≤40
theorem VwAt.below {w w':World}{lb lo:Nat}{ao:OA}{cap:Nat}{PL:List PPt}{vf vs:Value}{mA mB:Nat}{A B:Nat→Nat→Nat→Bool}(h:VwAt w lb lo ao cap PL vf vs mA mB A B)(hb:Below w.heap.size w w'):VwAt w' lb lo ao cap PL vf vs mA mB A B:=
 ⟨h.log.below hb,h.fst.below hb,h.snd.below hb,h.szA,h.szB⟩
theorem q2I {w:World}{b:Nat}{nd:PNode}{lb lo:Nat}{vf vs:Value}(h:w.heap[b]?=some (.cells (q1a nd lb lo vf vs).toArray 168 (0,0))):(Instr.loadAt 168 (.pointer (some ⟨b,0,none⟩))).run Tryz.prog w=.ok (.agg (q1a nd lb lo vf vs).toArray) w:=
 qH (P:=Tryz.prog) 168 168 w b (q1a nd lb lo vf vs).toArray (0,0) _ h Tryz.underlying168 rfl (by kernel_rfl)
structure FdAt (w wr:World)(nd:PNode)(lb lo:Nat)(vf vs:Value)(bk:Nat)(f k:Nat→Nat→Bool):Prop where
 view:wr.heap[w.heap.size]?=some (.cells (q1a nd lb lo vf vs).toArray 168 (0,0))
 res:wr.heap[w.heap.size+1]?=some (.cells zCs 43 (0,0))
 fnd:wr.heap[w.heap.size+2]?=some (.cells (qA (zm f)).toArray 43 (0,0))
 kep:wr.heap[bk]?=some (.cells (qA (zm k)).toArray 43 (0,0))
 bel:Below w.heap.size w wr
 ge:w.heap.size+3≤bk
theorem zd {w:World}{b:Nat}{o:Obj}(h:w.heap[b]?=some o):b<w.heap.size:=by
 rcases Nat.lt_or_ge b w.heap.size with g|g
 ·exact g
 ·rw[Array.getElem?_eq_none g]at h;simp at h
theorem FdAt.below {w wr w':World}{nd:PNode}{lb lo:Nat}{vf vs:Value}{bk:Nat}{f k:Nat→Nat→Bool}(h:FdAt w wr nd lb lo vf vs bk f k)(hb:Below wr.heap.size wr w'):FdAt w w' nd lb lo vf vs bk f k:=
 ⟨(hb.block _ (zd h.view)).trans h.view,(hb.block _ (zd h.res)).trans h.res,(hb.block _ (zd h.fnd)).trans h.fnd,(hb.block _ (zd h.kep)).trans h.kep,h.bel.trans (hb.mono h.bel.size),h.ge⟩
theorem FdAt.setF {w wr:World}{nd:PNode}{lb lo:Nat}{vf vs:Value}{bk:Nat}{f k:Nat→Nat→Bool}(h:FdAt w wr nd lb lo vf vs bk f k)(g:Nat→Nat→Bool) :
  ∃W,(Instr.storeAt 43 (.pointer (some ⟨w.heap.size+2,0,none⟩)) (zr (zm g))).run Tryz.prog wr=.ok () W∧FdAt w W nd lb lo vf vs bk g k∧∀q,q≠w.heap.size+2→W.heap[q]?=wr.heap[q]?:=by
 obtain⟨W,s1,s2,s3,s4,s5,s6,s7⟩:=q4Y wr (w.heap.size+2) _ (zm g) h.fnd rfl
 have hge:=h.ge
 exact⟨W,s1,⟨(s3 _ (by omega)).trans h.view,(s3 _ (by omega)).trans h.res,s2,(s3 _ (by omega)).trans h.kep,⟨s5.trans h.bel.os,s6.trans h.bel.tape,s7.trans h.bel.output,by rw[s4];exact h.bel.size,fun q hq=>by rw[s3 q (by omega)];exact h.bel.block q hq⟩,h.ge⟩,s3⟩
theorem FdAt.setK {w wr:World}{nd:PNode}{lb lo:Nat}{vf vs:Value}{bk:Nat}{f k:Nat→Nat→Bool}(h:FdAt w wr nd lb lo vf vs bk f k)(g:Nat→Nat→Bool) :
  ∃W,(Instr.storeAt 43 (.pointer (some ⟨bk,0,none⟩)) (zr (zm g))).run Tryz.prog wr=.ok () W∧FdAt w W nd lb lo vf vs bk f g∧∀q,q≠bk→W.heap[q]?=wr.heap[q]?:=by
 obtain⟨W,s1,s2,s3,s4,s5,s6,s7⟩:=q4Y wr bk _ (zm g) h.kep rfl
 have hge:=h.ge
 exact⟨W,s1,⟨(s3 _ (by omega)).trans h.view,(s3 _ (by omega)).trans h.res,(s3 _ (by omega)).trans h.fnd,s2,⟨s5.trans h.bel.os,s6.trans h.bel.tape,s7.trans h.bel.output,by rw[s4];exact h.bel.size,fun q hq=>by rw[s3 q (by omega)];exact h.bel.block q hq⟩,h.ge⟩,s3⟩
theorem q5O (k v:Int)(d:Nat)(hd:d<10)(w:World) :
  Calls Tryz.prog 181 #[.agg #[.int .i64 k,.int .i64 v],.int .i64 d] w fun e w'=>e=.returned (zr (zm fun x y=>q4y k v d x y))∧Below w.heap.size w w':=by
 have HB1:Hid (Below w.heap.size w ((w.alloc (.cells #[.int .i64 k,.int .i64 v] 161)).alloc (.cells zCs 43))):=zb (((zB _ _).alloc (zL _) _).alloc (by simp) _)
 have G1:((w.alloc (.cells #[.int .i64 k,.int .i64 v] 161)).alloc (.cells zCs 43)).heap[w.heap.size+1]?=some (.cells zCs 43 (0,0)):=by
  have:=zN (w.alloc (.cells #[.int .i64 k,.int .i64 v] 161)) (.cells zCs 43)
  simpa using this
 have HG1:=zb G1
 clear G1
 by_cases hk:k=3∨k=4
 ·have e:(fun x y=>q4y k v d x y)=valS k d:=by
   funext x y
   unfold q4y valS
   rcases hk with rfl|rfl
   ·rw[if_pos rfl,if_pos rfl]
   ·rw[if_neg (by decide),if_pos rfl,if_neg (by decide)]
  rw[e]
  have HC:=zb (j2s k d hd)
  generalize zm (valS k d)=r at *
  obtain⟨T,hT⟩:∃T,T=zr r:=⟨_,rfl⟩
  rw[←hT]at HC ⊢
  have HT:=zb hT
  clear e hT
  rcases hk with rfl|rfl
  all_goals
   go_enter Tryz.func181,Tryz.ntmps181
   go_wp2_with fail
   refine(HC.out _).mono ?_
   rintro e w2 ⟨rfl,b2⟩
   obtain⟨W,S1,LV,BW⟩:=q1L HG1.out (by omega) HB1.out b2 r
   rw[←HT.out]at S1 LV
   have HW:=zb BW
   clear b2 BW
   go_wp2_with (refine ze rfl 43 (.tmp 4) (.tmp 16) rfl ⟨w.heap.size+1,0,none⟩ T rfl rfl W S1 ?_)
   exact zP (v:=T) (zl rfl _ _ _ _ rfl LV) rfl ⟨rfl,HW.out⟩
 ·have k1:¬k=3:=fun h=>hk (.inl h)
  have k2:¬k=4:=fun h=>hk (.inr h)
  have e1:(k==3)=false:=by simpa using k1
  have e2:(k==4)=false:=by simpa using k2
  by_cases hv:v=(d:Int)
  ·have e:(fun x y=>q4y k v d x y)=(fun _ _=>true):=by funext x y;unfold q4y;rw[if_neg k1,if_neg k2,decide_eq_true hv]
   rw[e]
   have HC:=zb q3g
   generalize zm (fun _ _=>true)=r at *
   obtain⟨T,hT⟩:∃T,T=zr r:=⟨_,rfl⟩
   rw[←hT]at HC ⊢
   have HT:=zb hT
   subst hv
   clear e hT hk
   go_enter Tryz.func181,Tryz.ntmps181
   go_wp2_with fail
   refine(HC.out _).mono ?_
   rintro e w2 ⟨rfl,b2⟩
   obtain⟨W,S1,LV,BW⟩:=q1L HG1.out (by omega) HB1.out b2 r
   rw[←HT.out]at S1 LV
   have HW:=zb BW
   clear b2 BW
   go_wp2_with (refine ze rfl 43 (.tmp 4) (.tmp 21) rfl ⟨w.heap.size+1,0,none⟩ T rfl rfl W S1 ?_)
   exact zP (v:=T) (zl rfl _ _ _ _ rfl LV) rfl ⟨rfl,HW.out⟩
  ·have e:(fun x y=>q4y k v d x y)=(fun _ _=>false):=by funext x y;unfold q4y;rw[if_neg k1,if_neg k2,decide_eq_false hv]
   rw[e,q5Y (fun _ _=>rfl)]
   have e3:(v==(d:Int))=false:=by simpa using hv
   clear e hk HB1 HG1
   go_enter Tryz.func181,Tryz.ntmps181
   go_wp2_with fail
   exact zP (v:=zr fun _=>0) (by simp[results,Tryz.results181,go_sem]) rfl ⟨rfl,((zB _ _).alloc (zL _) _).alloc (by simp) _⟩
theorem q0k {P:Program}{md:Region.Mode}{ops:Array Oper}{Q:Exit→Act→World→Prop}{S:World→Prop}{i:Nat}{oi:Oper}{v:Value}{fuel:Nat}{listed:Array Bool}{a:Act}{w:World}(d:Tmp)(hi:ops[i]?=some oi)(hd:oi.dst=some d)
  (hs:Region.noSelect ops=true)(hf:Region.free md ops listed i=true)(hr:(Region.ready md ops listed).contains i=true)
  (hQ:∀c a w,Q (.panic c) (a.put oi.dst v) w→Q (.panic c) a w)(hy:YieldsIf P ops S oi v a)(hS:S w)
  (h:wpAnyH P md ops Q S fuel (listed.setIfInBounds i true) (a.put (some d) v) w):wpAnyH P md ops Q S (fuel+1) listed a w:=
 wpAnyH_take hi hs hf hr hQ hy hS (by rw[hd];exact h)
def q4L (nd:PNode)(d0 d1:Nat)(k:Nat)(x y:Nat):Bool:=(!decide (0<k) || q4y nd.k0 nd.v0 d0 x y)&&(!decide (1<k) || q4y nd.k1 nd.v1 d1 x y)
structure VfAt (w wr:World)(nd:PNode)(d0 d1:Nat)(bk:Nat)(f:Nat→Nat→Bool):Prop where
 nod:wr.heap[w.heap.size]?=some (.cells (zq nd).toArray 166 (0,0))
 dig:wr.heap[w.heap.size+1]?=some (.cells #[.int .i64 d0,.int .i64 d1] 127 (0,0))
 res:wr.heap[w.heap.size+2]?=some (.cells zCs 43 (0,0))
 fit:wr.heap[bk]?=some (.cells (qA (zm f)).toArray 43 (0,0))
 bel:Below w.heap.size w wr
 ge:w.heap.size+3≤bk
theorem VfAt.below {w wr w':World}{nd:PNode}{d0 d1:Nat}{bk:Nat}{f:Nat→Nat→Bool}(h:VfAt w wr nd d0 d1 bk f)(hb:Below wr.heap.size wr w'):VfAt w w' nd d0 d1 bk f:=
 ⟨(hb.block _ (zd h.nod)).trans h.nod,(hb.block _ (zd h.dig)).trans h.dig,(hb.block _ (zd h.res)).trans h.res,(hb.block _ (zd h.fit)).trans h.fit,h.bel.trans (hb.mono h.bel.size),h.ge⟩
theorem VfAt.set {w wr:World}{nd:PNode}{d0 d1:Nat}{bk:Nat}{f:Nat→Nat→Bool}(h:VfAt w wr nd d0 d1 bk f)(g:Nat→Nat→Bool) :
  ∃W,(Instr.storeAt 43 (.pointer (some ⟨bk,0,none⟩)) (zr (zm g))).run Tryz.prog wr=.ok () W∧VfAt w W nd d0 d1 bk g:=by
 obtain⟨W,s1,s2,s3,s4,s5,s6,s7⟩:=q4Y wr bk _ (zm g) h.fit rfl
 have hge:=h.ge
 exact⟨W,s1,⟨(s3 _ (by omega)).trans h.nod,(s3 _ (by omega)).trans h.dig,(s3 _ (by omega)).trans h.res,s2,⟨s5.trans h.bel.os,s6.trans h.bel.tape,s7.trans h.bel.output,by rw[s4];exact h.bel.size,fun q hq=>by rw[s3 q (by omega)];exact h.bel.block q hq⟩,h.ge⟩⟩
theorem q8z {w:World}{b:Nat}{nd:PNode}(h:w.heap[b]?=some (.cells (zq nd).toArray 166 (0,0)))(o:Nat)(cs:List Value)(hc:∀(j:Nat) (u:Value),cs[j]?=some u→(zq nd)[o+j]?=some u)(hl:cs.length=2):(Instr.loadAt 161 (.pointer (some ⟨b,o,none⟩))).run Tryz.prog w=.ok (.agg cs.toArray) w:=
 run_loadAt_mid w b o 161 cs _ (fun j u hj=>by rw[zC _ _ (o+j) _ _ _ h,List.getElem?_toArray];exact hc j u hj) Tryz.underlying161 rfl (by rw[hl];kernel_rfl)
theorem q8E {w:World}{b:Nat}{cs:Array Value}{t:TypeId}(h:w.heap[b]?=some (.cells cs t (0,0)))(o:Nat)(v:Value)(hv:cs[o]?=some v):(Instr.loadAt 3 (.pointer (some ⟨b,o,none⟩))).run Tryz.prog w=.ok v w:=by
 have hc:w.cell? ⟨b,o,none⟩=some v:=by rw[zC _ _ o _ _ _ h];exact hv
 simp[go_sem,hc]
def VfRel (w:World)(nd:PNode)(d0 d1 bk n:Nat)(g:Nat)(va:Value)(wr:World):Prop:=∃k:Nat,k≤n∧n-k≤g∧va=.int .i64 k∧VfAt w wr nd d0 d1 bk (q4L nd d0 d1 k)
theorem j2r (V:Value)(nd:PNode)(hV:V=q1C nd)(d0 d1:Nat)(h0:d0<10)(h1:d1<10)(n:Nat)(hn:nd.cnt=(n:Int))(hn2:n≤2)(w:World) :
  Calls Tryz.prog 162 #[V,.agg #[.int .i64 d0,.int .i64 d1]] w fun e w'=>e=.returned (zr (zm (q4L nd d0 d1 n)))∧Below w.heap.size w w':=by
 have HV:Hid (V=.agg (zq nd).toArray):=zb hV
 have HAL:=zb q3g
 have HK0:Hid ((fun _ _=>true)=q4L nd d0 d1 0):=zb (by funext x y;simp[q4L])
 have HVA0:=zb (q5O nd.k0 nd.v0 d0 h0)
 have HVA1:=zb (q5O nd.k1 nd.v1 d1 h1)
 have HF1:Hid (q4L nd d0 d1 1=fun x y=>q4L nd d0 d1 0 x y&&q4y nd.k0 nd.v0 d0 x y):=zb (by funext x y;simp[q4L])
 have HF2:Hid (q4L nd d0 d1 2=fun x y=>q4L nd d0 d1 1 x y&&q4y nd.k1 nd.v1 d1 x y):=zb (by funext x y;simp[q4L])
 obtain⟨UA,hUA⟩:∃UA,UA=zr (zm fun _ _=>true):=⟨_,rfl⟩
 rw[←hUA]at HAL
 have HUA:=zb hUA
 obtain⟨RV,hRV⟩:∃RV,RV=zr (zm (q4L nd d0 d1 n)):=⟨_,rfl⟩
 rw[←hRV]
 have HRV:=zb hRV
 have HN:=zb hn
 clear hV hUA hRV hn
 go_enter Tryz.func162,Tryz.ntmps162
 go_wp2_with (first|(refine qF rfl 166 (.tmp 0) rfl V _ rfl HV.out ?_;intro W0 g0 b0 z0;have HZ0:=zb z0;have HG0:=zb g0;have HB0:=zb b0;clear g0 z0 b0))
 have B1:Below w.heap.size w ((W0.alloc (.cells #[.int .i64 d0,.int .i64 d1] 127)).alloc (.cells zCs 43)):=(HB0.out.alloc HB0.out.size _).alloc (by have:=HB0.out.size;simp;omega) _
 have ew0:W0.heap.size=w.heap.size+1:=HZ0.out
 have G0:((W0.alloc (.cells #[.int .i64 d0,.int .i64 d1] 127)).alloc (.cells zCs 43)).heap[w.heap.size]?=_:=(zO _ _ (by simp;omega)).trans ((zO _ _ (by omega)).trans HG0.out)
 have G1:((W0.alloc (.cells #[.int .i64 d0,.int .i64 d1] 127)).alloc (.cells zCs 43)).heap[w.heap.size+1]?=some (.cells #[.int .i64 d0,.int .i64 d1] 127 (0,0)):=by rw[←ew0,zO _ _ (by simp)];exact zN _ _
 have G2:((W0.alloc (.cells #[.int .i64 d0,.int .i64 d1] 127)).alloc (.cells zCs 43)).heap[w.heap.size+2]?=some (.cells zCs 43 (0,0)):=by
  have e:w.heap.size+2=(W0.alloc (.cells #[.int .i64 d0,.int .i64 d1] 127)).heap.size:=by simp;omega
  rw[e];exact zN _ _
 have Z1:((W0.alloc (.cells #[.int .i64 d0,.int .i64 d1] 127)).alloc (.cells zCs 43)).heap.size=w.heap.size+3:=by simp;omega
 generalize (W0.alloc (.cells #[.int .i64 d0,.int .i64 d1] 127)).alloc (.cells zCs 43)=W1 at *
 refine(HAL.out _).mono ?_
 rintro e w2 ⟨rfl,b2⟩
 obtain⟨W3,S3,g3,b3,z3⟩:=q0w w2 (zm fun _ _=>true)
 rw[←HUA.out]at S3
 have b13:Below W1.heap.size W1 W3:=b2.trans (b3.mono b2.size)
 have hF3:VfAt w W3 nd d0 d1 w2.heap.size (q4L nd d0 d1 0):=⟨(b13.block _ (by omega)).trans G0,(b13.block _ (by omega)).trans G1,(b13.block _ (by omega)).trans G2,by rw[←HK0.out];exact g3,B1.trans (b13.mono (by omega)),by have:=b2.size;omega⟩
 have HF3:=zb hF3
 rw[ew0]
 clear b2 b3 g3 z3 b13 hF3 G0 G1 G2 B1 Z1 HZ0 HG0 HB0 ew0
 go_wp2_with (refine ze rfl 43 (.tmp 5) (.tmp 7) rfl ⟨w2.heap.size,0,none⟩ UA rfl rfl W3 S3 ?_)
 generalize w2.heap.size=bk at *
 clear S3
 go_loopg [6] n (fun g va wr=>VfRel w nd d0 d1 bk n g va wr)
 case atStart=>exact⟨0,zZ _,by omega,rfl,HF3.out⟩
 case round =>
  obtain⟨k,hk,hg,rfl,hfd⟩:=hrel
  have HG:=zb hg
  have HFD:=zb hfd
  have c14:wr.cell? ⟨w.heap.size,14,none⟩=some (.int .i64 n):=by rw[zC _ _ 14 _ _ _ hfd.nod,←HN.out];rfl
  have hlw:w.heap.size<wr.heap.size:=zd hfd.nod
  have hlw1:w.heap.size+1<wr.heap.size:=zd hfd.dig
  clear hg hfd HF3
  by_cases hkn:k<n
  ·obtain⟨UF,hUF⟩:∃U,U=zr (zm (q4L nd d0 d1 k)):=⟨_,rfl⟩
   have HUF:=zb hUF
   obtain⟨UF2,hUF2⟩:∃U,U=zr (zm (q4L nd d0 d1 (k+1))):=⟨_,rfl⟩
   have HUF2:=zb hUF2
   obtain⟨W,hWd⟩:∃W:World,W=wr:=⟨_,rfl⟩
   rw[←hWd]at HFD c14 hlw hlw1 ⊢
   clear hWd hUF hUF2
   rcases(by omega:k=0∨k=1)with rfl|rfl
   ·obtain⟨UG,hUG⟩:∃U,U=zr (zm fun x y=>q4y nd.k0 nd.v0 d0 x y):=⟨_,rfl⟩
    rw[←hUG]at HVA0
    have HBO:Hid (∀W',Calls Tryz.prog 135 #[UF,UG] W' fun e w'=>e=.returned UF2∧Below W'.heap.size W' w'):=zb (fun W'=>by rw[HUF.out,hUG,HUF2.out,HF1.out];exact q6Y (q4L nd d0 d1 0) (fun x y=>q4y nd.k0 nd.v0 d0 x y) W')
    clear hUG
    have HB0:Hid (Below W.heap.size W W.drew):=zb ((zB _ _).drew)
    have HS:Hid (∀w',Below W.heap.size W w'→(Instr.loadAt 161 (.pointer (some ⟨w.heap.size,10,none⟩))).run Tryz.prog w'=.ok (.agg #[.int .i64 nd.k0,.int .i64 nd.v0]) w'∧(Instr.loadAt 3 (.pointer (some ⟨w.heap.size+1,0,none⟩))).run Tryz.prog w'=.ok (.int .i64 d0) w'):=zb (fun w' hb=>⟨q8z (HFD.out.below hb).nod 10 [.int .i64 nd.k0,.int .i64 nd.v0] (fun j u hj=>by rcases j with _|_|j<;>simp at hj<;>(subst hj;rfl)) rfl,q8E (HFD.out.below hb).dig 0 (.int .i64 d0) rfl⟩)
    have HLF:Hid (∀w',Below W.heap.size W w'→(Instr.loadAt 43 (.pointer (some ⟨bk,0,none⟩))).run Tryz.prog w'=.ok UF w'):=zb (fun w' hb=>by rw[HUF.out];exact qg (HFD.out.below hb).fit)
    have FIN:Hid (∀w',Below W.heap.size W w'→∃WS,(Instr.storeAt 43 (.pointer (some ⟨bk,0,none⟩)) UF2).run Tryz.prog w'=.ok () WS∧((Instr.loadAt 161 (.pointer (some ⟨w.heap.size,10,none⟩))).run Tryz.prog WS=.ok (.agg #[.int .i64 nd.k0,.int .i64 nd.v0]) WS∧(Instr.loadAt 3 (.pointer (some ⟨w.heap.size+1,0,none⟩))).run Tryz.prog WS=.ok (.int .i64 d0) WS)∧VfAt w WS nd d0 d1 bk (q4L nd d0 d1 1)):=zb (fun w' hb=>by
     obtain⟨WS,q1,q2⟩:=(HFD.out.below hb).set (q4L nd d0 d1 1)
     exact⟨WS,by rw[HUF2.out];exact q1,⟨q8z q2.nod 10 [.int .i64 nd.k0,.int .i64 nd.v0] (fun j u hj=>by rcases j with _|_|j<;>simp at hj<;>(subst hj;rfl)) rfl,q8E q2.dig 0 (.int .i64 d0) rfl⟩,q2⟩)
    go_wp2_with fail
    refine wp_region_held_drew (S:=fun w'=>(Instr.loadAt 161 (.pointer (some ⟨w.heap.size,10,none⟩))).run Tryz.prog w'=.ok (.agg #[.int .i64 nd.k0,.int .i64 nd.v0]) w'∧(Instr.loadAt 3 (.pointer (some ⟨w.heap.size+1,0,none⟩))).run Tryz.prog w'=.ok (.int .i64 d0) w') (by kernel_rfl) (HS.out _ HB0.out) (fun _=>?_)
    refine q0k (i:=1) (v:=.int .i64 0) 19 rfl rfl (by kernel_rfl) (by kernel_rfl) (by kernel_rfl) (fun _ _ _ h=>h) (Or.inl ⟨by rfl,fun w _=>by go_simp⟩) (HS.out _ HB0.out) ?_
    simp only[Act.put,List.setIfInBounds_toArray,List.set_cons_succ,List.set_cons_zero]
    refine q0k (i:=2) (v:=.pointer (some ⟨w.heap.size,10,none⟩)) 20 rfl rfl (by kernel_rfl) (by kernel_rfl) (by kernel_rfl) (fun _ _ _ h=>h) (Or.inl ⟨by rfl,fun w _=>by go_simp⟩) (HS.out _ HB0.out) ?_
    simp only[Act.put,List.setIfInBounds_toArray,List.set_cons_succ,List.set_cons_zero]
    refine q0k (i:=3) (v:=.pointer (some ⟨w.heap.size,10,none⟩)) 21 rfl rfl (by kernel_rfl) (by kernel_rfl) (by kernel_rfl) (fun _ _ _ h=>h) (Or.inl ⟨by rfl,fun w _=>by go_simp⟩) (HS.out _ HB0.out) ?_
    simp only[Act.put,List.setIfInBounds_toArray,List.set_cons_succ,List.set_cons_zero]
    refine q0k (i:=4) (v:=.agg #[.int .i64 nd.k0,.int .i64 nd.v0]) 22 rfl rfl (by kernel_rfl) (by kernel_rfl) (by kernel_rfl) (fun _ _ _ h=>h) (q0Q (by rfl) 161 (.tmp 21) rfl ⟨w.heap.size,10,none⟩ _ rfl (fun w h=>h.1)) (HS.out _ HB0.out) ?_
    simp only[Act.put,List.setIfInBounds_toArray,List.set_cons_succ,List.set_cons_zero]
    refine q0k (i:=5) (v:=.int .i64 0) 23 rfl rfl (by kernel_rfl) (by kernel_rfl) (by kernel_rfl) (fun _ _ _ h=>h) (Or.inl ⟨by rfl,fun w _=>by go_simp⟩) (HS.out _ HB0.out) ?_
    simp only[Act.put,List.setIfInBounds_toArray,List.set_cons_succ,List.set_cons_zero]
    refine q0k (i:=6) (v:=.pointer (some ⟨w.heap.size+1,0,none⟩)) 24 rfl rfl (by kernel_rfl) (by kernel_rfl) (by kernel_rfl) (fun _ _ _ h=>h) (Or.inl ⟨by rfl,fun w _=>by go_simp⟩) (HS.out _ HB0.out) ?_
    simp only[Act.put,List.setIfInBounds_toArray,List.set_cons_succ,List.set_cons_zero]
    refine q0k (i:=7) (v:=.int .i64 d0) 25 rfl rfl (by kernel_rfl) (by kernel_rfl) (by kernel_rfl) (fun _ _ _ h=>h) (q0Q (by rfl) 3 (.tmp 24) rfl ⟨w.heap.size+1,0,none⟩ _ rfl (fun w h=>h.2)) (HS.out _ HB0.out) ?_
    simp only[Act.put,List.setIfInBounds_toArray,List.set_cons_succ,List.set_cons_zero]
    refine zY (rs:=[0,8]) (by kernel_rfl) (by simp) ?_
    refine zR rfl (fun K hK=>?_) (zR rfl (fun K hK=>?_) zE)
    ·rw[if_pos (by rfl)]
     refine q0e 43 (.tmp 5) rfl ⟨bk,0,none⟩ UF rfl (HLF.out _ HB0.out) ?_
     refine hK.out _ _ (HS.out _ HB0.out) (fun _=>?_)
     clear hK K
     simp only[Act.put,List.setIfInBounds_toArray]
     refine rd1 8 rfl fun K hK=>?_
     go_simp
     refine(HVA0.out _).mono ?_
     rintro e w5 ⟨rfl,b5⟩
     have Bb5:Below W.heap.size W w5:=(HB0.out).trans (b5.mono (HB0.out).size)
     go_simp
     refine hK.out _ _ (HS.out _ Bb5) (fun _=>?_)
     clear hK K b5
     refine rd1 9 rfl fun K hK=>?_
     go_simp
     refine(HBO.out _).mono ?_
     rintro e w6 ⟨rfl,b6⟩
     have Bb6:Below W.heap.size W w6:=(Bb5).trans (b6.mono (Bb5).size)
     go_simp
     refine hK.out _ _ (HS.out _ Bb6) (fun _=>?_)
     clear hK K b6
     obtain⟨WS,S1,HSW,PW⟩:=FIN.out _ Bb6
     refine rd1 10 rfl fun K hK=>?_
     refine qe 43 (.tmp 5) (.tmp 27) rfl ⟨bk,0,none⟩ UF2 rfl rfl WS S1 ?_
     refine hK.out _ _ HSW (fun _=>?_)
     clear hK K
     refine zD (by kernel_rfl) ?_ _
     simp only[Act.put,List.setIfInBounds_toArray]
     have hg1:0<gk:=by have:=HG.out;omega
     go_wp2_with fail
     go_roundg (gk-1)
     case measure=>omega
     case rel=>exact⟨1,by omega,by have:=HG.out;omega,by rfl,PW⟩
    ·rw[if_pos (by rfl)]
     go_simp
     refine(HVA0.out _).mono ?_
     rintro e w5 ⟨rfl,b5⟩
     have Bb5:Below W.heap.size W w5:=(HB0.out).trans (b5.mono (HB0.out).size)
     go_simp
     refine hK.out _ _ (HS.out _ Bb5) (fun _=>?_)
     clear hK K b5
     refine rd1 0 rfl fun K hK=>?_
     refine q0e 43 (.tmp 5) rfl ⟨bk,0,none⟩ UF rfl (HLF.out _ Bb5) ?_
     refine hK.out _ _ (HS.out _ Bb5) (fun _=>?_)
     clear hK K
     simp only[Act.put,List.setIfInBounds_toArray]
     refine rd1 9 rfl fun K hK=>?_
     go_simp
     refine(HBO.out _).mono ?_
     rintro e w6 ⟨rfl,b6⟩
     have Bb6:Below W.heap.size W w6:=(Bb5).trans (b6.mono (Bb5).size)
     go_simp
     refine hK.out _ _ (HS.out _ Bb6) (fun _=>?_)
     clear hK K b6
     obtain⟨WS,S1,HSW,PW⟩:=FIN.out _ Bb6
     refine rd1 10 rfl fun K hK=>?_
     refine qe 43 (.tmp 5) (.tmp 27) rfl ⟨bk,0,none⟩ UF2 rfl rfl WS S1 ?_
     refine hK.out _ _ HSW (fun _=>?_)
     clear hK K
     refine zD (by kernel_rfl) ?_ _
     simp only[Act.put,List.setIfInBounds_toArray]
     have hg1:0<gk:=by have:=HG.out;omega
     go_wp2_with fail
     go_roundg (gk-1)
     case measure=>omega
     case rel=>exact⟨1,by omega,by have:=HG.out;omega,by rfl,PW⟩
   ·obtain⟨UG,hUG⟩:∃U,U=zr (zm fun x y=>q4y nd.k1 nd.v1 d1 x y):=⟨_,rfl⟩
    rw[←hUG]at HVA1
    have HBO:Hid (∀W',Calls Tryz.prog 135 #[UF,UG] W' fun e w'=>e=.returned UF2∧Below W'.heap.size W' w'):=zb (fun W'=>by rw[HUF.out,hUG,HUF2.out,HF2.out];exact q6Y (q4L nd d0 d1 1) (fun x y=>q4y nd.k1 nd.v1 d1 x y) W')
    clear hUG
    have HB0:Hid (Below W.heap.size W W.drew):=zb ((zB _ _).drew)
    have HS:Hid (∀w',Below W.heap.size W w'→(Instr.loadAt 161 (.pointer (some ⟨w.heap.size,12,none⟩))).run Tryz.prog w'=.ok (.agg #[.int .i64 nd.k1,.int .i64 nd.v1]) w'∧(Instr.loadAt 3 (.pointer (some ⟨w.heap.size+1,1,none⟩))).run Tryz.prog w'=.ok (.int .i64 d1) w'):=zb (fun w' hb=>⟨q8z (HFD.out.below hb).nod 12 [.int .i64 nd.k1,.int .i64 nd.v1] (fun j u hj=>by rcases j with _|_|j<;>simp at hj<;>(subst hj;rfl)) rfl,q8E (HFD.out.below hb).dig 1 (.int .i64 d1) rfl⟩)
    have HLF:Hid (∀w',Below W.heap.size W w'→(Instr.loadAt 43 (.pointer (some ⟨bk,0,none⟩))).run Tryz.prog w'=.ok UF w'):=zb (fun w' hb=>by rw[HUF.out];exact qg (HFD.out.below hb).fit)
    have FIN:Hid (∀w',Below W.heap.size W w'→∃WS,(Instr.storeAt 43 (.pointer (some ⟨bk,0,none⟩)) UF2).run Tryz.prog w'=.ok () WS∧((Instr.loadAt 161 (.pointer (some ⟨w.heap.size,12,none⟩))).run Tryz.prog WS=.ok (.agg #[.int .i64 nd.k1,.int .i64 nd.v1]) WS∧(Instr.loadAt 3 (.pointer (some ⟨w.heap.size+1,1,none⟩))).run Tryz.prog WS=.ok (.int .i64 d1) WS)∧VfAt w WS nd d0 d1 bk (q4L nd d0 d1 2)):=zb (fun w' hb=>by
     obtain⟨WS,q1,q2⟩:=(HFD.out.below hb).set (q4L nd d0 d1 2)
     exact⟨WS,by rw[HUF2.out];exact q1,⟨q8z q2.nod 12 [.int .i64 nd.k1,.int .i64 nd.v1] (fun j u hj=>by rcases j with _|_|j<;>simp at hj<;>(subst hj;rfl)) rfl,q8E q2.dig 1 (.int .i64 d1) rfl⟩,q2⟩)
    go_wp2_with fail
    refine wp_region_held_drew (S:=fun w'=>(Instr.loadAt 161 (.pointer (some ⟨w.heap.size,12,none⟩))).run Tryz.prog w'=.ok (.agg #[.int .i64 nd.k1,.int .i64 nd.v1]) w'∧(Instr.loadAt 3 (.pointer (some ⟨w.heap.size+1,1,none⟩))).run Tryz.prog w'=.ok (.int .i64 d1) w') (by kernel_rfl) (HS.out _ HB0.out) (fun _=>?_)
    refine q0k (i:=1) (v:=.int .i64 1) 19 rfl rfl (by kernel_rfl) (by kernel_rfl) (by kernel_rfl) (fun _ _ _ h=>h) (Or.inl ⟨by rfl,fun w _=>by go_simp⟩) (HS.out _ HB0.out) ?_
    simp only[Act.put,List.setIfInBounds_toArray,List.set_cons_succ,List.set_cons_zero]
    refine q0k (i:=2) (v:=.pointer (some ⟨w.heap.size,10,none⟩)) 20 rfl rfl (by kernel_rfl) (by kernel_rfl) (by kernel_rfl) (fun _ _ _ h=>h) (Or.inl ⟨by rfl,fun w _=>by go_simp⟩) (HS.out _ HB0.out) ?_
    simp only[Act.put,List.setIfInBounds_toArray,List.set_cons_succ,List.set_cons_zero]
    refine q0k (i:=3) (v:=.pointer (some ⟨w.heap.size,12,none⟩)) 21 rfl rfl (by kernel_rfl) (by kernel_rfl) (by kernel_rfl) (fun _ _ _ h=>h) (Or.inl ⟨by rfl,fun w _=>by go_simp⟩) (HS.out _ HB0.out) ?_
    simp only[Act.put,List.setIfInBounds_toArray,List.set_cons_succ,List.set_cons_zero]
    refine q0k (i:=4) (v:=.agg #[.int .i64 nd.k1,.int .i64 nd.v1]) 22 rfl rfl (by kernel_rfl) (by kernel_rfl) (by kernel_rfl) (fun _ _ _ h=>h) (q0Q (by rfl) 161 (.tmp 21) rfl ⟨w.heap.size,12,none⟩ _ rfl (fun w h=>h.1)) (HS.out _ HB0.out) ?_
    simp only[Act.put,List.setIfInBounds_toArray,List.set_cons_succ,List.set_cons_zero]
    refine q0k (i:=5) (v:=.int .i64 1) 23 rfl rfl (by kernel_rfl) (by kernel_rfl) (by kernel_rfl) (fun _ _ _ h=>h) (Or.inl ⟨by rfl,fun w _=>by go_simp⟩) (HS.out _ HB0.out) ?_
    simp only[Act.put,List.setIfInBounds_toArray,List.set_cons_succ,List.set_cons_zero]
    refine q0k (i:=6) (v:=.pointer (some ⟨w.heap.size+1,1,none⟩)) 24 rfl rfl (by kernel_rfl) (by kernel_rfl) (by kernel_rfl) (fun _ _ _ h=>h) (Or.inl ⟨by rfl,fun w _=>by go_simp⟩) (HS.out _ HB0.out) ?_
    simp only[Act.put,List.setIfInBounds_toArray,List.set_cons_succ,List.set_cons_zero]
    refine q0k (i:=7) (v:=.int .i64 d1) 25 rfl rfl (by kernel_rfl) (by kernel_rfl) (by kernel_rfl) (fun _ _ _ h=>h) (q0Q (by rfl) 3 (.tmp 24) rfl ⟨w.heap.size+1,1,none⟩ _ rfl (fun w h=>h.2)) (HS.out _ HB0.out) ?_
    simp only[Act.put,List.setIfInBounds_toArray,List.set_cons_succ,List.set_cons_zero]
    refine zY (rs:=[0,8]) (by kernel_rfl) (by simp) ?_
    refine zR rfl (fun K hK=>?_) (zR rfl (fun K hK=>?_) zE)
    ·rw[if_pos (by rfl)]
     refine q0e 43 (.tmp 5) rfl ⟨bk,0,none⟩ UF rfl (HLF.out _ HB0.out) ?_
     refine hK.out _ _ (HS.out _ HB0.out) (fun _=>?_)
     clear hK K
     simp only[Act.put,List.setIfInBounds_toArray]
     refine rd1 8 rfl fun K hK=>?_
     go_simp
     refine(HVA1.out _).mono ?_
     rintro e w5 ⟨rfl,b5⟩
     have Bb5:Below W.heap.size W w5:=(HB0.out).trans (b5.mono (HB0.out).size)
     go_simp
     refine hK.out _ _ (HS.out _ Bb5) (fun _=>?_)
     clear hK K b5
     refine rd1 9 rfl fun K hK=>?_
     go_simp
     refine(HBO.out _).mono ?_
     rintro e w6 ⟨rfl,b6⟩
     have Bb6:Below W.heap.size W w6:=(Bb5).trans (b6.mono (Bb5).size)
     go_simp
     refine hK.out _ _ (HS.out _ Bb6) (fun _=>?_)
     clear hK K b6
     obtain⟨WS,S1,HSW,PW⟩:=FIN.out _ Bb6
     refine rd1 10 rfl fun K hK=>?_
     refine qe 43 (.tmp 5) (.tmp 27) rfl ⟨bk,0,none⟩ UF2 rfl rfl WS S1 ?_
     refine hK.out _ _ HSW (fun _=>?_)
     clear hK K
     refine zD (by kernel_rfl) ?_ _
     simp only[Act.put,List.setIfInBounds_toArray]
     have hg1:0<gk:=by have:=HG.out;omega
     go_wp2_with fail
     go_roundg (gk-1)
     case measure=>omega
     case rel=>exact⟨2,by omega,by have:=HG.out;omega,by rfl,PW⟩
    ·rw[if_pos (by rfl)]
     go_simp
     refine(HVA1.out _).mono ?_
     rintro e w5 ⟨rfl,b5⟩
     have Bb5:Below W.heap.size W w5:=(HB0.out).trans (b5.mono (HB0.out).size)
     go_simp
     refine hK.out _ _ (HS.out _ Bb5) (fun _=>?_)
     clear hK K b5
     refine rd1 0 rfl fun K hK=>?_
     refine q0e 43 (.tmp 5) rfl ⟨bk,0,none⟩ UF rfl (HLF.out _ Bb5) ?_
     refine hK.out _ _ (HS.out _ Bb5) (fun _=>?_)
     clear hK K
     simp only[Act.put,List.setIfInBounds_toArray]
     refine rd1 9 rfl fun K hK=>?_
     go_simp
     refine(HBO.out _).mono ?_
     rintro e w6 ⟨rfl,b6⟩
     have Bb6:Below W.heap.size W w6:=(Bb5).trans (b6.mono (Bb5).size)
     go_simp
     refine hK.out _ _ (HS.out _ Bb6) (fun _=>?_)
     clear hK K b6
     obtain⟨WS,S1,HSW,PW⟩:=FIN.out _ Bb6
     refine rd1 10 rfl fun K hK=>?_
     refine qe 43 (.tmp 5) (.tmp 27) rfl ⟨bk,0,none⟩ UF2 rfl rfl WS S1 ?_
     refine hK.out _ _ HSW (fun _=>?_)
     clear hK K
     refine zD (by kernel_rfl) ?_ _
     simp only[Act.put,List.setIfInBounds_toArray]
     have hg1:0<gk:=by have:=HG.out;omega
     go_wp2_with fail
     go_roundg (gk-1)
     case measure=>omega
     case rel=>exact⟨2,by omega,by have:=HG.out;omega,by rfl,PW⟩
  ·have hkn':k=n:=by omega
   subst hkn'
   obtain⟨W,S1,LV,BW⟩:=q1L HFD.out.res (by omega) HFD.out.bel (zB _ _) (zm (q4L nd d0 d1 k))
   have L5:=qg HFD.out.fit
   rw[←HRV.out]at S1 LV L5
   have HW:=zb BW
   clear BW
   go_wp2_with (first|(refine zj rfl 43 (.tmp 5) rfl ⟨bk,0,none⟩ RV rfl L5 ?_)|(refine ze rfl 43 (.tmp 4) (.tmp 28) rfl ⟨w.heap.size+2,0,none⟩ RV rfl rfl W S1 ?_))
   exact zP (v:=RV) (zl rfl _ _ _ _ rfl LV) rfl ⟨rfl,HW.out⟩
theorem tk_no {P:Program}{md:Region.Mode}{ops:Array Oper}{Q:Exit→Act→World→Prop}{S:World→Prop}{i:Nat}{oi:Oper}{fuel:Nat}{listed:Array Bool}{a:Act}{w:World}(d:Tmp)(hi:ops[i]?=some oi)(hd:oi.dst=some d)
  (hs:Region.noSelect ops=true)(hf:Region.free md ops listed i=true)(hr:(Region.ready md ops listed).contains i=true)
  (hQ:∀c a w,Q (.panic c) (a.put oi.dst undef) w→Q (.panic c) a w)(hw:Region.wanted oi (yielded ops a.tmps)=false)(hS:S w)
  (h:wpAnyH P md ops Q S fuel (listed.setIfInBounds i true) (a.put (some d) undef) w):wpAnyH P md ops Q S (fuel+1) listed a w:=
 wpAnyH_take hi hs hf hr hQ (.inr ⟨hw,rfl⟩) hS (by rw[hd];exact h)
theorem q1o {P:Program}{md:Region.Mode}{ops:Array Oper}{Q:Exit→Act→World→Prop}{S:World→Prop}{i:Nat}{oi:Oper}{v:Value}{fuel:Nat}{listed:Array Bool}{a:Act}{w:World}(d:Tmp)(hi:ops[i]?=some oi)(hd:oi.dst=some d)
  (hs:Region.noSelect ops=true)(hf:Region.free md ops listed i=true)(hr:(Region.ready md ops listed).contains i=true)
  (hQ:∀c a w,Q (.panic c) (a.put oi.dst v) w→Q (.panic c) a w)(hw:Region.wanted oi (yielded ops a.tmps)=true)(hS:S w)(hy:∀w,S w→(execOp a.eval oi).run P w=.ok (.value v) w)
  (h:wpAnyH P md ops Q S fuel (listed.setIfInBounds i true) (a.put (some d) v) w):wpAnyH P md ops Q S (fuel+1) listed a w:=
 wpAnyH_take hi hs hf hr hQ (.inl ⟨hw,hy⟩) hS (by rw[hd];exact h)
theorem pz {α:Type}:(∀(l:List α) (i:Nat) (v:α),l.toArray.setIfInBounds i v=(l.set i v).toArray)∧(∀(l:List α) (x v:α),(x::l).set 0 v=v::l)∧(∀(l:List α) (x v:α) (i:Nat),(x::l).set (i+1) v=x::l.set i v):=⟨by simp,by simp,by simp⟩
theorem tq {P:Program}{md:Region.Mode}{ops:Array Oper}{Q:Exit→Act→World→Prop}{S:World→Prop}(i:Nat){oi:Oper}{v:Value}{fuel:Nat}{listed:Array Bool}{a:Act}{w:World}(d:Tmp)
  (h:wpAnyH P md ops Q S fuel (listed.setIfInBounds i true) (a.put (some d) v) w)(hi:ops[i]?=some oi:=by rfl)(hd:oi.dst=some d:=by rfl)(hs:Region.noSelect ops=true:=by kernel_rfl)(hf:Region.free md ops listed i=true:=by kernel_rfl)(hr:(Region.ready md ops listed).contains i=true:=by kernel_rfl)
  (hQ:∀c a w,Q (.panic c) (a.put oi.dst v) w→Q (.panic c) a w:=by exact fun _ _ _ h=>h)(hw:Region.wanted oi (yielded ops a.tmps)=true:=by rfl)(hS:S w:=by assumption)(hy:∀w,S w→(execOp a.eval oi).run P w=.ok (.value v) w:=by(intro w hSw;(try dsimp only at hSw);go_simp;(try with_reducible rfl))):wpAnyH P md ops Q S (fuel+1) listed a w:=
 q1o d hi hd hs hf hr hQ hw hS hy h
theorem tn {P:Program}{md:Region.Mode}{ops:Array Oper}{Q:Exit→Act→World→Prop}{S:World→Prop}(i:Nat){oi:Oper}{fuel:Nat}{listed:Array Bool}{a:Act}{w:World}(d:Tmp)
  (h:wpAnyH P md ops Q S fuel (listed.setIfInBounds i true) (a.put (some d) undef) w)(hi:ops[i]?=some oi:=by rfl)(hd:oi.dst=some d:=by rfl)(hs:Region.noSelect ops=true:=by kernel_rfl)(hf:Region.free md ops listed i=true:=by kernel_rfl)(hr:(Region.ready md ops listed).contains i=true:=by kernel_rfl)
  (hQ:∀c a w,Q (.panic c) (a.put oi.dst undef) w→Q (.panic c) a w:=by exact fun _ _ _ h=>h)(hw:Region.wanted oi (yielded ops a.tmps)=false:=by rfl)(hS:S w:=by assumption):wpAnyH P md ops Q S (fuel+1) listed a w:=
 tk_no d hi hd hs hf hr hQ hw hS h
def q0M (t:By):By:=if t=[120]then [121]else if t=[121]then [120]else t
def qm:zg→zg
 | .nil=>.nil
 | .node p sp y l r=>.node p sp ⟨y.word,y.args.map q0M,y.lo,y.hi⟩ (qm l) (qm r)
theorem OnlyB.row {bl:List Nat}{w w':World}(h:OnlyB bl w w'){k:Nat}{cs:Array Value}{t:TypeId}(hc:w.heap[k]?=some (.cells cs t (0,0)))(hn:k∉bl):w'.heap[k]?=some (.cells cs t (0,0)):=by
 have hl:k<w.heap.size:=by
  rcases Nat.lt_or_ge k w.heap.size with g|g
  ·exact g
  ·rw[Array.getElem?_eq_none g]at hc;simp at hc
 exact(h.block k hl hn).trans hc
structure AtmAt (w wr:World)(fb:Nat)(t o:By)(x y:Bool):Prop where
 res:wr.heap[w.heap.size]?=some (.cells #[bs [],bs [],.bool false,.bool false,.int .i64 0] 23 (0,0))
 made:wr.heap[w.heap.size+1]?=some (.cells #[bs t,bs o,.bool x,.bool y,.int .i64 (-1)] 23 (0,0))
 nm:wr.heap[w.heap.size+2]?=some (.cells #[bs [112],bs [113],bs [114]] 9 (0,0))
 ar:wr.heap[w.heap.size+3]?=some (.cells #[bs [120],bs [121],bs [49],bs [50]] 9 (0,0))
 ot:wr.heap[w.heap.size+4]?=some (.cells #[bs [121],bs [120],bs [49],bs [50]] 9 (0,0))
 only:OnlyB [fb] w wr
 lt:fb<w.heap.size
theorem AtmAt.next {w wr w':World}{fb:Nat}{t o:By}{x y:Bool}(h:AtmAt w wr fb t o x y)(ho:OnlyB [fb] wr w'):AtmAt w w' fb t o x y:=
 have hn:∀k,fb<k→k∉[fb]:=fun k hk e=>by simp at e;omega
 ⟨ho.row h.res (hn _ h.lt),ho.row h.made (hn _ (by have:=h.lt;omega)),ho.row h.nm (hn _ (by have:=h.lt;omega)),ho.row h.ar (hn _ (by have:=h.lt;omega)),ho.row h.ot (hn _ (by have:=h.lt;omega)),h.only.trans ho,h.lt⟩
theorem AtmAt.size {w wr:World}{fb:Nat}{t o:By}{x y:Bool}(h:AtmAt w wr fb t o x y):w.heap.size+4<wr.heap.size:=by
 have hc:=h.ot
 rcases Nat.lt_or_ge (w.heap.size+4) wr.heap.size with g|g
 ·exact g
 ·rw[Array.getElem?_eq_none g]at hc;simp at hc
theorem AtmAt.put {w wr:World}{fb:Nat}{t o t' o':By}{x y x' y':Bool}(h:AtmAt w wr fb t o x y)(j:Nat)(v:Value)(he:(#[bs t,bs o,.bool x,.bool y,.int .i64 (-1)]:Array Value).setIfInBounds j v=#[bs t',bs o',.bool x',.bool y',.int .i64 (-1)]):AtmAt w (wr.setCell ⟨w.heap.size+1,j,none⟩ v) fb t' o' x' y':=by
 have hk:∀k,k≠w.heap.size+1→(wr.setCell ⟨w.heap.size+1,j,none⟩ v).heap[k]?=wr.heap[k]?:=fun k hk=>Below.heap_setCell wr _ _ k hk
 refine⟨by rw[hk _ (by omega)];exact h.res,?_,by rw[hk _ (by omega)];exact h.nm,by rw[hk _ (by omega)];exact h.ar,by rw[hk _ (by omega)];exact h.ot,?_,h.lt⟩
 ·rw[zH wr _ j _ _ v h.made,he]
 ·refine⟨h.only.os,h.only.tape,h.only.output,by simpa using h.only.size,fun k hk1 hn=>?_⟩
  rw[hk k (by omega)]
  exact h.only.block k hk1 hn
theorem nmK_at (k:Nat)(h:k<3):(#[bs [112],bs [113],bs [114]]:Array Value)[k]?=some (bs (nmK k)):=by
 have:k=0∨k=1∨k=2:=by omega
 rcases this with rfl|rfl|rfl<;>rfl
theorem j8e (k:Nat)(h:k<4):(#[bs [120],bs [121],bs [49],bs [50]]:Array Value)[k]?=some (bs (q2f k))∧(#[bs [121],bs [120],bs [49],bs [50]]:Array Value)[k]?=some (bs (q0M (q2f k))):=by
 have:k=0∨k=1∨k=2∨k=3:=by omega
 rcases this with rfl|rfl|rfl|rfl<;>exact⟨rfl,rfl⟩
theorem j3n (t:By)(h:t.length=1):(q0M t).length=1:=by
 unfold q0M
 split
 ·rfl
 ·split
  ·rfl
  ·exact h
theorem j8I (xs:Array Value)(j:Nat)(v:Value)(h:xs[j]?=some v)(w:World):(part 5 xs j).run Tryz.prog w=.ok v w:=by
 simp[part,go_sem,h]
theorem q2U (xs ys:Array Value)(w:World)(j:Nat)(is:List Nat)(a b:Int)(r:Bool)(h1:xs[j]?=some (.int .u8 a))(h2:ys[j]?=some (.int .u8 b))(hr:(Op.eqItems 9999 5 1 xs ys is).run Tryz.prog w=.ok r w):(Op.eqItems 9999 5 1 xs ys (j::is)).run Tryz.prog w=.ok (a==b&&r) w:=by
 have he:(Op.equalIn 9999 5 (.int .u8 a) (.int .u8 b)).run Tryz.prog w=.ok (a==b) w:=run_equalIn_int w 9998 5 .u8 .u8 a b Tryz.underlying5
 simp only[Op.eqItems,Sem.run_bind,Nat.mul_one,j8I _ _ _ h1,j8I _ _ _ h2,Result.andThen_ok,he]
 cases a==b
 ·rfl
 ·simpa using hr
theorem j8N (a c:By)(w:World):(Op.equalIn 10000 126 (q4g a) (q4g c)).run Tryz.prog w=.ok (j2P a c) w:=by
 obtain⟨i,hi⟩:∃i,Tryz.prog.info? 5=some i:=⟨Tryz.t5,by kernel_rfl⟩
 rw[show(10000:Nat)=9999+1 from rfl,run_equalIn_array w 9999 _ _ Tryz.underlying126 hi,show Tryz.prog.cellsOf 5=1 by kernel_rfl]
 have e:j2P a c=(zn a 0==zn c 0&&(zn a 1==zn c 1&&(zn a 2==zn c 2&&(zn a 3==zn c 3&&(zn a 4==zn c 4&&(zn a 5==zn c 5&&(zn a 6==zn c 6&&(zn a 7==zn c 7&&true)))))))):=by
  unfold j2P
  rw[show List.range 8=[0,1,2,3,4,5,6,7] from rfl]
  rfl
 rw[e,show List.range 8=[0,1,2,3,4,5,6,7] from rfl]
 refine q2U _ _ w 0 _ _ _ _ rfl rfl (q2U _ _ w 1 _ _ _ _ rfl rfl (q2U _ _ w 2 _ _ _ _ rfl rfl (q2U _ _ w 3 _ _ _ _ rfl rfl (q2U _ _ w 4 _ _ _ _ rfl rfl (q2U _ _ w 5 _ _ _ _ rfl rfl (q2U _ _ w 6 _ _ _ _ rfl rfl (q2U _ _ w 7 _ _ _ _ rfl rfl ?_)))))))
 rfl
theorem j6B (xs:Array Value)(j:Nat)(v:Value)(h:xs[j]?=some v)(w:World):(part 38 xs j).run Tryz.prog w=.ok v w:=by
 simp[part,go_sem,h]
end Go.Proofs.YtiamjjonoeaggabGreatDoor
