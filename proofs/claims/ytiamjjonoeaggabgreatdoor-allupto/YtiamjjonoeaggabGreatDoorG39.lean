import Derived.Test.YtiamjjonoeaggabGreatDoorGA
import Derived.Test.YtiamjjonoeaggabGreatDoorGB
import Derived.Test.YtiamjjonoeaggabGreatDoorG23
import Derived.Test.YtiamjjonoeaggabGreatDoorG26
import Derived.Test.YtiamjjonoeaggabGreatDoorG35
import Derived.Test.YtiamjjonoeaggabGreatDoorG38
set_option maxRecDepth 100000
set_option maxHeartbeats 16000000
namespace Go.Proofs.YtiamjjonoeaggabGreatDoor
open Go.RowKit
theorem j2y (d:Nat)(fv:Value)(u:List Tok)(F:zl)(la:OA)(lc:Nat)(DL:List (LPt × Value))(told:Nat)(s:By)(hs64:s.length≤maxLen)(w:World)(h:DMonAt w d fv u F (.slice la DL.length lc) DL told true)(hs:q6L d fv la DL) :
  Calls Tryz.prog 59 #[.pointer (some ⟨d,0,none⟩),bs s] w fun e w'=>q3B w d fv u F la DL told true s e w':=by
 have HP:=zb (q3A s hs64 w)
 have HD:=zb h
 have HS:=zb hs
 clear h hs
 go_enter Tryz.func59,Tryz.ntmps59
 go_wp2_with fail
 refine HP.out.mono ?_
 rintro e w1 ⟨rfl,rfl⟩
 have HB1:=zb (zB w1.heap.size w1)
 have HD1:=zb HD.out
 obtain⟨c0,c1,c2,c3⟩:=HD1.out.cells
 have hlt:=HD1.out.lt
 clear c0 c2
 go_wp2_with fail
 go_ret3
 exact q6c HD.out HS.out rfl (by decide) HB1.out
theorem j2z (d:Nat)(fv:Value)(u:List Tok)(F:zl)(la:OA)(lc:Nat)(DL:List (LPt × Value))(told:Nat)(s:By)(hs64:s.length≤maxLen)(hl:80<s.length)(w:World)(h:DMonAt w d fv u F (.slice la DL.length lc) DL told false)(hs:q6L d fv la DL) :
  Calls Tryz.prog 59 #[.pointer (some ⟨d,0,none⟩),bs s] w fun e w'=>q3B w d fv u F la DL told false s e w':=by
 have HP:=zb (q3A s hs64 w)
 have HD:=zb h
 have HS:=zb hs
 have HE:Hid (q1a (zs DL) false s=(1,0)):=zb (by unfold q1a;rw[if_neg (by decide),if_pos hl])
 clear h hs
 go_enter Tryz.func59,Tryz.ntmps59
 go_wp2_with fail
 refine HP.out.mono ?_
 rintro e w1 ⟨rfl,rfl⟩
 have HB1:=zb (zB w1.heap.size w1)
 have HD1:=zb HD.out
 obtain⟨c0,c1,c2,c3⟩:=HD1.out.cells
 have hlt:=HD1.out.lt
 clear c0 c2
 go_wp2_with fail
 go_ret3
 exact q6c HD.out HS.out HE.out (by decide) HB1.out
theorem j2A (d:Nat)(fv:Value)(u:List Tok)(F:zl)(la:OA)(lc:Nat)(DL:List (LPt × Value))(told:Nat)(s:By)(hl:s.length≤80)(p:Nat)(hp:q2n s=.inl p)(w:World)(h:DMonAt w d fv u F (.slice la DL.length lc) DL told false)(hs:q6L d fv la DL) :
  Calls Tryz.prog 59 #[.pointer (some ⟨d,0,none⟩),bs s] w fun e w'=>q3B w d fv u F la DL told false s e w':=by
 have HP:=zb (q3A s (by unfold maxLen;omega) w)
 rw[q4p,hp]at HP
 have HD:=zb h
 have HS:=zb hs
 have HE:Hid (q1a (zs DL) false s=(3,(p:Int))):=zb (by unfold q1a;rw[if_neg (by decide),if_neg (by omega),hp])
 clear h hs
 go_enter Tryz.func59,Tryz.ntmps59
 go_wp2_with fail
 refine HP.out.mono ?_
 rintro e w1 ⟨rfl,rfl⟩
 have HB1:=zb (zB w1.heap.size w1)
 have HD1:=zb HD.out
 obtain⟨c0,c1,c2,c3⟩:=HD1.out.cells
 have hlt:=HD1.out.lt
 clear c0 c2
 go_wp2_with fail
 go_ret3
 exact q6c HD.out HS.out HE.out (by decide) HB1.out
theorem j5O {w:World}{d:Nat}{fv:Value}{u:List Tok}{F:zl}{lv:Value}{DL:List (LPt × Value)}{told:Nat}{ended:Bool}(h:DMonAt w d fv u F lv DL told ended):∀k∈q5c fv DL,k<w.heap.size:=by
 intro k hk
 rcases List.mem_append.1 hk with hk|hk
 ·obtain⟨b,o,cap,e,_,_,hb,_⟩:=qe h.frm
  have e':fv=.slice (some ⟨b,o,none⟩) u.length cap:=by simpa using e
  subst e'
  simp[Value.ownBlock]at hk
  omega
 ·obtain⟨p,hp,hk⟩:=List.mem_flatMap.1 hk
  obtain⟨i,hi,rfl⟩:=List.getElem_of_mem hp
  rcases(h.haps i hi).1 with⟨e,_⟩|⟨b,o,cap,e,_,_,hb,_⟩
  ·rw[e]at hk;simp[Value.ownBlock]at hk
  ·rw[e]at hk;simp[Value.ownBlock]at hk;omega
theorem rowBl_lt {w:World}{la:OA}{lc:Nat}{DL:List (LPt × Value)}(h:DLogAt w (.slice la DL.length lc) DL):∀k∈zQ la,k<w.heap.size:=by
 intro k hk
 cases la with
 |none=>simp[zQ]at hk
 |some a=>simp[zQ]at hk;exact(h.row.lt k (by simp[Value.ownBlock,hk])).2
theorem DMonAt.addedD {w w':World}{d:Nat}{fv:Value}{u:List Tok}{F:zl}{la:OA}{lc:Nat}{DL:List (LPt × Value)}{told:Nat}{a9:OA}{c9 st:Nat}{l:List Hp}{vh:Value}{B:Nat}(h:DMonAt w d fv u F (.slice la DL.length lc) DL told false)(hs:q6L d fv la DL)(ho:OnlyB (d::zQ la) w w')
  (hb:w'.heap[d]?=some (.cells #[fv,.slice a9 (DL.length+1) c9,.int .i64 told,.bool false] 115 (0,0)))
  (hr:w'.ownsRow 0 181 3 (.slice a9 (DL.length+1) c9) (DL.length+1) (q0Z DL++[.int .u16 st,.int .i64 (q1B (zs DL) st),vh]))
  (hv:q1f w' vh (l.map q5D))(hok:∀q∈l,HpOk q)(hfr:∀k∈vh.ownBlock.toList,w.heap.size≤k∧k<B)(hloc:∀k∈zQ a9,k∈zQ la∨B≤k)(hB:w.heap.size≤B)(hst:st≤65535)(hT:q1B (zs DL) st≤32768*DL.length)(hn:DL.length<40) :
  DMonAt w' d fv u F (.slice a9 (DL++[((⟨st,q1B (zs DL) st,l⟩:LPt),vh)]).length c9) (DL++[((⟨st,q1B (zs DL) st,l⟩:LPt),vh)]) told false∧q6L d fv a9 (DL++[((⟨st,q1B (zs DL) st,l⟩:LPt),vh)]):=by
 have hlen:(DL++[((⟨st,q1B (zs DL) st,l⟩:LPt),vh)]).length=DL.length+1:=by simp
 have hfd:∀k∈q5c fv DL,k∉d::zQ la:=hs
 constructor
 ·rw[hlen]
  refine⟨hb,q8v h.frm ho (fun k hk=>hfd k (List.mem_append_left _ hk)),h.rd,h.good,h.lets,h.ahead,⟨?_,by rw[hlen];omega,fun i hi=>?_⟩,fun i hi=>?_,?_,by rw[hlen];have:=h.few;omega⟩
  ·rw[hlen,q8r]
   exact hr
  ·rcases Nat.lt_or_ge i DL.length with g|g
   ·rw[List.getElem_append_left g];exact h.log.times i g
   ·have ei:i=DL.length:=by rw[hlen]at hi;omega
    subst ei
    rw[List.getElem_append_right (zL _)]
    simp only[Nat.sub_self,List.getElem_cons_zero]
    exact⟨hT,hst⟩
  ·rcases Nat.lt_or_ge i DL.length with g|g
   ·rw[List.getElem_append_left g]
    exact(q7g h.haps ho (fun k hk=>hfd k hk)) i g
   ·have ei:i=DL.length:=by rw[hlen]at hi;omega
    subst ei
    rw[List.getElem_append_right (zL _)]
    simp only[Nat.sub_self,List.getElem_cons_zero]
    exact⟨hv,hok⟩
  ·have:zs (DL++[((⟨st,q1B (zs DL) st,l⟩:LPt),vh)])=zs DL++[⟨st,q1B (zs DL) st,l⟩]:=by simp[zs]
   rw[this]
   exact h.ok.add st l
 ·intro k hk
  have hdl:=h.lt
  have hrl:=rowBl_lt h.log
  have:k∈q5c fv DL∨k∈vh.ownBlock.toList:=by
   unfold q5c at hk ⊢
   simp only[List.flatMap_append,List.mem_append,List.flatMap_cons,List.flatMap_nil,List.append_nil]at hk ⊢
   rcases hk with hk|hk|hk
   ·exact .inl (.inl hk)
   ·exact .inl (.inr hk)
   ·exact .inr hk
  rcases this with hk|hk
  ·have h1:=hfd k hk
   have h2:=j5O h k hk
   simp only[List.mem_cons,not_or]at h1 ⊢
   refine⟨h1.1,fun hm=>?_⟩
   rcases hloc k hm with h3|h3
   ·exact h1.2 h3
   ·omega
  ·have h1:=hfr k hk
   simp only[List.mem_cons,not_or]
   refine⟨by omega,fun hm=>?_⟩
   rcases hloc k hm with h3|h3
   ·have:=hrl k h3;omega
   ·omega
theorem j1l (l:List Ver):∀k,(zy l).take (k*12)=zy (l.take k):=by
 induction l with
 |nil=>intro k;simp[zy]
 |cons v r ih =>
  intro k
  cases k with
  |zero=>simp[zy]
  |succ k =>
   have e:zy (v::r)=q5t v++zy r:=rfl
   have e2:(q5t v).length=12:=rfl
   rw[e,List.take_succ_cons]
   have e3:zy (v::r.take k)=q5t v++zy (r.take k):=rfl
   rw[e3,List.take_append,e2,List.take_of_length_le (by rw[e2];omega),show(k+1)*12-12=k*12 by omega,ih k]
theorem j5y (F:zl)(L:List LPt)(a c k:Nat)(h:k≤c-a):(q1x F L a c).take k=q1x F L a (a+k):=by
 unfold q1x
 rw[←List.map_take,show a+k-a=k by omega]
 congr 1
 refine List.ext_getElem (by simp;omega) (fun i h1 h2=>?_)
 simp
def FkRel (w9:World)(told n sr:Nat)(g:Nat)(vi:Value)(wr:World):Prop:=∃k:Nat,k≤n-told∧n-told-k≤g∧vi=.int .i64 k∧(k=0∨told+k≤sr)∧Below w9.heap.size w9 wr
structure Mo where
 b:Nat
 gn:Nat
 cn:Nat
 ao:OA
 cap:Nat
 F:zl
 PL:List PPt
 told:Nat
 ended:Bool
 d:Nat
 fv:Value
 u:List Tok
 la:OA
 lc:Nat
 DL:List (LPt × Value)
structure MoAt (w:World)(m:Mo):Prop where
 good:FormGood m.F
 mon:MonAt w m.b m.gn m.cn m.ao m.cap m.F m.PL m.told m.ended
 doc:DMonAt w m.d m.fv m.u m.F (.slice m.la m.DL.length m.lc) m.DL m.told m.ended
 sep:q6L m.d m.fv m.la m.DL
 same:zA m.PL=zs m.DL
def q1d (m:Mo):List Nat:=m.b::(zQ m.ao++m.d::zQ m.la)
def q3S (m:Mo):List Nat:=q5c m.fv m.DL
def q4R (bl:List Nat)(w:World):Prop:=∀k∈bl,∃cs t,w.heap[k]?=some (.cells cs t (0,0))∧t≠166∧t≠129
theorem j1L {w w':World}{bl:List Nat}{base:Nat}{e:TypeId}{size:Nat}{v:Value}{n:Nat}{xs:List Value}(h:w.ownsRow base e size v n xs)(ho:OnlyB bl w w')(hk:q4R bl w)(he:e=166∨e=129):w'.ownsRow base e size v n xs:=by
 refine q5n h ho (fun k hv hm=>?_)
 obtain⟨cs,t,hc,h1,h2⟩:=hk k hm
 refine q8C hc h ?_ hv.symm
 rcases he with rfl|rfl
 ·exact h1
 ·exact h2
theorem MonAt.keepG {w w':World}{b gn cn:Nat}{ao:OA}{cap:Nat}{F:zl}{PL:List PPt}{told:Nat}{ended:Bool}{bl:List Nat}(h:MonAt w b gn cn ao cap F PL told ended)(ho:OnlyB bl w w')(hk:q4R bl w)(h1:b∉bl)(h2:∀k∈zQ ao,k∉bl):MonAt w' b gn cn ao cap F PL told ended:=by
 have hr:∀k,(Value.slice ao PL.length cap).ownBlock=some k→k∉bl:=fun k hv=>h2 k (by cases ao with|none=>simp[Value.ownBlock]at hv|some a=>simp[Value.ownBlock]at hv;simp[zQ,hv])
 refine⟨(ho.block b h.lt h1).trans h.blk,j1L h.nodes ho hk (.inl rfl),⟨?_,zT h.lt ho.size,q5n h.log.row ho hr,h.log.small,h.log.times⟩,fun p hp=>⟨j1L (h.haps p hp).1 ho hk (.inr rfl),(h.haps p hp).2⟩,h.few⟩
 rw[ho.cell h.lt h1]
 exact h.log.cell
theorem MoAt.keep {w w':World}{m:Mo}{bl:List Nat}(h:MoAt w m)(ho:OnlyB bl w w')(hk:q4R bl w)(h1:∀k∈q1d m,k∉bl)(h2:∀k∈q3S m,k∉bl):MoAt w' m:=
 ⟨h.good,h.mon.keepG ho hk (h1 _ (by simp[q1d])) (fun k hk=>h1 k (by simp[q1d,hk])),h.doc.keep ho (fun k hk=>by
  simp only[blkD,List.mem_cons,List.mem_append]at hk
  rcases hk with rfl|hk|hk
  ·exact h1 _ (by simp[q1d])
  ·exact h1 k (by simp[q1d,hk])
  ·exact h2 k hk),h.sep,h.same⟩
theorem MoAt.below {w w':World}{m:Mo}(h:MoAt w m)(hb:Below w.heap.size w w'):MoAt w' m:=⟨h.good,h.mon.below hb,h.doc.below hb,h.sep,h.same⟩
theorem MoAt.kinds {w:World}{m:Mo}(h:MoAt w m):(∃cs,w.heap[m.b]?=some (.cells cs 93 (0,0)))∧(∀k∈zQ m.ao,∃cs,w.heap[k]?=some (.cells cs 136 (0,0)))∧(∃cs,w.heap[m.d]?=some (.cells cs 115 (0,0)))∧(∀k∈zQ m.la,∃cs,w.heap[k]?=some (.cells cs 181 (0,0))):=by
 refine⟨⟨_,h.mon.blk⟩,fun k hk=>?_,⟨_,h.doc.blk⟩,fun k hk=>?_⟩
 ·refine(zw h.mon.log.row k ?_).2
  cases e:m.ao with
  |none=>rw[e]at hk;simp[zQ]at hk
  |some a=>rw[e]at hk;simp[zQ]at hk;simp[Value.ownBlock,hk]
 ·refine(zw h.doc.log.row k ?_).2
  cases e:m.la with
  |none=>rw[e]at hk;simp[zQ]at hk
  |some a=>rw[e]at hk;simp[zQ]at hk;simp[Value.ownBlock,hk]
theorem MoAt.mut {w:World}{m:Mo}(h:MoAt w m):∀k∈q1d m,∃cs t,w.heap[k]?=some (.cells cs t (0,0))∧(t=93∨t=136∨t=115∨t=181):=by
 obtain⟨⟨c1,k1⟩,k2,⟨c3,k3⟩,k4⟩:=h.kinds
 intro k hk
 simp only[q1d,List.mem_cons,List.mem_append]at hk
 rcases hk with rfl|hk|rfl|hk
 ·exact⟨c1,_,k1,.inl rfl⟩
 ·obtain⟨c2,k2⟩:=k2 k hk;exact⟨c2,_,k2,.inr (.inl rfl)⟩
 ·exact⟨c3,_,k3,.inr (.inr (.inl rfl))⟩
 ·obtain⟨c2,k2⟩:=k4 k hk;exact⟨c2,_,k2,.inr (.inr (.inr rfl))⟩
theorem MoAt.mutLt {w:World}{m:Mo}(h:MoAt w m):∀k∈q1d m,k<w.heap.size:=fun k hk=>by obtain⟨cs,t,e,_⟩:=h.mut k hk;exact zd e
theorem MoAt.froLt {w:World}{m:Mo}(h:MoAt w m):∀k∈q3S m,k<w.heap.size:=j5O h.doc
theorem MoAt.mutKinds {w:World}{m:Mo}(h:MoAt w m){bl:List Nat}(hs:∀k∈bl,k∈q1d m):q4R bl w:=fun k hk=>by
 obtain⟨cs,t,e,ht⟩:=h.mut k (hs k hk)
 refine⟨cs,t,e,?_⟩
 rcases ht with rfl|rfl|rfl|rfl<;>exact⟨by decide,by decide⟩
structure MoTo (w w':World)(m m':Mo):Prop where
 mo:MoAt w' m'
 only:OnlyB (q1d m) w w'
 muts:∀k∈q1d m',k∈q1d m∨w.heap.size≤k
 fros:∀k∈q3S m',k∈q3S m∨w.heap.size≤k
 b:m'.b=m.b
 d:m'.d=m.d
 sep:∀k∈q3S m',k∉q1d m'
structure Lst where
 v:Value
 cv:Value
 n:Nat
 f:Nat→Int
 cf:Nat→Int
structure St where
 vx:Value
 vy:Value
 vl:Value
 vw:Value
 MS:List Mo
 LS:List Lst
 mc:Nat
def obl (v:Value):List Nat:=v.ownBlock.toList
theorem q1w {v:Value}{k:Nat}:k∈obl v↔v.ownBlock=some k:=by simp[obl]
def q1D (bw:Nat)(s:St):List Nat:=bw::(obl s.vx++(obl s.vy++(obl s.vl++obl s.vw)))
def q3h (s:St):List Nat:=s.LS.flatMap fun e=>obl e.v++obl e.cv
structure Wld (w:World)(bw:Nat)(s:St):Prop where
 blk:w.heap[bw]?=some (.cells #[s.vx,s.vy,s.vl,s.vw,.int .i64 s.mc] 64 (0,0))
 xs:w.ownsRow (bw+1) 28 1 s.vx s.MS.length (s.MS.map fun m=>.pointer (some ⟨m.b,0,none⟩))
 ys:w.ownsRow (bw+1) 105 1 s.vy s.MS.length (s.MS.map fun m=>.pointer (some ⟨m.d,0,none⟩))
 ls:w.ownsRow (bw+1) 33 1 s.vl s.LS.length (s.LS.map fun e=>e.v)
 lw:w.ownsRow (bw+1) 33 1 s.vw s.LS.length (s.LS.map fun e=>e.cv)
 two:∀k∈obl s.vl,k∉obl s.vw
 mons:∀m∈s.MS,MoAt w m
 row:∀e∈s.LS,w.ownsRow (bw+1) 45 12 e.v e.n (flR e.f e.n)
 cop:∀e∈s.LS,w.ownsRow (bw+1) 45 12 e.cv e.n (flR e.cf e.n)
 hi:∀m∈s.MS,∀k∈q1d m,bw<k
 fro:∀m∈s.MS,∀k∈q3S m,k∉q1D bw s∧k∉q3h s
 sep:∀m∈s.MS,∀m'∈s.MS,∀k∈q1d m,k∉q3S m'
 apart:∀i j:Nat,∀m m',s.MS[i]?=some m→s.MS[j]?=some m'→i≠j→∀k∈q1d m,k∉q1d m'
theorem Wld.lt {w:World}{bw:Nat}{s:St}(h:Wld w bw s):bw<w.heap.size:=zd h.blk
theorem Wld.kinds {w:World}{bw:Nat}{s:St}(h:Wld w bw s):∀k,k∈q1D bw s∨k∈q3h s→bw≤k∧∃cs t,w.heap[k]?=some (.cells cs t (0,0))∧(t=64∨t=28∨t=105∨t=33∨t=45):=by
 intro k hk
 rcases hk with hk|hk
 ·simp only[q1D,List.mem_cons,List.mem_append]at hk
  rcases hk with rfl|hk|hk|hk|hk
  ·exact⟨zL _,_,_,h.blk,.inl rfl⟩
  ·obtain⟨h1,cs,h2⟩:=zw h.xs k hk;exact⟨by omega,cs,_,h2,.inr (.inl rfl)⟩
  ·obtain⟨h1,cs,h2⟩:=zw h.ys k hk;exact⟨by omega,cs,_,h2,.inr (.inr (.inl rfl))⟩
  ·obtain⟨h1,cs,h2⟩:=zw h.ls k hk;exact⟨by omega,cs,_,h2,.inr (.inr (.inr (.inl rfl)))⟩
  ·obtain⟨h1,cs,h2⟩:=zw h.lw k hk;exact⟨by omega,cs,_,h2,.inr (.inr (.inr (.inl rfl)))⟩
 ·simp only[q3h,List.mem_flatMap,List.mem_append]at hk
  obtain⟨e,he,hk|hk⟩:=hk
  ·obtain⟨h1,cs,h2⟩:=zw (h.row e he) k hk;exact⟨by omega,cs,_,h2,.inr (.inr (.inr (.inr rfl)))⟩
  ·obtain⟨h1,cs,h2⟩:=zw (h.cop e he) k hk;exact⟨by omega,cs,_,h2,.inr (.inr (.inr (.inr rfl)))⟩
theorem Wld.mut {w:World}{bw:Nat}{s:St}(h:Wld w bw s):∀m∈s.MS,∀k∈q1d m,k∉q1D bw s∧k∉q3h s:=by
 intro m hm k hk
 obtain⟨cs,t,e,ht⟩:=(h.mons m hm).mut k hk
 have hno:¬(k∈q1D bw s∨k∈q3h s):=by
  intro hh
  obtain⟨_,cs',t',e',ht'⟩:=h.kinds k hh
  rw[e]at e'
  simp only[Option.some.injEq,Obj.cells.injEq,and_true]at e'
  obtain⟨_,rfl⟩:=e'
  rcases ht with rfl|rfl|rfl|rfl<;>revert ht'<;>decide
 exact⟨fun hh=>hno (.inl hh),fun hh=>hno (.inr hh)⟩
theorem Wld.kindsG {w:World}{bw:Nat}{s:St}(h:Wld w bw s){bl:List Nat}(hs:∀k∈bl,k∈q1D bw s∨k∈q3h s):q4R bl w:=fun k hk=>by
 obtain⟨_,cs,t,e,ht⟩:=h.kinds k (hs k hk)
 refine⟨cs,t,e,?_⟩
 rcases ht with rfl|rfl|rfl|rfl|rfl<;>exact⟨by decide,by decide⟩
theorem qn {w w':World}{bl:List Nat}{base:Nat}{e:TypeId}{size:Nat}{v:Value}{n:Nat}{xs:List Value}(h:w.ownsRow base e size v n xs)(ho:OnlyB bl w w')(hb:∀k∈obl v,k∉bl):w'.ownsRow base e size v n xs:=q5n h ho (fun k hv=>hb k (q1w.2 hv))
theorem Wld.all {w:World}{bw:Nat}{s:St}(_h:Wld w bw s):(∀k∈obl s.vx,k∈q1D bw s)∧(∀k∈obl s.vy,k∈q1D bw s)∧(∀k∈obl s.vl,k∈q1D bw s)∧(∀k∈obl s.vw,k∈q1D bw s)∧(∀e∈s.LS,∀k∈obl e.v,k∈q3h s)∧(∀e∈s.LS,∀k∈obl e.cv,k∈q3h s):=by
 refine⟨fun k hk=>?_,fun k hk=>?_,fun k hk=>?_,fun k hk=>?_,fun e he k hk=>?_,fun e he k hk=>?_⟩
 ·simp[q1D,hk]
 ·simp[q1D,hk]
 ·simp[q1D,hk]
 ·simp[q1D,hk]
 ·exact List.mem_flatMap.2 ⟨e,he,List.mem_append_left _ hk⟩
 ·exact List.mem_flatMap.2 ⟨e,he,List.mem_append_right _ hk⟩
theorem Wld.keep {w w':World}{bw:Nat}{s:St}{bl:List Nat}(h:Wld w bw s)(ho:OnlyB bl w w')(hk:q4R bl w)(h1:∀k∈bl,k∉q1D bw s∧k∉q3h s)(h2:∀m∈s.MS,(∀k∈q1d m,k∉bl)∧∀k∈q3S m,k∉bl):Wld w' bw s:=by
 obtain⟨a1,a2,a3,a4,a5,a6⟩:=h.all
 have n1:∀k∈q1D bw s,k∉bl:=fun k hk hb=>(h1 k hb).1 hk
 have n2:∀k∈q3h s,k∉bl:=fun k hk hb=>(h1 k hb).2 hk
 exact⟨(ho.block bw h.lt (n1 bw (by simp[q1D]))).trans h.blk,qn h.xs ho (fun k hk=>n1 k (a1 k hk)),qn h.ys ho (fun k hk=>n1 k (a2 k hk)),qn h.ls ho (fun k hk=>n1 k (a3 k hk)),qn h.lw ho (fun k hk=>n1 k (a4 k hk)),h.two,
  fun m hm=>(h.mons m hm).keep ho hk (h2 m hm).1 (h2 m hm).2,fun e he=>qn (h.row e he) ho (fun k hk=>n2 k (a5 e he k hk)),fun e he=>qn (h.cop e he) ho (fun k hk=>n2 k (a6 e he k hk)),h.hi,h.fro,h.sep,h.apart⟩
theorem Wld.below {w w':World}{bw:Nat}{s:St}(h:Wld w bw s)(hb:Below w.heap.size w w'):Wld w' bw s:=
 h.keep (bl:=[]) (.of_below hb) (fun k hk=>by simp at hk) (by simp) (by simp)
theorem Wld.ownLt {w:World}{bw:Nat}{s:St}(h:Wld w bw s):∀k,k∈q1D bw s∨k∈q3h s→k<w.heap.size:=fun k hk=>by obtain⟨_,cs,t,e,_⟩:=h.kinds k hk;exact zd e
theorem Wld.turned {w w':World}{bw:Nat}{s:St}(h:Wld w bw s){i:Nat}{m m':Mo}(hm:s.MS[i]?=some m)(t:MoTo w w' m m'):Wld w' bw {s with MS:=s.MS.set i m'}:=by
 have hmem:m∈s.MS:=zI hm
 have hlt:i<s.MS.length:=(List.getElem?_eq_some_iff.1 hm).1
 obtain⟨a1,a2,a3,a4,a5,a6⟩:=h.all
 have n1:∀k∈q1D bw s,k∉q1d m:=fun k hk hb=>(h.mut m hmem k hb).1 hk
 have n2:∀k∈q3h s,k∉q1d m:=fun k hk hb=>(h.mut m hmem k hb).2 hk
 have ho:=t.only
 have hset:∀x∈s.MS.set i m',x=m'∨∃j:Nat,s.MS[j]?=some x∧j≠i:=by
  intro x hx
  obtain⟨j,hj⟩:=List.getElem?_of_mem hx
  rw[List.getElem?_set]at hj
  split at hj
  ·left;first|(simp only[if_pos hlt]at hj;simpa using hj.symm)|simpa using hj.symm
  ·rename_i hne;exact .inr ⟨j,hj,fun e=>hne e.symm⟩
 have hold:∀j x,s.MS[j]?=some x→j≠i→MoAt w' x:=fun j x hj hne=>by
  have hx:x∈s.MS:=zI hj
  exact(h.mons x hx).keep ho ((h.mons m hmem).mutKinds (fun _ hk=>hk)) (fun k hk=>h.apart j i x m hj hm hne k hk) (fun k hk hb=>h.sep m hmem x hx k hb hk)
 refine⟨(ho.block bw h.lt (n1 bw (by simp[q1D]))).trans h.blk,?_,?_,qn h.ls ho (fun k hk=>n1 k (a3 k hk)),qn h.lw ho (fun k hk=>n1 k (a4 k hk)),h.two,fun x hx=>?_,fun e he=>qn (h.row e he) ho (fun k hk=>n2 k (a5 e he k hk)),fun e he=>qn (h.cop e he) ho (fun k hk=>n2 k (a6 e he k hk)),fun x hx k hk=>?_,fun x hx k hk=>?_,fun x hx y hy k hk=>?_,fun a b x y hx hy hab k hk=>?_⟩
 ·have e:=qn h.xs ho (fun k hk=>n1 k (a1 k hk))
  have e2:(s.MS.set i m').map (fun m=>Value.pointer (some ⟨m.b,0,none⟩))=s.MS.map (fun m=>Value.pointer (some ⟨m.b,0,none⟩)):=by
   rw[List.map_set,t.b]
   refine List.ext_getElem? fun j=>?_
   rw[List.getElem?_set]
   split
   ·rename_i e;subst e;rw[List.getElem?_map,hm];simp[hlt]
   ·rfl
  show w'.ownsRow _ _ _ _ (s.MS.set i m').length ((s.MS.set i m').map _)
  rw[e2,List.length_set]
  exact e
 ·have e:=qn h.ys ho (fun k hk=>n1 k (a2 k hk))
  have e2:(s.MS.set i m').map (fun m=>Value.pointer (some ⟨m.d,0,none⟩))=s.MS.map (fun m=>Value.pointer (some ⟨m.d,0,none⟩)):=by
   rw[List.map_set,t.d]
   refine List.ext_getElem? fun j=>?_
   rw[List.getElem?_set]
   split
   ·rename_i e;subst e;rw[List.getElem?_map,hm];simp[hlt]
   ·rfl
  show w'.ownsRow _ _ _ _ (s.MS.set i m').length ((s.MS.set i m').map _)
  rw[e2,List.length_set]
  exact e
 ·rcases hset x hx with rfl|⟨j,hj,hne⟩
  ·exact t.mo
  ·exact hold j x hj hne
 ·rcases hset x hx with rfl|⟨j,hj,hne⟩
  ·rcases t.muts k hk with hk|hk
   ·exact h.hi m hmem k hk
   ·have:=h.lt;omega
  ·exact h.hi x (zI hj) k hk
 ·rcases hset x hx with rfl|⟨j,hj,hne⟩
  ·rcases t.fros k hk with hk|hk
   ·exact h.fro m hmem k hk
   ·exact⟨fun hh=>by have:=h.ownLt k (.inl hh);omega,fun hh=>by have:=h.ownLt k (.inr hh);omega⟩
  ·exact h.fro x (zI hj) k hk
 ·rcases hset x hx with rfl|⟨j,hj,hne⟩
  ·rcases hset y hy with rfl|⟨j2,hj2,hne2⟩
   ·exact fun hf=>t.sep k hf hk
   ·have hym:y∈s.MS:=zI hj2
    rcases t.muts k hk with hk|hk
    ·exact h.sep m hmem y hym k hk
    ·intro hf;have:=(h.mons y hym).froLt k hf;omega
  ·have hxm:x∈s.MS:=zI hj
   rcases hset y hy with rfl|⟨j2,hj2,hne2⟩
   ·intro hf
    rcases t.fros k hf with hf|hf
    ·exact h.sep x hxm m hmem k hk hf
    ·have:=(h.mons x hxm).mutLt k hk;omega
   ·exact h.sep x hxm y (zI hj2) k hk
 ·simp only[]at hx hy
  rw[List.getElem?_set]at hx hy
  by_cases hai:i=a
  ·subst hai
   rw[if_pos rfl,if_pos hlt]at hx
   rw[if_neg hab]at hy
   obtain rfl:m'=x:=by simpa using hx
   rcases t.muts k hk with hk|hk
   ·exact h.apart i b m y hm hy hab k hk
   ·intro hf;have:=(h.mons y (zI hy)).mutLt k hf;omega
  ·rw[if_neg hai]at hx
   by_cases hbi:i=b
   ·subst hbi
    rw[if_pos rfl,if_pos hlt]at hy
    obtain rfl:m'=y:=by simpa using hy
    intro hf
    rcases t.muts k hf with hf|hf
    ·exact h.apart a i x m hx hm hab k hk hf
    ·have:=(h.mons x (zI hx)).mutLt k hk;omega
   ·rw[if_neg hbi]at hy
    exact h.apart a b x y hx hy hab k hk
theorem MoAt.dis {w:World}{m:Mo}(h:MoAt w m):∀k∈m.d::zQ m.la,k<w.heap.size∧k∉m.b::zQ m.ao:=fun k hk=>by
 obtain⟨⟨c1,k1⟩,k2,⟨c3,k3⟩,k4⟩:=h.kinds
 have e1:∃cs t,w.heap[k]?=some (.cells cs t (0,0))∧(t=115∨t=181):=by
  rcases List.mem_cons.1 hk with rfl|hk
  ·exact⟨_,_,k3,.inl rfl⟩
  ·obtain⟨cs,e⟩:=k4 k hk;exact⟨cs,_,e,.inr rfl⟩
 obtain⟨cs,t,e,ht⟩:=e1
 refine⟨zd e,fun hh=>?_⟩
 have e2:∃cs t,w.heap[k]?=some (.cells cs t (0,0))∧(t=93∨t=136):=by
  rcases List.mem_cons.1 hh with rfl|hh
  ·exact⟨_,_,k1,.inl rfl⟩
  ·obtain⟨cs,e⟩:=k2 k hh;exact⟨cs,_,e,.inr rfl⟩
 obtain⟨cs',t',e',ht'⟩:=e2
 rw[e]at e'
 simp only[Option.some.injEq,Obj.cells.injEq,and_true]at e'
 obtain⟨_,rfl⟩:=e'
 rcases ht with rfl|rfl<;>revert ht'<;>decide
theorem MoAt.doc1 {w w1:World}{m:Mo}(h:MoAt w m)(hs:∀k∈q3S m,k∉q1d m)(ho:OnlyB (m.b::zQ m.ao) w w1):DMonAt w1 m.d m.fv m.u m.F (.slice m.la m.DL.length m.lc) m.DL m.told m.ended:=by
 refine h.doc.keep ho (fun k hk=>?_)
 simp only[blkD,List.mem_cons,List.mem_append]at hk
 rcases hk with rfl|hk|hk
 ·exact(h.dis _ (by simp)).2
 ·exact(h.dis k (by simp[hk])).2
 ·intro hh
  refine hs k hk ?_
  rcases List.mem_cons.1 hh with rfl|hh
  ·simp[q1d]
  ·simp[q1d,hh]
theorem mo_both {w w1 w2:World}{m:Mo}{L:List LPt}{told:Nat}{ended:Bool}(h:MoAt w m)(hs:∀k∈q3S m,k∉q1d m)(h1:q4E w w1 m.b m.gn m.cn m.ao m.F L told ended)(h2:q4f w1 w2 m.d m.fv m.u m.F m.la m.DL L told ended):∃m',MoTo w w2 m m'∧∀k∈q3S m',k∈q3S m∨w1.heap.size≤k:=by
 obtain⟨ao',cap',PL',q1,q2,q3,q4⟩:=h1
 obtain⟨la',lc',DL',p1,p2,p3,p4,p5,p6⟩:=h2
 have hm1:=h.dis
 have hb1:=zd h.mon.blk
 have hao:∀k∈zQ m.ao,k<w.heap.size:=fun k hk=>h.mutLt k (by simp[q1d,hk])
 have hw1:w.heap.size≤w1.heap.size:=q3.size
 have hw2:w1.heap.size≤w2.heap.size:=p4.size
 have hbN:∀k∈m.b::zQ ao',k∉m.d::zQ m.la:=fun k hk hh=>by
  obtain⟨l1,l2⟩:=hm1 k hh
  rcases List.mem_cons.1 hk with rfl|hk
  ·exact l2 (by simp)
  ·rcases q4 k hk with hk|hk
   ·exact l2 (by simp[hk])
   ·omega
 have hao':∀k∈zQ ao',k<w1.heap.size:=fun k hk=>by
  rcases(List.mem_cons.1 (show k∈m.b::zQ ao' by simp[hk]))with rfl|_
  ·omega
  ·have:=q1.kinds k (by simp[hk])
   obtain⟨cs,t,e,_⟩:=this
   exact zd e
 have hfl:=h.froLt
 have kg:q4R (m.d::zQ m.la) w1:=fun k hk=>by
  obtain⟨l1,l2⟩:=hm1 k hk
  obtain⟨cs,t,e,r⟩:=(h.mutKinds (bl:=m.d::zQ m.la) (fun k hk=>by
   rcases List.mem_cons.1 hk with rfl|hk
   ·simp[q1d]
   ·simp[q1d,hk])) k hk
  exact⟨cs,t,by rw[q3.block k l1 l2];exact e,r⟩
 refine⟨{m with ao:=ao',cap:=cap',PL:=PL',told:=told,ended:=ended,la:=la',lc:=lc',DL:=DL'},⟨⟨h.good,q1.keepG p4 kg (hbN _ (by simp)) (fun k hk=>hbN k (by simp[hk])),p1,p2,by show zA PL'=zs DL';rw[q2,p3]⟩,⟨p4.os.trans q3.os,p4.tape.trans q3.tape,p4.output.trans q3.output,zM hw1 hw2,fun k hk hn=>?_⟩,fun k hk=>?_,fun k hk=>?_,rfl,rfl,fun k hk hm=>?_⟩,p6⟩
 ·rw[p4.block k (by omega) (fun hh=>hn (by
   rcases List.mem_cons.1 hh with rfl|hh
   ·simp[q1d]
   ·simp[q1d,hh])),q3.block k hk (fun hh=>hn (by
   rcases List.mem_cons.1 hh with rfl|hh
   ·simp[q1d]
   ·simp[q1d,hh]))]
 ·simp only[q1d,List.mem_cons,List.mem_append]at hk ⊢
  rcases hk with rfl|hk|rfl|hk
  ·simp
  ·rcases q4 k hk with hk|hk
   ·simp[hk]
   ·exact .inr hk
  ·simp
  ·rcases p5 k hk with hk|hk
   ·simp[hk]
   ·exact .inr (by omega)
 ·rcases p6 k hk with hk|hk
  ·exact .inl hk
  ·exact .inr (by omega)
 ·have hd:=p2 k hk
  simp only[q1d,List.mem_cons,List.mem_append]at hm
  have hno:k=m.b∨k∈zQ ao':=by
   rcases hm with hm|hm|hm|hm
   ·exact .inl hm
   ·exact .inr hm
   ·exact absurd (by simp[hm]) hd
   ·exact absurd (by simp[hm]) hd
  rcases p6 k hk with hf|hf
  ·have hsk:=hs k hf
   simp only[q1d,List.mem_cons,List.mem_append,not_or]at hsk
   have:=hfl k hf
   rcases hno with hno|hno
   ·exact hsk.1 hno
   ·rcases q4 k hno with hq|hq
    ·exact hsk.2.1 hq
    ·omega
  ·rcases hno with hno|hno
   ·omega
   ·have:=hao' k hno;omega
def lst0:Lst:=⟨.slice none 0 0,.slice none 0 0,0,fun _=>0,fun _=>0⟩
def lg (LS:List Lst)(i:Nat):Lst:=LS.getD i lst0
theorem q8y {LS:List Lst}{i:Nat}(h:i<LS.length):lg LS i∈LS:=by
 unfold lg
 rw[List.getD_eq_getElem?_getD,zG h]
 exact List.getElem_mem h
theorem j2q {LS:List Lst}{i:Nat}(h:i<LS.length):LS[i]?=some (lg LS i):=by
 unfold lg
 rw[List.getD_eq_getElem?_getD,zG h]
 rfl
def q2M (LS:List Lst)(gs:List Nat)(i:Nat)(z:Int):List Lst:=LS.map fun e=>{e with f:=if gs.any (fun k=>e.v.ownBlock==some k)=true then q7n e.f i z else e.f,cf:=if gs.any (fun k=>e.cv.ownBlock==some k)=true then q7n e.cf i z else e.cf}
theorem q2p (LS:List Lst)(gs:List Nat)(i:Nat)(z:Int):(q2M LS gs i z).length=LS.length:=by simp[q2M]
theorem putL_v (LS:List Lst)(gs:List Nat)(i:Nat)(z:Int):(q2M LS gs i z).map (fun e=>e.v)=LS.map (fun e=>e.v):=by simp[q2M]
theorem putL_cv (LS:List Lst)(gs:List Nat)(i:Nat)(z:Int):(q2M LS gs i z).map (fun e=>e.cv)=LS.map (fun e=>e.cv):=by simp[q2M]
theorem putL_nil (LS:List Lst)(i:Nat)(z:Int):q2M LS [] i z=LS:=by simp[q2M]
theorem j3T (LS:List Lst)(gs:List Nat)(g i:Nat)(z:Int):q2M (q2M LS gs i z) [g] i z=q2M LS (gs++[g]) i z:=by
 unfold q2M
 rw[List.map_map]
 refine List.map_congr_left fun e _=>?_
 simp only[Function.comp,List.any_append,List.any_cons,List.any_nil,Bool.or_false,Bool.or_eq_true]
 congr 1
 ·by_cases h1:(gs.any fun k=>e.v.ownBlock==some k)=true
  ·rw[if_pos h1,if_pos (show _∨_ from .inl h1)]
   by_cases h2:(e.v.ownBlock==some g)=true
   ·rw[if_pos h2]
    exact j4y _ _ _
   ·rw[if_neg h2]
  ·rw[if_neg h1]
   by_cases h2:(e.v.ownBlock==some g)=true
   ·rw[if_pos h2,if_pos (show _∨_ from .inr h2)]
   ·rw[if_neg h2,if_neg (fun hh:_∨_=>hh.elim h1 h2)]
 ·by_cases h1:(gs.any fun k=>e.cv.ownBlock==some k)=true
  ·rw[if_pos h1,if_pos (show _∨_ from .inl h1)]
   by_cases h2:(e.cv.ownBlock==some g)=true
   ·rw[if_pos h2]
    exact j4y _ _ _
   ·rw[if_neg h2]
  ·rw[if_neg h1]
   by_cases h2:(e.cv.ownBlock==some g)=true
   ·rw[if_pos h2,if_pos (show _∨_ from .inr h2)]
   ·rw[if_neg h2,if_neg (fun hh:_∨_=>hh.elim h1 h2)]
theorem q2b (LS:List Lst)(gs:List Nat)(i:Nat)(z:Int){t:Nat}(h:t<LS.length):lg (q2M LS gs i z) t={lg LS t with f:=if gs.any (fun k=>(lg LS t).v.ownBlock==some k)=true then q7n (lg LS t).f i z else(lg LS t).f,cf:=if gs.any (fun k=>(lg LS t).cv.ownBlock==some k)=true then q7n (lg LS t).cf i z else(lg LS t).cf}:=by
 have h1:lg (q2M LS gs i z) t=(q2M LS gs i z)[t]'(by rw[q2p];exact h):=by
  unfold lg
  rw[List.getD_eq_getElem?_getD,zG (by rw[q2p];exact h)]
  rfl
 have h2:lg LS t=LS[t]:=by
  unfold lg
  rw[List.getD_eq_getElem?_getD,zG h]
  rfl
 rw[h1,h2]
 simp[q2M]
theorem Wld.put {w w':World}{bw:Nat}{s:St}{g i:Nat}{z:Int}{cs cs':Array Value}(h:Wld w bw s)(hgl:g∈q3h s)(ho:OnlyB [g] w w')(hg:w.heap[g]?=some (.cells cs 45 (0,0)))(hg':w'.heap[g]?=some (.cells cs' 45 (0,0)))(hs:cs'.size=cs.size)
  (hp:∀p,p<cs.size→cs'[p]?=if i*12≤p∧p<i*12+12 then(q7K z)[p-i*12]? else cs[p]?):Wld w' bw {s with LS:=q2M s.LS [g] i z}:=by
 obtain⟨a1,a2,a3,a4,a5,a6⟩:=h.all
 have hno:∀k∈q1D bw s,k∉[g]:=by
  intro k hk hh
  have hkg:k=g:=by simpa using hh
  subst hkg
  simp only[q1D,List.mem_cons,List.mem_append]at hk
  have no:∀{base e size v n xs},w.ownsRow base e size v n xs→e≠45→k∈obl v→False:=fun hr he hv=>by
   obtain⟨_,cs2,e2⟩:=zw hr k hv
   rw[hg]at e2
   simp only[Option.some.injEq,Obj.cells.injEq,and_true]at e2
   exact he e2.2.symm
  rcases hk with rfl|hk|hk|hk|hk
  ·have:=h.blk;rw[hg]at this;simp at this
  ·exact no h.xs (by decide) hk
  ·exact no h.ys (by decide) hk
  ·exact no h.ls (by decide) hk
  ·exact no h.lw (by decide) hk
 have hrow:∀{v n f},w.ownsRow (bw+1) 45 12 v n (flR f n)→w'.ownsRow (bw+1) 45 12 v n (flR (if [g].any (fun k=>v.ownBlock==some k)=true then q7n f i z else f) n):=by
  intro v n f hr
  by_cases hv:v.ownBlock=some g
  ·rw[if_pos (by simp[hv])]
   exact row_put hr hv hg hg' hs hp
  ·rw[if_neg (by simpa using hv)]
   exact qn hr ho (fun k hk hh=>hv (by have:k=g:=(by simpa using hh);rw[←this];exact q1w.1 hk))
 have hlst:∀k,k∈q3h {s with LS:=q2M s.LS [g] i z}↔k∈q3h s:=by
  intro k
  simp only[q3h,q2M,List.mem_flatMap,List.mem_map,List.mem_append]
  constructor
  ·rintro⟨e,⟨e',he',rfl⟩,hk⟩;exact⟨e',he',hk⟩
  ·rintro⟨e,he,hk⟩;exact⟨_,⟨e,he,rfl⟩,hk⟩
 have hkm:∀m∈s.MS,(∀k∈q1d m,k∉[g])∧∀k∈q3S m,k∉[g]:=fun m hm=>⟨fun k hk hh=>(h.mut m hm k hk).2 (by have:k=g:=(by simpa using hh);rw[this];exact hgl),fun k hk hh=>(h.fro m hm k hk).2 (by have:k=g:=(by simpa using hh);rw[this];exact hgl)⟩
 have hkg:q4R [g] w:=h.kindsG (fun k hk=>.inr (by have:k=g:=(by simpa using hk);rw[this];exact hgl))
 refine⟨(ho.block bw h.lt (hno bw (by simp[q1D]))).trans h.blk,qn h.xs ho (fun k hk=>hno k (a1 k hk)),qn h.ys ho (fun k hk=>hno k (a2 k hk)),?_,?_,h.two,fun m hm=>(h.mons m hm).keep ho hkg (hkm m hm).1 (hkm m hm).2,fun e he=>?_,fun e he=>?_,h.hi,fun m hm k hk=>⟨(h.fro m hm k hk).1,fun hh=>(h.fro m hm k hk).2 ((hlst k).1 hh)⟩,h.sep,h.apart⟩
 ·show w'.ownsRow _ _ _ _ (q2M s.LS [g] i z).length ((q2M s.LS [g] i z).map (fun e=>e.v))
  rw[q2p,putL_v]
  exact qn h.ls ho (fun k hk=>hno k (a3 k hk))
 ·show w'.ownsRow _ _ _ _ (q2M s.LS [g] i z).length ((q2M s.LS [g] i z).map (fun e=>e.cv))
  rw[q2p,putL_cv]
  exact qn h.lw ho (fun k hk=>hno k (a4 k hk))
 ·simp only[q2M,List.mem_map]at he
  obtain⟨e',he',rfl⟩:=he
  exact hrow (h.row e' he')
 ·simp only[q2M,List.mem_map]at he
  obtain⟨e',he',rfl⟩:=he
  exact hrow (h.cop e' he')
structure Grp (LS:List Lst):Prop where
 four:LS.length % 4=0
 lens:∀i,i<LS.length→(lg LS i).n=(lg LS (i / 4*4)).n+i % 4
 same:∀i,i<LS.length→(lg LS i).f=(lg LS (i / 4*4)).f∧(lg LS i).cf=(lg LS (i / 4*4)).f
 rows:∀i j,i<LS.length→j<LS.length→i / 4≠j / 4→∀k∈obl (lg LS i).v,k∉obl (lg LS j).v
 cops:∀i j,i<LS.length→j<LS.length→∀k∈obl (lg LS i).cv,k∉obl (lg LS j).v
 copd:∀i j,i<LS.length→j<LS.length→i≠j→∀k∈obl (lg LS i).cv,k∉obl (lg LS j).cv
theorem Grp.nil:Grp []:=⟨rfl,fun i h=>absurd h (by simp),fun i h=>absurd h (by simp),fun i j h=>absurd h (by simp),fun i j h=>absurd h (by simp),fun i j h=>absurd h (by simp)⟩
theorem Grp.put {LS:List Lst}(h:Grp LS){q i:Nat}{z:Int}{gs:List Nat}(hq:q*4+3<LS.length)(h1:∀t,t<4→(∃k∈gs,(lg LS (q*4+t)).v.ownBlock=some k)∧∃k∈gs,(lg LS (q*4+t)).cv.ownBlock=some k)
  (h2:∀g∈gs,∃t,t<4∧(g∈obl (lg LS (q*4+t)).v∨g∈obl (lg LS (q*4+t)).cv)):Grp (q2M LS gs i z):=by
 have hv:∀t,t<LS.length→(gs.any (fun k=>(lg LS t).v.ownBlock==some k)=true↔t / 4=q):=by
  intro t ht
  constructor
  ·intro hh
   obtain⟨k,hk,he⟩:=List.any_eq_true.1 hh
   have he':k∈obl (lg LS t).v:=q1w.2 (by simpa using he)
   obtain⟨u,hu,hg|hg⟩:=h2 k hk
   ·rcases Nat.decEq (t / 4) q with hne|heq
    ·exact absurd hg (h.rows t (q*4+u) ht (by omega) (by omega) k he')
    ·exact heq
   ·exact absurd he' (h.cops (q*4+u) t (by omega) ht k hg)
  ·intro hh
   obtain⟨⟨k,hk,he⟩,_⟩:=h1 (t % 4) (by omega)
   rw[show q*4+t % 4=t by omega]at he
   exact List.any_eq_true.2 ⟨k,hk,by simp[he]⟩
 have hc:∀t,t<LS.length→(gs.any (fun k=>(lg LS t).cv.ownBlock==some k)=true↔t / 4=q):=by
  intro t ht
  constructor
  ·intro hh
   obtain⟨k,hk,he⟩:=List.any_eq_true.1 hh
   have he':k∈obl (lg LS t).cv:=q1w.2 (by simpa using he)
   obtain⟨u,hu,hg|hg⟩:=h2 k hk
   ·exact absurd hg (h.cops t (q*4+u) ht (by omega) k he')
   ·rcases Nat.decEq (q*4+u) t with hne|heq
    ·exact absurd he' (h.copd (q*4+u) t (by omega) ht hne k hg)
    ·omega
  ·intro hh
   obtain⟨_,⟨k,hk,he⟩⟩:=h1 (t % 4) (by omega)
   rw[show q*4+t % 4=t by omega]at he
   exact List.any_eq_true.2 ⟨k,hk,by simp[he]⟩
 refine⟨by rw[q2p];exact h.four,?_,?_,?_,?_,?_⟩
 all_goals rw[q2p]
 ·intro t ht
  rw[q2b _ _ _ _ ht,q2b _ _ _ _ (show t / 4*4<LS.length by omega)]
  exact h.lens t ht
 ·intro t ht
  have ht4:t / 4*4<LS.length:=by omega
  obtain⟨s1,s2⟩:=h.same t ht
  rw[q2b _ _ _ _ ht,q2b _ _ _ _ ht4]
  show(if gs.any (fun k=>(lg LS t).v.ownBlock==some k)=true then q7n (lg LS t).f i z else(lg LS t).f)=(if gs.any (fun k=>(lg LS (t / 4*4)).v.ownBlock==some k)=true then q7n (lg LS (t / 4*4)).f i z else(lg LS (t / 4*4)).f)∧(if gs.any (fun k=>(lg LS t).cv.ownBlock==some k)=true then q7n (lg LS t).cf i z else(lg LS t).cf)=(if gs.any (fun k=>(lg LS (t / 4*4)).v.ownBlock==some k)=true then q7n (lg LS (t / 4*4)).f i z else(lg LS (t / 4*4)).f)
  by_cases hh:t / 4=q
  ·rw[if_pos ((hv t ht).2 hh),if_pos ((hv _ ht4).2 (by omega)),if_pos ((hc t ht).2 hh),s1,s2]
   exact⟨rfl,rfl⟩
  ·rw[if_neg (fun e=>hh ((hv t ht).1 e)),if_neg (fun e=>hh (by have:=(hv _ ht4).1 e;omega)),if_neg (fun e=>hh ((hc t ht).1 e))]
   exact⟨s1,s2⟩
 ·intro a b ha hb hab
  rw[q2b _ _ _ _ ha,q2b _ _ _ _ hb]
  exact h.rows a b ha hb hab
 ·intro a b ha hb
  rw[q2b _ _ _ _ ha,q2b _ _ _ _ hb]
  exact h.cops a b ha hb
 ·intro a b ha hb hab
  rw[q2b _ _ _ _ ha,q2b _ _ _ _ hb]
  exact h.copd a b ha hb hab
theorem j2r {LS R:List Lst}{i:Nat}(h:i<LS.length):lg (LS++R) i=lg LS i:=by
 unfold lg
 rw[List.getD_eq_getElem?_getD,List.getD_eq_getElem?_getD,List.getElem?_append_left h]
theorem j0a {LS R:List Lst}(t:Nat):lg (LS++R) (LS.length+t)=lg R t:=by
 unfold lg
 rw[List.getD_eq_getElem?_getD,List.getD_eq_getElem?_getD,List.getElem?_append_right (by omega),Nat.add_sub_cancel_left]
theorem Grp.more {LS R:List Lst}(h:Grp LS)(hR:R.length=4){n B:Nat}{f:Nat→Int}(h1:∀t,t<4→(lg R t).n=n+t∧(lg R t).f=f∧(lg R t).cf=f)(hold:∀i,i<LS.length→(∀k∈obl (lg LS i).v,k<B)∧∀k∈obl (lg LS i).cv,k<B)
  (hnew:∀t,t<4→(∀k∈obl (lg R t).v,∀i,i<LS.length→k∉obl (lg LS i).v∧k∉obl (lg LS i).cv)∧∀k∈obl (lg R t).cv,B≤k)(hc:∀t u,t<4→u<4→∀k∈obl (lg R t).cv,k∉obl (lg R u).v∧(t≠u→k∉obl (lg R u).cv)):Grp (LS++R):=by
 have h4:=h.four
 have key:∀i,i<(LS++R).length→(i<LS.length∧lg (LS++R) i=lg LS i)∨∃t,t<4∧i=LS.length+t∧lg (LS++R) i=lg R t:=by
  intro i hi
  rw[List.length_append,hR]at hi
  rcases Nat.lt_or_ge i LS.length with hh|hh
  ·exact .inl ⟨hh,j2r hh⟩
  ·exact .inr ⟨i-LS.length,by omega,by omega,by rw[←j0a (LS:=LS) (i-LS.length)];congr 1;omega⟩
 refine⟨by rw[List.length_append,hR];omega,fun i hi=>?_,fun i hi=>?_,fun i j hi hj hij k hk hk2=>?_,fun i j hi hj k hk hk2=>?_,fun i j hi hj hij k hk hk2=>?_⟩
 ·rcases key i hi with⟨hl,e⟩|⟨t,ht,rfl,e⟩
  ·rw[e,j2r (by omega)]
   exact h.lens i hl
  ·rw[e,show(LS.length+t) / 4*4=LS.length+0 by omega,j0a,(h1 t ht).1,(h1 0 (by omega)).1]
   omega
 ·rcases key i hi with⟨hl,e⟩|⟨t,ht,rfl,e⟩
  ·rw[e,j2r (by omega)]
   exact h.same i hl
  ·rw[e,show(LS.length+t) / 4*4=LS.length+0 by omega,j0a,(h1 t ht).2.1,(h1 t ht).2.2,(h1 0 (by omega)).2.1]
   exact⟨rfl,rfl⟩
 ·rcases key i hi with⟨hl,e⟩|⟨t,ht,rfl,e⟩<;>rcases key j hj with⟨hl2,e2⟩|⟨t2,ht2,rfl,e2⟩<;>rw[e]at hk<;>rw[e2]at hk2
  ·exact h.rows i j hl hl2 hij k hk hk2
  ·exact((hnew t2 ht2).1 k hk2 i hl).1 hk
  ·exact((hnew t ht).1 k hk j hl2).1 hk2
  ·omega
 ·rcases key i hi with⟨hl,e⟩|⟨t,ht,rfl,e⟩<;>rcases key j hj with⟨hl2,e2⟩|⟨t2,ht2,rfl,e2⟩<;>rw[e]at hk<;>rw[e2]at hk2
  ·exact h.cops i j hl hl2 k hk hk2
  ·exact((hnew t2 ht2).1 k hk2 i hl).2 hk
  ·have:=(hnew t ht).2 k hk;have:=(hold j hl2).1 k hk2;omega
  ·exact(hc t t2 ht ht2 k hk).1 hk2
 ·rcases key i hi with⟨hl,e⟩|⟨t,ht,rfl,e⟩<;>rcases key j hj with⟨hl2,e2⟩|⟨t2,ht2,rfl,e2⟩<;>rw[e]at hk<;>rw[e2]at hk2
  ·exact h.copd i j hl hl2 hij k hk hk2
  ·have:=(hnew t2 ht2).2 k hk2;have:=(hold i hl).2 k hk;omega
  ·have:=(hnew t ht).2 k hk;have:=(hold j hl2).2 k hk2;omega
  ·exact(hc t t2 ht ht2 k hk).2 (by omega) hk2
theorem j2Y {s:By}(h:(qh s).1=0):FormGood (q0a s)∧qz (q0a s) (q0u s).1∧q3d (q0a s)=true∧q2G s=qj (q0a s):=by
 obtain⟨h0,ha⟩:=q9M h
 have hrd:=q6G h0
 have hg:q3t (q0u s).1:=q4m s
 have h240:¬240<s.length:=by
  intro hl
  unfold q0W at h0
  rw[if_pos hl]at h0
  simp at h0
 have hll:=j2p s
 have hsz:=j0S _ _ hrd
 rw[qN]at hsz
 refine⟨⟨j0t _ _ hrd hg,q1z hrd,by omega⟩,hrd,ha,?_⟩
 have hgd:=q9L h0
 have e1:q2G s=(q3l (q0a s)).1:=by rw[hgd]
 have e2:(q3l (q0a s)).2.1=0:=by rw[hgd];exact h
 rw[e1]
 unfold q3l at e2 ⊢
 by_cases hf:(q0x (q0a s)).1=0
 ·rw[if_pos hf]
 ·rw[if_neg hf]at e2
  exact absurd e2 hf
theorem mo_new {w w1 w2:World}{s:By}{b d:Nat}{nv:Value}{a:OA}{n c:Nat}(h:(qh s).1=0)(hw1:Below w.heap.size w w1)(hw2:Below w1.heap.size w1 w2)(hb:w.heap.size≤b)
  (e1:w1.heap[b]?=some (.cells (j0b nv (q2G s).x (q2G s).y (q2G s).reach (.slice none 0 0) 0 false) 93 (0,0)))(e2:w1.ownsRow w.heap.size 166 22 nv (zq (q0a s)) (qw (qK (q0a s) 0)))
  (hd:w1.heap.size≤d)(e3:w2.heap[d]?=some (.cells #[.slice a n c,.slice none 0 0,.int .i64 0,.bool false] 115 (0,0)))(e4:qB w2 (.agg #[.slice a n c]) (q0u s).1)(e5:∀k∈(Value.slice a n c).ownBlock.toList,w1.heap.size≤k∧k≠d) :
  ∃m:Mo,MoAt w2 m∧m.b=b∧m.d=d∧(∀k∈q1d m,w.heap.size≤k∧k<w2.heap.size)∧(∀k∈q3S m,w.heap.size≤k∧k<w2.heap.size)∧∀k∈q1d m,k∉q3S m:=by
 obtain⟨g1,g2,g3,g4⟩:=j2Y h
 have hpos:0<zq (q0a s):=(q3c g1.nn).2
 obtain⟨gn,cn,rfl⟩:=zJ e2 hpos
 have hbl:b<w1.heap.size:=zd e1
 have e1':=(hw2.block b hbl).trans e1
 rw[g4]at e1'
 have hm:MoAt w2 ⟨b,gn,cn,none,0,q0a s,[],0,false,d,.slice a n c,(q0u s).1,none,0,[]⟩:=by
  refine⟨g1,⟨e1',j0k (zZ _) (zh e2 hw2),?_,fun p hp=>by simp at hp,zL _⟩,⟨e3,e4,g2,q4m s,lex_lets s,g3,⟨zW _ _ _ _,by simp,by intro i hi;simp at hi⟩,fun i hi=>by simp at hi,?_,zL _⟩,?_,rfl⟩
  ·refine⟨?_,zd e1',zW _ _ _ _,by simp,by intro p hp;simp at hp⟩
   rw[zC _ _ 4 _ _ _ e1']
   rfl
  ·exact LogOk.nil
  ·intro k hk
   simp only[q5c,List.flatMap_nil,List.append_nil]at hk
   have:=e5 k hk
   simp[zQ]
   exact this.2
 refine⟨_,hm,rfl,rfl,fun k hk=>⟨?_,hm.mutLt k hk⟩,fun k hk=>⟨?_,hm.froLt k hk⟩,fun k hk hf=>?_⟩
 ·simp[q1d,zQ]at hk
  have:=hw1.size
  rcases hk with rfl|rfl<;>omega
 ·simp only[q3S,q5c,List.flatMap_nil,List.append_nil]at hk
  have:=(e5 k hk).1
  have:=hw1.size
  omega
 ·simp only[q3S,q5c,List.flatMap_nil,List.append_nil]at hf
  have:=(e5 k hf)
  simp[q1d,zQ]at hk
  rcases hk with rfl|rfl
  ·omega
  ·exact this.2 rfl
theorem j5b {w w2 w3 w4:World}{bw g3 k3 g4 k4:Nat}{s:St}{m:Mo}{ob ob':Obj}(h0:Wld w bw s)(hb:Below w.heap.size w w2)(hm:MoAt w2 m)(hf1:∀k∈q1d m,w.heap.size≤k∧k<w2.heap.size)(hf2:∀k∈q3S m,w.heap.size≤k∧k<w2.heap.size)(hf3:∀k∈q1d m,k∉q3S m)
  (own3:w3.ownsRow (bw+1) 28 1 (.slice (some ⟨g3,0,none⟩) (s.MS.length+1) k3) (s.MS.length+1) (s.MS.map (fun m=>Value.pointer (some ⟨m.b,0,none⟩))++[.pointer (some ⟨m.b,0,none⟩)]))(gr3:(w2.alloc ob).grownBy w3 s.vx.ownBlock)(at3:some g3=s.vx.ownBlock∨some g3=some (w2.alloc ob).heap.size)
  (own4:w4.ownsRow (bw+1) 105 1 (.slice (some ⟨g4,0,none⟩) (s.MS.length+1) k4) (s.MS.length+1) (s.MS.map (fun m=>Value.pointer (some ⟨m.d,0,none⟩))++[.pointer (some ⟨m.d,0,none⟩)]))(gr4:((w3.setCell ⟨bw,0,none⟩ (.slice (some ⟨g3,0,none⟩) (s.MS.length+1) k3)).alloc ob').grownBy w4 s.vy.ownBlock)(at4:some g4=s.vy.ownBlock∨some g4=some ((w3.setCell ⟨bw,0,none⟩ (.slice (some ⟨g3,0,none⟩) (s.MS.length+1) k3)).alloc ob').heap.size) :
  Wld (w4.setCell ⟨bw,1,none⟩ (.slice (some ⟨g4,0,none⟩) (s.MS.length+1) k4)) bw {s with vx:=.slice (some ⟨g3,0,none⟩) (s.MS.length+1) k3,vy:=.slice (some ⟨g4,0,none⟩) (s.MS.length+1) k4,MS:=s.MS++[m]}∧Below bw w2 (w4.setCell ⟨bw,1,none⟩ (.slice (some ⟨g4,0,none⟩) (s.MS.length+1) k4))∧w4.cell? ⟨bw,1,none⟩=some s.vy∧w4.frozen? ⟨bw,1,none⟩=false:=by
 have h:=h0.below hb
 obtain⟨a1,a2,a3,a4,a5,a6⟩:=h.all
 have hl:=h.lt
 have hl0:=h0.lt
 have hw:=hb.size
 have kx:∀k∈obl s.vx,bw<k∧∃cs,w2.heap[k]?=some (.cells cs 28 (0,0)):=fun k hk=>by obtain⟨q1,q2⟩:=zw h.xs k hk;exact⟨by omega,q2⟩
 have ky:∀k∈obl s.vy,bw<k∧∃cs,w2.heap[k]?=some (.cells cs 105 (0,0)):=fun k hk=>by obtain⟨q1,q2⟩:=zw h.ys k hk;exact⟨by omega,q2⟩
 obtain⟨W3,hW3⟩:∃W3,W3=w3.setCell ⟨bw,0,none⟩ (.slice (some ⟨g3,0,none⟩) (s.MS.length+1) k3):=⟨_,rfl⟩
 rw[←hW3]at gr4 at4
 have o3:OnlyB (obl s.vx) w2 w3:=(OnlyB.nw _ w2 ob).trans (q2V gr3)
 have e3:=(o3.block bw hl (fun hh=>by have:=(kx bw hh).1;omega)).trans h.blk
 have E3:=zH w3 bw 0 _ _ (.slice (some ⟨g3,0,none⟩) (s.MS.length+1) k3) e3
 rw[←hW3]at E3
 have O3:OnlyB (bw::(obl s.vx++obl s.vy)) w2 W3:=by rw[hW3];exact(o3.wide (fun k hk=>by simp[hk])).setCell (by simp) _
 have o4:OnlyB (obl s.vy) W3 w4:=(OnlyB.nw _ W3 ob').trans (q2V gr4)
 have hl3:bw<W3.heap.size:=zd E3
 have e4:=(o4.block bw hl3 (fun hh=>by have:=(ky bw hh).1;omega)).trans E3
 have E4:=zH w4 bw 1 _ _ (.slice (some ⟨g4,0,none⟩) (s.MS.length+1) k4) e4
 have O4:OnlyB (bw::(obl s.vx++obl s.vy)) w2 w4:=O3.trans (o4.wide (fun k hk=>by simp[hk]))
 obtain⟨W5,hW5⟩:∃W5,W5=w4.setCell ⟨bw,1,none⟩ (.slice (some ⟨g4,0,none⟩) (s.MS.length+1) k4):=⟨_,rfl⟩
 rw[←hW5]at E4 ⊢
 have O5:OnlyB (bw::(obl s.vx++obl s.vy)) w2 W5:=by rw[hW5];exact O4.setCell (by simp) _
 have hin:∀k∈bw::(obl s.vx++obl s.vy),k∈q1D bw s:=fun k hk=>by
  simp only[List.mem_cons,List.mem_append]at hk
  rcases hk with rfl|hk|hk
  ·simp[q1D]
  ·exact a1 k hk
  ·exact a2 k hk
 have kb:∀k∈bw::(obl s.vx++obl s.vy),k<w.heap.size:=fun k hk=>h0.ownLt k (.inl (hin k hk))
 have kg:q4R (bw::(obl s.vx++obl s.vy)) w2:=h.kindsG (fun k hk=>.inl (hin k hk))
 have noR:∀{base e size v n xs},w2.ownsRow base e size v n xs→e≠64→e≠28→e≠105→∀k∈obl v,k∉bw::(obl s.vx++obl s.vy):=by
  intro base e size v n xs hr n1 n2 n3 k hk hh
  obtain⟨_,cs,q⟩:=zw hr k hk
  have fin:∀{cs' t'},w2.heap[k]?=some (.cells cs' t' (0,0))→e=t':=fun q'=>by
   rw[q]at q'
   simp only[Option.some.injEq,Obj.cells.injEq,and_true]at q'
   exact q'.2
  simp only[List.mem_cons,List.mem_append]at hh
  rcases hh with rfl|hh|hh
  ·exact n1 (fin h.blk)
  ·obtain⟨_,cs',q'⟩:=kx k hh;exact n2 (fin q')
  ·obtain⟨_,cs',q'⟩:=ky k hh;exact n3 (fin q')
 have p3:g3∈obl s.vx∨w2.heap.size<g3:=by
  rcases at3 with e|e
  ·exact .inl (q1w.2 e.symm)
  ·right;simp at e;omega
 have hsz3:w2.heap.size≤W3.heap.size:=O3.size
 have p4:g4∈obl s.vy∨w2.heap.size<g4:=by
  rcases at4 with e|e
  ·exact .inl (q1w.2 e.symm)
  ·right;simp at e;omega
 have hown:∀k,k∈q1D bw {s with vx:=.slice (some ⟨g3,0,none⟩) (s.MS.length+1) k3,vy:=.slice (some ⟨g4,0,none⟩) (s.MS.length+1) k4,MS:=s.MS++[m]}→k∈q1D bw s∨w2.heap.size<k:=by
  intro k hk
  simp only[q1D,List.mem_cons,List.mem_append]at hk
  rcases hk with rfl|hk|hk|hk|hk
  ·exact .inl (by simp[q1D])
  ·have:k=g3:=by simpa[obl,Value.ownBlock]using hk
   subst this
   rcases p3 with p3|p3
   ·exact .inl (a1 _ p3)
   ·exact .inr p3
  ·have:k=g4:=by simpa[obl,Value.ownBlock]using hk
   subst this
   rcases p4 with p4|p4
   ·exact .inl (a2 _ p4)
   ·exact .inr p4
  ·exact .inl (a3 _ hk)
  ·exact .inl (a4 _ hk)
 have ox3:W3.ownsRow (bw+1) 28 1 (.slice (some ⟨g3,0,none⟩) (s.MS.length+1) k3) (s.MS.length+1) (s.MS.map (fun m=>Value.pointer (some ⟨m.b,0,none⟩))++[.pointer (some ⟨m.b,0,none⟩)]):=by rw[hW3];exact ownsRow_setCell_below own3 (by simp) _
 have oyW:W3.ownsRow (bw+1) 105 1 s.vy s.MS.length (s.MS.map fun m=>.pointer (some ⟨m.d,0,none⟩)):=qn h.ys (bl:=bw::obl s.vx) (by rw[hW3];exact(o3.wide (fun k hk=>by simp[hk])).setCell (by simp) _) (fun k hk hh=>by
  obtain⟨hk1,cs,q⟩:=ky k hk
  rcases List.mem_cons.1 hh with rfl|hh
  ·omega
  ·obtain⟨_,cs',q'⟩:=kx k hh
   rw[q]at q'
   simp at q')
 have ox4:w4.ownsRow (bw+1) 28 1 (.slice (some ⟨g3,0,none⟩) (s.MS.length+1) k3) (s.MS.length+1) (s.MS.map (fun m=>Value.pointer (some ⟨m.b,0,none⟩))++[.pointer (some ⟨m.b,0,none⟩)]):=qn ox3 o4 (fun k hk hh=>by
  obtain⟨_,cs,q⟩:=zw ox3 k hk
  obtain⟨_,cs',q'⟩:=zw oyW k hh
  rw[q]at q'
  simp at q')
 have hms:∀x∈s.MS++[m],x∈s.MS∨x=m:=fun x hx=>by simpa using hx
 refine⟨⟨E4,?_,?_,qn h.ls O5 (noR h.ls (by decide) (by decide) (by decide)),qn h.lw O5 (noR h.lw (by decide) (by decide) (by decide)),h.two,fun x hx=>?_,fun e he=>qn (h.row e he) O5 (noR (h.row e he) (by decide) (by decide) (by decide)),fun e he=>qn (h.cop e he) O5 (noR (h.cop e he) (by decide) (by decide) (by decide)),fun x hx k hk=>?_,fun x hx k hk=>?_,fun x hx y hy k hk hk2=>?_,fun i j x y hx hy hij k hk hk2=>?_⟩,?_,?_,?_⟩
 ·show W5.ownsRow _ _ _ _ (s.MS++[m]).length ((s.MS++[m]).map _)
  rw[List.map_append,List.length_append,hW5]
  exact ownsRow_setCell_below ox4 (by simp) _
 ·show W5.ownsRow _ _ _ _ (s.MS++[m]).length ((s.MS++[m]).map _)
  rw[List.map_append,List.length_append,hW5]
  exact ownsRow_setCell_below own4 (by simp) _
 ·rcases hms x hx with hx|rfl
  ·exact(h.mons x hx).keep O5 kg (fun k hk hh=>(h.mut x hx k hk).1 (hin k hh)) (fun k hk hh=>(h.fro x hx k hk).1 (hin k hh))
  ·exact hm.keep O5 kg (fun k hk hh=>by have:=kb k hh;have:=(hf1 k hk).1;omega) (fun k hk hh=>by have:=kb k hh;have:=(hf2 k hk).1;omega)
 ·rcases hms x hx with hx|rfl
  ·exact h.hi x hx k hk
  ·have:=(hf1 k hk).1;omega
 ·refine⟨fun hh=>?_,?_⟩
  ·rcases hms x hx with hx|rfl
   ·rcases hown k hh with hh|hh
    ·exact(h.fro x hx k hk).1 hh
    ·have:=(h.mons x hx).froLt k hk;omega
   ·rcases hown k hh with hh|hh
    ·have:=h0.ownLt k (.inl hh);have:=(hf2 k hk).1;omega
    ·have:=(hf2 k hk).2;omega
  ·rcases hms x hx with hx|rfl
   ·exact(h.fro x hx k hk).2
   ·intro hh
    have:=h0.ownLt k (.inr hh);have:=(hf2 k hk).1;omega
 ·rcases hms x hx with hx1|hx1<;>rcases hms y hy with hy1|hy1
  ·exact h.sep x hx1 y hy1 k hk hk2
  ·subst hy1;have:=(h0.mons x hx1).mutLt k hk;have:=(hf2 k hk2).1;omega
  ·subst hx1;have:=(h0.mons y hy1).froLt k hk2;have:=(hf1 k hk).1;omega
  ·subst hx1;subst hy1;exact hf3 k hk hk2
 ·have cs:∀i x,(s.MS++[m])[i]?=some x→s.MS[i]?=some x∨(x=m∧i=s.MS.length):=by
   intro i x hx
   rcases Nat.lt_or_ge i s.MS.length with hh|hh
   ·left;rwa [List.getElem?_append_left hh]at hx
   ·right
    rw[List.getElem?_append_right hh]at hx
    have:=(List.getElem?_eq_some_iff.1 hx).1
    simp at this
    have hi:i=s.MS.length:=by omega
    subst hi
    simp at hx
    exact⟨hx.symm,rfl⟩
  rcases cs i x hx with hx1|⟨hx1,hx2⟩<;>rcases cs j y hy with hy1|⟨hy1,hy2⟩
  ·exact h.apart i j x y hx1 hy1 hij k hk hk2
  ·subst hy1
   have:=(h0.mons x (zI hx1)).mutLt k hk;have:=(hf1 k hk2).1;omega
  ·subst hx1
   have:=(h0.mons y (zI hy1)).mutLt k hk2;have:=(hf1 k hk).1;omega
  ·omega
 ·exact O5.below (by omega) (fun k hk=>(h.kinds k (.inl (hin k hk))).1)
 ·rw[zC _ _ 1 _ _ _ e4]
  rfl
 ·exact zF _ _ _ _ _ e4
end Go.Proofs.YtiamjjonoeaggabGreatDoor
