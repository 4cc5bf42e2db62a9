import Derived.Test.YtiamjjonoeaggabGreatDoorGA
import Derived.Test.YtiamjjonoeaggabGreatDoorGB
import Derived.Test.YtiamjjonoeaggabGreatDoorG39
set_option maxRecDepth 100000
set_option maxHeartbeats 16000000
namespace Go.Proofs.YtiamjjonoeaggabGreatDoor
open Go.RowKit
theorem q7C:(Tryz.prog.info? 181).map (fun i=>(i.zero,i.size,i.bytes))=some (some (.agg #[.int .u16 0,.int .i64 0,.slice none 0 0]),3,40):=by kernel_rfl
theorem q7v {L:List LPt}{s:By}{st:Nat}{l:List Hp}(hl:s.length≤80)(hp:q2n s=.inr (st,l))(hy:toR L st<32768∧L.length<40):q1a L false s=(0,0)∧q3g L false s=L++[⟨st,q1B L st,l⟩]:=by
 have e:q1a L false s=(0,0):=by unfold q1a;rw[if_neg (by decide),if_neg (by omega),hp];simp only[];rw[if_pos hy]
 refine⟨e,?_⟩
 unfold q3g
 rw[e,hp]
 rfl
theorem j1e (d:Nat)(fv:Value)(u:List Tok)(F:zl)(la:OA)(lc:Nat)(DL:List (LPt × Value))(told:Nat)(s:By)(hl:s.length≤80)(st:Nat)(l:List Hp)(hp:q2n s=.inr (st,l))(hn:0<DL.length)(hb:32768≤toR (zs DL) st)(w:World)(h:DMonAt w d fv u F (.slice la DL.length lc) DL told false)(hs:q6L d fv la DL) :
  Calls Tryz.prog 59 #[.pointer (some ⟨d,0,none⟩),bs s] w fun e w'=>q3B w d fv u F la DL told false s e w':=by
 obtain⟨hs0,hok,hst,dd,hsp,hd1,hd2,hd3,hd4⟩:=q3w hp
 have HP:=zb (q3A s (by unfold maxLen;omega) w)
 rw[q4p,hp]at HP
 have HPT:=zb (fun W=>q6I s hl hs0 dd (l.map q5D) hsp hd1 hd2 hd3 (by omega) W)
 rw[hd4]at HPT
 have HD:=zb h
 have HS:=zb hs
 have HOK:=zb hok
 have HHP:=zb hp
 have hsm:=h.log.small
 clear h hs hsp hd1 hd2 hd3 hd4 hok hp
 obtain⟨m,hm⟩:∃m,DL.length=m+1:=⟨DL.length-1,by omega⟩
 have hmD:m<DL.length:=by omega
 obtain⟨dg,rfl,hdg,g1,g2⟩:∃g,la=some ⟨g,0,none⟩∧g<w.heap.size∧DL.length≤lc∧lc≤maxLen:=by
  obtain⟨g,a1,a2,a3,a4,_⟩:=HD.out.log.at' hmD
  exact⟨g,a1,a2,a3,a4⟩
 have HC:Hid (∀w',Below w.heap.size w w'→w'.cell? ⟨d,1,none⟩=some (.slice (some ⟨dg,0,none⟩) DL.length lc)∧w'.cell? ⟨dg,m*3,none⟩=some (.int .u16 (DL[m]).1.stamp)∧w'.cell? ⟨dg,m*3+1,none⟩=some (.int .i64 (DL[m]).1.time)):=zb (fun w' hb=>by
  have q:=HD.out.below hb
  obtain⟨g',e',_,_,_,h1,h2,_⟩:=q.log.at' hmD
  simp only[Option.some.injEq,Addr.mk.injEq,and_true]at e'
  subst e'
  exact⟨q.cells.2.1,h1,h2⟩)
 have htm:=HD.out.log.times m hmD
 have HLAST:Hid ((zs DL)[(zs DL).length-1]?=some (DL[m]).1):=zb (by
  rw[List.length_map,show DL.length-1=m by omega,List.getElem?_map,zG hmD];rfl)
 have HBT:=zb (q6l ((DL[m]).1.stamp:Int) (st:Int) (by omega) (by omega))
 rw[q7c HLAST.out (by omega) (by omega)]at HBT
 have HAT:Hid ((q1B (zs DL) st:Int)=((DL[m]).1.time:Int)+(toR (zs DL) st:Int)):=zb (by
  rw[q9u HD.out.ok st (by simp;omega)]
  have:tmL (zs DL) ((zs DL).length-1)=(DL[m]).1.time:=by unfold tmL;rw[HLAST.out]
  rw[this]
  omega)
 obtain⟨z,hz⟩:∃z:Int,z=(toR (zs DL) st:Int):=⟨_,rfl⟩
 obtain⟨tz,htz⟩:∃tz:Int,tz=(q1B (zs DL) st:Int):=⟨_,rfl⟩
 have HZ:=zb hz
 have HTZ:=zb htz
 rw[←hz]at HBT HAT
 rw[←htz]at HAT
 have hzz:0≤z∧z≤65535:=by
  have:toR (zs DL) st<65536:=by unfold toR;rw[HLAST.out];simp only[];omega
  omega
 obtain⟨tl,htl⟩:∃tl:Int,tl=((DL[m]).1.time:Int):=⟨_,rfl⟩
 rw[←htl]at HC HAT
 have htl2:0≤tl∧tl≤2000000:=by omega
 have hwr:IntKind.i64.wrap ((DL.length:Int)-1)=(m:Int):=by rw[IntKind.wrap_i64];omega
 have hwr2:IntKind.i64.wrap (tl+z)=tz:=by rw[IntKind.wrap_i64,HAT.out];omega
 have hmi:(m:Int)<(DL.length:Int):=by omega
 have hm0:(0:Int)≤(m:Int):=by omega
 have hn1:(0:Int)<(DL.length:Int):=by omega
 generalize (DL[m]).1.stamp=sl at *
 obtain⟨hzz1,hzz2⟩:=hzz
 obtain⟨htl21,htl22⟩:=htl2
 have hzb:32768≤z:=by omega
 have HE:Hid (q1a (zs DL) false s=(7,0)):=zb (by unfold q1a;rw[if_neg (by decide),if_neg (by omega),HHP.out];simp only[];rw[if_neg (by omega),if_pos hb])
 clear hz htz htl htm HLAST hm hmD hb
 unfold maxLen at g2
 obtain⟨i1,hi1,iz0,iz1,iz2⟩:=info_parts q7C
 go_enter Tryz.func59,Tryz.ntmps59
 go_wp2_with fail
 refine HP.out.mono ?_
 rintro e w0 ⟨rfl,hw0⟩
 rw[hw0]
 clear hw0 w0
 obtain⟨c0,c1,c2,c3⟩:=HD.out.cells
 have hlt:=HD.out.lt
 clear c0 c2 HP
 go_wp2_with fail
 refine(HPT.out _).mono ?_
 rintro e w1 ⟨vh,rfl,hst1,b1,hfr1⟩
 obtain⟨W2,S2,q2,b2,z2⟩:=qI (P:=Tryz.prog) 181 w1 #[.int .u16 0,.int .i64 0,.slice none 0 0] #[.int .u16 st,.int .i64 0,vh] (by kernel_rfl) rfl (by obtain⟨a',n',c',e',_⟩:=q1n hst1;rw[e'];simp[Value.oneCell'])
 obtain⟨ha,hn',hc',rfl,hnl⟩:=q1n hst1
 have HSL1:=zb hst1
 have HB1:=zb b1
 have HFR1:=zb hfr1
 have HQ2:=zb q2
 have HB2:=zb (b1.trans (b2.mono b1.size))
 have HB12:=zb b2
 have HZ2:=zb z2
 obtain⟨V2,hV2⟩:∃V2,V2=Value.agg #[.int .u16 st,.int .i64 0,.slice ha hn' hc']:=⟨_,rfl⟩
 rw[←hV2]at S2 ⊢
 clear hst1 b1 q2 b2 z2 hfr1 hV2 c1 c3 HPT hnl
 go_wp2_with (refine ze rfl 181 (.tmp 9) (.tmp 35) rfl ⟨w1.heap.size,0,none⟩ V2 rfl rfl W2 S2 ?_)
 have p0:∀w',Below W2.heap.size W2 w'→w'.cell? ⟨w1.heap.size,0,none⟩=some (.int .u16 st):=fun w' hb=>zC _ _ 0 _ _ _ ((hb.block _ (by have:=HZ2.out;omega)).trans HQ2.out)
 have HS11:Hid (∀w',Below W2.heap.size W2 w'→w'.cell? ⟨d,1,none⟩=some (.slice (some ⟨dg,0,none⟩) DL.length lc)∧w'.cell? ⟨dg,m*3,none⟩=some (.int .u16 sl)∧w'.cell? ⟨w1.heap.size,0,none⟩=some (.int .u16 st)):=zb (fun w' hb=>⟨(HC.out w' (HB2.out.trans (hb.mono HB2.out.size))).1,(HC.out w' (HB2.out.trans (hb.mono HB2.out.size))).2.1,p0 w' hb⟩)
 have C11:=HS11.out _ (zB _ _).drew
 have hlt2:d<W2.heap.size:=zT hlt HB2.out.size
 have hlp2:w1.heap.size<W2.heap.size:=by have:=HZ2.out;omega
 clear p0
 go_region_held3 (fun w'=>w'.cell? ⟨d,1,none⟩=some (.slice (some ⟨dg,0,none⟩) DL.length lc)∧w'.cell? ⟨dg,m*3,none⟩=some (.int .u16 sl)∧w'.cell? ⟨w1.heap.size,0,none⟩=some (.int .u16 st)) (first|(exact C11)|go_keep) ((go_at_call 85;refine(HBT.out _).mono ?_;rintro e w3 ⟨rfl,rfl⟩))
 clear C11
 go_wp2_with fail
 go_ret3
 exact q6c HD.out HS.out HE.out (by decide) HB2.out.drew
theorem j1f (d:Nat)(fv:Value)(u:List Tok)(F:zl)(la:OA)(lc:Nat)(DL:List (LPt × Value))(told:Nat)(s:By)(hl:s.length≤80)(st:Nat)(l:List Hp)(hp:q2n s=.inr (st,l))(hn:40≤DL.length)(hb:toR (zs DL) st<32768)(w:World)(h:DMonAt w d fv u F (.slice la DL.length lc) DL told false)(hs:q6L d fv la DL) :
  Calls Tryz.prog 59 #[.pointer (some ⟨d,0,none⟩),bs s] w fun e w'=>q3B w d fv u F la DL told false s e w':=by
 obtain⟨hs0,hok,hst,dd,hsp,hd1,hd2,hd3,hd4⟩:=q3w hp
 have HP:=zb (q3A s (by unfold maxLen;omega) w)
 rw[q4p,hp]at HP
 have HPT:=zb (fun W=>q6I s hl hs0 dd (l.map q5D) hsp hd1 hd2 hd3 (by omega) W)
 rw[hd4]at HPT
 have HD:=zb h
 have HS:=zb hs
 have HOK:=zb hok
 have HHP:=zb hp
 have hsm:=h.log.small
 clear h hs hsp hd1 hd2 hd3 hd4 hok hp
 obtain⟨m,hm⟩:∃m,DL.length=m+1:=⟨DL.length-1,by omega⟩
 have hmD:m<DL.length:=by omega
 obtain⟨dg,rfl,hdg,g1,g2⟩:∃g,la=some ⟨g,0,none⟩∧g<w.heap.size∧DL.length≤lc∧lc≤maxLen:=by
  obtain⟨g,a1,a2,a3,a4,_⟩:=HD.out.log.at' hmD
  exact⟨g,a1,a2,a3,a4⟩
 have HC:Hid (∀w',Below w.heap.size w w'→w'.cell? ⟨d,1,none⟩=some (.slice (some ⟨dg,0,none⟩) DL.length lc)∧w'.cell? ⟨dg,m*3,none⟩=some (.int .u16 (DL[m]).1.stamp)∧w'.cell? ⟨dg,m*3+1,none⟩=some (.int .i64 (DL[m]).1.time)):=zb (fun w' hb=>by
  have q:=HD.out.below hb
  obtain⟨g',e',_,_,_,h1,h2,_⟩:=q.log.at' hmD
  simp only[Option.some.injEq,Addr.mk.injEq,and_true]at e'
  subst e'
  exact⟨q.cells.2.1,h1,h2⟩)
 have htm:=HD.out.log.times m hmD
 have HLAST:Hid ((zs DL)[(zs DL).length-1]?=some (DL[m]).1):=zb (by
  rw[List.length_map,show DL.length-1=m by omega,List.getElem?_map,zG hmD];rfl)
 have HBT:=zb (q6l ((DL[m]).1.stamp:Int) (st:Int) (by omega) (by omega))
 rw[q7c HLAST.out (by omega) (by omega)]at HBT
 have HAT:Hid ((q1B (zs DL) st:Int)=((DL[m]).1.time:Int)+(toR (zs DL) st:Int)):=zb (by
  rw[q9u HD.out.ok st (by simp;omega)]
  have:tmL (zs DL) ((zs DL).length-1)=(DL[m]).1.time:=by unfold tmL;rw[HLAST.out]
  rw[this]
  omega)
 obtain⟨z,hz⟩:∃z:Int,z=(toR (zs DL) st:Int):=⟨_,rfl⟩
 obtain⟨tz,htz⟩:∃tz:Int,tz=(q1B (zs DL) st:Int):=⟨_,rfl⟩
 have HZ:=zb hz
 have HTZ:=zb htz
 rw[←hz]at HBT HAT
 rw[←htz]at HAT
 have hzz:0≤z∧z≤65535:=by
  have:toR (zs DL) st<65536:=by unfold toR;rw[HLAST.out];simp only[];omega
  omega
 obtain⟨tl,htl⟩:∃tl:Int,tl=((DL[m]).1.time:Int):=⟨_,rfl⟩
 rw[←htl]at HC HAT
 have htl2:0≤tl∧tl≤2000000:=by omega
 have hwr:IntKind.i64.wrap ((DL.length:Int)-1)=(m:Int):=by rw[IntKind.wrap_i64];omega
 have hwr2:IntKind.i64.wrap (tl+z)=tz:=by rw[IntKind.wrap_i64,HAT.out];omega
 have hmi:(m:Int)<(DL.length:Int):=by omega
 have hm0:(0:Int)≤(m:Int):=by omega
 have hn1:(0:Int)<(DL.length:Int):=by omega
 generalize (DL[m]).1.stamp=sl at *
 obtain⟨hzz1,hzz2⟩:=hzz
 obtain⟨htl21,htl22⟩:=htl2
 have hzb:z<32768:=by omega
 have hn40:(40:Int)≤(DL.length:Int):=by omega
 have HE:Hid (q1a (zs DL) false s=(8,0)):=zb (by unfold q1a;rw[if_neg (by decide),if_neg (by omega),HHP.out];simp only[];rw[if_neg (by simp;omega),if_neg (by omega)])
 clear hz htz htl htm HLAST hm hmD hb
 unfold maxLen at g2
 obtain⟨i1,hi1,iz0,iz1,iz2⟩:=info_parts q7C
 go_enter Tryz.func59,Tryz.ntmps59
 go_wp2_with fail
 refine HP.out.mono ?_
 rintro e w0 ⟨rfl,hw0⟩
 rw[hw0]
 clear hw0 w0
 obtain⟨c0,c1,c2,c3⟩:=HD.out.cells
 have hlt:=HD.out.lt
 clear c0 c2 HP
 go_wp2_with fail
 refine(HPT.out _).mono ?_
 rintro e w1 ⟨vh,rfl,hst1,b1,hfr1⟩
 obtain⟨W2,S2,q2,b2,z2⟩:=qI (P:=Tryz.prog) 181 w1 #[.int .u16 0,.int .i64 0,.slice none 0 0] #[.int .u16 st,.int .i64 0,vh] (by kernel_rfl) rfl (by obtain⟨a',n',c',e',_⟩:=q1n hst1;rw[e'];simp[Value.oneCell'])
 obtain⟨ha,hn',hc',rfl,hnl⟩:=q1n hst1
 have HSL1:=zb hst1
 have HB1:=zb b1
 have HFR1:=zb hfr1
 have HQ2:=zb q2
 have HB2:=zb (b1.trans (b2.mono b1.size))
 have HB12:=zb b2
 have HZ2:=zb z2
 obtain⟨V2,hV2⟩:∃V2,V2=Value.agg #[.int .u16 st,.int .i64 0,.slice ha hn' hc']:=⟨_,rfl⟩
 rw[←hV2]at S2 ⊢
 clear hst1 b1 q2 b2 z2 hfr1 hV2 c1 c3 HPT hnl
 go_wp2_with (refine ze rfl 181 (.tmp 9) (.tmp 35) rfl ⟨w1.heap.size,0,none⟩ V2 rfl rfl W2 S2 ?_)
 have p0:∀w',Below W2.heap.size W2 w'→w'.cell? ⟨w1.heap.size,0,none⟩=some (.int .u16 st):=fun w' hb=>zC _ _ 0 _ _ _ ((hb.block _ (by have:=HZ2.out;omega)).trans HQ2.out)
 have HS11:Hid (∀w',Below W2.heap.size W2 w'→w'.cell? ⟨d,1,none⟩=some (.slice (some ⟨dg,0,none⟩) DL.length lc)∧w'.cell? ⟨dg,m*3,none⟩=some (.int .u16 sl)∧w'.cell? ⟨w1.heap.size,0,none⟩=some (.int .u16 st)):=zb (fun w' hb=>⟨(HC.out w' (HB2.out.trans (hb.mono HB2.out.size))).1,(HC.out w' (HB2.out.trans (hb.mono HB2.out.size))).2.1,p0 w' hb⟩)
 have C11:=HS11.out _ (zB _ _).drew
 have hlt2:d<W2.heap.size:=zT hlt HB2.out.size
 have hlp2:w1.heap.size<W2.heap.size:=by have:=HZ2.out;omega
 clear p0
 go_region_held3 (fun w'=>w'.cell? ⟨d,1,none⟩=some (.slice (some ⟨dg,0,none⟩) DL.length lc)∧w'.cell? ⟨dg,m*3,none⟩=some (.int .u16 sl)∧w'.cell? ⟨w1.heap.size,0,none⟩=some (.int .u16 st)) (first|(exact C11)|go_keep) ((go_at_call 85;refine(HBT.out _).mono ?_;rintro e w3 ⟨rfl,rfl⟩))
 clear C11
 obtain⟨W3,hW3⟩:∃W3,W3=W2.drew:=⟨_,rfl⟩
 rw[←hW3]
 have HB3:Hid (Below w.heap.size w W3):=zb (by rw[hW3];exact HB2.out.drew)
 have HB13:Hid (Below w1.heap.size w1 W3):=zb (by rw[hW3];exact HB12.out.drew)
 have HQ3:Hid (W3.heap[w1.heap.size]?=some (.cells #[.int .u16 st,.int .i64 0,.slice ha hn' hc'] 181 (0,0))):=zb (by rw[hW3];exact HQ2.out)
 have hz3:w1.heap.size<W3.heap.size:=zd HQ3.out
 obtain⟨t1,_,t3⟩:=HC.out W3 HB3.out
 have t4:=zC _ _ 1 _ _ _ HQ3.out
 have t5:=zF _ _ 1 _ _ HQ3.out
 have hlt3:d<W3.heap.size:=zT hlt HB3.out.size
 simp only[gz]at t4
 clear hW3 HQ2 HB2 HB12 HZ2 HS11
 go_wp2_with fail
 go_ret3
 exact q6c HD.out HS.out HE.out (by decide) (HB3.out.setCell HB1.out.size _)
theorem cutP {P G:Prop}(h:P→G)(k:P):G:=h k
theorem j4A (l:List Ver):∀(k:Nat) (h:k<l.length),(zy l)[k*12]?=some (.int .i64 (l[k]).1):=by
 induction l with
 |nil=>intro k h;simp at h
 |cons v r ih =>
  intro k h
  have e:zy (v::r)=q5t v++zy r:=rfl
  have e2:(q5t v).length=12:=rfl
  rw[e]
  cases k with
  |zero=>rw[List.getElem?_append_left (by omega)];rfl
  |succ k =>
   have hk:k<r.length:=by simpa using h
   rw[List.getElem?_append_right (by omega),e2,show(k+1)*12-12=k*12 by omega,ih k hk]
   rfl
theorem j0W (F:zl)(L:List LPt)(a c k:Nat)(h:k<c-a):(zy (q1x F L a c))[k*12]?=some (.int .i64 ((a+k:Nat):Int)):=by
 have hl:k<(q1x F L a c).length:=by rw[q1R];exact h
 rw[j4A _ k hl]
 have:(q1x F L a c)[k]=verR F L (a+k):=by simp[q1x]
 rw[this]
 rfl
theorem j2v {a:OA}{n c k:Nat}(e:some k=(Value.slice a n c).ownBlock):k∈zQ a:=by
 cases a with
 |none=>simp[Value.ownBlock]at e
 |some a=>simp[Value.ownBlock]at e;simp[zQ,e]
theorem j5Y {a a9:OA}{n c n9 c9 W:Nat}(h:(Value.slice a9 n9 c9).ownBlock=(Value.slice a n c).ownBlock∨(Value.slice a9 n9 c9).ownBlock=some W):∀k∈zQ a9,k∈zQ a∨k=W:=by
 intro k hk
 cases a9 with
 |none=>simp[zQ]at hk
 |some a9 =>
  have ek:k=a9.block:=by simpa[zQ]using hk
  subst ek
  rcases h with e|e
  ·exact .inl (j2v (n:=n) (c:=c) (by rw[←e];rfl))
  ·exact .inr (by simpa[Value.ownBlock]using e)
theorem q9C {w:World}{b o:Nat}{v:Value}(hc:w.cell? ⟨b,o,none⟩=some v):(Instr.loadAt 113 (.pointer (some ⟨b,o,none⟩))).run Tryz.prog w=.ok v w:=by
 simp[Instr.loadAt,Instr.sureAddr,go_sem,hc]
theorem q9y {F:zl}{L:List LPt}{told n k d base vc:Nat}{va:OA}{w:World}{cs:Array Value}{u:Value}(h:w.ownsRow base 45 12 (.slice va (n-told) vc) (n-told) (zy (q1x F L told n)))(hk:k≤n-told)(hd:w.heap[d]?=some (.cells cs 115 (0,0))) :
  (w.setCell ⟨d,2,none⟩ u).ownsRow base 45 12 (.slice va k vc) k (zy (q1x F L told (told+k))):=by
 refine q0U ?_ hd (by decide) _
 rw[←j5y F L told n k hk,←j1l]
 cases va with
 |none =>
  rcases h.2 with⟨e,e2⟩|⟨g,cap,cur,e,_⟩
  ·have:k=0:=by omega
   subst this
   simp only[Value.slice.injEq,true_and]at e
   rw[e.2]
   simp only[Nat.zero_mul,List.take_zero]
   exact zW _ _ _ _
  ·simp at e
 |some a=>exact own_take h k hk (by simp)
theorem q6y {w w':World}{d:Nat}{fv:Value}{u:List Tok}{F:zl}{la:OA}{DL DP:List (LPt × Value)}{told k:Nat}{s:By}{v:Value}{rc:Int}(he:q1a (zs DL) false s=(0,0))(hl:q3g (zs DL) false s=zs DP)(hrc:(qj F).reach=rc)(hk:k=q2H (zs DP) rc-told)
  (hr:w'.ownsRow w.heap.size 45 12 v k (zy (q1x F (zs DP) told (told+k))))(hm:q4f w w' d fv u F la DL (zs DP) (told+k) false) :
  q3B w d fv u F la DL told false s (.returned (.tuple #[v,.int .i64 0,.int .i64 0])) w':=by
 have hv:q5a F (zs DL) told false s=q1x F (zs DP) told (told+k):=by
  unfold q5a
  rw[he,if_pos rfl,hl,hrc]
  rcases Nat.lt_or_ge (q2H (zs DP) rc) told with g|g
  ·rw[q4y _ _ _ _ (by omega),q4y _ _ _ _ (by omega)]
  ·rw[show told+k=q2H (zs DP) rc by omega]
 refine⟨v,by rw[he],?_,?_⟩
 ·rw[hv,q1R,show told+k-told=k by omega]
  exact hr
 ·rw[hl]
  have:q7u F (zs DL) told false s=told+k:=by
   unfold q7u
   rw[he,if_pos rfl,hl,hrc,hk]
   omega
  rw[this]
  exact hm
theorem j1g (d:Nat)(fv:Value)(u:List Tok)(F:zl)(la:OA)(lc:Nat)(DL:List (LPt × Value))(told:Nat)(s:By)(hl:s.length≤80)(st:Nat)(l:List Hp)(hp:q2n s=.inr (st,l))(hn:0<DL.length)(hb:toR (zs DL) st<32768)(hn40:DL.length<40)(w:World)(h:DMonAt w d fv u F (.slice la DL.length lc) DL told false)(hs:q6L d fv la DL) :
  Calls Tryz.prog 59 #[.pointer (some ⟨d,0,none⟩),bs s] w fun e w'=>q3B w d fv u F la DL told false s e w':=by
 obtain⟨hs0,hok,hst,dd,hsp,hd1,hd2,hd3,hd4⟩:=q3w hp
 have HP:=zb (q3A s (by unfold maxLen;omega) w)
 rw[q4p,hp]at HP
 have HPT:=zb (fun W=>q6I s hl hs0 dd (l.map q5D) hsp hd1 hd2 hd3 (by omega) W)
 rw[hd4]at HPT
 have HD:=zb h
 have HS:=zb hs
 have HOK:=zb hok
 have HHP:=zb hp
 have hsm:=h.log.small
 clear h hs hsp hd1 hd2 hd3 hd4 hok hp
 obtain⟨m,hm⟩:∃m,DL.length=m+1:=⟨DL.length-1,by omega⟩
 have hmD:m<DL.length:=by omega
 obtain⟨dg,rfl,hdg,g1,g2⟩:∃g,la=some ⟨g,0,none⟩∧g<w.heap.size∧DL.length≤lc∧lc≤maxLen:=by
  obtain⟨g,a1,a2,a3,a4,_⟩:=HD.out.log.at' hmD
  exact⟨g,a1,a2,a3,a4⟩
 have HC:Hid (∀w',Below w.heap.size w w'→w'.cell? ⟨d,1,none⟩=some (.slice (some ⟨dg,0,none⟩) DL.length lc)∧w'.cell? ⟨dg,m*3,none⟩=some (.int .u16 (DL[m]).1.stamp)∧w'.cell? ⟨dg,m*3+1,none⟩=some (.int .i64 (DL[m]).1.time)):=zb (fun w' hb=>by
  have q:=HD.out.below hb
  obtain⟨g',e',_,_,_,h1,h2,_⟩:=q.log.at' hmD
  simp only[Option.some.injEq,Addr.mk.injEq,and_true]at e'
  subst e'
  exact⟨q.cells.2.1,h1,h2⟩)
 have htm:=HD.out.log.times m hmD
 have HLAST:Hid ((zs DL)[(zs DL).length-1]?=some (DL[m]).1):=zb (by
  rw[List.length_map,show DL.length-1=m by omega,List.getElem?_map,zG hmD];rfl)
 have HBT:=zb (q6l ((DL[m]).1.stamp:Int) (st:Int) (by omega) (by omega))
 rw[q7c HLAST.out (by omega) (by omega)]at HBT
 have HAT:Hid ((q1B (zs DL) st:Int)=((DL[m]).1.time:Int)+(toR (zs DL) st:Int)):=zb (by
  rw[q9u HD.out.ok st (by simp;omega)]
  have:tmL (zs DL) ((zs DL).length-1)=(DL[m]).1.time:=by unfold tmL;rw[HLAST.out]
  rw[this]
  omega)
 obtain⟨z,hz⟩:∃z:Int,z=(toR (zs DL) st:Int):=⟨_,rfl⟩
 obtain⟨tz,htz⟩:∃tz:Int,tz=(q1B (zs DL) st:Int):=⟨_,rfl⟩
 have HZ:=zb hz
 have HTZ:=zb htz
 rw[←hz]at HBT HAT
 rw[←htz]at HAT
 have hzz:0≤z∧z≤65535:=by
  have:toR (zs DL) st<65536:=by unfold toR;rw[HLAST.out];simp only[];omega
  omega
 obtain⟨tl,htl⟩:∃tl:Int,tl=((DL[m]).1.time:Int):=⟨_,rfl⟩
 rw[←htl]at HC HAT
 have htl2:0≤tl∧tl≤2000000:=by omega
 have hwr:IntKind.i64.wrap ((DL.length:Int)-1)=(m:Int):=by rw[IntKind.wrap_i64];omega
 have hwr2:IntKind.i64.wrap (tl+z)=tz:=by rw[IntKind.wrap_i64,HAT.out];omega
 have hmi:(m:Int)<(DL.length:Int):=by omega
 have hm0:(0:Int)≤(m:Int):=by omega
 have hn1:(0:Int)<(DL.length:Int):=by omega
 generalize (DL[m]).1.stamp=sl at *
 obtain⟨hzz1,hzz2⟩:=hzz
 obtain⟨htl21,htl22⟩:=htl2
 have HY:Hid (toR (zs DL) st<32768∧(zs DL).length<40):=zb ⟨hb,by simpa using hn40⟩
 have hzb:z<32768:=by omega
 have hTb:q1B (zs DL) st≤32768*DL.length:=by have:=HAT.out;omega
 clear hz htz htl htm HLAST hm hmD hb
 unfold maxLen at g2
 obtain⟨i1,hi1,iz0,iz1,iz2⟩:=info_parts q7C
 go_enter Tryz.func59,Tryz.ntmps59
 go_wp2_with fail
 refine HP.out.mono ?_
 rintro e w0 ⟨rfl,hw0⟩
 rw[hw0]
 clear hw0 w0
 obtain⟨c0,c1,c2,c3⟩:=HD.out.cells
 have hlt:=HD.out.lt
 clear c0 c2 HP
 go_wp2_with fail
 refine(HPT.out _).mono ?_
 rintro e w1 ⟨vh,rfl,hst1,b1,hfr1⟩
 obtain⟨W2,S2,q2,b2,z2⟩:=qI (P:=Tryz.prog) 181 w1 #[.int .u16 0,.int .i64 0,.slice none 0 0] #[.int .u16 st,.int .i64 0,vh] (by kernel_rfl) rfl (by obtain⟨a',n',c',e',_⟩:=q1n hst1;rw[e'];simp[Value.oneCell'])
 obtain⟨ha,hn',hc',rfl,hnl⟩:=q1n hst1
 have HSL1:=zb hst1
 have HB1:=zb b1
 have HFR1:=zb hfr1
 have HQ2:=zb q2
 have HB2:=zb (b1.trans (b2.mono b1.size))
 have HB12:=zb b2
 have HZ2:=zb z2
 obtain⟨V2,hV2⟩:∃V2,V2=Value.agg #[.int .u16 st,.int .i64 0,.slice ha hn' hc']:=⟨_,rfl⟩
 rw[←hV2]at S2 ⊢
 clear hst1 b1 q2 b2 z2 hfr1 hV2 c1 c3 HPT hnl
 go_wp2_with (refine ze rfl 181 (.tmp 9) (.tmp 35) rfl ⟨w1.heap.size,0,none⟩ V2 rfl rfl W2 S2 ?_)
 have p0:∀w',Below W2.heap.size W2 w'→w'.cell? ⟨w1.heap.size,0,none⟩=some (.int .u16 st):=fun w' hb=>zC _ _ 0 _ _ _ ((hb.block _ (by have:=HZ2.out;omega)).trans HQ2.out)
 have HS11:Hid (∀w',Below W2.heap.size W2 w'→w'.cell? ⟨d,1,none⟩=some (.slice (some ⟨dg,0,none⟩) DL.length lc)∧w'.cell? ⟨dg,m*3,none⟩=some (.int .u16 sl)∧w'.cell? ⟨w1.heap.size,0,none⟩=some (.int .u16 st)):=zb (fun w' hb=>⟨(HC.out w' (HB2.out.trans (hb.mono HB2.out.size))).1,(HC.out w' (HB2.out.trans (hb.mono HB2.out.size))).2.1,p0 w' hb⟩)
 have C11:=HS11.out _ (zB _ _).drew
 have hlt2:d<W2.heap.size:=zT hlt HB2.out.size
 have hlp2:w1.heap.size<W2.heap.size:=by have:=HZ2.out;omega
 clear p0
 go_region_held3 (fun w'=>w'.cell? ⟨d,1,none⟩=some (.slice (some ⟨dg,0,none⟩) DL.length lc)∧w'.cell? ⟨dg,m*3,none⟩=some (.int .u16 sl)∧w'.cell? ⟨w1.heap.size,0,none⟩=some (.int .u16 st)) (first|(exact C11)|go_keep) ((go_at_call 85;refine(HBT.out _).mono ?_;rintro e w3 ⟨rfl,rfl⟩))
 clear C11
 obtain⟨W3,hW3⟩:∃W3,W3=W2.drew:=⟨_,rfl⟩
 rw[←hW3]
 have HB3:Hid (Below w.heap.size w W3):=zb (by rw[hW3];exact HB2.out.drew)
 have HB13:Hid (Below w1.heap.size w1 W3):=zb (by rw[hW3];exact HB12.out.drew)
 have HQ3:Hid (W3.heap[w1.heap.size]?=some (.cells #[.int .u16 st,.int .i64 0,.slice ha hn' hc'] 181 (0,0))):=zb (by rw[hW3];exact HQ2.out)
 have hz3:w1.heap.size<W3.heap.size:=zd HQ3.out
 obtain⟨t1,_,t3⟩:=HC.out W3 HB3.out
 have t4:=zC _ _ 1 _ _ _ HQ3.out
 have t5:=zF _ _ 1 _ _ HQ3.out
 have hlt3:d<W3.heap.size:=zT hlt HB3.out.size
 simp only[gz]at t4
 clear hW3 HQ2 HB2 HB12 HZ2 HS11
 go_wp2_with fail
 obtain⟨W4,hW4⟩:∃W4,W4=W3.setCell ⟨w1.heap.size,1,none⟩ (.int .i64 tz):=⟨_,rfl⟩
 rw[←hW4]
 have HB4:Hid (Below w.heap.size w W4):=zb (by rw[hW4];exact HB3.out.setCell HB1.out.size _)
 have HB14:Hid (Below w1.heap.size w1 W4):=zb (by rw[hW4];exact HB13.out.setCell (zL _) _)
 have HQ4:Hid (W4.heap[w1.heap.size]?=some (.cells #[.int .u16 st,.int .i64 tz,.slice ha hn' hc'] 181 (0,0))):=zb (by rw[hW4];exact zH W3 _ 1 _ _ _ HQ3.out)
 clear hW4 HB3 HB13 HQ3 t1 t3 t4 t5 hz3 hlt3
 have HS17:Hid (∀w',Below W4.heap.size W4 w'→w'.cell? ⟨w1.heap.size,0,none⟩=some (.int .u16 st)∧w'.cell? ⟨w1.heap.size,1,none⟩=some (.int .i64 tz)∧w'.cell? ⟨w1.heap.size,2,none⟩=some (.slice ha hn' hc')):=zb (fun w' hb=>by
  have q:=(hb.block _ (zd HQ4.out)).trans HQ4.out
  exact⟨zC _ _ 0 _ _ _ q,zC _ _ 1 _ _ _ q,zC _ _ 2 _ _ _ q⟩)
 have HB17:Hid (Below W4.heap.size W4 W4.drew):=zb (zB _ _).drew
 have hc17:∀w',Below W4.heap.size W4 w'→w'.cell? ⟨d,1,none⟩=some (.slice (some ⟨dg,0,none⟩) DL.length lc):=fun w' hb=>(HD.out.below (HB4.out.trans (hb.mono HB4.out.size))).cells.2.1
 have hlt4:d<W4.heap.size:=zT hlt HB4.out.size
 have hlp4:w1.heap.size<W4.heap.size:=zd HQ4.out
 have HC17:=zb hc17
 clear hc17
 go_wp2_with fail
 refine wp_region_held_drew (S:=fun w'=>w'.cell? ⟨w1.heap.size,0,none⟩=some (.int .u16 st)∧w'.cell? ⟨w1.heap.size,1,none⟩=some (.int .i64 tz)∧w'.cell? ⟨w1.heap.size,2,none⟩=some (.slice ha hn' hc')) (by kernel_rfl) (HS17.out _ HB17.out) (fun hS0=>?_)
 simp only[rz,Nat.zero_add,Nat.reduceAdd]
 refine tq 0 66 ?_
 simp only[Act.put,pz]
 refine tq 1 67 ?_
 simp only[Act.put,pz]
 refine tq 2 68 ?_
 simp only[Act.put,pz]
 refine tq 3 69 ?_
 simp only[Act.put,pz]
 refine tq 5 71 ?_
 simp only[Act.put,pz]
 have HB8:Hid (Below W4.heap.size W4 ((W4.alloc (.cells #[.int .u16 st,.int .i64 tz,.slice ha hn' hc'] 181)).drew)):=zb (((zB _ _).alloc (zL _) _).drew)
 apply cutP
 ·intro key
  refine zY (rs:=[4,6]) (by kernel_rfl) (by simp) ?_
  refine zR rfl (fun K hK=>?_) (zR rfl (fun K hK=>?_) zE)
  ·rw[if_pos (by rfl)]
   refine qy 113 (.tmp 69) rfl ⟨d,1,none⟩ (.slice (some ⟨dg,0,none⟩) DL.length lc) rfl (q9C (HC17.out _ HB17.out)) ?_
   refine hK.out _ _ (HS17.out _ HB17.out) (fun _=>?_)
   clear hK K
   simp only[Act.put,List.setIfInBounds_toArray]
   refine rd1 6 rfl fun K hK=>?_
   go_simp
   refine hK.out _ _ (HS17.out _ HB8.out) (fun _=>?_)
   clear hK K
   simp only[pz]
   exact key
  ·rw[if_pos (by rfl)]
   go_simp
   refine hK.out _ _ (HS17.out _ HB8.out) (fun _=>?_)
   clear hK K
   refine rd1 4 rfl fun K hK=>?_
   refine qy 113 (.tmp 69) rfl ⟨d,1,none⟩ (.slice (some ⟨dg,0,none⟩) DL.length lc) rfl (q9C (HC17.out _ HB8.out)) ?_
   refine hK.out _ _ (HS17.out _ HB8.out) (fun _=>?_)
   clear hK K
   simp only[Act.put,pz]
   exact key
 refine zY (rs:=[7]) (by kernel_rfl) (by simp) ?_
 refine zR rfl (fun K hK=>?_) zE
 obtain⟨W8,hW8⟩:∃W8,W8=(W4.alloc (.cells #[.int .u16 st,.int .i64 tz,.slice ha hn' hc'] 181)).drew:=⟨_,rfl⟩
 have B84:Below W4.heap.size W4 W8:=by rw[hW8];exact HB8.out
 have B81:Below w1.heap.size w1 W8:=HB14.out.trans (B84.mono HB14.out.size)
 have B8:Below w.heap.size w W8:=HB4.out.trans (B84.mono HB4.out.size)
 have hnews:∀j u,[Value.int .u16 st,.int .i64 tz,.slice ha hn' hc'][j]?=some u→W8.cell? ((⟨W4.heap.size,0,none⟩:Addr).add j)=some u:=by rw[hW8];exact q4z W4 _ _
 rw[←hW8]
 clear hW8
 refine q4v (by rfl) (.tmp 70) (.tmp 72) 113 (by rfl) 0 181 Tryz.underlying113 hi1 iz0 iz1 iz2 rfl (by decide) (.slice (some ⟨dg,0,none⟩) DL.length lc) DL.length (q0Z DL) (by rfl) (HD.out.log.below B8).row ⟨W4.heap.size,0,none⟩ 1 1 [.int .u16 st,.int .i64 tz,.slice ha hn' hc'] (by rfl) rfl hnews (by simp[Value.oneCell']) (by unfold maxLen;omega) (by omega) (zZ _) (by omega) ?_
 intro v9 w9 hown9 hgrow9 hloc9
 obtain⟨a9,c9,rfl⟩:=qr hown9
 have HG9:=zb hgrow9
 have HL9:=zb hloc9
 have HO9:=zb hown9
 have hO9:OnlyB (zQ (some ⟨dg,0,none⟩)) w w9:=⟨hgrow9.os.trans B8.os,hgrow9.tape.trans B8.tape,hgrow9.output.trans B8.output,zM B8.size hgrow9.size,fun k hk hn=>by
  rw[hgrow9.block k (zT hk B8.size) (fun e=>hn (j2v e))]
  exact B8.block k hk⟩
 have hd9:w9.heap[d]?=w.heap[d]?:=hO9.block d hlt (q8z HD.out.log HD.out.blk)
 have hbp9:w9.heap[w1.heap.size]?=some (.cells #[.int .u16 st,.int .i64 tz,.slice ha hn' hc'] 181 (0,0)):=by
  rw[hgrow9.block w1.heap.size (zT (zd HQ4.out) B84.size) (fun e=>by
   have:=(HD.out.log.row.lt w1.heap.size e.symm).2
   have:=HB1.out.size
   omega)]
  exact(B84.block w1.heap.size (zd HQ4.out)).trans HQ4.out
 have HS9:w9.cell? ⟨w1.heap.size,0,none⟩=some (.int .u16 st)∧w9.cell? ⟨w1.heap.size,1,none⟩=some (.int .i64 tz)∧w9.cell? ⟨w1.heap.size,2,none⟩=some (.slice ha hn' hc'):=⟨zC _ _ 0 _ _ _ hbp9,zC _ _ 1 _ _ _ hbp9,zC _ _ 2 _ _ _ hbp9⟩
 refine hK.out _ _ HS9 (fun _=>?_)
 clear hK K
 simp only[Act.put,List.setIfInBounds_toArray]
 refine tq 8 74 ?_
 simp only[Act.put,List.setIfInBounds_toArray]
 refine tq 9 75 ?_
 simp only[Act.put,List.setIfInBounds_toArray]
 have e9:w9.heap[d]?=some (.cells #[fv,.slice (some ⟨dg,0,none⟩) DL.length lc,.int .i64 told,.bool false] 115 (0,0)):=hd9.trans HD.out.blk
 have y1:=zC _ _ 1 _ _ _ e9
 have y2:=zF _ _ 1 _ _ e9
 have y3:d<w9.heap.size:=zd e9
 simp only[gz]at y1
 refine rd1 10 rfl fun K hK=>?_
 go_simp
 obtain⟨W10,hW10⟩:∃W10,W10=w9.setCell ⟨d,1,none⟩ (.slice a9 (DL.length+1) c9):=⟨_,rfl⟩
 rw[←hW10]
 have hne:w1.heap.size≠d:=by have:=HB1.out.size;omega
 have q10:W10.heap[w1.heap.size]?=some (.cells #[.int .u16 st,.int .i64 tz,.slice ha hn' hc'] 181 (0,0)):=by rw[hW10,Below.heap_setCell w9 _ _ _ hne];exact hbp9
 have HS10:W10.cell? ⟨w1.heap.size,0,none⟩=some (.int .u16 st)∧W10.cell? ⟨w1.heap.size,1,none⟩=some (.int .i64 tz)∧W10.cell? ⟨w1.heap.size,2,none⟩=some (.slice ha hn' hc'):=⟨zC _ _ 0 _ _ _ q10,zC _ _ 1 _ _ _ q10,zC _ _ 2 _ _ _ q10⟩
 have e10:W10.heap[d]?=some (.cells #[fv,.slice a9 (DL.length+1) c9,.int .i64 told,.bool false] 115 (0,0)):=by rw[hW10];exact zH w9 d 1 _ _ _ e9
 have hO10:OnlyB (d::zQ (some ⟨dg,0,none⟩)) w W10:=by
  rw[hW10]
  exact(⟨hO9.os,hO9.tape,hO9.output,hO9.size,fun k hk hn=>hO9.block k hk (fun e=>hn (by simp[e]))⟩:OnlyB (d::zQ (some ⟨dg,0,none⟩)) w w9).setCell (by simp) _
 have hr10:W10.ownsRow 0 181 3 (.slice a9 (DL.length+1) c9) (DL.length+1) (q0Z DL++[.int .u16 st,.int .i64 (q1B (zs DL) st),.slice ha hn' hc']):=by
  rw[hW10,←HTZ.out]
  exact q0U hown9 e9 (by decide) _
 have hv10:q1f W10 (.slice ha hn' hc') (l.map q5D):=by
  refine q4w (q4w HSL1.out (bl:=(Value.slice (some ⟨dg,0,none⟩) DL.length lc).ownBlock.toList) ⟨hgrow9.os.trans B81.os,hgrow9.tape.trans B81.tape,hgrow9.output.trans B81.output,zM B81.size hgrow9.size,fun k hk hn=>by rw[hgrow9.block k (zT hk B81.size) (fun e=>hn (by rw[←e];simp))];exact B81.block k hk⟩ (fun k hk hm=>?_)) (bl:=[d]) (by rw[hW10];exact OnlyB.one w9 d 1 _) (fun k hk hm=>?_)
  ·have h1:=HFR1.out k hk
   have h2:=(zw HD.out.log.row k hm).2
   obtain⟨cs,h2⟩:=h2
   have:=zd h2
   omega
  ·have h1:=HFR1.out k hk
   simp at hm
   omega
 have hloc10:∀k∈zQ a9,k∈zQ (some ⟨dg,0,none⟩)∨w1.heap.size≤k:=by
  intro k hk
  rcases j5Y HL9.out k hk with e|e
  ·exact .inl e
  ·have:=B81.size
   exact .inr (by omega)
 have hfr10:∀k∈(Value.slice ha hn' hc').ownBlock.toList,w.heap.size≤k∧k<w1.heap.size:=fun k hk=>⟨HFR1.out k hk,by
  rcases HSL1.out with⟨e,_⟩|⟨b',o',cap',e,_,_,hb',_⟩
  ·rw[e]at hk;simp[Value.ownBlock]at hk
  ·rw[e]at hk;simp[Value.ownBlock]at hk;omega⟩
 obtain⟨HDa,HSa⟩:=HD.out.addedD HS.out hO10 e10 hr10 hv10 HOK.out hfr10 hloc10 HB1.out.size hst hTb hn40
 have HD10:=zb HDa
 have HS10':=zb HSa
 have HO10:=zb hO10
 have HQ10:=zb q10
 have HLOC:=zb hloc10
 have HFRO:Hid (∀k∈q5c fv (DL++[((⟨st,q1B (zs DL) st,l⟩:LPt),Value.slice ha hn' hc')]),k∈q5c fv DL∨w.heap.size≤k):=zb (fun k hk=>by
  unfold q5c at hk ⊢
  simp only[List.flatMap_append,List.mem_append,List.flatMap_cons,List.flatMap_nil,List.append_nil]at hk ⊢
  rcases hk with hk|hk|hk
  ·exact .inl (.inl hk)
  ·exact .inl (.inr hk)
  ·exact .inr (HFR1.out k hk))
 refine hK.out _ _ HS10 (fun _=>?_)
 clear hK K
 refine zD (by kernel_rfl) ?_ _
 clear HDa HSa HS9 HS10 hv10 hr10 e10 q10 hO10 hloc10 hfr10 hO9 hd9 hbp9 e9 y1 y2 y3 hW10 hown9 hgrow9 hloc9 HG9 HL9 HO9 B8 B84 B81 hne
 obtain⟨DP,hDP⟩:∃DP,DP=DL++[((⟨st,q1B (zs DL) st,l⟩:LPt),Value.slice ha hn' hc')]:=⟨_,rfl⟩
 rw[←hDP]at HD10 HS10' HFRO
 have hDPl:DP.length=DL.length+1:=by rw[hDP];simp
 have HPP:Hid (zs DP=zs DL++[⟨st,q1B (zs DL) st,l⟩]):=zb (by rw[hDP];simp[zs])
 have HTL:Hid (∀c,c<DP.length→(zV F<tz-q0i DP c↔c<q2H (zs DP) (zV F))):=zb (fun c hc=>by
  have hM:=HD10.out.ok.mono
  have hlen:(zs DP).length=DP.length:=by simp
  have h1:=j6c hM (zV F) (c:=c) (by rw[hlen];exact hc)
  rw[←h1,q5s,hlen,show DP.length-1=DL.length by omega]
  have h2:tmL (zs DP) DL.length=q1B (zs DL) st:=by rw[HPP.out];have:=q9F (zs DL) ⟨st,q1B (zs DL) st,l⟩;simpa using this
  rw[h2,←HTZ.out])
 have HFE:Hid (q1a (zs DL) false s=(0,0)):=zb (q7v hl HHP.out HY.out).1
 have HFL:Hid (q3g (zs DL) false s=zs DP):=zb (by rw[(q7v hl HHP.out HY.out).2,HPP.out])
 have HV:=zb (q5M d fv u F _ DP told false W10 HD10.out)
 have hfew:told≤DP.length:=by have:=HD.out.few;omega
 have htz2:0≤tz∧tz≤2000000:=by have:=HTZ.out;omega
 obtain⟨htz21,htz22⟩:=htz2
 have hDP40:DP.length≤40:=by omega
 clear hDPl hDP HPP HQ4 HB4 HB14 HSL1 HFR1 HOK HTZ HHP hTb HS HD HY
 go_wp2_with fail
 refine HV.out.mono ?_
 rintro e w11 ⟨vv,rfl,hown11,b11⟩
 obtain⟨va,vc,rfl⟩:=qr hown11
 generalize hnn:DP.length-told=nn at *
 have HB11:=zb b11
 have HD11:=zb (HD10.out.below b11)
 have HO11:=zb hown11
 have HQ11:=zb ((b11.block w1.heap.size (zd HQ10.out)).trans HQ10.out)
 obtain⟨b',o',cap',efv,hul⟩:∃b o cap,fv=.slice (some ⟨b,o,none⟩) u.length cap∧u.length≤1000:=by
  obtain⟨b,o,cap,e,_,_,_,_,h5,_⟩:=qe HD11.out.frm
  exact⟨b,o,cap,by simpa using e,h5⟩
 have hrb:=q7T F u HD11.out.rd HD11.out.good
 have HRC:=zb (q8G F u (.agg #[fv]) w11 HD11.out.rd HD11.out.good HD11.out.ahead HD11.out.frm)
 have f0:=HD11.out.cells.1
 have hl11:=HD11.out.lt
 rw[efv]at f0 HRC
 have HRCE:Hid ((qj F).reach=zV F):=zb rfl
 generalize zV F=rc at *
 generalize u.length=ul at *
 have hrb1:-1≤rc∧rc≤1000000:=by omega
 obtain⟨hrb2,hrb3⟩:=hrb1
 clear hown11 b11 HV HQ10 hrb
 go_wp2_with fail
 refine HRC.out.mono ?_
 rintro e w12 ⟨rfl,b12⟩
 have HB12:=zb b12
 have HD12:=zb (HD11.out.below b12)
 have HO12:=zb (zh HO11.out b12)
 have HQ12:=zb ((b12.block w1.heap.size (zd HQ11.out)).trans HQ11.out)
 have hsr:q2H (zs DP) rc≤DP.length:=by have:=q8d (zs DP) rc;simpa using this
 obtain⟨sr,hsre⟩:∃sr,sr=q2H (zs DP) rc:=⟨_,rfl⟩
 rw[←hsre]at HTL hsr
 have HSR:=zb hsre
 have hvo:(nn≤vc∧vc≤maxLen)∨(va=none∧nn=0∧vc=0):=by
  rcases HO12.out.2 with⟨e,_⟩|⟨g,cap,cur,e,_,_,q1,q2,_⟩
  ·simp only[Value.slice.injEq]at e;exact .inr e
  ·simp only[Value.slice.injEq,true_and]at e;obtain⟨_,rfl⟩:=e;exact .inl ⟨q1,q2⟩
 clear hsre b12 HRC f0 hl11 HO11 HQ11 HD10 efv
 have hvc:nn≤vc∧vc≤maxLen:=by rcases hvo with h|h;exact h;exact⟨by omega,by rw[h.2.2];exact zZ _⟩
 clear hvo
 go_wp2_with fail
 go_loopg [13] DP.length (fun g vi wr=>FkRel w12 told DP.length sr g vi wr)
 case atStart=>exact⟨0,by omega,by omega,rfl,.inl rfl,zB _ _⟩
 case round =>
  obtain⟨k,hk,hg,rfl,hks,hbel⟩:=hrel
  have HG:=zb hg
  have HB:=zb hbel
  have HDr:=zb (HD12.out.below hbel)
  clear hg hbel
  by_cases hkn:k<nn
  ·have hkD:told+k<DP.length:=by omega
   obtain⟨g9,ea9,hg9,q91,q92⟩:∃g,a9=some ⟨g,0,none⟩∧g<wr.heap.size∧DP.length≤c9∧c9≤maxLen:=by
    obtain⟨g,x1,x2,x3,x4,_⟩:=HDr.out.log.at' hkD
    exact⟨g,x1,x2,x3,x4⟩
   subst ea9
   obtain⟨vg,vc',eva⟩:=zJ HO12.out (by omega)
   simp only[Value.slice.injEq,true_and]at eva
   obtain⟨rfl,rfl⟩:=eva
   have HS21:Hid (∀w',Below wr.heap.size wr w'→w'.cell? ⟨w1.heap.size,1,none⟩=some (.int .i64 tz)∧w'.cell? ⟨d,1,none⟩=some (.slice (some ⟨g9,0,none⟩) DP.length c9)∧w'.cell? ⟨vg,k*12,none⟩=some (.int .i64 ((told+k:Nat):Int))∧w'.cell? ⟨g9,(told+k)*3+1,none⟩=some (.int .i64 (q0i DP (told+k)))):=zb (fun w' hb=>by
    have hb2:=HB.out.trans (hb.mono HB.out.size)
    have q:=HDr.out.below hb
    have q3:=(hb2.block w1.heap.size (zd HQ12.out)).trans HQ12.out
    have q4:=(zh HO12.out hb2).cellAt (k*12) (by omega)
    rw[j0W F (zs DP) told DP.length k (by omega)]at q4
    obtain⟨g',e',_,_,_,_,h2,_⟩:=q.log.at' hkD
    simp only[Option.some.injEq,Addr.mk.injEq,and_true]at e'
    subst e'
    rw[q1i hkD]
    exact⟨zC _ _ 1 _ _ _ q3,q.cells.2.1,q4,h2⟩)
   have htk:0≤q0i DP (told+k)∧q0i DP (told+k)≤2000000:=by
    rw[q1i hkD]
    have:=(HDr.out.log.times (told+k) hkD).1
    have:=HDr.out.log.small
    omega
   have HTK:=zb (HTL.out (told+k) hkD)
   generalize q0i DP (told+k)=tk at *
   obtain⟨htk1,htk2⟩:=htk
   have hwd:IntKind.i64.wrap (tz-tk)=tz-tk:=by rw[IntKind.wrap_i64];omega
   have C21:=HS21.out _ (zB _ _).drew
   have hki:(k:Int)<(nn:Int):=by omega
   have hk00:(0:Int)≤(k:Int):=by omega
   obtain⟨kk,hkk⟩:∃kk:Nat,kk=told+k:=⟨_,rfl⟩
   rw[←hkk]at HS21 C21 HTK hkD
   have htki:(kk:Int)<(DP.length:Int):=by omega
   have htk0:(0:Int)≤(kk:Int):=by omega
   have HKK:=zb hkk
   clear hkk
   have hvc1:=hvc.1
   have hvc2:=hvc.2
   unfold maxLen at q92 hvc2
   have hg1:0<gk:=by have:=HG.out;omega
   by_cases hset:kk<sr
   ·have hgt:rc<tz-tk:=HTK.out.2 hset
    go_wp2_with fail
    refine wp_region_held_drew (S:=fun w'=>w'.cell? ⟨w1.heap.size,1,none⟩=some (.int .i64 tz)∧w'.cell? ⟨d,1,none⟩=some (.slice (some ⟨g9,0,none⟩) DP.length c9)∧w'.cell? ⟨vg,k*12,none⟩=some (.int .i64 (kk:Int))∧w'.cell? ⟨g9,kk*3+1,none⟩=some (.int .i64 tk)) (by kernel_rfl) C21 (fun hS0=>?_)
    simp only[rz,Nat.zero_add,Nat.reduceAdd]
    refine tq 0 83 ?_
    simp only[Act.put,pz]
    refine tq 1 84 ?_
    simp only[Act.put,pz]
    refine tq 2 85 ?_
    simp only[Act.put,pz]
    refine tq 3 86 ?_
    simp only[Act.put,pz]
    refine tq 4 87 ?_
    simp only[Act.put,pz]
    refine tq 5 88 ?_
    simp only[Act.put,pz]
    refine tq 6 89 ?_
    simp only[Act.put,pz]
    refine tq 7 90 ?_
    simp only[Act.put,pz]
    refine tq 8 91 ?_
    simp only[Act.put,pz]
    refine tq 9 92 ?_
    simp only[Act.put,pz]
    refine tq 10 93 ?_
    simp only[Act.put,pz]
    refine tq 11 94 ?_
    simp only[Act.put,pz]
    refine tq 12 95 ?_
    simp only[Act.put,pz]
    refine tq 13 96 ?_
    simp only[Act.put,pz]
    refine tq 14 97 ?_
    simp only[Act.put,pz]
    refine tq 15 98 ?_
    simp only[Act.put,pz]
    refine tq 16 99 ?_
    simp only[Act.put,pz]
    refine tq 17 100 ?_
    simp only[Act.put,pz]
    refine tq 18 101 ?_
    simp only[Act.put,pz]
    refine tq 19 102 ?_
    simp only[Act.put,pz]
    refine tq 20 103 ?_
    simp only[Act.put,pz]
    refine q4Y (i:=21) (v:=.bool true) 104 rfl rfl (by kernel_rfl) (by kernel_rfl) (by kernel_rfl) (fun _ _ _ h=>h) (by rfl) (by assumption) (by intro w hSw;(try dsimp only at hSw);go_simp;(try(first|omega|(simp;omega)))) ?_
    simp only[Act.put,pz]
    refine tq 22 105 ?_
    simp only[Act.put,pz]
    refine zD (by kernel_rfl) ?_ _
    go_wp2_with fail
    go_roundg (gk-1)
    case measure=>omega
    case rel=>exact⟨k+1,by omega,by have:=HG.out;omega,by go_num,.inr (by have:=HKK.out;omega),HB.out.drew⟩
   ·have hgt:¬rc<tz-tk:=fun h=>hset (HTK.out.1 h)
    go_wp2_with fail
    refine wp_region_held_drew (S:=fun w'=>w'.cell? ⟨w1.heap.size,1,none⟩=some (.int .i64 tz)∧w'.cell? ⟨d,1,none⟩=some (.slice (some ⟨g9,0,none⟩) DP.length c9)∧w'.cell? ⟨vg,k*12,none⟩=some (.int .i64 (kk:Int))∧w'.cell? ⟨g9,kk*3+1,none⟩=some (.int .i64 tk)) (by kernel_rfl) C21 (fun hS0=>?_)
    simp only[rz,Nat.zero_add,Nat.reduceAdd]
    refine tq 0 83 ?_
    simp only[Act.put,pz]
    refine tq 1 84 ?_
    simp only[Act.put,pz]
    refine tq 2 85 ?_
    simp only[Act.put,pz]
    refine tq 3 86 ?_
    simp only[Act.put,pz]
    refine tq 4 87 ?_
    simp only[Act.put,pz]
    refine tq 5 88 ?_
    simp only[Act.put,pz]
    refine tq 6 89 ?_
    simp only[Act.put,pz]
    refine tq 7 90 ?_
    simp only[Act.put,pz]
    refine tq 8 91 ?_
    simp only[Act.put,pz]
    refine tq 9 92 ?_
    simp only[Act.put,pz]
    refine tq 10 93 ?_
    simp only[Act.put,pz]
    refine tq 11 94 ?_
    simp only[Act.put,pz]
    refine tq 12 95 ?_
    simp only[Act.put,pz]
    refine tq 13 96 ?_
    simp only[Act.put,pz]
    refine tq 14 97 ?_
    simp only[Act.put,pz]
    refine tq 15 98 ?_
    simp only[Act.put,pz]
    refine tq 16 99 ?_
    simp only[Act.put,pz]
    refine tq 17 100 ?_
    simp only[Act.put,pz]
    refine tq 18 101 ?_
    simp only[Act.put,pz]
    refine tq 19 102 ?_
    simp only[Act.put,pz]
    refine tq 20 103 ?_
    simp only[Act.put,pz]
    refine q4Y (i:=21) (v:=.bool false) 104 rfl rfl (by kernel_rfl) (by kernel_rfl) (by kernel_rfl) (fun _ _ _ h=>h) (by rfl) (by assumption) (by intro w hSw;(try dsimp only at hSw);go_simp;(try(first|omega|(simp;omega)))) ?_
    simp only[Act.put,pz]
    refine tq 22 105 ?_
    simp only[Act.put,pz]
    refine zD (by kernel_rfl) ?_ _
    have hke:k=sr-told:=by have:=HKK.out;omega
    have HKE:=zb hke
    have HDF:=zb (HDr.out.below (zB wr.heap.size wr).drew)
    have x2:=HDF.out.cells.2.2.1
    have x3:=zF _ _ 2 _ _ HDF.out.blk
    have hlF:=HDF.out.lt
    have hwk:IntKind.i64.wrap ((told:Int)+(k:Int))=((told+k:Nat):Int):=by rw[IntKind.wrap_i64];omega
    have hkc:(k:Int)≤(vc:Int):=by have:=hvc.1;omega
    have hk0':(0:Int)≤(k:Int):=by omega
    obtain⟨W13,hW13⟩:∃W13,W13=wr.drew:=⟨_,rfl⟩
    rw[←hW13]at HDF x2 x3 hlF ⊢
    have HBF:Hid (Below w12.heap.size w12 W13):=zb (by rw[hW13];exact HB.out.drew)
    clear hW13 hke
    go_wp2_with fail
    go_ret3
    have hO13:OnlyB (d::zQ (some ⟨dg,0,none⟩)) w W13:=by
     have a1:=HO10.out
     have a2:=HB11.out
     have a3:=HB12.out
     have a4:=HBF.out
     have b1:=a2.trans (a3.mono a2.size)
     have b2:=b1.trans (a4.mono b1.size)
     exact⟨b2.os.trans a1.os,b2.tape.trans a1.tape,b2.output.trans a1.output,zM a1.size b2.size,fun q hq hn=>(b2.block q (zT hq a1.size)).trans (a1.block q hq hn)⟩
    have hown13:=zh HO12.out HBF.out
    rw[←hnn]at hown13
    have HFIN:=q9y (F:=F) (L:=zs DP) (told:=told) (n:=DP.length) (k:=k) (d:=d) (u:=.int .i64 ((told+k:Nat):Int)) hown13 (by omega) HDF.out.blk
    have hsz:w.heap.size≤W10.heap.size:=HO10.out.size
    refine q6y HFE.out HFL.out HRCE.out (HKE.out.trans (by rw[HSR.out])) (q1L hsz HFIN) ⟨_,c9,DP,?_,HS10'.out,rfl,hO13.setCell (by simp) _,fun q hq=>?_,HFRO.out⟩
    ·have:=HDF.out.put HS10'.out (told':=told+k) (ended':=false) 2 (.int .i64 ((told+k:Nat):Int)) (by omega) rfl
     exact this
    ·rcases HLOC.out q hq with e|e
     ·exact .inl e
     ·exact .inr (zM HB1.out.size e)
  ·have hki:¬(k:Int)<(nn:Int):=by omega
   have C21:True:=trivial
   go_wp2_with fail
   refine wp_region_held_drew (S:=fun _=>True) (by kernel_rfl) C21 (fun hS0=>?_)
   simp only[rz,Nat.zero_add,Nat.reduceAdd]
   refine tq 0 83 ?_
   simp only[Act.put,pz]
   refine tq 1 84 ?_
   simp only[Act.put,pz]
   refine tq 2 85 ?_
   simp only[Act.put,pz]
   refine q4Y (i:=3) (v:=.bool false) 86 rfl rfl (by kernel_rfl) (by kernel_rfl) (by kernel_rfl) (fun _ _ _ h=>h) (by rfl) (by assumption) (by intro w hSw;(try dsimp only at hSw);go_simp;(try(first|omega|(simp;omega)))) ?_
   simp only[Act.put,pz]
   refine tq 4 87 ?_
   simp only[Act.put,pz]
   refine tn 5 88 ?_
   simp only[Act.put,pz]
   refine tn 6 89 ?_
   simp only[Act.put,pz]
   refine tn 7 90 ?_
   simp only[Act.put,pz]
   refine tn 8 91 ?_
   simp only[Act.put,pz]
   refine tn 9 92 ?_
   simp only[Act.put,pz]
   refine tn 10 93 ?_
   simp only[Act.put,pz]
   refine tn 11 94 ?_
   simp only[Act.put,pz]
   refine tn 12 95 ?_
   simp only[Act.put,pz]
   refine tn 13 96 ?_
   simp only[Act.put,pz]
   refine tn 14 97 ?_
   simp only[Act.put,pz]
   refine tn 15 98 ?_
   simp only[Act.put,pz]
   refine tn 16 99 ?_
   simp only[Act.put,pz]
   refine tn 17 100 ?_
   simp only[Act.put,pz]
   refine tn 18 101 ?_
   simp only[Act.put,pz]
   refine tn 19 102 ?_
   simp only[Act.put,pz]
   refine tn 20 103 ?_
   simp only[Act.put,pz]
   refine tn 21 104 ?_
   simp only[Act.put,pz]
   refine tq 22 105 ?_
   simp only[Act.put,pz]
   refine zD (by kernel_rfl) ?_ _
   have hke:k=sr-told:=by omega
   have HKE:=zb hke
   have HDF:=zb (HDr.out.below (zB wr.heap.size wr).drew)
   have x2:=HDF.out.cells.2.2.1
   have x3:=zF _ _ 2 _ _ HDF.out.blk
   have hlF:=HDF.out.lt
   have hwk:IntKind.i64.wrap ((told:Int)+(k:Int))=((told+k:Nat):Int):=by rw[IntKind.wrap_i64];omega
   have hkc:(k:Int)≤(vc:Int):=by have:=hvc.1;omega
   have hk0':(0:Int)≤(k:Int):=by omega
   obtain⟨W13,hW13⟩:∃W13,W13=wr.drew:=⟨_,rfl⟩
   rw[←hW13]at HDF x2 x3 hlF ⊢
   have HBF:Hid (Below w12.heap.size w12 W13):=zb (by rw[hW13];exact HB.out.drew)
   clear hW13 hke
   go_wp2_with fail
   go_ret3
   have hO13:OnlyB (d::zQ (some ⟨dg,0,none⟩)) w W13:=by
    have a1:=HO10.out
    have a2:=HB11.out
    have a3:=HB12.out
    have a4:=HBF.out
    have b1:=a2.trans (a3.mono a2.size)
    have b2:=b1.trans (a4.mono b1.size)
    exact⟨b2.os.trans a1.os,b2.tape.trans a1.tape,b2.output.trans a1.output,zM a1.size b2.size,fun q hq hn=>(b2.block q (zT hq a1.size)).trans (a1.block q hq hn)⟩
   have hown13:=zh HO12.out HBF.out
   rw[←hnn]at hown13
   have HFIN:=q9y (F:=F) (L:=zs DP) (told:=told) (n:=DP.length) (k:=k) (d:=d) (u:=.int .i64 ((told+k:Nat):Int)) hown13 (by omega) HDF.out.blk
   have hsz:w.heap.size≤W10.heap.size:=HO10.out.size
   refine q6y HFE.out HFL.out HRCE.out (HKE.out.trans (by rw[HSR.out])) (q1L hsz HFIN) ⟨_,c9,DP,?_,HS10'.out,rfl,hO13.setCell (by simp) _,fun q hq=>?_,HFRO.out⟩
   ·have:=HDF.out.put HS10'.out (told':=told+k) (ended':=false) 2 (.int .i64 ((told+k:Nat):Int)) (by omega) rfl
    exact this
   ·rcases HLOC.out q hq with e|e
    ·exact .inl e
    ·exact .inr (zM HB1.out.size e)
end Go.Proofs.YtiamjjonoeaggabGreatDoor
