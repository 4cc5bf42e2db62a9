import Derived.Test.YtiamjjonoeaggabGreatDoorGA
import Derived.Test.YtiamjjonoeaggabGreatDoorGB
import Derived.Test.YtiamjjonoeaggabGreatDoorG13
set_option maxRecDepth 100000
set_option maxHeartbeats 16000000
namespace Go.Proofs.YtiamjjonoeaggabGreatDoor
open Go.RowKit
theorem PN.row {w:World}{bp bt ct:Nat}{ts:List PTok}{nx:Nat}{ns l:List PNode}{x:PNode}(h:PN w bp bt ct ts nx (ns++x::l)) :
  ∃g cap,Pars w bp bt ct ts (.slice (some ⟨g,0,none⟩) (ns.length+1+l.length) cap) nx∧bp+1≤g∧g<w.heap.size∧(∀j,j<22→w.cell? ⟨g,ns.length*22+j,none⟩=(zq x)[j]?)∧(∀o,w.frozen? ⟨g,o,none⟩=false)
   ∧ (∀j x' u,j<22→bt<bp→zq x'=(zq x).set j u→PN (w.setCell ⟨g,ns.length*22+j,none⟩ u).drew bp bt ct ts nx (ns++x'::l)∧Below bp w (w.setCell ⟨g,ns.length*22+j,none⟩ u).drew):=by
 obtain⟨nv,hP,hown⟩:=h
 have hlen:(ns++x::l).length=ns.length+1+l.length:=by simp;omega
 obtain⟨g,cap,rfl⟩:=zJ hown (by rw[hlen];omega)
 have hlt:=hown.lt g rfl
 refine⟨g,cap,by rw[←hlen];exact hP,hlt.1,hlt.2,fun j hj=>?_,fun o=>hown.frozenAt o,fun j x' u hj hbt he=>?_⟩
 ·rw[hown.cellAt _ (by rw[hlen];omega)]
  exact j1x ns l x j hj
 ·show PN (w.drew.setCell ⟨g,ns.length*22+j,none⟩ u) bp bt ct ts nx (ns++x'::l)∧Below bp w (w.drew.setCell ⟨g,ns.length*22+j,none⟩ u)
  have hs:=(hown.drew.stored (ns.length*22+j) u)
  rw[j5F ns l x x' j hj u he]at hs
  have hb:Below bp w (w.drew.setCell ⟨g,ns.length*22+j,none⟩ u):=((zB bp w).drew).setCell (by show bp≤g;omega) u
  have ho:OnlyB [g] w (w.drew.setCell ⟨g,ns.length*22+j,none⟩ u):=(OnlyB.of_below (zB _ _).drew).setCell (by simp) u
  refine⟨⟨_,hP.only ho (by simp;omega) (by simp;omega),?_⟩,hb⟩
  have hlen':(ns++x'::l).length=(ns++x::l).length:=by simp
  rw[hlen']
  exact hs.1
theorem q9z.fail {w w':World}{bp bt ct:Nat}{ts:List PTok}{ns:List PNode}{k:Nat}{nv:Value}(h:Pars w' bp bt ct ts nv k)(hb:Below bp w w'):q9z w w' bp bt ct ts ns (false,k,[]):=⟨⟨nv,h,fun h=>absurd h (by simp)⟩,hb⟩
theorem q5B (bp bt ct:Nat)(ts:List PTok)(nx:Nat)(ns:List PNode)(kd:Int)(w:World)(h:PN w bp bt ct ts nx ns)(hn:nx≤100000)(hk:(zt ts nx).kind=kd) :
  Calls Tryz.prog 156 #[.pointer (some ⟨bp,0,none⟩),.int .i64 kd] w fun e w'=>e=.returned (.bool true)∧PN w' bp bt ct ts (nx+1) ns∧OnlyB [bp] w w':=by
 obtain⟨nv,hP,hown⟩:=h
 refine(q0L bp bt ct ts nv nx kd w hP hn hk).mono ?_
 rintro e w1 ⟨rfl,P1,o1⟩
 exact⟨rfl,⟨nv,P1,q2w hown o1 (by simp)⟩,o1⟩
theorem q6z (bp bt ct:Nat)(ts:List PTok)(nx:Nat)(ns:List PNode)(kd:Int)(w:World)(h:PN w bp bt ct ts nx ns)(hn:nx≤100000)(hk:¬(zt ts nx).kind=kd) :
  Calls Tryz.prog 156 #[.pointer (some ⟨bp,0,none⟩),.int .i64 kd] w fun e w'=>e=.returned (.bool false)∧PN w' bp bt ct ts nx ns∧OnlyB [bp] w w':=by
 obtain⟨nv,hP,hown⟩:=h
 refine(q1r bp bt ct ts nv nx kd w hP hn hk).mono ?_
 rintro e w1 ⟨rfl,P1,o1⟩
 exact⟨rfl,⟨nv,P1,q2w hown o1 (by simp)⟩,o1⟩
theorem PN.fail {w w':World}{bp bt ct:Nat}{ts:List PTok}{ns ns':List PNode}{k:Nat}(h:PN w' bp bt ct ts k ns')(hb:Below bp w w'):q9z w w' bp bt ct ts ns (false,k,[]):=by
 obtain⟨nv,hP,_⟩:=h
 exact q9z.fail hP hb
theorem PN.good {w w':World}{bp bt ct:Nat}{ts:List PTok}{ns l:List PNode}{k:Nat}(h:PN w' bp bt ct ts k (ns++l))(hb:Below bp w w'):q9z w w' bp bt ct ts ns (true,k,l):=by
 obtain⟨nv,hP,ho⟩:=h
 exact⟨⟨nv,hP,fun _=>ho⟩,hb⟩
theorem PN.lt {w:World}{bp bt ct:Nat}{ts:List PTok}{ns:List PNode}{k:Nat}(h:PN w bp bt ct ts k ns):bp<w.heap.size:=by
 obtain⟨nv,hP,_⟩:=h
 exact hP.lt.2
def j2j (ts:List PTok)(F:Nat→Nat→Bool × Nat × List PNode)(base:Nat)(nd:PNode)(o1:Bool × Nat × List PNode):Bool × Nat × List PNode:=
 if o1.1=true then
  if q4s nd.kind=true then
   if (zt ts o1.2.1).kind=20 then
    if (F (o1.2.1+1) (base+1+o1.2.2.length)).1=true then
     if (zt ts (F (o1.2.1+1) (base+1+o1.2.2.length)).2.1).kind=19 then(true,(F (o1.2.1+1) (base+1+o1.2.2.length)).2.1+1,{nd with fst:=base+1,snd:=base+1+o1.2.2.length}::(o1.2.2++(F (o1.2.1+1) (base+1+o1.2.2.length)).2.2))
     else(false,(F (o1.2.1+1) (base+1+o1.2.2.length)).2.1,[])
    else(false,(F (o1.2.1+1) (base+1+o1.2.2.length)).2.1,[])
   else(false,o1.2.1,[])
  else if (zt ts o1.2.1).kind=19 then(true,o1.2.1+1,{nd with fst:=base+1}::o1.2.2)else(false,o1.2.1,[])
 else(false,o1.2.1,[])
theorem j7A (ts:List PTok)(F:Nat→Nat→Bool × Nat × List PNode)(m base:Nat)(nd:PNode)(h:(zt ts m).kind=18):q3o ts F m base nd=j2j ts F base nd (F (m+1) (base+1)):=by
 unfold q3o j2j
 rw[if_pos h]
theorem j9P (bp bt ct:Nat)(ts:List PTok)(d:Nat)(ih:FormC bp bt ct ts d):PartsC bp bt ct ts d:=by
 intro w m ns nd dp hd hpn hbt hm hn
 obtain⟨g,cap,hP,hg1,hg2,hcl,hfz,hset⟩:=hpn.row
 simp only[List.length_nil,Nat.add_zero]at hP
 have hns:ns.length≤1000:=by omega
 have hm4:m≤4000:=by omega
 have c2:=hP.nodes
 have hlt:=hP.lt.2
 generalize hr:q3o ts (q0i ts d) m ns.length nd=r
 have HT:=zb hr
 have HPN:=zb hpn
 have HD:=zb hd
 have HM:=zb hm
 have HN:=zb hn
 clear hr hP hpn hcl hfz hset hd hm hn hg1 hg2
 by_cases a1:(zt ts m).kind=18
 ·have t1:=fun w h=>q5B bp bt ct ts m (ns++[nd]) 18 w h (by omega) a1
  have ht:=HT.out
  rw[j7A _ _ _ _ _ a1]at ht
  have HT:=zb ht
  clear ht
  go_enter Tryz.func124,Tryz.ntmps124
  go_wp2_with fail
  refine(t1 _ HPN.out).mono ?_
  rintro e w1 ⟨rfl,PN1,o1⟩
  obtain⟨g1,cap1,P1',q1,q2,qc,qf,qs⟩:=PN1.row
  simp only[List.length_nil,Nat.add_zero]at P1'
  have e2:=P1'.nodes
  have e3:=qc 20 (by omega)
  have f3:=qf (ns.length*22+20)
  have l1:=P1'.lt.2
  simp only[zq,List.getElem?_cons_zero,List.getElem?_cons_succ]at e3
  obtain⟨PN2,b2⟩:=qs 20 {nd with fst:=(ns.length:Int)+1} (.int .i64 ((ns.length:Int)+1)) (by omega) hbt rfl
  obtain⟨w2,hW2⟩:∃W:World,W=(w1.setCell ⟨g1,ns.length*22+20,none⟩ (.int .i64 ((ns.length:Int)+1))).drew:=⟨_,rfl⟩
  rw[←hW2]at PN2 b2
  have B2:Below bp w w2:=(o1.below (B:=bp) (by omega) (by simp)).trans b2
  have hl2:(ns++[{nd with fst:=(ns.length:Int)+1}]).length=ns.length+1:=by simp
  have i1:=ih w2 (m+1) (ns++[{nd with fst:=(ns.length:Int)+1}]) dp HD.out PN2 hbt (by have:=HM.out;omega) (by rw[hl2];have:=HN.out;omega)
  rw[hl2]at i1
  have hle:=j3C ts d (m+1) (ns.length+1)
  have hma:=j9g ts d (m+1) (ns.length+1)
  generalize q0i ts d (m+1) (ns.length+1)=o1' at *
  have HW2:=zb hW2
  have HB2:=zb B2
  have HLE:=zb hle
  have HMA:=zb hma
  have HI1:=zb i1
  clear PN1 P1' qc qf qs t1 c2 q1 q2 o1 hW2 PN2 b2 B2 hle hma i1
  go_wp2_with fail
  go_region
  go_wp2_with fail
  rw[←HW2.out]
  refine(HI1.out).mono ?_
  rintro e w3 ⟨rfl,⟨nv3,P3,own3⟩,b3⟩
  have B3:Below bp w w3:=HB2.out.trans b3
  obtain⟨ok1,k1,l1'⟩:=o1'
  simp only[]at P3 own3
  cases ok1 with
  |false =>
   have er:=HT.out
   rw[j2j,if_neg (by simp)]at er
   subst er
   have HP3:=zb P3
   have HB3:=zb B3
   clear P3 own3 B3 b3 e2 e3 f3
   go_wp2_with fail
   go_ret
   exact⟨rfl,q9z.fail HP3.out HB3.out⟩
  |true =>
   have PN3:PN w3 bp bt ct ts k1 (ns++{nd with fst:=(ns.length:Int)+1}::l1'):=⟨nv3,P3,by have:=own3 rfl;simpa using this⟩
   have HPN3:=zb PN3
   have HB3:=zb B3
   obtain⟨g3,cap3,P3',q1,q2,qc,qf,qs⟩:=PN3.row
   have d2:=P3'.nodes
   have d3:=qc 0 (by omega)
   have hl3:=P3'.lt.2
   simp only[zq,List.getElem?_cons_zero,Nat.add_zero]at d3
   have hlen:l1'.length≤1000:=by have h1:l1'.length≤q3r d:=HMA.out;have:=HN.out;omega
   have hk1:k1≤4000:=by have h1:k1≤m+1+q4Z d:=HLE.out;have:=HM.out;omega
   clear PN3 P3 own3 P3' qc qf qs q1 q2 b3 B3 e2 e3 f3 l1
   cases hk:q4s nd.kind with
   |false =>
    by_cases a2:(zt ts k1).kind=19
    ·have er:=HT.out
     rw[j2j]at er
     simp only[if_true,hk,Bool.false_eq_true,if_false]at er
     rw[if_pos a2]at er
     subst er
     go_wp2_with fail
     refine(q2B nd.kind _).mono ?_
     rintro e w4 ⟨rfl,hw⟩
     rw[hw,hk]
     clear hw w4
     go_wp2_with fail
     refine(q5B bp bt ct ts k1 _ 19 _ HPN3.out (by omega) a2).mono ?_
     rintro e w5 ⟨rfl,PN5,o5⟩
     have HPN5:=zb PN5
     clear PN5
     go_wp2_with fail
     go_ret
     exact⟨rfl,HPN5.out.good (HB3.out.trans (o5.below (by omega) (by simp)))⟩
    ·have er:=HT.out
     rw[j2j]at er
     simp only[if_true,hk,Bool.false_eq_true,if_false]at er
     rw[if_neg a2]at er
     subst er
     go_wp2_with fail
     refine(q2B nd.kind _).mono ?_
     rintro e w4 ⟨rfl,hw⟩
     rw[hw,hk]
     clear hw w4
     go_wp2_with fail
     refine(q6z bp bt ct ts k1 _ 19 _ HPN3.out (by omega) a2).mono ?_
     rintro e w5 ⟨rfl,PN5,o5⟩
     have HPN5:=zb PN5
     clear PN5
     go_wp2_with fail
     go_ret
     exact⟨rfl,HPN5.out.fail (HB3.out.trans (o5.below (by omega) (by simp)))⟩
   |true =>
    by_cases a2:(zt ts k1).kind=20
    ·have er:=HT.out
     rw[j2j]at er
     simp only[if_true,hk]at er
     rw[if_pos a2]at er
     have HE:=zb er
     clear er HT
     go_wp2_with fail
     refine(q2B nd.kind _).mono ?_
     rintro e w4 ⟨rfl,hw⟩
     rw[hw,hk]
     clear hw w4
     go_wp2_with fail
     refine(q5B bp bt ct ts k1 _ 20 _ HPN3.out (by omega) a2).mono ?_
     rintro e w5 ⟨rfl,PN5,o5⟩
     obtain⟨g5,cap5,P5',q1,q2,qc,qf,qs⟩:=PN5.row
     have e2:=P5'.nodes
     have e3:=qc 21 (by omega)
     have f3:=qf (ns.length*22+21)
     have l5:=P5'.lt.2
     simp only[zq,List.getElem?_cons_zero,List.getElem?_cons_succ]at e3
     obtain⟨PN6,b6⟩:=qs 21 {nd with fst:=(ns.length:Int)+1,snd:=(ns.length:Int)+1+l1'.length} (.int .i64 ((ns.length:Int)+1+l1'.length)) (by omega) hbt rfl
     obtain⟨w6,hW6⟩:∃W:World,W=(w5.setCell ⟨g5,ns.length*22+21,none⟩ (.int .i64 ((ns.length:Int)+1+l1'.length))).drew:=⟨_,rfl⟩
     rw[←hW6]at PN6 b6
     have B6:Below bp w w6:=(HB3.out.trans (o5.below (by omega) (by simp))).trans b6
     have hl6:(ns++{nd with fst:=(ns.length:Int)+1,snd:=(ns.length:Int)+1+l1'.length}::l1').length=ns.length+1+l1'.length:=by simp;omega
     have i2:=ih w6 (k1+1) (ns++{nd with fst:=(ns.length:Int)+1,snd:=(ns.length:Int)+1+l1'.length}::l1') dp HD.out PN6 hbt (by have:=HM.out;have h1:k1≤m+1+q4Z d:=HLE.out;omega) (by rw[hl6];have:=HN.out;have h1:l1'.length≤q3r d:=HMA.out;omega)
     rw[hl6]at i2
     have hle2:=j3C ts d (k1+1) (ns.length+1+l1'.length)
     have er:=HE.out
     generalize q0i ts d (k1+1) (ns.length+1+l1'.length)=o2 at *
     have HE:=zb er
     have HW6:=zb hW6
     have HB6:=zb B6
     have HLE2:=zb hle2
     have HI2:=zb i2
     clear PN5 P5' qc qf qs q1 q2 o5 hW6 PN6 b6 B6 hle2 i2 er d2 d3
     go_wp2_with fail
     go_region
     go_wp2_with fail
     rw[←HW6.out]
     refine(HI2.out).mono ?_
     rintro e w7 ⟨rfl,⟨nv7,P7,own7⟩,b7⟩
     have B7:Below bp w w7:=HB6.out.trans b7
     obtain⟨ok2,k2,l2'⟩:=o2
     simp only[]at P7 own7
     cases ok2 with
     |false =>
      have er:=HE.out
      simp only[Bool.false_eq_true,if_false]at er
      subst er
      have HP7:=zb P7
      have HB7:=zb B7
      clear P7 own7 B7 b7 e2 e3 f3
      go_wp2_with fail
      go_ret
      exact⟨rfl,q9z.fail HP7.out HB7.out⟩
     |true =>
      have PN7:PN w7 bp bt ct ts k2 (ns++{nd with fst:=(ns.length:Int)+1,snd:=(ns.length:Int)+1+l1'.length}::(l1'++l2')):=⟨nv7,P7,by have:=own7 rfl;simpa using this⟩
      have HPN7:=zb PN7
      have HB7:=zb B7
      have l7:=PN7.lt
      have hk2:k2≤4000:=by have h2:k2≤k1+1+q4Z d:=HLE2.out;have h1:k1≤m+1+q4Z d:=HLE.out;have:=HM.out;omega
      clear P7 own7 B7 b7 e2 e3 f3 PN7
      by_cases a3:(zt ts k2).kind=19
      ·have er:=HE.out
       simp only[if_true]at er
       rw[if_pos a3]at er
       subst er
       go_wp2_with fail
       refine(q5B bp bt ct ts k2 _ 19 _ HPN7.out (by omega) a3).mono ?_
       rintro e w8 ⟨rfl,PN8,o8⟩
       have HPN8:=zb PN8
       clear PN8
       go_wp2_with fail
       go_ret
       exact⟨rfl,HPN8.out.good (HB7.out.trans (o8.below (by omega) (by simp)))⟩
      ·have er:=HE.out
       simp only[if_true]at er
       rw[if_neg a3]at er
       subst er
       go_wp2_with fail
       refine(q6z bp bt ct ts k2 _ 19 _ HPN7.out (by omega) a3).mono ?_
       rintro e w8 ⟨rfl,PN8,o8⟩
       have HPN8:=zb PN8
       clear PN8
       go_wp2_with fail
       go_ret
       exact⟨rfl,HPN8.out.fail (HB7.out.trans (o8.below (by omega) (by simp)))⟩
    ·have er:=HT.out
     rw[j2j]at er
     simp only[if_true,hk]at er
     rw[if_neg a2]at er
     subst er
     go_wp2_with fail
     refine(q2B nd.kind _).mono ?_
     rintro e w4 ⟨rfl,hw⟩
     rw[hw,hk]
     clear hw w4
     go_wp2_with fail
     refine(q6z bp bt ct ts k1 _ 20 _ HPN3.out (by omega) a2).mono ?_
     rintro e w5 ⟨rfl,PN5,o5⟩
     have HPN5:=zb PN5
     clear PN5
     go_wp2_with fail
     go_ret
     exact⟨rfl,HPN5.out.fail (HB3.out.trans (o5.below (by omega) (by simp)))⟩
 ·have t1:=fun w h=>q6z bp bt ct ts m (ns++[nd]) 18 w h (by omega) a1
  have er:=HT.out
  rw[q3o,if_neg a1]at er
  subst er
  go_enter Tryz.func124,Tryz.ntmps124
  go_wp2_with fail
  refine(t1 _ HPN.out).mono ?_
  rintro e w1 ⟨rfl,PN1,o1⟩
  have HPN1:=zb PN1
  clear PN1
  go_wp2_with fail
  go_ret
  exact⟨rfl,HPN1.out.fail (o1.below (by omega) (by simp))⟩
end Go.Proofs.YtiamjjonoeaggabGreatDoor
