import Derived.Test.YtiamjjonoeaggabGreatDoorGA
import Derived.Test.YtiamjjonoeaggabGreatDoorG06
set_option maxRecDepth 100000
set_option maxHeartbeats 16000000
namespace Go.Proofs.YtiamjjonoeaggabGreatDoor
open Go.RowKit
def q3Z (ts:List PTok)(nx:Nat)(nd:PNode):Bool × Nat × PNode:=
 if (zt ts nx).kind=21 then
  if (zt ts (nx+1)).kind=1 then
   if (zt ts (nx+2)).kind=20 then
    if (zt ts (nx+3)).kind=23 then
     if (zt ts (nx+4)).kind=22 then(true,nx+5,{nd with sat:=(zt ts nx).pos,slo:=(zt ts (nx+1)).val,sop:=true})else(false,nx+4,{nd with sat:=(zt ts nx).pos,slo:=(zt ts (nx+1)).val,sop:=true})
    else if (zt ts (nx+3)).kind=1 then
     if (zt ts (nx+4)).kind=22 then(true,nx+5,{nd with sat:=(zt ts nx).pos,slo:=(zt ts (nx+1)).val,shi:=(zt ts (nx+3)).val})else(false,nx+4,{nd with sat:=(zt ts nx).pos,slo:=(zt ts (nx+1)).val,shi:=(zt ts (nx+3)).val})
    else(false,nx+3,{nd with sat:=(zt ts nx).pos,slo:=(zt ts (nx+1)).val,shi:=(zt ts (nx+3)).val})
   else(false,nx+2,{nd with sat:=(zt ts nx).pos,slo:=(zt ts (nx+1)).val})
  else(false,nx+1,{nd with sat:=(zt ts nx).pos,slo:=(zt ts (nx+1)).val})
 else(false,nx,{nd with sat:=(zt ts nx).pos})
theorem syn_span (bp bt ct:Nat)(ts:List PTok)(nv:Value)(nx bn:Nat)(nd:PNode)(w:World)(h:Pars w bp bt ct ts nv nx)(hn:nx≤10000)(hd:NodeAt w bn nd)(hne:bn≠bp∧bn≠bt) :
  Calls Tryz.prog 155 #[.pointer (some ⟨bp,0,none⟩),.pointer (some ⟨bn,0,none⟩)] w fun e w'=>e=.returned (.bool (q3Z ts nx nd).1)∧Pars w' bp bt ct ts nv (q3Z ts nx nd).2.1∧NodeAt w' bn (q3Z ts nx nd).2.2∧OnlyB [bp,bn] w w':=by
 obtain⟨hne1,hne2⟩:=hne
 generalize hr:q3Z ts nx nd=r
 have HT:=zb hr
 clear hr
 have t0:=q3v bp bt ct ts nv nx w h (by omega)
 have H:=zb h
 have HD:=zb hd
 clear h hd
 obtain⟨tk,hk0⟩:∃t,t=zt ts nx:=⟨_,rfl⟩
 rw[←hk0]at t0
 have HK0:=zb hk0
 clear hk0
 obtain⟨tk,tp,tz,tv,tnm⟩:=tk
 go_enter Tryz.func155,Tryz.ntmps155
 go_wp2_with fail
 refine t0.mono ?_
 rintro e w1 ⟨rfl,b1⟩
 have o1:OnlyB [] w w1:=.of_below b1
 have D1:=HD.out.only o1 (by simp)
 have H1:=zb (H.out.only o1 (by simp) (by simp))
 have f16:=D1.free 16
 have d16:=D1.cells 16 (by omega)
 simp only[zq,List.getElem?_cons_succ,List.getElem?_cons_zero]at d16
 have hl1:=D1.lt
 have HD1:=zb D1
 clear D1
 unfold ptV q7p
 have hfd:=fld_pos tk tp tz tv (zn tnm 0) (zn tnm 1) (zn tnm 2) (zn tnm 3) (zn tnm 4) (zn tnm 5) (zn tnm 6) (zn tnm 7)
 go_wp2_with fail
 clear hfd t0 b1
 obtain⟨w2,hW⟩:∃W:World,W=w1.setCell ⟨bn,16,none⟩ (.int .i64 tp):=⟨_,rfl⟩
 rw[←hW]
 have q:OnlyB [bn] w1 w2:=by rw[hW];exact(OnlyB.refl _ _).setCell (by simp) _
 have H2:=zb (H1.out.only q (by simp;omega) (by simp;omega))
 have HD2:Hid (NodeAt w2 bn {nd with sat:=tp}):=zb (by rw[hW];exact HD1.out.set (n':={nd with sat:=tp}) 16 (by omega) (.int .i64 tp) rfl)
 have o2:OnlyB [bp,bn] w w2:=(o1.wide (by simp)).trans (q.wide (by simp))
 clear hW q f16 d16
 by_cases a1:(zt ts nx).kind=21
 ·refine(q0L bp bt ct ts nv (nx) 21 _ H2.out (by omega) a1).mono ?_
  rintro e w3 ⟨rfl,P,o⟩
  have H3:=zb P
  have HD3:=zb (HD2.out.only o (by simp;omega))
  have o3:OnlyB [bp,bn] w w3:=(o2.wide (by simp)).trans (o.wide (by simp))
  clear P o
  go_wp2_with fail
  have t:=q3v bp bt ct ts nv (nx+1) w3 H3.out (by omega)
  obtain⟨tB,hk⟩:∃t,t=zt ts (nx+1):=⟨_,rfl⟩
  rw[←hk]at t
  have HKB:=zb hk
  clear hk
  obtain⟨kB,pB,zB,vB,mB⟩:=tB
  refine t.mono ?_
  rintro e w4 ⟨rfl,b⟩
  clear t
  have o:OnlyB [] _ _:=.of_below b
  have D:=HD3.out.only o (by simp)
  have H4:=zb (H3.out.only o (by simp) (by simp))
  have f17:=D.free 17
  have d17:=D.cells 17 (by omega)
  simp only[zq,List.getElem?_cons_succ,List.getElem?_cons_zero]at d17
  have hl4:=D.lt
  have HD4:=zb D
  have o4:OnlyB [bp,bn] w w4:=o3.trans (o.wide (by simp))
  clear D o b
  unfold ptV q7p
  have hfd:=j8l kB pB zB vB (zn mB 0) (zn mB 1) (zn mB 2) (zn mB 3) (zn mB 4) (zn mB 5) (zn mB 6) (zn mB 7)
  go_wp2_with fail
  clear hfd
  obtain⟨w5,hW⟩:∃W:World,W=w4.setCell ⟨bn,17,none⟩ (.int .i64 vB):=⟨_,rfl⟩
  rw[←hW]
  have q:OnlyB [bn] w4 w5:=by rw[hW];exact(OnlyB.refl _ _).setCell (by simp) _
  have H5:=zb (H4.out.only q (by simp;omega) (by simp;omega))
  have HD5:Hid (NodeAt w5 bn {nd with sat:=tp,slo:=vB}):=zb (by rw[hW];exact HD4.out.set (n':={nd with sat:=tp,slo:=vB}) 17 (by omega) (.int .i64 vB) rfl)
  have o5:OnlyB [bp,bn] w w5:=(o4.wide (by simp)).trans (q.wide (by simp))
  clear hW q f17 d17
  by_cases a2:(zt ts (nx+1)).kind=1
  ·refine(q0L bp bt ct ts nv (nx+1) 1 _ H5.out (by omega) a2).mono ?_
   rintro e w6 ⟨rfl,P,o⟩
   have H6:=zb P
   have HD6:=zb (HD5.out.only o (by simp;omega))
   have o6:OnlyB [bp,bn] w w6:=(o5.wide (by simp)).trans (o.wide (by simp))
   clear P o
   go_wp2_with fail
   by_cases a3:(zt ts (nx+2)).kind=20
   ·refine(q0L bp bt ct ts nv (nx+2) 20 _ H6.out (by omega) a3).mono ?_
    rintro e w7 ⟨rfl,P,o⟩
    have H7:=zb P
    have HD7:=zb (HD6.out.only o (by simp;omega))
    have o7:OnlyB [bp,bn] w w7:=(o6.wide (by simp)).trans (o.wide (by simp))
    clear P o
    go_wp2_with fail
    by_cases a4:(zt ts (nx+3)).kind=23
    ·refine(q0L bp bt ct ts nv (nx+3) 23 _ H7.out (by omega) a4).mono ?_
     rintro e w8 ⟨rfl,P,o⟩
     have H8:=zb P
     have HD8:=zb (HD7.out.only o (by simp;omega))
     have o8:OnlyB [bp,bn] w w8:=(o7.wide (by simp)).trans (o.wide (by simp))
     clear P o
     have f19:=HD8.out.free 19
     have d19:=HD8.out.cells 19 (by omega)
     simp only[zq,List.getElem?_cons_succ,List.getElem?_cons_zero]at d19
     go_wp2_with fail
     obtain⟨w9,hW⟩:∃W:World,W=w8.setCell ⟨bn,19,none⟩ (.bool true):=⟨_,rfl⟩
     rw[←hW]
     have q:OnlyB [bn] w8 w9:=by rw[hW];exact(OnlyB.refl _ _).setCell (by simp) _
     have H9:=zb (H8.out.only q (by simp;omega) (by simp;omega))
     have HD9:Hid (NodeAt w9 bn {nd with sat:=tp,slo:=vB,sop:=true}):=zb (by rw[hW];exact HD8.out.set (n':={nd with sat:=tp,slo:=vB,sop:=true}) 19 (by omega) (.bool true) rfl)
     have o9:OnlyB [bp,bn] w w9:=(o8.wide (by simp)).trans (q.wide (by simp))
     clear hW q f19 d19
     by_cases a6:(zt ts (nx+4)).kind=22
     ·have er:=HT.out
      rw[q3Z,if_pos a1,if_pos a2,if_pos a3,if_pos a4,if_pos a6,←HK0.out,←HKB.out]at er
      subst er
      refine(q0L bp bt ct ts nv (nx+4) 22 _ H9.out (by omega) a6).mono ?_
      rintro e w10 ⟨rfl,P,o⟩
      have H10:=zb P
      have HD10:=zb (HD9.out.only o (by simp;omega))
      have o10:OnlyB [bp,bn] w w10:=(o9.wide (by simp)).trans (o.wide (by simp))
      clear P o
      go_wp2_with fail
      go_ret
      exact⟨rfl,H10.out,HD10.out,o10⟩
     ·have er:=HT.out
      rw[q3Z,if_pos a1,if_pos a2,if_pos a3,if_pos a4,if_neg a6,←HK0.out,←HKB.out]at er
      subst er
      refine(q1r bp bt ct ts nv (nx+4) 22 _ H9.out (by omega) a6).mono ?_
      rintro e w10 ⟨rfl,P,o⟩
      have H10:=zb P
      have HD10:=zb (HD9.out.only o (by simp;omega))
      have o10:OnlyB [bp,bn] w w10:=(o9.wide (by simp)).trans (o.wide (by simp))
      clear P o
      go_wp2_with fail
      go_ret
      exact⟨rfl,H10.out,HD10.out,o10⟩
    ·refine(q1r bp bt ct ts nv (nx+3) 23 _ H7.out (by omega) a4).mono ?_
     rintro e w8 ⟨rfl,P,o⟩
     have H8:=zb P
     have HD8:=zb (HD7.out.only o (by simp;omega))
     have o8:OnlyB [bp,bn] w w8:=(o7.wide (by simp)).trans (o.wide (by simp))
     clear P o
     go_wp2_with fail
     have t:=q3v bp bt ct ts nv (nx+3) w8 H8.out (by omega)
     obtain⟨tC,hk⟩:∃t,t=zt ts (nx+3):=⟨_,rfl⟩
     rw[←hk]at t
     have HKC:=zb hk
     clear hk
     obtain⟨kC,pC,zC,vC,mC⟩:=tC
     refine t.mono ?_
     rintro e w9 ⟨rfl,b⟩
     clear t
     have o:OnlyB [] _ _:=.of_below b
     have D:=HD8.out.only o (by simp)
     have H9:=zb (H8.out.only o (by simp) (by simp))
     have f18:=D.free 18
     have d18:=D.cells 18 (by omega)
     simp only[zq,List.getElem?_cons_succ,List.getElem?_cons_zero]at d18
     have hl9:=D.lt
     have HD9:=zb D
     have o9:OnlyB [bp,bn] w w9:=o8.trans (o.wide (by simp))
     clear D o b
     unfold ptV q7p
     have hfd:=j8l kC pC zC vC (zn mC 0) (zn mC 1) (zn mC 2) (zn mC 3) (zn mC 4) (zn mC 5) (zn mC 6) (zn mC 7)
     go_wp2_with fail
     clear hfd
     obtain⟨w10,hW⟩:∃W:World,W=w9.setCell ⟨bn,18,none⟩ (.int .i64 vC):=⟨_,rfl⟩
     rw[←hW]
     have q:OnlyB [bn] w9 w10:=by rw[hW];exact(OnlyB.refl _ _).setCell (by simp) _
     have H10:=zb (H9.out.only q (by simp;omega) (by simp;omega))
     have HD10:Hid (NodeAt w10 bn {nd with sat:=tp,slo:=vB,shi:=vC}):=zb (by rw[hW];exact HD9.out.set (n':={nd with sat:=tp,slo:=vB,shi:=vC}) 18 (by omega) (.int .i64 vC) rfl)
     have o10:OnlyB [bp,bn] w w10:=(o9.wide (by simp)).trans (q.wide (by simp))
     clear hW q f18 d18
     by_cases a5:(zt ts (nx+3)).kind=1
     ·refine(q0L bp bt ct ts nv (nx+3) 1 _ H10.out (by omega) a5).mono ?_
      rintro e w11 ⟨rfl,P,o⟩
      have H11:=zb P
      have HD11:=zb (HD10.out.only o (by simp;omega))
      have o11:OnlyB [bp,bn] w w11:=(o10.wide (by simp)).trans (o.wide (by simp))
      clear P o
      go_wp2_with fail
      by_cases a6:(zt ts (nx+4)).kind=22
      ·have er:=HT.out
       rw[q3Z,if_pos a1,if_pos a2,if_pos a3,if_neg a4,if_pos a5,if_pos a6,←HK0.out,←HKB.out,←HKC.out]at er
       subst er
       refine(q0L bp bt ct ts nv (nx+4) 22 _ H11.out (by omega) a6).mono ?_
       rintro e w12 ⟨rfl,P,o⟩
       have H12:=zb P
       have HD12:=zb (HD11.out.only o (by simp;omega))
       have o12:OnlyB [bp,bn] w w12:=(o11.wide (by simp)).trans (o.wide (by simp))
       clear P o
       go_wp2_with fail
       go_ret
       exact⟨rfl,H12.out,HD12.out,o12⟩
      ·have er:=HT.out
       rw[q3Z,if_pos a1,if_pos a2,if_pos a3,if_neg a4,if_pos a5,if_neg a6,←HK0.out,←HKB.out,←HKC.out]at er
       subst er
       refine(q1r bp bt ct ts nv (nx+4) 22 _ H11.out (by omega) a6).mono ?_
       rintro e w12 ⟨rfl,P,o⟩
       have H12:=zb P
       have HD12:=zb (HD11.out.only o (by simp;omega))
       have o12:OnlyB [bp,bn] w w12:=(o11.wide (by simp)).trans (o.wide (by simp))
       clear P o
       go_wp2_with fail
       go_ret
       exact⟨rfl,H12.out,HD12.out,o12⟩
     ·have er:=HT.out
      rw[q3Z,if_pos a1,if_pos a2,if_pos a3,if_neg a4,if_neg a5,←HK0.out,←HKB.out,←HKC.out]at er
      subst er
      refine(q1r bp bt ct ts nv (nx+3) 1 _ H10.out (by omega) a5).mono ?_
      rintro e w11 ⟨rfl,P,o⟩
      have H11:=zb P
      have HD11:=zb (HD10.out.only o (by simp;omega))
      have o11:OnlyB [bp,bn] w w11:=(o10.wide (by simp)).trans (o.wide (by simp))
      clear P o
      go_wp2_with fail
      go_ret
      exact⟨rfl,H11.out,HD11.out,o11⟩
   ·have er:=HT.out
    rw[q3Z,if_pos a1,if_pos a2,if_neg a3,←HK0.out,←HKB.out]at er
    subst er
    refine(q1r bp bt ct ts nv (nx+2) 20 _ H6.out (by omega) a3).mono ?_
    rintro e w7 ⟨rfl,P,o⟩
    have H7:=zb P
    have HD7:=zb (HD6.out.only o (by simp;omega))
    have o7:OnlyB [bp,bn] w w7:=(o6.wide (by simp)).trans (o.wide (by simp))
    clear P o
    go_wp2_with fail
    go_ret
    exact⟨rfl,H7.out,HD7.out,o7⟩
  ·have er:=HT.out
   rw[q3Z,if_pos a1,if_neg a2,←HK0.out,←HKB.out]at er
   subst er
   refine(q1r bp bt ct ts nv (nx+1) 1 _ H5.out (by omega) a2).mono ?_
   rintro e w6 ⟨rfl,P,o⟩
   have H6:=zb P
   have HD6:=zb (HD5.out.only o (by simp;omega))
   have o6:OnlyB [bp,bn] w w6:=(o5.wide (by simp)).trans (o.wide (by simp))
   clear P o
   go_wp2_with fail
   go_ret
   exact⟨rfl,H6.out,HD6.out,o6⟩
 ·have er:=HT.out
  rw[q3Z,if_neg a1,←HK0.out]at er
  subst er
  refine(q1r bp bt ct ts nv (nx) 21 _ H2.out (by omega) a1).mono ?_
  rintro e w3 ⟨rfl,P,o⟩
  have H3:=zb P
  have HD3:=zb (HD2.out.only o (by simp;omega))
  have o3:OnlyB [bp,bn] w w3:=(o2.wide (by simp)).trans (o.wide (by simp))
  clear P o
  go_wp2_with fail
  go_ret
  exact⟨rfl,H3.out,HD3.out,o3⟩
def q1w (t:PTok):PNode:=⟨t.kind,t.pos,t.name,0,0,0,0,0,0,0,0,0,false,-1,-1⟩
def q1c (ts:List PTok)(nx:Nat):Bool × Nat × PNode:=
 if q3z (zt ts nx).kind=true then
  if (zt ts nx).kind=2 then q7Y ts (nx+1) (q1w (zt ts nx))
  else if (zt ts nx).kind=9 then
   if q6Q (zt ts (nx+1)).kind=true then(true,nx+2,{q1w (zt ts nx)with var:=(zt ts (nx+1)).kind})else(false,nx+1,q1w (zt ts nx))
  else if q3l (zt ts nx).kind=true then q3Z ts (nx+1) (q1w (zt ts nx))
  else(true,nx+1,q1w (zt ts nx))
 else(false,nx,q1w (zt ts nx))
abbrev q1C (n:PNode):Value:=.agg #[.int .i64 n.kind,.int .i64 n.pos,.int .u8 (zn n.name 0),.int .u8 (zn n.name 1),.int .u8 (zn n.name 2),.int .u8 (zn n.name 3),.int .u8 (zn n.name 4),.int .u8 (zn n.name 5),.int .u8 (zn n.name 6),.int .u8 (zn n.name 7),.int .i64 n.k0,.int .i64 n.v0,.int .i64 n.k1,.int .i64 n.v1,.int .i64 n.cnt,.int .i64 n.var,.int .i64 n.sat,.int .i64 n.slo,.int .i64 n.shi,.bool n.sop,.int .i64 n.fst,.int .i64 n.snd]
end Go.Proofs.YtiamjjonoeaggabGreatDoor
