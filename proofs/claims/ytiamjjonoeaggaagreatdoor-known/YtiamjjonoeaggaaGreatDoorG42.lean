import Derived.Test.YtiamjjonoeaggaaGreatDoorGA
import Derived.Test.YtiamjjonoeaggaaGreatDoorG01
import Derived.Test.YtiamjjonoeaggaaGreatDoorG33
import Derived.Test.YtiamjjonoeaggaaGreatDoorG34
import Derived.Test.YtiamjjonoeaggaaGreatDoorG35
import Derived.Test.YtiamjjonoeaggaaGreatDoorG36
import Derived.Test.YtiamjjonoeaggaaGreatDoorG37
import Derived.Test.YtiamjjonoeaggaaGreatDoorG38
import Derived.Test.YtiamjjonoeaggaaGreatDoorG39
import Derived.Test.YtiamjjonoeaggaaGreatDoorG40
import Derived.Test.YtiamjjonoeaggaaGreatDoorG41
import Derived.Deep.LoopGhost
set_option maxRecDepth 100000
set_option maxHeartbeats 16000000
namespace Go.Proofs.YtiamjjonoeaggaaGreatDoor
open Go.RowKit
def plainR (k:Nat)(P Q:Nat→Bool)(x y:Nat):Bool:=if k=0 then P x&&Q y else if k=1 then P x&&Q x&&(y==0)else if k=2 then(P x || Q x)&&(y==0)else if k=3 then P x&&!Q x&&(y==0)else if k=4 then(List.range 4).any (fun v=>P v&&Q v)&&(x==0)&&(y==0)else if k=5 then(List.range 4).any (fun v=>P v&&Q y)&&(x==0)else(x==0)&&(y==0)
theorem bt_idx (t:Int)(P Q:Nat→Bool)(v:Nat)(h:v<4):(#[.int .i64 t,.bool (P 0),.bool (P 1),.bool (P 2),.bool (P 3),.bool (Q 0),.bool (Q 1),.bool (Q 2),.bool (Q 3)]:Array Value)[1+v]?=some (.bool (P v))∧(#[.int .i64 t,.bool (P 0),.bool (P 1),.bool (P 2),.bool (P 3),.bool (Q 0),.bool (Q 1),.bool (Q 2),.bool (Q 3)]:Array Value)[5+v]?=some (.bool (Q v)):=by
 have:v=0∨v=1∨v=2∨v=3:=by omega
 rcases this with rfl|rfl|rfl|rfl<;>exact⟨rfl,rfl⟩
theorem any_upto (f:Nat→Bool)(k:Nat):(List.range (k+1)).any f=((List.range k).any f || f k):=by
 rw[List.range_succ,List.any_append]
 simp
def PlRel (P Q:Nat→Bool)(W:World)(g:Nat)(vs vv:Value)(wr:World):Prop:=∃k:Nat,k≤4∧4-k≤g∧vv=.int .i64 k∧vs=.bool ((List.range k).any (fun v=>P v&&Q v))∧wr=W
def PlRel2 (P:Nat→Bool)(qy00:Bool)(W:World)(g:Nat)(vv:Value)(wr:World):Prop:=∃k:Nat,k≤4∧4-k≤g∧vv=.int .i64 k∧(List.range k).any (fun v=>P v&&qy00)=false∧wr=W
theorem kep_plainly (kd:Nat)(hk:kd<7)(t:Int)(P Q:Nat→Bool)(hP:∀v,4≤v→P v=false)(hQ:∀v,4≤v→Q v=false)(x y:Nat)(hx:x<10)(hy:y<10)(w:World) :
  Calls Tryz.prog 44 #[.agg #[.int .i64 t,.bool (P 0),.bool (P 1),.bool (P 2),.bool (P 3),.bool (Q 0),.bool (Q 1),.bool (Q 2),.bool (Q 3)],.int .i64 kd,.int .i64 x,.int .i64 y] w fun e w'=>e=.returned (.bool (plainR kd P Q x y))∧Below w.heap.size w w':=by
 have HI:=zb (bt_idx t P Q)
 have HP:=zb hP
 have HQ:=zb hQ
 clear hP hQ
 obtain⟨R,hR⟩:∃R,R=plainR kd P Q x y:=⟨_,rfl⟩
 rw[←hR]
 have HR:=zb hR
 clear hR
 go_enter Tryz.func44,Tryz.ntmps44
 go_wp2_with fail
 obtain⟨W,hW⟩:∃W,W=w.alloc (.cells #[.int .i64 t,.bool (P 0),.bool (P 1),.bool (P 2),.bool (P 3),.bool (Q 0),.bool (Q 1),.bool (Q 2),.bool (Q 3)] 100):=⟨_,rfl⟩
 have g0:W.heap[w.heap.size]?=some (.cells #[.int .i64 t,.bool (P 0),.bool (P 1),.bool (P 2),.bool (P 3),.bool (Q 0),.bool (Q 1),.bool (Q 2),.bool (Q 3)] 100 (0,0)):=by rw[hW];exact zN _ _
 have BW:Below w.heap.size w W:=by rw[hW];exact(zB _ _).alloc (zL _) _
 rw[←hW]
 have HBW:=zb BW
 have hlt:w.heap.size<W.heap.size:=(Array.getElem?_eq_some_iff.1 g0).1
 have HC:Hid (∀v,v<4→W.cell? ⟨w.heap.size,1+v,none⟩=some (.bool (P v))∧W.cell? ⟨w.heap.size,5+v,none⟩=some (.bool (Q v))):=zb (fun v hv=>⟨(zC _ _ (1+v) _ _ _ g0).trans (HI.out v hv).1,(zC _ _ (5+v) _ _ _ g0).trans (HI.out v hv).2⟩)
 clear hW g0 BW HI
 go_loopg [9,10] 4 (fun g vs vv wr=>PlRel P Q W g vs vv wr)
 case atStart=>exact⟨0,by omega,by omega,rfl,rfl,rfl⟩
 case round =>
  obtain⟨k,hk4,hgk,rfl,rfl,hwr⟩:=hrel
  have hwr':=hwr.symm
  subst hwr'
  by_cases hkn:k<4
  ·have hki:(k:Int)<4:=by omega
   obtain⟨cp,cq⟩:=HC.out k hkn
   have HAN:=zb (any_upto (fun v=>P v&&Q v) k)
   obtain⟨A,hA⟩:∃A,A=(List.range k).any (fun v=>P v&&Q v):=⟨_,rfl⟩
   obtain⟨pk,hpk⟩:∃b,b=P k:=⟨_,rfl⟩
   obtain⟨qk00,hqk⟩:∃b,b=Q k:=⟨_,rfl⟩
   rw[←hpk]at cp
   rw[←hqk]at cq
   rw[←hA]
   have HA:Hid ((List.range (k+1)).any (fun v=>P v&&Q v)=(A || (pk&&qk00))):=zb (by rw[HAN.out,hA,hpk,hqk])
   clear hA hpk hqk HAN
   have hgp:0<gk:=by omega
   cases A
   ·cases pk
    ·go_wp2_with fail
     go_roundg (gk-1)
     case measure=>omega
     case rel=>exact⟨k+1,by omega,by omega,by go_num,by rw[HA.out];rfl,rfl⟩
    ·go_wp2_with fail
     go_roundg (gk-1)
     case measure=>omega
     case rel=>exact⟨k+1,by omega,by omega,by go_num,by rw[HA.out];rfl,rfl⟩
   ·go_wp2_with fail
    go_roundg (gk-1)
    case measure=>omega
    case rel=>exact⟨k+1,by omega,by omega,by go_num,by rw[HA.out];rfl,rfl⟩
  ·obtain rfl:k=4:=by omega
   obtain⟨S4,hS4⟩:∃A,A=(List.range 4).any (fun v=>P v&&Q v):=⟨_,rfl⟩
   rw[←hS4]
   have HS4:=zb hS4
   obtain⟨px,hpx⟩:∃b,b=P x:=⟨_,rfl⟩
   obtain⟨qx00,hqx⟩:∃b,b=Q x:=⟨_,rfl⟩
   obtain⟨qy00,hqy⟩:∃b,b=Q y:=⟨_,rfl⟩
   have HPX:=zb hpx
   have HQX:=zb hqx
   have HQY:=zb hqy
   clear hS4 hpx hqx hqy
   have hxb:Hid ((x==0)=((x:Int)==0)):=zb (by rw[Bool.eq_iff_iff];simp)
   have hyb:Hid ((y==0)=((y:Int)==0)):=zb (by rw[Bool.eq_iff_iff];simp)
   by_cases hx4:x<4
   ·have hxi:(x:Int)<4:=by omega
    obtain⟨cpx,cqx⟩:=HC.out x hx4
    rw[←HPX.out]at cpx
    rw[←HQX.out]at cqx
    have hmx:Int.tmod (x:Int) 4=(x:Int):=Int.tmod_eq_of_lt (by omega) (by omega)
    by_cases hy4:y<4
    ·have hyi4:(y:Int)<4:=by omega
     obtain⟨_,cqy⟩:=HC.out y hy4
     rw[←HQY.out]at cqy
     have hmy:Int.tmod (y:Int) 4=(y:Int):=Int.tmod_eq_of_lt (by omega) (by omega)
     have hkk:kd=0∨kd=1∨kd=2∨kd=3∨kd=4∨kd=5∨kd=6:=by omega
     rcases hkk with rfl|rfl|rfl|rfl|rfl|rfl|rfl
     ·have HRk:Hid (R=(px&&qy00)):=zb (by rw[HR.out];show(P x&&Q y)=_;rw[←HPX.out,←HQY.out])
      clear HR HPX HQX HQY HS4 hxb hyb HC HP HQ
      go_wp2_with fail
      all_goals
       go_ret
       refine⟨?_,HBW.out⟩
       have hr:=HRk.out
       clear HRk
       simp_all
     ·have HRk:Hid (R=(px&&qx00&&((y:Int)==0))):=zb (by rw[HR.out];show(P x&&Q x&&(y==0))=_;rw[←HPX.out,←HQX.out,hyb.out])
      clear HR HPX HQX HQY HS4 hxb hyb HC HP HQ
      go_wp2_with fail
      all_goals
       go_ret
       refine⟨?_,HBW.out⟩
       have hr:=HRk.out
       clear HRk
       simp_all
     ·have HRk:Hid (R=((px || qx00)&&((y:Int)==0))):=zb (by rw[HR.out];show((P x || Q x)&&(y==0))=_;rw[←HPX.out,←HQX.out,hyb.out])
      clear HR HPX HQX HQY HS4 hxb hyb HC HP HQ
      go_wp2_with fail
      all_goals
       go_ret
       refine⟨?_,HBW.out⟩
       have hr:=HRk.out
       clear HRk
       simp_all
     ·have HRk:Hid (R=(px&&!qx00&&((y:Int)==0))):=zb (by rw[HR.out];show(P x&&!Q x&&(y==0))=_;rw[←HPX.out,←HQX.out,hyb.out])
      clear HR HPX HQX HQY HS4 hxb hyb HC HP HQ
      go_wp2_with fail
      all_goals
       go_ret
       refine⟨?_,HBW.out⟩
       have hr:=HRk.out
       clear HRk
       simp_all
     ·have HRk:Hid (R=(S4&&((x:Int)==0)&&((y:Int)==0))):=zb (by rw[HR.out];show((List.range 4).any (fun v=>P v&&Q v)&&(x==0)&&(y==0))=_;rw[←HS4.out,hxb.out,hyb.out])
      clear HR HPX HQX HQY HS4 hxb hyb HC HP HQ
      go_wp2_with fail
      all_goals
       go_ret
       refine⟨?_,HBW.out⟩
       have hr:=HRk.out
       clear HRk
       simp_all
     ·have HR5:Hid (R=((List.range 4).any (fun v=>P v&&qy00)&&((x:Int)==0))):=zb (by rw[HR.out];show((List.range 4).any (fun v=>P v&&Q y)&&(x==0))=_;rw[←HQY.out,hxb.out])
      clear HR HPX HQX HQY HS4 hxb hyb HP HQ
      go_wp2_with fail
      go_loopg [14] 4 (fun g vv wr=>PlRel2 P qy00 W g vv wr)
      case atStart=>exact⟨0,by omega,by omega,rfl,rfl,rfl⟩
      case round =>
       obtain⟨k,hk4,hgk,rfl,hno,hwr⟩:=hrel
       have hwr':=hwr.symm
       subst hwr'
       by_cases hkn:k<4
       ·have hki:(k:Int)<4:=by omega
        obtain⟨cp,_⟩:=HC.out k hkn
        have HAN:Hid ((List.range (k+1)).any (fun v=>P v&&qy00)=(P k&&qy00)):=zb (by rw[any_upto,hno,Bool.false_or])
        obtain⟨pk,hpk⟩:∃b,b=P k:=⟨_,rfl⟩
        have HPK:=zb hpk
        rw[←hpk]at cp
        clear hpk hno
        have hgp:0<gk:=by omega
        cases pk
        ·go_wp2_with fail
         go_roundg (gk-1)
         case measure=>omega
         case rel=>exact⟨k+1,by omega,by omega,by go_num,by rw[HAN.out,←HPK.out];rfl,rfl⟩
        ·cases qy00
         ·go_wp2_with fail
          go_roundg (gk-1)
          case measure=>omega
          case rel=>exact⟨k+1,by omega,by omega,by go_num,by rw[HAN.out,Bool.and_false],rfl⟩
         ·go_wp2_with fail
          go_ret
          have hr:R=((x:Int)==0):=by
           rw[HR5.out]
           have:(List.range 4).any (fun v=>P v&&true)=true:=by
            rw[List.any_eq_true]
            exact⟨k,List.mem_range.2 hkn,by rw[←HPK.out];rfl⟩
           rw[this,Bool.true_and]
          exact⟨(show _=Ending.returned (.bool ((x:Int)==0)) from rfl).trans (by rw[hr]),HBW.out⟩
       ·obtain rfl:k=4:=by omega
        go_wp2_with fail
        go_ret
        have hr:R=false:=by rw[HR5.out,hno];rfl
        exact⟨(show _=Ending.returned (.bool false) from rfl).trans (by rw[hr]),HBW.out⟩
     ·have HRk:Hid (R=(((x:Int)==0)&&((y:Int)==0))):=zb (by rw[HR.out];show((x==0)&&(y==0))=_;rw[hxb.out,hyb.out])
      clear HR HPX HQX HQY HS4 hxb hyb HC HP HQ
      go_wp2_with fail
      all_goals
       go_ret
       refine⟨?_,HBW.out⟩
       have hr:=HRk.out
       clear HRk
       simp_all
    ·have hyi4:¬(y:Int)<4:=by omega
     have e3:qy00=false:=HQY.out.trans (HQ.out y (by omega))
     subst e3
     have hkk:kd=0∨kd=1∨kd=2∨kd=3∨kd=4∨kd=5∨kd=6:=by omega
     rcases hkk with rfl|rfl|rfl|rfl|rfl|rfl|rfl
     ·have HRk:Hid (R=(px&&false)):=zb (by rw[HR.out];show(P x&&Q y)=_;rw[←HPX.out,←HQY.out])
      clear HR HPX HQX HQY HS4 hxb hyb HC HP HQ
      go_wp2_with fail
      all_goals
       go_ret
       refine⟨?_,HBW.out⟩
       have hr:=HRk.out
       clear HRk
       simp_all
     ·have HRk:Hid (R=(px&&qx00&&((y:Int)==0))):=zb (by rw[HR.out];show(P x&&Q x&&(y==0))=_;rw[←HPX.out,←HQX.out,hyb.out])
      clear HR HPX HQX HQY HS4 hxb hyb HC HP HQ
      go_wp2_with fail
      all_goals
       go_ret
       refine⟨?_,HBW.out⟩
       have hr:=HRk.out
       clear HRk
       simp_all
     ·have HRk:Hid (R=((px || qx00)&&((y:Int)==0))):=zb (by rw[HR.out];show((P x || Q x)&&(y==0))=_;rw[←HPX.out,←HQX.out,hyb.out])
      clear HR HPX HQX HQY HS4 hxb hyb HC HP HQ
      go_wp2_with fail
      all_goals
       go_ret
       refine⟨?_,HBW.out⟩
       have hr:=HRk.out
       clear HRk
       simp_all
     ·have HRk:Hid (R=(px&&!qx00&&((y:Int)==0))):=zb (by rw[HR.out];show(P x&&!Q x&&(y==0))=_;rw[←HPX.out,←HQX.out,hyb.out])
      clear HR HPX HQX HQY HS4 hxb hyb HC HP HQ
      go_wp2_with fail
      all_goals
       go_ret
       refine⟨?_,HBW.out⟩
       have hr:=HRk.out
       clear HRk
       simp_all
     ·have HRk:Hid (R=(S4&&((x:Int)==0)&&((y:Int)==0))):=zb (by rw[HR.out];show((List.range 4).any (fun v=>P v&&Q v)&&(x==0)&&(y==0))=_;rw[←HS4.out,hxb.out,hyb.out])
      clear HR HPX HQX HQY HS4 hxb hyb HC HP HQ
      go_wp2_with fail
      all_goals
       go_ret
       refine⟨?_,HBW.out⟩
       have hr:=HRk.out
       clear HRk
       simp_all
     ·have HR5:Hid (R=((List.range 4).any (fun v=>P v&&false)&&((x:Int)==0))):=zb (by rw[HR.out];show((List.range 4).any (fun v=>P v&&Q y)&&(x==0))=_;rw[←HQY.out,hxb.out])
      clear HR HPX HQX HQY HS4 hxb hyb HP HQ
      go_wp2_with fail
      go_loopg [14] 4 (fun g vv wr=>PlRel2 P false W g vv wr)
      case atStart=>exact⟨0,by omega,by omega,rfl,rfl,rfl⟩
      case round =>
       obtain⟨k,hk4,hgk,rfl,hno,hwr⟩:=hrel
       have hwr':=hwr.symm
       subst hwr'
       by_cases hkn:k<4
       ·have hki:(k:Int)<4:=by omega
        obtain⟨cp,_⟩:=HC.out k hkn
        have HAN:Hid ((List.range (k+1)).any (fun v=>P v&&false)=(P k&&false)):=zb (by rw[any_upto,hno,Bool.false_or])
        obtain⟨pk,hpk⟩:∃b,b=P k:=⟨_,rfl⟩
        have HPK:=zb hpk
        rw[←hpk]at cp
        clear hpk hno
        have hgp:0<gk:=by omega
        cases pk
        ·go_wp2_with fail
         go_roundg (gk-1)
         case measure=>omega
         case rel=>exact⟨k+1,by omega,by omega,by go_num,by rw[HAN.out,←HPK.out];rfl,rfl⟩
        ·go_wp2_with fail
         go_roundg (gk-1)
         case measure=>omega
         case rel=>exact⟨k+1,by omega,by omega,by go_num,by rw[HAN.out,Bool.and_false],rfl⟩
       ·obtain rfl:k=4:=by omega
        go_wp2_with fail
        go_ret
        have hr:R=false:=by rw[HR5.out,hno];rfl
        exact⟨(show _=Ending.returned (.bool false) from rfl).trans (by rw[hr]),HBW.out⟩
     ·have HRk:Hid (R=(((x:Int)==0)&&((y:Int)==0))):=zb (by rw[HR.out];show((x==0)&&(y==0))=_;rw[hxb.out,hyb.out])
      clear HR HPX HQX HQY HS4 hxb hyb HC HP HQ
      go_wp2_with fail
      all_goals
       go_ret
       refine⟨?_,HBW.out⟩
       have hr:=HRk.out
       clear HRk
       simp_all
   ·have hxi:¬(x:Int)<4:=by omega
    have e1:px=false:=HPX.out.trans (HP.out x (by omega))
    have e2:qx00=false:=HQX.out.trans (HQ.out x (by omega))
    subst e1
    subst e2
    by_cases hy4:y<4
    ·have hyi4:(y:Int)<4:=by omega
     obtain⟨_,cqy⟩:=HC.out y hy4
     rw[←HQY.out]at cqy
     have hmy:Int.tmod (y:Int) 4=(y:Int):=Int.tmod_eq_of_lt (by omega) (by omega)
     have hkk:kd=0∨kd=1∨kd=2∨kd=3∨kd=4∨kd=5∨kd=6:=by omega
     rcases hkk with rfl|rfl|rfl|rfl|rfl|rfl|rfl
     ·have HRk:Hid (R=(false&&qy00)):=zb (by rw[HR.out];show(P x&&Q y)=_;rw[←HPX.out,←HQY.out])
      clear HR HPX HQX HQY HS4 hxb hyb HC HP HQ
      go_wp2_with fail
      all_goals
       go_ret
       refine⟨?_,HBW.out⟩
       have hr:=HRk.out
       clear HRk
       simp_all
     ·have HRk:Hid (R=(false&&false&&((y:Int)==0))):=zb (by rw[HR.out];show(P x&&Q x&&(y==0))=_;rw[←HPX.out,←HQX.out,hyb.out])
      clear HR HPX HQX HQY HS4 hxb hyb HC HP HQ
      go_wp2_with fail
      all_goals
       go_ret
       refine⟨?_,HBW.out⟩
       have hr:=HRk.out
       clear HRk
       simp_all
     ·have HRk:Hid (R=((false || false)&&((y:Int)==0))):=zb (by rw[HR.out];show((P x || Q x)&&(y==0))=_;rw[←HPX.out,←HQX.out,hyb.out])
      clear HR HPX HQX HQY HS4 hxb hyb HC HP HQ
      go_wp2_with fail
      all_goals
       go_ret
       refine⟨?_,HBW.out⟩
       have hr:=HRk.out
       clear HRk
       simp_all
     ·have HRk:Hid (R=(false&&!false&&((y:Int)==0))):=zb (by rw[HR.out];show(P x&&!Q x&&(y==0))=_;rw[←HPX.out,←HQX.out,hyb.out])
      clear HR HPX HQX HQY HS4 hxb hyb HC HP HQ
      go_wp2_with fail
      all_goals
       go_ret
       refine⟨?_,HBW.out⟩
       have hr:=HRk.out
       clear HRk
       simp_all
     ·have HRk:Hid (R=(S4&&((x:Int)==0)&&((y:Int)==0))):=zb (by rw[HR.out];show((List.range 4).any (fun v=>P v&&Q v)&&(x==0)&&(y==0))=_;rw[←HS4.out,hxb.out,hyb.out])
      clear HR HPX HQX HQY HS4 hxb hyb HC HP HQ
      go_wp2_with fail
      all_goals
       go_ret
       refine⟨?_,HBW.out⟩
       have hr:=HRk.out
       clear HRk
       simp_all
     ·have HR5:Hid (R=((List.range 4).any (fun v=>P v&&qy00)&&((x:Int)==0))):=zb (by rw[HR.out];show((List.range 4).any (fun v=>P v&&Q y)&&(x==0))=_;rw[←HQY.out,hxb.out])
      clear HR HPX HQX HQY HS4 hxb hyb HP HQ
      go_wp2_with fail
      go_loopg [14] 4 (fun g vv wr=>PlRel2 P qy00 W g vv wr)
      case atStart=>exact⟨0,by omega,by omega,rfl,rfl,rfl⟩
      case round =>
       obtain⟨k,hk4,hgk,rfl,hno,hwr⟩:=hrel
       have hwr':=hwr.symm
       subst hwr'
       by_cases hkn:k<4
       ·have hki:(k:Int)<4:=by omega
        obtain⟨cp,_⟩:=HC.out k hkn
        have HAN:Hid ((List.range (k+1)).any (fun v=>P v&&qy00)=(P k&&qy00)):=zb (by rw[any_upto,hno,Bool.false_or])
        obtain⟨pk,hpk⟩:∃b,b=P k:=⟨_,rfl⟩
        have HPK:=zb hpk
        rw[←hpk]at cp
        clear hpk hno
        have hgp:0<gk:=by omega
        cases pk
        ·go_wp2_with fail
         go_roundg (gk-1)
         case measure=>omega
         case rel=>exact⟨k+1,by omega,by omega,by go_num,by rw[HAN.out,←HPK.out];rfl,rfl⟩
        ·cases qy00
         ·go_wp2_with fail
          go_roundg (gk-1)
          case measure=>omega
          case rel=>exact⟨k+1,by omega,by omega,by go_num,by rw[HAN.out,Bool.and_false],rfl⟩
         ·go_wp2_with fail
          go_ret
          have hr:R=((x:Int)==0):=by
           rw[HR5.out]
           have:(List.range 4).any (fun v=>P v&&true)=true:=by
            rw[List.any_eq_true]
            exact⟨k,List.mem_range.2 hkn,by rw[←HPK.out];rfl⟩
           rw[this,Bool.true_and]
          exact⟨(show _=Ending.returned (.bool ((x:Int)==0)) from rfl).trans (by rw[hr]),HBW.out⟩
       ·obtain rfl:k=4:=by omega
        go_wp2_with fail
        go_ret
        have hr:R=false:=by rw[HR5.out,hno];rfl
        exact⟨(show _=Ending.returned (.bool false) from rfl).trans (by rw[hr]),HBW.out⟩
     ·have HRk:Hid (R=(((x:Int)==0)&&((y:Int)==0))):=zb (by rw[HR.out];show((x==0)&&(y==0))=_;rw[hxb.out,hyb.out])
      clear HR HPX HQX HQY HS4 hxb hyb HC HP HQ
      go_wp2_with fail
      all_goals
       go_ret
       refine⟨?_,HBW.out⟩
       have hr:=HRk.out
       clear HRk
       simp_all
    ·have hyi4:¬(y:Int)<4:=by omega
     have e3:qy00=false:=HQY.out.trans (HQ.out y (by omega))
     subst e3
     have hkk:kd=0∨kd=1∨kd=2∨kd=3∨kd=4∨kd=5∨kd=6:=by omega
     rcases hkk with rfl|rfl|rfl|rfl|rfl|rfl|rfl
     ·have HRk:Hid (R=(false&&false)):=zb (by rw[HR.out];show(P x&&Q y)=_;rw[←HPX.out,←HQY.out])
      clear HR HPX HQX HQY HS4 hxb hyb HC HP HQ
      go_wp2_with fail
      all_goals
       go_ret
       refine⟨?_,HBW.out⟩
       have hr:=HRk.out
       clear HRk
       simp_all
     ·have HRk:Hid (R=(false&&false&&((y:Int)==0))):=zb (by rw[HR.out];show(P x&&Q x&&(y==0))=_;rw[←HPX.out,←HQX.out,hyb.out])
      clear HR HPX HQX HQY HS4 hxb hyb HC HP HQ
      go_wp2_with fail
      all_goals
       go_ret
       refine⟨?_,HBW.out⟩
       have hr:=HRk.out
       clear HRk
       simp_all
     ·have HRk:Hid (R=((false || false)&&((y:Int)==0))):=zb (by rw[HR.out];show((P x || Q x)&&(y==0))=_;rw[←HPX.out,←HQX.out,hyb.out])
      clear HR HPX HQX HQY HS4 hxb hyb HC HP HQ
      go_wp2_with fail
      all_goals
       go_ret
       refine⟨?_,HBW.out⟩
       have hr:=HRk.out
       clear HRk
       simp_all
     ·have HRk:Hid (R=(false&&!false&&((y:Int)==0))):=zb (by rw[HR.out];show(P x&&!Q x&&(y==0))=_;rw[←HPX.out,←HQX.out,hyb.out])
      clear HR HPX HQX HQY HS4 hxb hyb HC HP HQ
      go_wp2_with fail
      all_goals
       go_ret
       refine⟨?_,HBW.out⟩
       have hr:=HRk.out
       clear HRk
       simp_all
     ·have HRk:Hid (R=(S4&&((x:Int)==0)&&((y:Int)==0))):=zb (by rw[HR.out];show((List.range 4).any (fun v=>P v&&Q v)&&(x==0)&&(y==0))=_;rw[←HS4.out,hxb.out,hyb.out])
      clear HR HPX HQX HQY HS4 hxb hyb HC HP HQ
      go_wp2_with fail
      all_goals
       go_ret
       refine⟨?_,HBW.out⟩
       have hr:=HRk.out
       clear HRk
       simp_all
     ·have HR5:Hid (R=((List.range 4).any (fun v=>P v&&false)&&((x:Int)==0))):=zb (by rw[HR.out];show((List.range 4).any (fun v=>P v&&Q y)&&(x==0))=_;rw[←HQY.out,hxb.out])
      clear HR HPX HQX HQY HS4 hxb hyb HP HQ
      go_wp2_with fail
      go_loopg [14] 4 (fun g vv wr=>PlRel2 P false W g vv wr)
      case atStart=>exact⟨0,by omega,by omega,rfl,rfl,rfl⟩
      case round =>
       obtain⟨k,hk4,hgk,rfl,hno,hwr⟩:=hrel
       have hwr':=hwr.symm
       subst hwr'
       by_cases hkn:k<4
       ·have hki:(k:Int)<4:=by omega
        obtain⟨cp,_⟩:=HC.out k hkn
        have HAN:Hid ((List.range (k+1)).any (fun v=>P v&&false)=(P k&&false)):=zb (by rw[any_upto,hno,Bool.false_or])
        obtain⟨pk,hpk⟩:∃b,b=P k:=⟨_,rfl⟩
        have HPK:=zb hpk
        rw[←hpk]at cp
        clear hpk hno
        have hgp:0<gk:=by omega
        cases pk
        ·go_wp2_with fail
         go_roundg (gk-1)
         case measure=>omega
         case rel=>exact⟨k+1,by omega,by omega,by go_num,by rw[HAN.out,←HPK.out];rfl,rfl⟩
        ·go_wp2_with fail
         go_roundg (gk-1)
         case measure=>omega
         case rel=>exact⟨k+1,by omega,by omega,by go_num,by rw[HAN.out,Bool.and_false],rfl⟩
       ·obtain rfl:k=4:=by omega
        go_wp2_with fail
        go_ret
        have hr:R=false:=by rw[HR5.out,hno];rfl
        exact⟨(show _=Ending.returned (.bool false) from rfl).trans (by rw[hr]),HBW.out⟩
     ·have HRk:Hid (R=(((x:Int)==0)&&((y:Int)==0))):=zb (by rw[HR.out];show((x==0)&&(y==0))=_;rw[hxb.out,hyb.out])
      clear HR HPX HQX HQY HS4 hxb hyb HC HP HQ
      go_wp2_with fail
      all_goals
       go_ret
       refine⟨?_,HBW.out⟩
       have hr:=HRk.out
       clear HRk
       simp_all
def verB (F:zh)(B:List Bt):List Ver:=q0D F (ptsB B) 0 B.length
theorem verB_len (F:zh)(B:List Bt):(verB F B).length=B.length:=by
 unfold verB
 rw[q1W]
 omega
theorem verB_at (F:zh)(B:List Bt)(i:Nat)(h:i<(verB F B).length):(verB F B)[i]=verR F (ptsB B) i:=by
 unfold verB q0D
 simp
theorem beats_oks (s:By)(k:Nat)(h:k<((beatsK s).map linB).length):LinOk (q0A (((beatsK s).map linB).take k)) (((beatsK s).map txB)[k]'(by simpa using h)).2.2.2 ((beatsK s).map linB)[k]:=by
 have hlen:=beats_len s
 have hok:BtOk 0 (beatsK s):=bts_ok s _ _ _
 have hk:=(bt_chain (beatsK s) 0 0 0 [] hok .nil rfl (by omega) (by omega) (fun e=>absurd e (by omega)) (by omega)).1 k (by simpa using h)
 rw[List.map_take]at hk
 simp only[List.getElem_map]
 exact hk
theorem kep_runB (F:zh)(hF:FineB F 8 240)(s:By)(base:Nat)(v:Value)(w:World)(hv:w.ownsRow base 44 4 v (beatsK s).length (q1U ((beatsK s).map txB))) :
  Calls Tryz.prog 24 #[bs (zy F),v] w fun e w'=>∃u,e=.returned (.tuple #[u,.bool true])∧w'.ownsRow w.heap.size 49 12 u (beatsK s).length (qn (verB F (beatsK s)))∧Below w.heap.size w w':=by
 obtain⟨hc,hb⟩:=j0O hF.fine hF.hgt hF.len
 have hlen:=beats_len s
 have hl:=hF.len
 refine(kep_run (zy F) (by rw[hc]) (by unfold maxLen;omega) ((beatsK s).map txB) ((beatsK s).map linB) (by simp) (beats_oks s) (by simp;omega) base v w (by rw[List.length_map];exact hv)).mono ?_
 rintro e w' ⟨u,rfl,h1,h2⟩
 refine⟨u,rfl,?_,h2⟩
 rw[j9Z hb,List.length_map]at h1
 exact h1
theorem bt_all:∀(X:List Bt) (t:Nat),BtOk t X→∀(j:Nat) (b:Bt),X[j]?=some b→b.bits.length=4∧b.time≤t+3*(j+1):=by
 intro X
 induction X with
 |nil=>intro t _ j b h;simp at h
 |cons x r ih =>
  intro t hc j b h
  obtain⟨c1,c2,c3,c4⟩:=hc
  cases j with
  |zero =>
   simp only[List.getElem?_cons_zero,Option.some.injEq]at h
   subst h
   exact⟨c3,by omega⟩
  |succ j =>
   obtain⟨h1,h2⟩:=ih x.time c4 j b (by simpa using h)
   exact⟨h1,by omega⟩
theorem beats_tm (s:By)(j:Nat):tmB (beatsK s) j≤1000:=by
 unfold tmB
 cases e:(beatsK s)[j]? with
 |none=>exact zZ _
 |some b =>
  have hlen:=beats_len s
  have hj:=(List.getElem?_eq_some_iff.1 e).1
  have:=(bt_all _ 0 (bts_ok s _ _ _) j b e).2
  show b.time≤1000
  omega
theorem beats_bits (s:By)(j x:Nat)(hx:4≤x):pB (btAt (beatsK s) j) x=false∧qB00 (btAt (beatsK s) j) x=false:=by
 unfold btAt
 cases e:(beatsK s)[j]? with
 |none=>exact⟨rfl,rfl⟩
 |some b =>
  have h4:=(bt_all _ 0 (bts_ok s _ _ _) j b e).1
  show pB b.bits x=false∧qB00 b.bits x=false
  unfold pB qB00
  rw[List.getD_eq_getElem?_getD,List.getElem?_eq_none (by omega)]
  exact⟨rfl,rfl⟩
theorem fine_px:FineB (pF [120]) 1 6:=fine_ev1 0 0
theorem fine_qx:FineB (qF00 [120]) 1 6:=fine_ev1 1 0
theorem fine_qy:FineB (qF00 [121]) 1 6:=fine_ev1 1 1
theorem text_px:zy (pF [120])=[112,40,120,41]:=by decide
theorem text_qx:zy (qF00 [120])=[113,40,120,41]:=by decide
theorem kn_text (op lo hi:Nat)(hop:op<8):zy (knF op lo hi)=opW op++[91]++Lib.decDigits lo++[44]++Lib.decDigits hi++[93,40]++(if op<4 then [112,40,120,41,41]else [112,40,120,41,44,113,40,120,41,41]):=by
 by_cases h:op<4
 ·rw[if_pos h]
  unfold knF
  rw[if_pos h]
  have:op=0∨op=1∨op=2∨op=3:=by omega
  have hw:qE (opW op)=true:=by rcases this with rfl|rfl|rfl|rfl<;>decide
  rw[j6l hw _ _ _ 0,text_px]
  simp[q2E]
 ·rw[if_neg h]
  unfold knF
  rw[if_neg h]
  have:op=4∨op=5∨op=6∨op=7:=by omega
  have hw:qB (opW op)=true:=by rcases this with rfl|rfl|rfl|rfl<;>decide
  rw[j6m hw _ _ _ _ 0,text_px,text_qx]
  simp[q2E]
theorem opW_len (op:Nat):(opW op).length≤8:=by
 unfold opW
 repeat' split
 all_goals decide
theorem kn_fine (op lo hi:Nat)(hop:op<8)(hle:lo≤hi)(hhi:hi≤99):FineB (knF op lo hi) 8 240:=by
 have hs:=dec_span hle hhi
 refine⟨?_,?_,?_⟩
 ·by_cases h:op<4
  ·unfold knF
   rw[if_pos h]
   have:op=0∨op=1∨op=2∨op=3:=by omega
   exact fineG_one fine_px.fine _ _ _ (by rcases this with rfl|rfl|rfl|rfl<;>decide) hs
  ·unfold knF
   rw[if_neg h]
   have:op=4∨op=5∨op=6∨op=7:=by omega
   exact fineG_two fine_px.fine fine_qx.fine _ _ _ (by rcases this with rfl|rfl|rfl|rfl<;>decide) hs (by decide) (by decide)
 ·unfold knF
  split<;>simp[opF,hgt,evF]
 ·rw[kn_text op lo hi hop]
  have h1:=opW_len op
  have h2:=(dec_small (u:=lo) (by omega)).1
  have h3:=(dec_small hhi).1
  simp only[List.length_append]
  split<;>simp<;>omega
theorem kn_free (op lo hi:Nat)(hop:op<8):zg (knF op lo hi) [120]=true∧zg (knF op lo hi) [121]=false:=by
 have hop':op=0∨op=1∨op=2∨op=3∨op=4∨op=5∨op=6∨op=7:=by omega
 have hp:pF [120]≠.nil:=fun e=>by cases e
 have fp:zg (pF [120]) [120]=true∧zg (pF [120]) [121]=false:=⟨by decide,by decide⟩
 have fq:zg (qF00 [120]) [121]=false:=by decide
 have hw:(opW op==[101,120,105,115,116,115])=false:=by rcases hop' with rfl|rfl|rfl|rfl|rfl|rfl|rfl|rfl<;>decide
 unfold knF
 split
 ·rw[free_one hp hw,free_one hp hw]
  exact fp
 ·rw[q7j hp hw,q7j hp hw,fp.1,fp.2,fq]
  exact⟨rfl,rfl⟩
theorem meets_none {op lo hi:Nat}{T:Nat→Nat}{P Q:Nat→Bool}{n i:Nat}(hP:∀j,P j=false)(hQ:∀j,Q j=false):meetsR op lo hi T P Q n i=false:=by
 rw[←Bool.not_eq_true,meets_iff]
 rintro⟨j,_,h⟩
 have h5:=((met_iff ..).1 h).2.2.2.2
 split at h5
 ·rw[hQ]at h5;exact absurd h5.1 (by decide)
 ·rw[hP]at h5;exact absurd h5 (by decide)
theorem known_ver (s:By)(op lo hi:Nat)(hop:op<8)(hhi:hi≤99)(i:Nat)(hin:i<(beatsK s).length):(∀x,(verR (knF op lo hi) (ptsB (beatsK s)) i).2.2 x 0=(if x<4 then meetsR op lo hi (tmB (beatsK s)) (fun j=>pB (btAt (beatsK s) j) x) (fun j=>qB00 (btAt (beatsK s) j) x) (beatsK s).length i else false))∧∀x,x<10→0≤zm (verR (knF op lo hi) (ptsB (beatsK s)) i).2.2 x∧zm (verR (knF op lo hi) (ptsB (beatsK s)) i).2.2 x≤1:=by
 obtain⟨fx,fy⟩:=kn_free op lo hi hop
 have e:(verR (knF op lo hi) (ptsB (beatsK s)) i).2.2=q6M true false (zs (ptsB (beatsK s)) (knF op lo hi) i):=by
  show q6M (zg (knF op lo hi) [120]) (zg (knF op lo hi) [121]) _=_
  rw[fx,fy]
 rw[e]
 constructor
 ·intro x
  have h:=known_holds s op lo hi hop hhi i x 0
  have e2:q6M true false (zs (ptsB (beatsK s)) (knF op lo hi) i) x 0=zs (ptsB (beatsK s)) (knF op lo hi) i x 0:=by
   unfold q6M
   simp
  rw[e2]
  have e3:zs (ptsB (beatsK s)) (knF op lo hi) i x 0=meetsR op lo hi (tmB (beatsK s)) (fun j=>pB (btAt (beatsK s) j) x) (fun j=>qB00 (btAt (beatsK s) j) x) (beatsK s).length i:=by
   rw[Bool.eq_iff_iff,h]
   exact⟨fun q=>q.2,fun q=>⟨hin,q⟩⟩
  rw[e3]
  by_cases hx:x<4
  ·rw[if_pos hx]
  ·rw[if_neg hx]
   exact meets_none (fun j=>(beats_bits s j x (by omega)).1) (fun j=>(beats_bits s j x (by omega)).2)
 ·intro x hx
  have f:=fit_nar true false (zs (ptsB (beatsK s)) (knF op lo hi) i)
  exact⟨(f.lt x hx).1,f.one rfl x hx⟩
def plF (k:Nat):zh:=if k=0 then opF wAnd [] [] (pF [120]) (qF00 [121])else if k=1 then opF wAnd [] [] (pF [120]) (qF00 [120])else if k=2 then opF wOr [] [] (pF [120]) (qF00 [120])else if k=3 then opF wBut [] [] (pF [120]) (qF00 [120])else if k=4 then exF [120] (opF wAnd [] [] (pF [120]) (qF00 [120]))else if k=5 then exF [120] (opF wAnd [] [] (pF [120]) (qF00 [121]))else q7c
def plT (k:Nat):By:=if k=0 then [97,110,100,40,112,40,120,41,44,113,40,121,41,41]else if k=1 then [97,110,100,40,112,40,120,41,44,113,40,120,41,41]else if k=2 then [111,114,40,112,40,120,41,44,113,40,120,41,41]else if k=3 then [98,117,116,40,112,40,120,41,44,113,40,120,41,41]else if k=4 then [101,120,105,115,116,115,32,120,40,97,110,100,40,112,40,120,41,44,113,40,120,41,41,41]else if k=5 then [101,120,105,115,116,115,32,120,40,97,110,100,40,112,40,120,41,44,113,40,121,41,41,41]else [116,114,117,101]
theorem st_text (k:Nat):zy (plF k)=plT k:=by
 unfold plF plT
 repeat' split
 all_goals decide
theorem st_fine (k:Nat):FineB (plF k) 8 240:=by
 have a0:=q6c fine_px fine_qy wAnd (by decide) (.inl rfl)
 have a1:=q6c fine_px fine_qx wAnd (by decide) (.inl rfl)
 unfold plF
 split
 ·exact a0.mono (by omega) (by omega)
 ·split
  ·exact a1.mono (by omega) (by omega)
  ·split
   ·exact(q6c fine_px fine_qx wOr (by decide) (.inr ⟨by decide,by decide⟩)).mono (by omega) (by omega)
   ·split
    ·exact(q6c fine_px fine_qx wBut (by decide) (.inr ⟨by decide,by decide⟩)).mono (by omega) (by omega)
    ·split
     ·exact(j7S a1 [120] (by decide) (by decide)).mono (by omega) (by omega)
     ·split
      ·exact(j7S a0 [120] (by decide) (by decide)).mono (by omega) (by omega)
      ·exact j8H.mono (by omega) (by omega)
theorem hold_ex (L:List LPt)(A:zh)(i x z:Nat):zs L (exF [120] A) i x z=(decide (i<L.length)&&(List.range 10).any (fun v=>zs L A i v z)):=by
 show(decide (i<L.length)&&qz (zz 0 0 0 ⟨[101,120,105,115,116,115],[[120]],[],[]⟩ A .nil) L (zs L A) (zs L .nil) i x z)=_
 have hk:(zz 0 0 0 ⟨[101,120,105,115,116,115],[[120]],[],[]⟩ A .nil).kind=9:=by show zp [101,120,105,115,116,115]=9;decide
 have hv:(zz 0 0 0 ⟨[101,120,105,115,116,115],[[120]],[],[]⟩ A .nil).var=3:=by
  show(if exB [101,120,105,115,116,115]then zp (([[120]]:List (By)).getD 0 [])else 0)=3
  decide
 unfold qz
 rw[hk,hv]
 rfl
theorem any_10 {f:Nat→Bool}(h:∀v,4≤v→f v=false):(List.range 10).any f=(List.range 4).any f:=by
 have e:List.range 10=List.range 4++[4,5,6,7,8,9]:=by decide
 rw[e,List.any_append]
 simp[h]
theorem still_ver (s:By)(k i:Nat)(hin:i<(beatsK s).length)(x y:Nat):(verR (plF k) (ptsB (beatsK s)) i).2.2 x y=plainR k (pB (btAt (beatsK s) i)) (qB00 (btAt (beatsK s) i)) x y:=by
 have hp:∀a b,zs (ptsB (beatsK s)) (pF [120]) i a b=pB (btAt (beatsK s) i) a:=fun a b=>by
  rw[hold_ev s 112 (.inl rfl) [120] (.inl rfl)]
  simp
 have hq:∀a b,zs (ptsB (beatsK s)) (qF00 [120]) i a b=qB00 (btAt (beatsK s) i) a:=fun a b=>by
  rw[hold_ev s 113 (.inr rfl) [120] (.inl rfl)]
  simp
 have hy:∀a b,zs (ptsB (beatsK s)) (qF00 [121]) i a b=qB00 (btAt (beatsK s) i) b:=fun a b=>by
  rw[hold_ev s 113 (.inr rfl) [121] (.inr rfl)]
  simp
 have hL:decide (i<(ptsB (beatsK s)).length)=true:=decide_eq_true (by rw[ptsB_len];exact hin)
 have hb:=fun v h=>beats_bits s i v h
 show q6M (zg (plF k) [120]) (zg (plF k) [121]) (zs (ptsB (beatsK s)) (plF k) i) x y=_
 generalize pB (btAt (beatsK s) i)=P at *
 generalize qB00 (btAt (beatsK s) i)=Q at *
 generalize ptsB (beatsK s)=L at *
 have fr:∀w:By,w=wAnd∨w=wOr∨w=wBut→zg (opF w [] [] (pF [120]) (qF00 [121])) [120]=true∧zg (opF w [] [] (pF [120]) (qF00 [121])) [121]=true∧zg (opF w [] [] (pF [120]) (qF00 [120])) [120]=true∧zg (opF w [] [] (pF [120]) (qF00 [120])) [121]=false:=by
  intro w hw
  rcases hw with rfl|rfl|rfl<;>decide
 have fe:zg (exF [120] (opF wAnd [] [] (pF [120]) (qF00 [120]))) [120]=false∧zg (exF [120] (opF wAnd [] [] (pF [120]) (qF00 [120]))) [121]=false∧zg (exF [120] (opF wAnd [] [] (pF [120]) (qF00 [121]))) [120]=false∧zg (exF [120] (opF wAnd [] [] (pF [120]) (qF00 [121]))) [121]=true:=by decide
 unfold plF plainR
 by_cases h0:k=0
 ·simp only[h0,if_true]
  obtain⟨f1,f2,_,_⟩:=fr wAnd (.inl rfl)
  rw[f1,f2]
  unfold q6M
  rw[q8z,hL,hp,hy]
  simp
 simp only[h0,if_false]
 by_cases h1:k=1
 ·simp only[h1,if_true]
  obtain⟨_,_,f1,f2⟩:=fr wAnd (.inl rfl)
  rw[f1,f2]
  unfold q6M
  rw[q8z,hL,hp,hq]
  simp
 simp only[h1,if_false]
 by_cases h2:k=2
 ·simp only[h2,if_true]
  obtain⟨_,_,f1,f2⟩:=fr wOr (.inr (.inl rfl))
  rw[f1,f2]
  unfold q6M
  rw[hold_or,hL,hp,hq]
  simp
 simp only[h2,if_false]
 by_cases h3:k=3
 ·simp only[h3,if_true]
  obtain⟨_,_,f1,f2⟩:=fr wBut (.inr (.inr rfl))
  rw[f1,f2]
  unfold q6M
  rw[q8A,hL,hp,hq]
  simp
 simp only[h3,if_false]
 by_cases h4:k=4
 ·simp only[h4,if_true]
  rw[fe.1,fe.2.1]
  unfold q6M
  have e:(fun v=>zs L (opF wAnd [] [] (pF [120]) (qF00 [120])) i v y)=fun v=>P v&&Q v:=by
   funext v
   rw[q8z,hL,hp,hq,Bool.true_and]
  rw[hold_ex,hL,e,any_10 (fun v hv=>by rw[(hb v hv).1];rfl)]
  simp
 simp only[h4,if_false]
 by_cases h5:k=5
 ·simp only[h5,if_true]
  rw[fe.2.2.1,fe.2.2.2]
  unfold q6M
  have e:(fun v=>zs L (opF wAnd [] [] (pF [120]) (qF00 [121])) i v y)=fun v=>P v&&Q y:=by
   funext v
   rw[q8z,hL,hp,hy,Bool.true_and]
  rw[hold_ex,hL,e,any_10 (fun v hv=>by rw[(hb v hv).1];rfl)]
  simp
 simp only[h5,if_false]
 unfold q6M
 rw[q9t,hL]
 rfl
theorem kep_meets (s:By)(op lo hi:Nat)(hop:op<8)(i:Nat)(hin:i<(beatsK s).length)(v:Nat)(hv:v<4)(base g c:Nat)(w:World)(hrow:w.ownsRow base 100 9 (.slice (some ⟨g,0,none⟩) (beatsK s).length c) (beatsK s).length (btCells (beatsK s))) :
  Calls Tryz.prog 25 #[.slice (some ⟨g,0,none⟩) (beatsK s).length c,.int .i64 op,.int .i64 lo,.int .i64 hi,.int .i64 i,.int .i64 v] w fun e w'=>e=.returned (.bool (meetsR op lo hi (tmB (beatsK s)) (fun j=>pB (btAt (beatsK s) j) v) (fun j=>qB00 (btAt (beatsK s) j) v) (beatsK s).length i))∧Below w.heap.size w w':=by
 have hlen:=beats_len s
 have hcn:(beatsK s).length≤c∧c≤maxLen:=by
  rcases hrow.2 with⟨h',_⟩|⟨g',cap,cur,h',h2,h3,h4,h5,_⟩
  ·simp at h'
  ·simp only[Value.slice.injEq]at h'
   obtain⟨_,_,rfl⟩:=h'
   exact⟨h4,h5⟩
 have hC:∀W,Below w.heap.size w W→∀j,j<(beatsK s).length→W.cell? ⟨g,j*9,none⟩=some (.int .i64 (tmB (beatsK s) j))∧W.cell? ⟨g,j*9+1+v,none⟩=some (.bool (pB (btAt (beatsK s) j) v))∧W.cell? ⟨g,j*9+5+v,none⟩=some (.bool (qB00 (btAt (beatsK s) j) v)):=fun W hB j hj=>bt_cell (zo hrow hB) hj hv
 have hT:∀j,j<(beatsK s).length→tmB (beatsK s) j≤1000:=fun j _=>beats_tm s j
 have hop':op=0∨op=1∨op=2∨op=3∨op=4∨op=5∨op=6∨op=7:=by omega
 rcases hop' with rfl|rfl|rfl|rfl|rfl|rfl|rfl|rfl
 ·exact kep_meets0' _ _ _ _ (by omega) lo hi i hin v hv g c hcn w hC hT
 ·exact kep_meets1' _ _ _ _ (by omega) lo hi i hin v hv g c hcn w hC hT
 ·exact kep_meets2' _ _ _ _ (by omega) lo hi i hin v hv g c hcn w hC hT
 ·exact kep_meets3' _ _ _ _ (by omega) lo hi i hin v hv g c hcn w hC hT
 ·exact kep_meets4' _ _ _ _ (by omega) lo hi i hin v hv g c hcn w hC hT
 ·exact kep_meets5' _ _ _ _ (by omega) lo hi i hin v hv g c hcn w hC hT
 ·exact kep_meets6' _ _ _ _ (by omega) lo hi i hin v hv g c hcn w hC hT
 ·exact kep_meets7' _ _ _ _ (by omega) lo hi i hin v hv g c hcn w hC hT
theorem opW_at (op:Nat)(hop:op<8):(#[bs (opW 0),bs (opW 1),bs (opW 2),bs (opW 3),bs (opW 4),bs (opW 5),bs (opW 6),bs (opW 7)]:Array Value)[op]?=some (bs (opW op)):=by
 have hop':op=0∨op=1∨op=2∨op=3∨op=4∨op=5∨op=6∨op=7:=by omega
 rcases hop' with rfl|rfl|rfl|rfl|rfl|rfl|rfl|rfl<;>rfl
theorem stT_at (k:Nat)(hk:k<7):(#[bs (plT 0),bs (plT 1),bs (plT 2),bs (plT 3),bs (plT 4),bs (plT 5),bs (plT 6)]:Array Value)[k]?=some (bs (plT k)):=by
 have hk':k=0∨k=1∨k=2∨k=3∨k=4∨k=5∨k=6:=by omega
 rcases hk' with rfl|rfl|rfl|rfl|rfl|rfl|rfl<;>rfl
theorem bt_whole {w:World}{base g c:Nat}{X:List Bt}(h:w.ownsRow base 100 9 (.slice (some ⟨g,0,none⟩) X.length c) X.length (btCells X)){k:Nat}(hk:k<X.length):(Instr.loadAt 100 (.pointer (some ⟨g,k*9,none⟩))).run Tryz.prog w=.ok (.agg (btA (tmB X k) (pB (btAt X k)) (qB00 (btAt X k)))) w:=by
 have e1:tmB X k=X[k].time∧btAt X k=X[k].bits:=by
  unfold tmB btAt
  rw[zG hk]
  exact⟨rfl,rfl⟩
 rw[e1.1,e1.2]
 refine run_loadAt_mid w g (k*9) 100 (btCs X[k]) _ (fun j v hv=>?_) Tryz.underlying100 rfl (by kernel_rfl)
 have hj:j<9:=(List.getElem?_eq_some_iff.1 hv).1
 rw[h.cellAt _ (by omega),bt_at X k hk j hj]
 exact hv
end Go.Proofs.YtiamjjonoeaggaaGreatDoor
