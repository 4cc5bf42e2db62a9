import Derived.Test.YtiamjjonoeaggabGreatDoorGA
import Derived.Test.YtiamjjonoeaggabGreatDoorGB
import Derived.Test.YtiamjjonoeaggabGreatDoorG18
set_option maxRecDepth 100000
set_option maxHeartbeats 16000000
namespace Go.Proofs.YtiamjjonoeaggabGreatDoor
open Go.RowKit
theorem cutW {P:World→Prop}{G:Prop}(R:World→Prop)(h:(∀W,R W→P W)→G)(k:∀W,R W→P W):G:=h k
def FdRel (w:World)(nd:PNode)(lb lo:Nat)(vf vs:Value)(bk:Nat)(F Kp:Nat→Nat→Nat→Bool)(pos:Nat→Int)(n:Nat)(g:Nat)(vj:Value)(wr:World):Prop:=
 ∃k:Nat,k≤n∧n-k≤g∧vj=.int .i64 (pos k)∧FdAt w wr nd lb lo vf vs bk (F k) (Kp k)
theorem q1G {W:World}{b:Nat}{nd:PNode}{lb lo:Nat}{vf vs:Value}(g:W.heap[b]?=some (.cells (q1a nd lb lo vf vs).toArray 168 (0,0))):W.cell? ⟨b,22,none⟩=some (.pointer (some ⟨lb,lo,none⟩))∧W.cell? ⟨b,16,none⟩=some (.int .i64 nd.sat)∧W.cell? ⟨b,17,none⟩=some (.int .i64 nd.slo)∧W.cell? ⟨b,18,none⟩=some (.int .i64 nd.shi)∧W.cell? ⟨b,19,none⟩=some (.bool nd.sop):=by
 refine⟨?_,?_,?_,?_,?_⟩
 ·rw[q0I g 22];rfl
 ·rw[q0I g 16];rfl
 ·rw[q0I g 17];rfl
 ·rw[q0I g 18];rfl
 ·rw[q0I g 19];rfl
theorem j2H (V:Value)(nd:PNode)(lb lo:Nat)(ao:OA)(cap:Nat)(PL:List PPt)(vf vs:Value)(hV:V=.agg (q1a nd lb lo vf vs).toArray)(mA mB:Nat)(A B:Nat→Nat→Nat→Bool)(i:Nat)(hi:i<PL.length)(posN:Nat→Nat)(pos:Nat→Int)(n:Nat)
  (hp:∀k,k<n→pos k=(posN k:Int)∧posN k<PL.length)(hps:∀k,pos (k+1)=pos k+(if q4z nd.kind=true then -1 else 1))(hpe:pos n<0∨(PL.length:Int)≤pos n)(hp0:pos 0=(i:Int))(hpb:∀k,k≤n→-1≤pos k∧pos k≤41)(w:World)(h:VwAt w lb lo ao cap PL vf vs mA mB A B) :
  Calls Tryz.prog 140 #[V,.int .i64 i] w fun e w'=>e=.returned (zr (zm fun x y=>q4D (fun j=>q1N nd (q0G (zz PL) i j)) (q1R nd A B x y) (q0S nd A x y) posN n))∧Below w.heap.size w w':=by
 have HV:=zb hV
 have HVW:=zb h
 have HP:=zb hp
 have HPS:=zb hps
 have HPE:=zb hpe
 have HP0:=zb hp0
 have HPB:=zb hpb
 have HI:=zb hi
 have hsm:=h.log.small
 obtain⟨F,hF⟩:∃F:Nat→Nat→Nat→Bool,F=fun k x y=>q4D (fun j=>q1N nd (q0G (zz PL) i j)) (q1R nd A B x y) (q0S nd A x y) posN k:=⟨_,rfl⟩
 obtain⟨Kp,hK⟩:∃Kp:Nat→Nat→Nat→Bool,Kp=fun k x y=>q8f (q0S nd A x y) posN k:=⟨_,rfl⟩
 have HF0:Hid (F 0=fun _ _=>false):=zb (by rw[hF];funext x y;simp[q4D])
 have HK0:Hid (Kp 0=fun _ _=>true):=zb (by rw[hK];funext x y;simp[q8f])
 have HKS:Hid (∀k,Kp (k+1)=fun x y=>Kp k x y&&q0S nd A x y (posN k)):=zb (fun k=>by rw[hK];funext x y;simp only[];rw[j7l])
 have HFT:Hid (∀k,q1N nd (q0G (zz PL) i (posN k))=true→F (k+1)=fun x y=>F k x y || (Kp k x y&&q1R nd A B x y (posN k))):=zb (fun k hs=>by rw[hF,hK];funext x y;simp only[];rw[q7v,hs,Bool.true_and])
 have HFF:Hid (∀k,q1N nd (q0G (zz PL) i (posN k))=false→F (k+1)=F k):=zb (fun k hs=>by rw[hF];funext x y;simp only[];rw[q7v,hs,Bool.false_and,Bool.or_false])
 have hRR:(fun x y=>q4D (fun j=>q1N nd (q0G (zz PL) i j)) (q1R nd A B x y) (q0S nd A x y) posN n)=F n:=by rw[hF]
 rw[hRR]
 obtain⟨RV,hRV⟩:∃RV,RV=zr (zm (F n)):=⟨_,rfl⟩
 rw[←hRV]
 have HRV:=zb hRV
 clear hV h hp hps hpe hp0 hpb hi hF hK hRR hRV
 have HAL:=zb q3g
 obtain⟨UA,hUA⟩:∃UA,UA=zr (zm fun _ _=>true):=⟨_,rfl⟩
 rw[←hUA]at HAL
 have HUA:=zb hUA
 clear hUA
 have HDI:=zb (q8d nd.kind)
 obtain⟨stp,hstp⟩:∃z:Int,z=(if q4z nd.kind=true then -1 else 1):=⟨_,rfl⟩
 have hst1:-1≤stp∧stp≤1:=by rw[hstp];split<;>omega
 rw[←hstp]at HDI HPS
 clear hstp
 go_enter Tryz.func140,Tryz.ntmps140
 go_wp2_with (first|(refine qF rfl 168 (.tmp 0) rfl V _ rfl HV.out ?_;intro W0 g0 b0 z0;have HZ0:=zb z0;have HG0:=zb g0;have HB0:=zb b0;clear g0 z0 b0))
 have G1:=zN W0 (.cells zCs 43)
 have G2:=zN (W0.alloc (.cells zCs 43)) (.cells zCs 43)
 have G0:((W0.alloc (.cells zCs 43)).alloc (.cells zCs 43)).heap[w.heap.size]?=_:=(zO _ _ (by have:=HZ0.out;simp;omega)).trans ((zO _ _ (by have:=HZ0.out;omega)).trans HG0.out)
 have G1':((W0.alloc (.cells zCs 43)).alloc (.cells zCs 43)).heap[w.heap.size+1]?=some (.cells zCs 43 (0,0)):=by rw[←HZ0.out,zO _ _ (by simp)];exact G1
 have G2':((W0.alloc (.cells zCs 43)).alloc (.cells zCs 43)).heap[w.heap.size+2]?=some (.cells zCs 43 (0,0)):=by have e:w.heap.size+2=(W0.alloc (.cells zCs 43)).heap.size:=(by have:=HZ0.out;simp;omega);rw[e];exact G2
 have B1:Below w.heap.size w ((W0.alloc (.cells zCs 43)).alloc (.cells zCs 43)):=(HB0.out.alloc HB0.out.size _).alloc (by have:=HB0.out.size;simp;omega) _
 have Z1:((W0.alloc (.cells zCs 43)).alloc (.cells zCs 43)).heap.size=w.heap.size+3:=by have:=HZ0.out;simp;omega
 have ew0:W0.heap.size=w.heap.size+1:=HZ0.out
 clear G1 G2
 generalize (W0.alloc (.cells zCs 43)).alloc (.cells zCs 43)=W1 at *
 refine(HAL.out _).mono ?_
 rintro e w2 ⟨rfl,b2⟩
 obtain⟨W3,S3,g3,b3,z3⟩:=q0w w2 (zm fun _ _=>true)
 rw[←HUA.out]at S3
 have b13:Below W1.heap.size W1 W3:=b2.trans (b3.mono b2.size)
 have hF3:FdAt w W3 nd lb lo vf vs w2.heap.size (F 0) (Kp 0):=⟨(b13.block _ (by omega)).trans G0,(b13.block _ (by omega)).trans G1',by rw[HF0.out,q5Y (fun _ _=>rfl)];exact(b13.block _ (by omega)).trans G2',by rw[HK0.out];exact g3,B1.trans (b13.mono (by omega)),by have:=b2.size;omega⟩
 have HF3:=zb hF3
 have c0:=q0I hF3.view 0
 simp only[List.getElem?_cons_zero]at c0
 have hl3:w.heap.size<W3.heap.size:=zd hF3.view
 rw[ew0]
 clear b2 b3 g3 z3 b13 hF3 G0 G1' G2' B1 Z1 HZ0 HG0 HB0 ew0
 go_wp2_with (refine ze rfl 43 (.tmp 6) (.tmp 9) rfl ⟨w2.heap.size,0,none⟩ UA rfl rfl W3 S3 ?_)
 refine(HDI.out _).mono ?_
 rintro e w3 ⟨rfl,rfl⟩
 generalize w2.heap.size=bk at *
 clear S3 c0
 go_wp2_with fail
 go_loopg [8] n (fun g vj wr=>FdRel w nd lb lo vf vs bk F Kp pos n g vj wr)
 case atStart=>exact⟨0,zZ _,by omega,by rw[HP0.out],HF3.out⟩
 case round =>
  obtain⟨k,hk,hg,rfl,hfd⟩:=hrel
  have HG:=zb hg
  have HFD:=zb hfd
  have HPBk:=zb (HPB.out k hk)
  have vc:=q1G hfd.view
  obtain⟨c22,c16,c17,c18,c19⟩:=vc
  have hlw:w.heap.size<wr.heap.size:=zd hfd.view
  have hCo:=q7H lb lo ao cap PL wr (HVW.out.log.below hfd.bel)
  clear hg hfd HF3
  by_cases hkn:k<n
  ·obtain⟨hj,hjl⟩:=HP.out k hkn
   obtain⟨j,hjj⟩:∃z:Int,z=pos k:=⟨_,rfl⟩
   rw[←hjj]
   have HPJ:=zb hjj
   have HJ:Hid (j=(posN k:Int)):=zb (by rw[hjj,hj])
   have hj0:0≤j:=by rw[hjj,hj];omega
   have hj1:j<(PL.length:Int):=by rw[hjj,hj];omega
   clear hjj hj
   have HTI:Hid (∀W',Below wr.heap.size wr W'→Calls Tryz.prog 52 #[.pointer (some ⟨lb,lo,none⟩),.int .i64 i,.int .i64 j] W' fun e w'=>e=.returned (.int .i64 (q0G (zz PL) i (posN k)))∧Below W'.heap.size W' w'):=zb (fun W' hb=>by rw[HJ.out];exact q7e lb lo ao cap PL i (posN k) HI.out hjl W' ((HVW.out.log.below HFD.out.bel).below hb))
   have HIN:=zb (j5b (q0G (zz PL) i (posN k)) nd)
   have HKSk:=zb (HKS.out k)
   obtain⟨UK,hUK⟩:∃U,U=zr (zm (Kp k)):=⟨_,rfl⟩
   have HUK:=zb hUK
   obtain⟨UG,hUG⟩:∃U,U=zr (zm fun x y=>q0S nd A x y (posN k)):=⟨_,rfl⟩
   have HUG:=zb hUG
   obtain⟨UK2,hUK2⟩:∃U,U=zr (zm (Kp (k+1))):=⟨_,rfl⟩
   have HUK2:=zb hUK2
   have HBO:Hid (∀W',Calls Tryz.prog 135 #[UK,UG] W' fun e w'=>e=.returned UK2∧Below W'.heap.size W' w'):=zb (fun W'=>by rw[hUK,hUG,hUK2,HKSk.out];exact q6Y (Kp k) (fun x y=>q0S nd A x y (posN k)) W')
   clear hUK hUG hUK2
   cases hsp:q1N nd (q0G (zz PL) i (posN k))with
   |true =>
    rw[hsp]at HIN
    have hFk:=HFT.out k hsp
    obtain⟨UF,hUF⟩:∃U,U=zr (zm (F k)):=⟨_,rfl⟩
    have HUF:=zb hUF
    obtain⟨UO,hUO⟩:∃U,U=zr (zm fun x y=>q1R nd A B x y (posN k)):=⟨_,rfl⟩
    have HUO:=zb hUO
    obtain⟨UB,hUB⟩:∃U,U=zr (zm fun x y=>Kp k x y&&q1R nd A B x y (posN k)):=⟨_,rfl⟩
    obtain⟨UF2,hUF2⟩:∃U,U=zr (zm (F (k+1))):=⟨_,rfl⟩
    have HUF2:=zb hUF2
    have HBG:Hid (∀W',Calls Tryz.prog 135 #[UK,UO] W' fun e w'=>e=.returned UB∧Below W'.heap.size W' w'):=zb (fun W'=>by rw[HUK.out,hUO,hUB];exact q6Y (Kp k) (fun x y=>q1R nd A B x y (posN k)) W')
    have HEI:Hid (∀W',Calls Tryz.prog 137 #[UF,UB] W' fun e w'=>e=.returned UF2∧Below W'.heap.size W' w'):=zb (fun W'=>by rw[hUF,hUB,hUF2,hFk];exact q8r (F k) (fun x y=>Kp k x y&&q1R nd A B x y (posN k)) W')
    clear hUF hUO hUB hUF2 hFk hsp
    generalize q0G (zz PL) i (posN k)=dd at *
    go_wp2_with fail
    refine hCo.mono ?_
    rintro e wr' ⟨rfl,rfl⟩
    go_wp2_with fail
    go_region_held3 (fun w'=>w'.cell? ⟨w.heap.size,22,none⟩=some (.pointer (some ⟨lb,lo,none⟩))∧w'.cell? ⟨w.heap.size,16,none⟩=some (.int .i64 nd.sat)∧w'.cell? ⟨w.heap.size,17,none⟩=some (.int .i64 nd.slo)∧w'.cell? ⟨w.heap.size,18,none⟩=some (.int .i64 nd.shi)∧w'.cell? ⟨w.heap.size,19,none⟩=some (.bool nd.sop)) (first|go_keep|(exact q1G (HFD.out.below B3).view)|(exact q1G (HFD.out.below B4).view)) ((first|(go_at_call 52;refine(HTI.out _ ((zB _ _).drew)).mono ?_;rintro e w3 ⟨rfl,b3⟩;have B3:Below wr'.heap.size wr' w3:=((zB _ _).drew).trans b3)|(go_at_call 166;refine(HIN.out _).mono ?_;rintro e w4 ⟨rfl,b4⟩;have B4:Below wr'.heap.size wr' w4:=B3.trans (b4.mono B3.size))))
    have HF4:=zb (HFD.out.below B4)
    clear b3 B3 b4 B4 c22 c16 c17 c18 c19
    go_wp2_with fail
    obtain⟨W,hWd⟩:∃W:World,W=w4:=⟨_,rfl⟩
    rw[←hWd]at HF4
    rw[←hWd]
    clear hWd
    have HB0:Hid (Below W.heap.size W W.drew):=zb ((zB _ _).drew)
    have HS:Hid (∀w',Below W.heap.size W w'→(Instr.loadAt 168 (.pointer (some ⟨w.heap.size,0,none⟩))).run Tryz.prog w'=.ok V w'∧(Instr.loadAt 43 (.pointer (some ⟨bk,0,none⟩))).run Tryz.prog w'=.ok UK w'):=zb (fun w' hb=>⟨by rw[HV.out];exact q2I (HF4.out.below hb).view,by rw[HUK.out];exact qg (HF4.out.below hb).kep⟩)
    have HLF:Hid (∀w',Below W.heap.size W w'→(Instr.loadAt 43 (.pointer (some ⟨w.heap.size+2,0,none⟩))).run Tryz.prog w'=.ok UF w'):=zb (fun w' hb=>by rw[HUF.out];exact qg (HF4.out.below hb).fnd)
    have HGO:Hid (∀w',Below W.heap.size W w'→Calls Tryz.prog 167 #[V,.int .i64 j] w' fun e w''=>e=.returned UO∧Below w'.heap.size w' w''):=zb (fun w' hb=>by rw[HUO.out,HJ.out];exact hol_goal V nd lb lo vf vs HV.out mA mB HVW.out.szA HVW.out.szB A B (posN k) w' ((HVW.out.fst).below ((HF4.out.bel).trans (hb.mono (HF4.out.bel).size))) ((HVW.out.snd).below ((HF4.out.bel).trans (hb.mono (HF4.out.bel).size))))
    have FIN:Hid (∀w',Below W.heap.size W w'→∃WS,(Instr.storeAt 43 (.pointer (some ⟨w.heap.size+2,0,none⟩)) UF2).run Tryz.prog w'=.ok () WS∧((Instr.loadAt 168 (.pointer (some ⟨w.heap.size,0,none⟩))).run Tryz.prog WS=.ok V WS∧(Instr.loadAt 43 (.pointer (some ⟨bk,0,none⟩))).run Tryz.prog WS=.ok UK WS)∧FdAt w WS nd lb lo vf vs bk (F (k+1)) (Kp k)):=zb (fun w' hb=>by
     obtain⟨WS,q1,q2,q3⟩:=(HF4.out.below hb).setF (F (k+1))
     exact⟨WS,by rw[HUF2.out];exact q1,⟨by rw[HV.out];exact q2I q2.view,by rw[HUK.out];exact qg q2.kep⟩,q2⟩)
    refine wp_region_held_drew (S:=fun w'=>(Instr.loadAt 168 (.pointer (some ⟨w.heap.size,0,none⟩))).run Tryz.prog w'=.ok V w'∧(Instr.loadAt 43 (.pointer (some ⟨bk,0,none⟩))).run Tryz.prog w'=.ok UK w') (by kernel_rfl) (HS.out _ HB0.out) (fun _=>?_)
    refine wpAnyH_take (i:=1) (v:=UK) rfl (by kernel_rfl) (by kernel_rfl) (by kernel_rfl) (fun _ _ _ h=>h) (q0Q (by rfl) 43 (.tmp 6) rfl ⟨bk,0,none⟩ UK rfl (fun w h=>h.2)) (HS.out _ HB0.out) ?_
    simp only[Act.put,List.setIfInBounds_toArray]
    refine wpAnyH_take (i:=2) (v:=V) rfl (by kernel_rfl) (by kernel_rfl) (by kernel_rfl) (fun _ _ _ h=>h) (q0Q (by rfl) 168 (.tmp 2) rfl ⟨w.heap.size,0,none⟩ V rfl (fun w h=>h.1)) (HS.out _ HB0.out) ?_
    simp only[Act.put]
    refine wpAnyH_take (i:=3) (v:=.int .i64 j) rfl (by kernel_rfl) (by kernel_rfl) (by kernel_rfl) (fun _ _ _ h=>h) (Or.inl ⟨by rfl,fun w _=>by go_simp⟩) (HS.out _ HB0.out) ?_
    simp only[Act.put]
    apply cutW (fun WS=>FdAt w WS nd lb lo vf vs bk (F (k+1)) (Kp k))
    ·intro key
     refine zY (rs:=[0,4]) (by kernel_rfl) (by simp) ?_
     refine zR rfl (fun K hK=>?_) (zR rfl (fun K hK=>?_) zE)
     ·rw[if_pos (by rfl)]
      refine q0e 43 (.tmp 5) rfl ⟨w.heap.size+2,0,none⟩ UF rfl (HLF.out _ HB0.out) ?_
      refine hK.out _ _ (HS.out _ HB0.out) (fun _=>?_)
      clear hK K
      simp only[Act.put]
      refine rd1 4 rfl fun K hK=>?_
      go_simp
      refine(HGO.out _ HB0.out).mono ?_
      rintro e w5 ⟨rfl,b5⟩
      have Bb5:Below W.heap.size W w5:=(HB0.out).trans (b5.mono (HB0.out).size)
      go_simp
      refine hK.out _ _ (HS.out _ Bb5) (fun _=>?_)
      clear hK K b5
      refine rd1 5 rfl fun K hK=>?_
      go_simp
      refine(HBG.out _).mono ?_
      rintro e w6 ⟨rfl,b6⟩
      have Bb6:Below W.heap.size W w6:=(Bb5).trans (b6.mono (Bb5).size)
      go_simp
      refine hK.out _ _ (HS.out _ Bb6) (fun _=>?_)
      clear hK K b6
      refine rd1 6 rfl fun K hK=>?_
      go_simp
      refine(HEI.out _).mono ?_
      rintro e w7 ⟨rfl,b7⟩
      have Bb7:Below W.heap.size W w7:=(Bb6).trans (b7.mono (Bb6).size)
      go_simp
      refine hK.out _ _ (HS.out _ Bb7) (fun _=>?_)
      clear hK K b7
      obtain⟨WS,S1,HSW,PW⟩:=FIN.out _ Bb7
      refine rd1 7 rfl fun K hK=>?_
      refine qe 43 (.tmp 5) (.tmp 42) rfl ⟨w.heap.size+2,0,none⟩ UF2 rfl rfl WS S1 ?_
      refine hK.out _ _ HSW (fun _=>?_)
      clear hK K
      refine zD (by kernel_rfl) ?_ _
      simp only[Act.put]
      exact key WS PW
     ·rw[if_pos (by rfl)]
      go_simp
      refine(HGO.out _ HB0.out).mono ?_
      rintro e w5 ⟨rfl,b5⟩
      have Bb5:Below W.heap.size W w5:=(HB0.out).trans (b5.mono (HB0.out).size)
      go_simp
      refine hK.out _ _ (HS.out _ Bb5) (fun _=>?_)
      clear hK K b5
      refine zY (rs:=[0,5]) (by kernel_rfl) (by simp) ?_
      refine zR rfl (fun K hK=>?_) (zR rfl (fun K hK=>?_) zE)
      ·rw[if_pos (by rfl)]
       refine q0e 43 (.tmp 5) rfl ⟨w.heap.size+2,0,none⟩ UF rfl (HLF.out _ Bb5) ?_
       refine hK.out _ _ (HS.out _ Bb5) (fun _=>?_)
       clear hK K
       simp only[Act.put]
       refine rd1 5 rfl fun K hK=>?_
       go_simp
       refine(HBG.out _).mono ?_
       rintro e w6 ⟨rfl,b6⟩
       have Bb6:Below W.heap.size W w6:=(Bb5).trans (b6.mono (Bb5).size)
       go_simp
       refine hK.out _ _ (HS.out _ Bb6) (fun _=>?_)
       clear hK K b6
       refine rd1 6 rfl fun K hK=>?_
       go_simp
       refine(HEI.out _).mono ?_
       rintro e w7 ⟨rfl,b7⟩
       have Bb7:Below W.heap.size W w7:=(Bb6).trans (b7.mono (Bb6).size)
       go_simp
       refine hK.out _ _ (HS.out _ Bb7) (fun _=>?_)
       clear hK K b7
       obtain⟨WS,S1,HSW,PW⟩:=FIN.out _ Bb7
       refine rd1 7 rfl fun K hK=>?_
       refine qe 43 (.tmp 5) (.tmp 42) rfl ⟨w.heap.size+2,0,none⟩ UF2 rfl rfl WS S1 ?_
       refine hK.out _ _ HSW (fun _=>?_)
       clear hK K
       refine zD (by kernel_rfl) ?_ _
       simp only[Act.put]
       exact key WS PW
      ·rw[if_pos (by rfl)]
       go_simp
       refine(HBG.out _).mono ?_
       rintro e w6 ⟨rfl,b6⟩
       have Bb6:Below W.heap.size W w6:=(Bb5).trans (b6.mono (Bb5).size)
       go_simp
       refine hK.out _ _ (HS.out _ Bb6) (fun _=>?_)
       clear hK K b6
       refine rd1 0 rfl fun K hK=>?_
       refine q0e 43 (.tmp 5) rfl ⟨w.heap.size+2,0,none⟩ UF rfl (HLF.out _ Bb6) ?_
       refine hK.out _ _ (HS.out _ Bb6) (fun _=>?_)
       clear hK K
       simp only[Act.put]
       refine rd1 6 rfl fun K hK=>?_
       go_simp
       refine(HEI.out _).mono ?_
       rintro e w7 ⟨rfl,b7⟩
       have Bb7:Below W.heap.size W w7:=(Bb6).trans (b7.mono (Bb6).size)
       go_simp
       refine hK.out _ _ (HS.out _ Bb7) (fun _=>?_)
       clear hK K b7
       obtain⟨WS,S1,HSW,PW⟩:=FIN.out _ Bb7
       refine rd1 7 rfl fun K hK=>?_
       refine qe 43 (.tmp 5) (.tmp 42) rfl ⟨w.heap.size+2,0,none⟩ UF2 rfl rfl WS S1 ?_
       refine hK.out _ _ HSW (fun _=>?_)
       clear hK K
       refine zD (by kernel_rfl) ?_ _
       simp only[Act.put]
       exact key WS PW
    intro WS PW
    have HF5:=zb PW
    clear PW HS HLF HGO FIN HB0 HF4
    go_wp2_with fail
    obtain⟨W,hWd⟩:∃W:World,W=WS:=⟨_,rfl⟩
    rw[←hWd]at HF5
    rw[←hWd]
    clear hWd
    have HB0:Hid (Below W.heap.size W W.drew):=zb ((zB _ _).drew)
    have HS:Hid (∀w',Below W.heap.size W w'→(Instr.loadAt 168 (.pointer (some ⟨w.heap.size,0,none⟩))).run Tryz.prog w'=.ok V w'):=zb (fun w' hb=>by rw[HV.out];exact q2I (HF5.out.below hb).view)
    have HLK:Hid (∀w',Below W.heap.size W w'→(Instr.loadAt 43 (.pointer (some ⟨bk,0,none⟩))).run Tryz.prog w'=.ok UK w'):=zb (fun w' hb=>by rw[HUK.out];exact qg (HF5.out.below hb).kep)
    have HGU:Hid (∀w',Below W.heap.size W w'→Calls Tryz.prog 168 #[V,.int .i64 j] w' fun e w''=>e=.returned UG∧Below w'.heap.size w' w''):=zb (fun w' hb=>by rw[HUG.out,HJ.out];exact j2I V nd lb lo vf vs HV.out mA HVW.out.szA A (posN k) w' ((HVW.out.fst).below ((HF5.out.bel).trans (hb.mono (HF5.out.bel).size))))
    have FIN:Hid (∀w',Below W.heap.size W w'→∃WS,(Instr.storeAt 43 (.pointer (some ⟨bk,0,none⟩)) UK2).run Tryz.prog w'=.ok () WS∧(Instr.loadAt 168 (.pointer (some ⟨w.heap.size,0,none⟩))).run Tryz.prog WS=.ok V WS∧FdAt w WS nd lb lo vf vs bk (F (k+1)) (Kp (k+1))):=zb (fun w' hb=>by
     obtain⟨WS,q1,q2,q3⟩:=(HF5.out.below hb).setK (Kp (k+1))
     exact⟨WS,by rw[HUK2.out];exact q1,by rw[HV.out];exact q2I q2.view,q2⟩)
    refine wp_region_held_drew (S:=fun w'=>(Instr.loadAt 168 (.pointer (some ⟨w.heap.size,0,none⟩))).run Tryz.prog w'=.ok V w') (by kernel_rfl) (HS.out _ HB0.out) (fun _=>?_)
    refine wpAnyH_take (i:=1) (v:=V) rfl (by kernel_rfl) (by kernel_rfl) (by kernel_rfl) (fun _ _ _ h=>h) (q0Q (by rfl) 168 (.tmp 2) rfl ⟨w.heap.size,0,none⟩ V rfl (fun w h=>h)) (HS.out _ HB0.out) ?_
    simp only[Act.put,List.setIfInBounds_toArray]
    refine wpAnyH_take (i:=2) (v:=.int .i64 j) rfl (by kernel_rfl) (by kernel_rfl) (by kernel_rfl) (fun _ _ _ h=>h) (Or.inl ⟨by rfl,fun w _=>by go_simp⟩) (HS.out _ HB0.out) ?_
    simp only[Act.put]
    refine zY (rs:=[0,3]) (by kernel_rfl) (by simp) ?_
    refine zR rfl (fun K hK=>?_) (zR rfl (fun K hK=>?_) zE)
    ·rw[if_pos (by rfl)]
     refine q0e 43 (.tmp 6) rfl ⟨bk,0,none⟩ UK rfl (HLK.out _ HB0.out) ?_
     refine hK.out _ _ (HS.out _ HB0.out) (fun _=>?_)
     clear hK K
     simp only[Act.put]
     refine rd1 3 rfl fun K hK=>?_
     go_simp
     refine(HGU.out _ HB0.out).mono ?_
     rintro e w5 ⟨rfl,b5⟩
     have Bb5:Below W.heap.size W w5:=(HB0.out).trans (b5.mono (HB0.out).size)
     go_simp
     refine hK.out _ _ (HS.out _ Bb5) (fun _=>?_)
     clear hK K b5
     refine rd1 4 rfl fun K hK=>?_
     go_simp
     refine(HBO.out _).mono ?_
     rintro e w6 ⟨rfl,b6⟩
     have Bb6:Below W.heap.size W w6:=(Bb5).trans (b6.mono (Bb5).size)
     go_simp
     refine hK.out _ _ (HS.out _ Bb6) (fun _=>?_)
     clear hK K b6
     obtain⟨WS,S1,HSW,PW⟩:=FIN.out _ Bb6
     refine rd1 5 rfl fun K hK=>?_
     refine qe 43 (.tmp 6) (.tmp 47) rfl ⟨bk,0,none⟩ UK2 rfl rfl WS S1 ?_
     refine hK.out _ _ HSW (fun _=>?_)
     clear hK K
     refine zD (by kernel_rfl) ?_ _
     simp only[Act.put]
     have hg1:0<gk:=by have:=HG.out;omega
     go_wp2_with fail
     go_roundg (gk-1)
     case measure=>omega
     case rel=>exact⟨k+1,by omega,by have:=HG.out;omega,by rw[HPS.out k,←HPJ.out],PW⟩
    ·rw[if_pos (by rfl)]
     go_simp
     refine(HGU.out _ HB0.out).mono ?_
     rintro e w5 ⟨rfl,b5⟩
     have Bb5:Below W.heap.size W w5:=(HB0.out).trans (b5.mono (HB0.out).size)
     go_simp
     refine hK.out _ _ (HS.out _ Bb5) (fun _=>?_)
     clear hK K b5
     refine rd1 0 rfl fun K hK=>?_
     refine q0e 43 (.tmp 6) rfl ⟨bk,0,none⟩ UK rfl (HLK.out _ Bb5) ?_
     refine hK.out _ _ (HS.out _ Bb5) (fun _=>?_)
     clear hK K
     simp only[Act.put]
     refine rd1 4 rfl fun K hK=>?_
     go_simp
     refine(HBO.out _).mono ?_
     rintro e w6 ⟨rfl,b6⟩
     have Bb6:Below W.heap.size W w6:=(Bb5).trans (b6.mono (Bb5).size)
     go_simp
     refine hK.out _ _ (HS.out _ Bb6) (fun _=>?_)
     clear hK K b6
     obtain⟨WS,S1,HSW,PW⟩:=FIN.out _ Bb6
     refine rd1 5 rfl fun K hK=>?_
     refine qe 43 (.tmp 6) (.tmp 47) rfl ⟨bk,0,none⟩ UK2 rfl rfl WS S1 ?_
     refine hK.out _ _ HSW (fun _=>?_)
     clear hK K
     refine zD (by kernel_rfl) ?_ _
     simp only[Act.put]
     have hg1:0<gk:=by have:=HG.out;omega
     go_wp2_with fail
     go_roundg (gk-1)
     case measure=>omega
     case rel=>exact⟨k+1,by omega,by have:=HG.out;omega,by rw[HPS.out k,←HPJ.out],PW⟩
   |false =>
    rw[hsp]at HIN
    have HFE:=zb (HFF.out k hsp)
    clear hsp
    generalize q0G (zz PL) i (posN k)=dd at *
    go_wp2_with fail
    refine hCo.mono ?_
    rintro e wr' ⟨rfl,rfl⟩
    go_wp2_with fail
    go_region_held3 (fun w'=>w'.cell? ⟨w.heap.size,22,none⟩=some (.pointer (some ⟨lb,lo,none⟩))∧w'.cell? ⟨w.heap.size,16,none⟩=some (.int .i64 nd.sat)∧w'.cell? ⟨w.heap.size,17,none⟩=some (.int .i64 nd.slo)∧w'.cell? ⟨w.heap.size,18,none⟩=some (.int .i64 nd.shi)∧w'.cell? ⟨w.heap.size,19,none⟩=some (.bool nd.sop)) (first|go_keep|(exact q1G (HFD.out.below B3).view)|(exact q1G (HFD.out.below B4).view)) ((first|(go_at_call 52;refine(HTI.out _ ((zB _ _).drew)).mono ?_;rintro e w3 ⟨rfl,b3⟩;have B3:Below wr'.heap.size wr' w3:=((zB _ _).drew).trans b3)|(go_at_call 166;refine(HIN.out _).mono ?_;rintro e w4 ⟨rfl,b4⟩;have B4:Below wr'.heap.size wr' w4:=B3.trans (b4.mono B3.size))))
    have HF4:=zb (HFD.out.below B4)
    clear b3 B3 b4 B4 c22 c16 c17 c18 c19
    go_wp2_with fail
    obtain⟨W,hWd⟩:∃W:World,W=w4:=⟨_,rfl⟩
    rw[←hWd]at HF4
    rw[←hWd]
    clear hWd
    have HB0:Hid (Below W.heap.size W W.drew):=zb ((zB _ _).drew)
    have HS:Hid (∀w',Below W.heap.size W w'→(Instr.loadAt 168 (.pointer (some ⟨w.heap.size,0,none⟩))).run Tryz.prog w'=.ok V w'):=zb (fun w' hb=>by rw[HV.out];exact q2I (HF4.out.below hb).view)
    have HLK:Hid (∀w',Below W.heap.size W w'→(Instr.loadAt 43 (.pointer (some ⟨bk,0,none⟩))).run Tryz.prog w'=.ok UK w'):=zb (fun w' hb=>by rw[HUK.out];exact qg (HF4.out.below hb).kep)
    have HGU:Hid (∀w',Below W.heap.size W w'→Calls Tryz.prog 168 #[V,.int .i64 j] w' fun e w''=>e=.returned UG∧Below w'.heap.size w' w''):=zb (fun w' hb=>by rw[HUG.out,HJ.out];exact j2I V nd lb lo vf vs HV.out mA HVW.out.szA A (posN k) w' ((HVW.out.fst).below ((HF4.out.bel).trans (hb.mono (HF4.out.bel).size))))
    have FIN:Hid (∀w',Below W.heap.size W w'→∃WS,(Instr.storeAt 43 (.pointer (some ⟨bk,0,none⟩)) UK2).run Tryz.prog w'=.ok () WS∧(Instr.loadAt 168 (.pointer (some ⟨w.heap.size,0,none⟩))).run Tryz.prog WS=.ok V WS∧FdAt w WS nd lb lo vf vs bk (F k) (Kp (k+1))):=zb (fun w' hb=>by
     obtain⟨WS,q1,q2,q3⟩:=(HF4.out.below hb).setK (Kp (k+1))
     exact⟨WS,by rw[HUK2.out];exact q1,by rw[HV.out];exact q2I q2.view,q2⟩)
    refine wp_region_held_drew (S:=fun w'=>(Instr.loadAt 168 (.pointer (some ⟨w.heap.size,0,none⟩))).run Tryz.prog w'=.ok V w') (by kernel_rfl) (HS.out _ HB0.out) (fun _=>?_)
    refine wpAnyH_take (i:=1) (v:=V) rfl (by kernel_rfl) (by kernel_rfl) (by kernel_rfl) (fun _ _ _ h=>h) (q0Q (by rfl) 168 (.tmp 2) rfl ⟨w.heap.size,0,none⟩ V rfl (fun w h=>h)) (HS.out _ HB0.out) ?_
    simp only[Act.put,List.setIfInBounds_toArray]
    refine wpAnyH_take (i:=2) (v:=.int .i64 j) rfl (by kernel_rfl) (by kernel_rfl) (by kernel_rfl) (fun _ _ _ h=>h) (Or.inl ⟨by rfl,fun w _=>by go_simp⟩) (HS.out _ HB0.out) ?_
    simp only[Act.put]
    refine zY (rs:=[0,3]) (by kernel_rfl) (by simp) ?_
    refine zR rfl (fun K hK=>?_) (zR rfl (fun K hK=>?_) zE)
    ·rw[if_pos (by rfl)]
     refine q0e 43 (.tmp 6) rfl ⟨bk,0,none⟩ UK rfl (HLK.out _ HB0.out) ?_
     refine hK.out _ _ (HS.out _ HB0.out) (fun _=>?_)
     clear hK K
     simp only[Act.put]
     refine rd1 3 rfl fun K hK=>?_
     go_simp
     refine(HGU.out _ HB0.out).mono ?_
     rintro e w5 ⟨rfl,b5⟩
     have Bb5:Below W.heap.size W w5:=(HB0.out).trans (b5.mono (HB0.out).size)
     go_simp
     refine hK.out _ _ (HS.out _ Bb5) (fun _=>?_)
     clear hK K b5
     refine rd1 4 rfl fun K hK=>?_
     go_simp
     refine(HBO.out _).mono ?_
     rintro e w6 ⟨rfl,b6⟩
     have Bb6:Below W.heap.size W w6:=(Bb5).trans (b6.mono (Bb5).size)
     go_simp
     refine hK.out _ _ (HS.out _ Bb6) (fun _=>?_)
     clear hK K b6
     obtain⟨WS,S1,HSW,PW⟩:=FIN.out _ Bb6
     refine rd1 5 rfl fun K hK=>?_
     refine qe 43 (.tmp 6) (.tmp 47) rfl ⟨bk,0,none⟩ UK2 rfl rfl WS S1 ?_
     refine hK.out _ _ HSW (fun _=>?_)
     clear hK K
     refine zD (by kernel_rfl) ?_ _
     simp only[Act.put]
     have hg1:0<gk:=by have:=HG.out;omega
     go_wp2_with fail
     go_roundg (gk-1)
     case measure=>omega
     case rel=>exact⟨k+1,by omega,by have:=HG.out;omega,by rw[HPS.out k,←HPJ.out],by rw[HFE.out];exact PW⟩
    ·rw[if_pos (by rfl)]
     go_simp
     refine(HGU.out _ HB0.out).mono ?_
     rintro e w5 ⟨rfl,b5⟩
     have Bb5:Below W.heap.size W w5:=(HB0.out).trans (b5.mono (HB0.out).size)
     go_simp
     refine hK.out _ _ (HS.out _ Bb5) (fun _=>?_)
     clear hK K b5
     refine rd1 0 rfl fun K hK=>?_
     refine q0e 43 (.tmp 6) rfl ⟨bk,0,none⟩ UK rfl (HLK.out _ Bb5) ?_
     refine hK.out _ _ (HS.out _ Bb5) (fun _=>?_)
     clear hK K
     simp only[Act.put]
     refine rd1 4 rfl fun K hK=>?_
     go_simp
     refine(HBO.out _).mono ?_
     rintro e w6 ⟨rfl,b6⟩
     have Bb6:Below W.heap.size W w6:=(Bb5).trans (b6.mono (Bb5).size)
     go_simp
     refine hK.out _ _ (HS.out _ Bb6) (fun _=>?_)
     clear hK K b6
     obtain⟨WS,S1,HSW,PW⟩:=FIN.out _ Bb6
     refine rd1 5 rfl fun K hK=>?_
     refine qe 43 (.tmp 6) (.tmp 47) rfl ⟨bk,0,none⟩ UK2 rfl rfl WS S1 ?_
     refine hK.out _ _ HSW (fun _=>?_)
     clear hK K
     refine zD (by kernel_rfl) ?_ _
     simp only[Act.put]
     have hg1:0<gk:=by have:=HG.out;omega
     go_wp2_with fail
     go_roundg (gk-1)
     case measure=>omega
     case rel=>exact⟨k+1,by omega,by have:=HG.out;omega,by rw[HPS.out k,←HPJ.out],by rw[HFE.out];exact PW⟩
  ·have hkn':k=n:=by omega
   subst hkn'
   obtain⟨W,S1,LV,BW⟩:=q1L HFD.out.res (by omega) HFD.out.bel (zB _ _) (zm (F k))
   have L5:=qg HFD.out.fnd
   rw[←HRV.out]at S1 LV L5
   have HW:=zb BW
   have hpk:=HPE.out
   obtain⟨j,hjj⟩:∃z:Int,z=pos k:=⟨_,rfl⟩
   rw[←hjj]at hpk ⊢
   have hjb:=HPBk.out
   rw[←hjj]at hjb
   clear hjj BW
   by_cases hj0:j<0
   ·clear hpk
    go_wp2_with (first|(refine zj rfl 43 (.tmp 5) rfl ⟨w.heap.size+2,0,none⟩ RV rfl L5 ?_)|(refine ze rfl 43 (.tmp 4) (.tmp 48) rfl ⟨w.heap.size+1,0,none⟩ RV rfl rfl W S1 ?_))
    exact zP (v:=RV) (zl rfl _ _ _ _ rfl LV) rfl ⟨rfl,HW.out⟩
   ·have hj1:(PL.length:Int)≤j:=by omega
    have hj2:0≤j:=by omega
    clear hpk hj0
    go_wp2_with fail
    refine hCo.mono ?_
    rintro e wr' ⟨rfl,rfl⟩
    go_wp2_with (first|(refine zj rfl 43 (.tmp 5) rfl ⟨w.heap.size+2,0,none⟩ RV rfl L5 ?_)|(refine ze rfl 43 (.tmp 4) (.tmp 48) rfl ⟨w.heap.size+1,0,none⟩ RV rfl rfl W S1 ?_))
    exact zP (v:=RV) (zl rfl _ _ _ _ rfl LV) rfl ⟨rfl,HW.out⟩
structure BsAt (w wr:World)(nd:PNode)(lb lo:Nat)(vf vs:Value):Prop where
 view:wr.heap[w.heap.size]?=some (.cells (q1a nd lb lo vf vs).toArray 168 (0,0))
 res:wr.heap[w.heap.size+1]?=some (.cells zCs 43 (0,0))
 bel:Below w.heap.size w wr
theorem BsAt.below {w wr w':World}{nd:PNode}{lb lo:Nat}{vf vs:Value}(h:BsAt w wr nd lb lo vf vs)(hb:Below wr.heap.size wr w'):BsAt w w' nd lb lo vf vs:=
 ⟨(hb.block _ (zd h.view)).trans h.view,(hb.block _ (zd h.res)).trans h.res,h.bel.trans (hb.mono h.bel.size)⟩
theorem q6r (V:Value)(nd:PNode)(lb lo:Nat)(ao:OA)(cap:Nat)(PL:List PPt)(vf vs:Value)(hV:V=.agg (q1a nd lb lo vf vs).toArray)(mA mB:Nat)(A B:Nat→Nat→Nat→Bool)(i:Nat)(hi:i<PL.length)(j:Int)(hj:(i:Int)+(if q4z nd.kind=true then -1 else 1)=j)(t:Nat)(r:Nat→Nat→Bool)(w:World)(h:VwAt w lb lo ao cap PL vf vs mA mB A B)
  (hT:∀W,LogAt W lb lo ao cap PL→Calls Tryz.prog 52 #[.pointer (some ⟨lb,lo,none⟩),.int .i64 i,.int .i64 j] W fun e w'=>e=.returned (.int .i64 t)∧Below W.heap.size W w')
  (hA:∀W,Tb W vf mA A→Calls Tryz.prog 132 #[vf,.int .i64 j] W fun e w'=>e=.returned (zr (zm r))∧Below W.heap.size W w') :
  Calls Tryz.prog 139 #[V,.int .i64 i] w fun e w'=>e=.returned (zr (zm fun x y=>q1N nd t&&r x y))∧Below w.heap.size w w':=by
 obtain⟨fa,fc,rfl⟩:=h.fst.form
 have HV:=zb hV
 have HVW:=zb h
 have HTI:=zb hT
 have HSA:=zb hA
 have HIN:=zb (j5b t nd)
 have HDI:=zb (q8d nd.kind)
 have hsm:=h.log.small
 obtain⟨stp,hstp⟩:∃z:Int,z=(if q4z nd.kind=true then -1 else 1):=⟨_,rfl⟩
 have hst1:-1≤stp∧stp≤1:=by rw[hstp];split<;>omega
 rw[←hstp]at HDI hj
 obtain⟨zi,hzi⟩:∃z:Int,z=(i:Int):=⟨_,rfl⟩
 have hz0:0≤zi∧zi≤40:=by omega
 rw[←hzi]at hj HTI ⊢
 subst hj
 clear hV h hT hA hstp hzi
 cases hsp:q1N nd t with
 |true =>
  rw[hsp]at HIN
  have e:(fun x y=>true&&r x y)=r:=by funext x y;simp
  rw[e]
  obtain⟨U,hU⟩:∃U,U=zr (zm r):=⟨_,rfl⟩
  rw[←hU]at HSA ⊢
  have HU:=zb hU
  clear hsp e hU
  go_enter Tryz.func139,Tryz.ntmps139
  go_wp2_with (first|(refine qF rfl 168 (.tmp 0) rfl V _ rfl HV.out ?_;intro W0 g0 b0 z0;have HZ0:=zb z0;have HG0:=zb g0;have HB0:=zb b0;have c0:=q0I g0 0;simp only[List.getElem?_cons_zero]at c0;have hl0:w.heap.size<W0.heap.size:=(by omega);clear g0 z0 b0))
  refine(HDI.out _).mono ?_
  rintro e W1 ⟨rfl,hW1⟩
  have hb1:BsAt w W1 nd lb lo (.slice fa mA fc) vs:=by
   rw[hW1]
   exact⟨(zO _ _ hl0).trans HG0.out,by rw[←HZ0.out];exact zN _ _,HB0.out.alloc HB0.out.size _⟩
  have ew0:W0.heap.size=w.heap.size+1:=HZ0.out
  rw[ew0]
  have HBS:=zb hb1
  obtain⟨c22,c16,c17,c18,c19⟩:=q1G hb1.view
  have hlw:w.heap.size<W1.heap.size:=zd hb1.view
  clear hb1 hW1 HZ0 HG0 HB0 c0 ew0 hl0
  go_wp2_with fail
  go_region_held3 (fun w'=>w'.cell? ⟨w.heap.size,22,none⟩=some (.pointer (some ⟨lb,lo,none⟩))∧w'.cell? ⟨w.heap.size,16,none⟩=some (.int .i64 nd.sat)∧w'.cell? ⟨w.heap.size,17,none⟩=some (.int .i64 nd.slo)∧w'.cell? ⟨w.heap.size,18,none⟩=some (.int .i64 nd.shi)∧w'.cell? ⟨w.heap.size,19,none⟩=some (.bool nd.sop)) (first|go_keep|(exact q1G (HBS.out.below B3).view)|(exact q1G (HBS.out.below B4).view)) ((first|(go_at_call 52;refine(HTI.out _ (HVW.out.log.below (HBS.out.below (by exact(zB _ _).drew)).bel)).mono ?_;rintro e w3 ⟨rfl,b3⟩;have B3:Below W1.heap.size W1 w3:=((zB _ _).drew).trans b3)|(go_at_call 166;refine(HIN.out _).mono ?_;rintro e w4 ⟨rfl,b4⟩;have B4:Below W1.heap.size W1 w4:=B3.trans (b4.mono B3.size))))
  have HB4:=zb (HBS.out.below B4)
  have c23:=q0I HB4.out.view 23
  simp only[List.getElem?_cons_succ,List.getElem?_cons_zero]at c23
  have hl4:w.heap.size<w4.heap.size:=zd HB4.out.view
  clear b3 B3 b4 B4 c22 c16 c17 c18 c19
  go_wp2_with fail
  refine(HSA.out _ (HVW.out.fst.below HB4.out.bel)).mono ?_
  rintro e w5 ⟨rfl,b5⟩
  obtain⟨W,S1,LV,BW⟩:=q1L HB4.out.res (by omega) HB4.out.bel b5 (zm r)
  rw[←HU.out]at S1 LV
  have HW:=zb BW
  clear b5 BW c23
  go_wp2_with (refine ze rfl 43 (.tmp 4) (.tmp 26) rfl ⟨w.heap.size+1,0,none⟩ U rfl rfl W S1 ?_)
  exact zP (v:=U) (zl rfl _ _ _ _ rfl LV) rfl ⟨rfl,HW.out⟩
 |false =>
  rw[hsp]at HIN
  have e:(fun x y=>false&&r x y)=fun _ _=>false:=by funext x y;simp
  rw[e,q5Y (fun _ _=>rfl)]
  clear hsp e HSA
  go_enter Tryz.func139,Tryz.ntmps139
  go_wp2_with (first|(refine qF rfl 168 (.tmp 0) rfl V _ rfl HV.out ?_;intro W0 g0 b0 z0;have HZ0:=zb z0;have HG0:=zb g0;have HB0:=zb b0;have c0:=q0I g0 0;simp only[List.getElem?_cons_zero]at c0;have hl0:w.heap.size<W0.heap.size:=(by omega);clear g0 z0 b0))
  refine(HDI.out _).mono ?_
  rintro e W1 ⟨rfl,hW1⟩
  have hb1:BsAt w W1 nd lb lo (.slice fa mA fc) vs:=by
   rw[hW1]
   exact⟨(zO _ _ hl0).trans HG0.out,by rw[←HZ0.out];exact zN _ _,HB0.out.alloc HB0.out.size _⟩
  have ew0:W0.heap.size=w.heap.size+1:=HZ0.out
  rw[ew0]
  have HBS:=zb hb1
  obtain⟨c22,c16,c17,c18,c19⟩:=q1G hb1.view
  have hlw:w.heap.size<W1.heap.size:=zd hb1.view
  clear hb1 hW1 HZ0 HG0 HB0 c0 ew0 hl0
  go_wp2_with fail
  go_region_held3 (fun w'=>w'.cell? ⟨w.heap.size,22,none⟩=some (.pointer (some ⟨lb,lo,none⟩))∧w'.cell? ⟨w.heap.size,16,none⟩=some (.int .i64 nd.sat)∧w'.cell? ⟨w.heap.size,17,none⟩=some (.int .i64 nd.slo)∧w'.cell? ⟨w.heap.size,18,none⟩=some (.int .i64 nd.shi)∧w'.cell? ⟨w.heap.size,19,none⟩=some (.bool nd.sop)) (first|go_keep|(exact q1G (HBS.out.below B3).view)|(exact q1G (HBS.out.below B4).view)) ((first|(go_at_call 52;refine(HTI.out _ (HVW.out.log.below (HBS.out.below (by exact(zB _ _).drew)).bel)).mono ?_;rintro e w3 ⟨rfl,b3⟩;have B3:Below W1.heap.size W1 w3:=((zB _ _).drew).trans b3)|(go_at_call 166;refine(HIN.out _).mono ?_;rintro e w4 ⟨rfl,b4⟩;have B4:Below W1.heap.size W1 w4:=B3.trans (b4.mono B3.size))))
  have HB4:=zb (HBS.out.below B4)
  obtain⟨W,S1,LV,BW⟩:=q1L HB4.out.res (by omega) HB4.out.bel (zB _ _) (fun _=>0)
  have HW:=zb BW
  clear b3 B3 b4 B4 c22 c16 c17 c18 c19 BW
  go_wp2_with (refine ze rfl 43 (.tmp 4) (.tmp 22) rfl ⟨w.heap.size+1,0,none⟩ (zr fun _=>0) rfl rfl W S1 ?_)
  exact zP (v:=zr fun _=>0) (zl rfl _ _ _ _ rfl LV) rfl ⟨rfl,HW.out⟩
end Go.Proofs.YtiamjjonoeaggabGreatDoor
