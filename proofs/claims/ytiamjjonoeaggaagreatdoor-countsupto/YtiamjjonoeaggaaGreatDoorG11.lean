import Derived.Test.YtiamjjonoeaggaaGreatDoorGA
import Derived.Test.YtiamjjonoeaggaaGreatDoorG06
import Derived.Test.YtiamjjonoeaggaaGreatDoorG10
import Derived.Deep.RegionWith
import Derived.Deep.CutRange
import Derived.Deep.LoopGhost
import Derived.Deep.RegionHeld
import Derived.Deep.QuietTactic
import Derived.BigQuiet
set_option maxRecDepth 100000
set_option maxHeartbeats 16000000
namespace Go.Proofs.YtiamjjonoeaggaaGreatDoor
open Go.RowKit
def q4U (word:By)(a c:Bool):Bool:=(word==[111,114]&&(a != c)) || (word==[98,117,116]&&c&&!a) || (q0J word&&a&&!c)
def q2t:zl→Bool
 | .nil=>false
 | .node p sp y l r=>if y.word==[101,120,105,115,116,115]then !(zt l (y.args.headD []))else if (q1g (.node p sp y l r)).length<2 || y.word==[97,110,100]then false else q4U y.word (zt l [120]) (zt r [120]) || q4U y.word (zt l [121]) (zt r [121])
theorem j3d {p sp:Nat}{y:Pay}{l r:zl}{u:List Tok}(h:qz (.node p sp y l r) u)(hw:y.word=[101,120,105,115,116,115]):q1g (.node p sp y l r)=[l]:=by
 rcases h with⟨hn,_⟩|⟨hn,_,_,_,rfl,v,q1,q2,q3,ul,hv,ha,hl,rfl⟩|⟨hn,hw',_⟩|⟨hn,hw',_⟩|⟨hn,hw',_⟩|⟨_,hw',_⟩
 ·rw[hw]at hn;exact absurd hn (by decide)
 ·exact q2l hl
 ·rw[hw]at hw';exact absurd hw' (by decide)
 ·rw[hw]at hw';exact absurd hw' (by decide)
 ·rw[hw]at hw';exact absurd hw' (by decide)
 ·rw[hw]at hw';exact absurd hw' (by decide)
theorem two_kids {p sp:Nat}{y:Pay}{l r F:zl}{ks:List (zl × List Tok)}(hF:(Go.Deep.BT.node p sp y l r:zl)=F)(hk:ks.map Prod.fst=q1g F)(h2:2≤ks.length):∃(h:ks.length=2),(ks[0]).1=l∧(ks[1]).1=r:=by
 subst hF
 have hk':q1g (Go.Deep.BT.node p sp y l r)=[l,r]:=by
  have hl:=congrArg List.length hk
  rw[List.length_map]at hl
  cases l with
  |nil=>simp[q1g]at hl;subst hl;simp at h2
  |node =>
   cases r with
   |nil=>simp[q1g]at hl;omega
   |node=>rfl
 rw[hk']at hk
 match ks,hk with
 | [a,c],hk =>
  simp at hk
  exact⟨rfl,hk.1,hk.2⟩
theorem j2p {w:World}{g o n c:Nat}{us:List (List Tok)}(h:q5V w (.slice (some ⟨g,o,none⟩) n c) us):g<w.heap.size:=by
 rcases h with⟨h,_⟩|⟨g',o',c',e,h1,h2,h3,h4⟩
 ·simp at h
 ·simp at e
  obtain⟨⟨rfl,rfl⟩,rfl,rfl⟩:=e
  exact h3
def nm2:List (By):=[[120],[121]]
def WRel (w1 w3:World)(word:By)(fl fr:By→Bool)(g:Nat)(vi:Value)(wr:World):Prop:=∃k:Nat,k≤2∧g+k=2∧vi=.int .i64 k∧q1y nm2 (fun x=>q4U word (fl x) (fr x)) 0 k∧Below w1.heap.size w1 wr∧Below (w3.heap.size+1) (w3.alloc (.cells #[bs [120],bs [121]] 9)) wr
theorem two_word {p sp:Nat}{y:Pay}{l r:zl}{u:List Tok}(h:qz (.node p sp y l r) u)(h2:(q1g (.node p sp y l r)).length=2)(ha:(y.word==[97,110,100])=false) :
  ((y.word==[111,114])=true∧(y.word==[98,117,116])=false∧q0J y.word=false)∨((y.word==[111,114])=false∧(y.word==[98,117,116])=true∧q0J y.word=false)∨((y.word==[111,114])=false∧(y.word==[98,117,116])=false∧q0J y.word=true):=by
 rcases h with⟨hn,_,_,rfl,rfl,_⟩|⟨hn,hw,_,_,rfl,v,q1,q2,q3,ul,hv,_,hl,rfl⟩|⟨hn,hw,_,_,_,q1,q2,q3,ul,ur,hl,hr,rfl⟩|⟨hn,hw,_,rfl,hlo,hhi,q1,q2,q3,q4,q5,q6,ul,hl,rfl⟩|⟨hn,hw,_,hlo,hhi,q1,q2,q3,q4,q5,q6,q7,ul,ur,hl,hr,rfl⟩|⟨_,hw,_,_,_,rfl,rfl,rfl⟩
 ·simp[q1g]at h2
 ·rw[q2l hl]at h2;simp at h2
 ·have hc:y.word=[97,110,100]∨y.word=[98,117,116]∨y.word=[111,114]:=by
   unfold q0o inB q4P at hw
   simp[List.any]at hw
   rcases hw with h|h|h<;>simp[h]
  rcases hc with h|h|h
  ·rw[h]at ha;exact absurd ha (by decide)
  ·rw[h];exact .inr (.inl ⟨by decide,by decide,by decide⟩)
  ·rw[h];exact .inl ⟨by decide,by decide,by decide⟩
 ·rw[q2l hl]at h2;simp at h2
 ·have hc:y.word=[115,105,110,99,101]∨y.word=[117,110,115,105,110,99,101]∨y.word=[117,110,116,105,108]∨y.word=[117,110,117,110,116,105,108]:=by
   unfold q0J inB q9l at hw
   simp[List.any]at hw
   rcases hw with h|h|h|h<;>simp[h]
  rcases hc with h|h|h|h<;>rw[h]<;>exact .inr (.inr ⟨by decide,by decide,by decide⟩)
 ·simp[q1g]at h2
theorem j7n (p sp:Nat)(y:Pay)(l r:zl)(u:List Tok)(v:Value)(w:World)(hR:qz (.node p sp y l r) u)(hF:qB w v u) :
  Calls Tryz.prog 119 #[v] w fun e w'=>e=.returned (.bool (q2t (.node p sp y l r)))∧Below w.heap.size w w':=by
 have HP:=zb (fun w1 (hb:Below w.heap.size w w1)=>q6H _ u v w1 hR (hF.below hb))
 have HW:=zb (fun w1 (hb:Below w.heap.size w w1)=>q0b v u w1 (hF.below hb))
 have HX:=zb (fun h=>q8X hR h)
 have HWd:Hid (hd u=y.word):=q3z hR
 have HWr:Hid (q2t (.node p sp y l r)=if y.word==[101,120,105,115,116,115]then !(zt l (y.args.headD []))else if (q1g (.node p sp y l r)).length<2 || y.word==[97,110,100]then false else q4U y.word (zt l [120]) (zt r [120]) || q4U y.word (zt l [121]) (zt r [121])):=rfl
 have HKl:=zb (j3d hR)
 have HTW:=zb (fun h2 ha=>two_word hR h2 ha)
 clear hR
 generalize hFF:(Go.Deep.BT.node p sp y l r:zl)=F at *
 have HFF:=zb hFF
 clear hFF
 generalize q2t F=wF at *
 obtain⟨b,o,cap,rfl,h1,h2,h3,h4,h5,h6⟩:=qe hF
 have H6:=zb h6
 clear h6 hF
 unfold maxLen at h2
 go_enter Tryz.func119,Tryz.ntmps119
 go_wp2_with fail
 refine(HP.out _ ((zB _ _).alloc (zL _) _)).mono ?_
 rintro e w1 ⟨vk,ks,rfl,hk1,hk2,hk3,hb1⟩
 have r1:=hb1.mono (B':=w.heap.size+1) (by simp)
 have q1:=((zB w.heap.size w).alloc (zL _) _).trans (hb1.mono (by simp))
 have hs1:=r1.size
 simp at hs1
 have hc1:=zo r1 w.heap.size 0 (by simp)
 clear hb1
 obtain⟨av,nv,cv,rfl,hnv,hcv⟩:=q5g hk3
 have hnv':ks.length=nv:=by simpa using hnv.symm
 have HK2:=zb hk2
 have HK1:=zb hk1
 have HK3:=zb hk3
 have HNV:=zb hnv'
 unfold maxLen at hcv
 clear hk1 hk2 hk3 hnv hnv'
 cases hex:(y.word==[101,120,105,115,116,115])with
 |true =>
  have hyw:y.word=[101,120,105,115,116,115]:=by simpa using hex
  obtain⟨hu1,hya,hvar⟩:=HX.out hyw
  have hkl:=HKl.out hyw
  have hk0:0<ks.length:=by
   have:=congrArg List.length HK1.out
   rw[hkl]at this
   simp at this
   omega
  have hk0f:(ks[0]).1=l:=by
   have:(ks.map Prod.fst)[0]?=(q1g F)[0]?:=by rw[HK1.out]
   rw[hkl]at this
   simpa[hk0]using this
  have hm:wF=!(zt l (u[1]).text):=by have:=HWr.out;rw[hex,if_pos rfl,hya]at this;exact this
  have HM:=zb hm
  have HC:Hid (∀v' w',qB w' v' (ks[0]).2→Calls Tryz.prog 120 #[v',bs (u[1]).text] w' fun e w''=>e=.returned (.bool (zt l (u[1]).text))∧Below w'.heap.size w' w''):=by
   intro v' w' h
   have:=q4q (ks[0]).1 (ks[0]).2 v' w' (u[1]).text (HK2.out _ (List.getElem_mem hk0)).1 h hvar
   rw[hk0f]at this
   exact this
  have hct:=fun w2 (hb2:Below w1.heap.size w1 w2)=>(zo hb2 b (o+1*2) (by omega)).trans ((zo r1 b (o+1*2) (by omega)).trans ((World.cell?_alloc_lt _ _ _ h3).trans (H6.out 1 hu1).1))
  have HCT:=zb hct
  have hnv0:0<nv:=by rw[←HNV.out];exact hk0
  clear hct hm hya hvar hyw hkl hk0f
  generalize (u[1]).text=t1 at *
  go_wp2_with fail
  refine(HW.out _ q1).mono ?_
  rintro e w2 ⟨rfl,hb2⟩
  rw[HWd.out]
  have hc2:=(zo hb2 w.heap.size 0 (by omega)).trans hc1
  have hct2:=HCT.out w2 hb2
  simp only[Nat.one_mul]at hct2
  obtain⟨gk,ok,xk,rfl,hxk,hfk⟩:=q7E (HK3.out.below hb2) hk0
  simp only[Nat.add_zero]at hxk
  have hqb:=q1.trans (hb2.mono q1.size)
  have HFK:=zb hfk
  clear hfk
  generalize zt l t1=fb at *
  go_wp2_with fail
  go_region_with (go_at_call 120;refine(HC.out _ _ (HFK.out.below (by exact(zB _ _).drew))).mono ?_;rintro e w3 ⟨rfl,hb3⟩)
  all_goals
   go_wp2_with fail
   go_ret
   exact⟨qm HM.out.symm,hqb.trans ((show Below w2.heap.size w2 w3 from(zB _ _).drew.trans hb3).mono hqb.size)⟩
 |false =>
  have hm:wF=if nv<2 || y.word==[97,110,100]then false else q4U y.word (zt l [120]) (zt r [120]) || q4U y.word (zt l [121]) (zt r [121]):=by
   have:=HWr.out
   rw[hex]at this
   simp only[Bool.false_eq_true,if_false]at this
   rw[this,←HK1.out,List.length_map,HNV.out]
  have HM:=zb hm
  clear hm HWr HX HKl
  by_cases hn2:nv<2
  ·have hwf:wF=false:=by rw[HM.out];simp[hn2]
   have HWF:=zb hwf
   clear hwf
   go_wp2_with fail
   refine(HW.out _ q1).mono ?_
   rintro e w2 ⟨rfl,hb2⟩
   rw[HWd.out]
   go_wp2_with fail
   go_ret
   exact⟨qm HWF.out.symm,q1.trans (hb2.mono q1.size)⟩
  ·have hn2':decide (nv<2)=false:=by simp;omega
   cases hand:(y.word==[97,110,100])with
   |true =>
    have hwf:wF=false:=by rw[HM.out,hand];simp
    have HWF:=zb hwf
    clear hwf
    go_wp2_with fail
    refine(HW.out _ q1).mono ?_
    rintro e w2 ⟨rfl,hb2⟩
    rw[HWd.out]
    have q2:=q1.trans (hb2.mono q1.size)
    have hc2:=(zo hb2 w.heap.size 0 (by omega)).trans hc1
    go_wp2_with fail
    refine(HW.out _ q2).mono ?_
    rintro e w3 ⟨rfl,hb3⟩
    rw[HWd.out]
    go_wp2_with fail
    go_ret
    exact⟨qm HWF.out.symm,q2.trans (hb3.mono q2.size)⟩
   |false =>
    obtain⟨hk2,hkl,hkr⟩:=two_kids HFF.out HK1.out (by rw[HNV.out];omega)
    have hnv2:nv=2:=by rw[←HNV.out];exact hk2
    subst hnv2
    have hm:wF=(q4U y.word (zt l [120]) (zt r [120]) || q4U y.word (zt l [121]) (zt r [121])):=by
     have:=HM.out
     rw[hand]at this
     simpa using this
    clear HM
    have hm':wF=nm2.any (fun x=>q4U y.word (zt l x) (zt r x)):=by rw[hm];simp[nm2]
    have HM:=zb hm'
    clear hm hm'
    have hkk:(q1g F).length=2:=by rw[←HK1.out,List.length_map];exact hk2
    have hwc:=HTW.out hkk hand
    clear hkk HTW
    have HT2:=zb (q8J y.word)
    have hk0:0<ks.length:=by omega
    have hk1:1<ks.length:=by omega
    have HCl:Hid (∀v' w' x,q1J x=true→qB w' v' (ks[0]).2→Calls Tryz.prog 120 #[v',bs x] w' fun e w''=>e=.returned (.bool (zt l x))∧Below w'.heap.size w' w''):=by
     intro v' w' x hx h
     have:=q4q (ks[0]).1 (ks[0]).2 v' w' x (HK2.out _ (List.getElem_mem _)).1 h hx
     rw[hkl]at this
     exact this
    have HCr:Hid (∀v' w' x,q1J x=true→qB w' v' (ks[1]).2→Calls Tryz.prog 120 #[v',bs x] w' fun e w''=>e=.returned (.bool (zt r x))∧Below w'.heap.size w' w''):=by
     intro v' w' x hx h
     have:=q4q (ks[1]).1 (ks[1]).2 v' w' x (HK2.out _ (List.getElem_mem _)).1 h hx
     rw[hkr]at this
     exact this
    clear hkl hkr
    go_wp2_with fail
    refine(HW.out _ q1).mono ?_
    rintro e w2 ⟨rfl,hb2⟩
    rw[HWd.out]
    have q2:=q1.trans (hb2.mono q1.size)
    have hc2:=(zo hb2 w.heap.size 0 (by omega)).trans hc1
    go_wp2_with fail
    refine(HW.out _ q2).mono ?_
    rintro e w3 ⟨rfl,hb3⟩
    rw[HWd.out]
    have b13:=hb2.trans (hb3.mono hb2.size)
    go_wp2_with fail
    go_loopg [6] 2 (fun g vi wr=>WRel w1 w3 y.word (zt l) (zt r) g vi wr)
    case atStart=>exact⟨0,by omega,rfl,rfl,(fun j hj h1 h2=>absurd h2 (by omega)),b13.alloc b13.size _,(zB _ _)⟩
    case round =>
     obtain⟨k,hk,hgk2,rfl,hno,hbel,hbe3⟩:=hrel
     obtain⟨gg,hgg⟩:∃gg,gg=gk:=⟨_,rfl⟩
     have HGK:Hid (gk+k=2):=hgk2
     clear hgk2 hgg gg
     have HNo:=zb hno
     clear hno
     have q4:=q1.trans (hbel.mono q1.size)
     have hs3:=hbe3.size
     simp at hs3
     have hcb:=(zo hbel w.heap.size 0 (by omega)).trans hc1
     by_cases hlt:k<2
     ·have hx:=zo hbe3 w3.heap.size k (by omega)
      have hxn:∃x,nm2[k]?=some x∧q1J x=true∧wr.cell? ⟨w3.heap.size,k,none⟩=some (bs x):=by
       rcases(by omega:k=0∨k=1)with rfl|rfl
       ·exact⟨[120],rfl,rfl,by rw[hx];simp⟩
       ·exact⟨[121],rfl,rfl,by rw[hx];simp⟩
      obtain⟨x,hxk,hvar,hxc⟩:=hxn
      have hkn:k<nm2.length:=hlt
      have hnx:nm2[k]=x:=by rw[zG hkn]at hxk;exact Option.some.inj hxk
      have HNx:Hid (q4U y.word (zt l x) (zt r x)=false→q1y nm2 (fun x=>q4U y.word (zt l x) (zt r x)) 0 (k+1)):=fun h=>q1U HNo.out hkn (by rw[hnx];exact h)
      have HHt:Hid (q4U y.word (zt l x) (zt r x)=true→wF=true):=fun h=>by
       rw[HM.out]
       have:=q8f (a:=0) (f:=fun x=>q4U y.word (zt l x) (zt r x)) (zZ k) hkn (by rw[hnx];exact h)
       rwa [List.drop_zero]at this
      have HL:=zb (fun v' w' h=>HCl.out v' w' x hvar h)
      have HRr:=zb (fun v' w' h=>HCr.out v' w' x hvar h)
      clear hx hxk hnx hkn HNo
      generalize zt l x=fa at *
      generalize zt r x=fc at *
      obtain⟨gx,ok,xl,rfl,hxl,hfl⟩:=q7E (HK3.out.below hbel) hk0
      obtain⟨gx',ok',xr,e',hxr,hfr⟩:=q7E (HK3.out.below hbel) hk1
      simp only[Option.some.injEq,Addr.mk.injEq,and_true]at e'
      obtain⟨rfl,rfl⟩:=e'
      simp only[Nat.add_zero]at hxl
      have HFl:=zb hfl
      have HFr:=zb hfr
      have hgx:gx<w1.heap.size:=j2p HK3.out
      clear hfl hfr
      go_wp2_with fail
      go_cut [7] from 34 to 86 (fun va wx=>va=.bool fa∧Below wr.heap.size wr wx)
      case first =>
       go_region_with (go_at_call 120;refine(HL.out _ _ (HFl.out.below (by exact(zB _ _).drew))).mono ?_;rintro e w4 ⟨rfl,hb4⟩)
       all_goals
        have b4:Below wr.heap.size wr w4:=(zB _ _).drew.trans hb4
        go_wp2_with fail
        go_meet
        case rel=>exact⟨rfl,b4⟩
      case rest =>
       obtain⟨rfl,b4⟩:=hcut
       have hxr4:=(zo b4 gx (ok+1) (by have:=hbel.size;omega)).trans hxr
       have hxc4:=(zo b4 w3.heap.size k (by omega)).trans hxc
       go_wp2_with fail
       go_cut [8] from 34 to 86 (fun va wx=>va=.bool fc∧Below wr.heap.size wr wx)
       case first =>
        go_region_with (go_at_call 120;refine(HRr.out _ _ (HFr.out.below (by exact b4.drew))).mono ?_;rintro e w5 ⟨rfl,hb5⟩)
        all_goals
         have b5:Below wr.heap.size wr w5:=b4.drew.trans (hb5.mono b4.size)
         go_wp2_with fail
         go_meet
         case rel=>exact⟨rfl,b5⟩
       case rest =>
        clear hxr4 hxc4 b4
        obtain⟨rfl,b5⟩:=hcut
        have q5:=q4.trans (b5.mono q4.size)
        have hcb5:=(zo b5 w.heap.size 0 (by have:=hbel.size;omega)).trans hcb
        have e5:=hbe3.trans (b5.mono (by omega))
        have d5:=hbel.trans (b5.mono hbel.size)
        clear b5 hcb q4 hxl hxr HFl HFr hbel hbe3
        rcases hwc with⟨g1,g2,g3⟩|⟨g1,g2,g3⟩|⟨g1,g2,g3⟩
        all_goals
         have HT3:=zb (q0M HT2.out g3)
         have hbv:q4U y.word fa fc=q4U y.word fa fc:=rfl
         conv at hbv=>rhs;unfold q4U;rw[g1,g2,g3]
         have HB:=zb hbv
         clear g3 hbv
         cases fa<;>cases fc
         all_goals
          go_wp2_with fail
          refine(HW.out _ q5).mono ?_
          rintro e w6 ⟨rfl,b6⟩
          rw[HWd.out]
          have q6:=q5.trans (b6.mono q5.size)
          have hcb6:=(zo b6 w.heap.size 0 (by have:=d5.size;omega)).trans hcb5
          have e6:=e5.trans (b6.mono (by have:=e5.size;simp at this;omega))
          have d6:=d5.trans (b6.mono d5.size)
          go_wp2_with fail
         all_goals first
          |(go_ret;exact⟨qm (HHt.out (HB.out.trans rfl)).symm,q6⟩)
          |(refine(HW.out _ q6).mono ?_
            rintro e w7 ⟨rfl,b7⟩
            rw[HWd.out]
            have q7:=q6.trans (b7.mono q6.size)
            have hcb7:=(zo b7 w.heap.size 0 (by have:=d6.size;omega)).trans hcb6
            have e7:=e6.trans (b7.mono (by have:=e6.size;simp at this;omega))
            have d7:=d6.trans (b7.mono d6.size)
            clear hcb6 e6 d6 q6 b6
            go_wp2_with fail
            first
             |(go_ret;exact⟨qm (HHt.out (HB.out.trans rfl)).symm,q7⟩)
             |(refine(HW.out _ q7).mono ?_
               rintro e w8 ⟨rfl,b8⟩
               rw[HWd.out]
               have q8:=q7.trans (b8.mono q7.size)
               have e8:=e7.trans (b8.mono (by have:=e7.size;simp at this;omega))
               have d8:=d7.trans (b8.mono d7.size)
               clear hcb7 e7 d7 q7 b7
               go_wp2_with fail
               refine(HT3.out _).mono ?_
               rintro e w9 ⟨rfl,b9⟩
               have q9:=q8.trans (b9.mono q8.size)
               have e9:=e8.trans (b9.mono (by have:=e8.size;simp at this;omega))
               have d9:=d8.trans (b9.mono d8.size)
               clear e8 d8 q8 b8
               go_wp2_with fail
               first
                |(go_ret;exact⟨qm (HHt.out (HB.out.trans rfl)).symm,q9⟩)
                |(have hg1:0<gk:=by have:=HGK.out;omega
                  go_roundg (gk-1)
                  case measure=>omega
                  case rel=>exact⟨k+1,by omega,by have:=HGK.out;omega,by go_num,HNx.out (HB.out.trans rfl),d9,e9⟩)))
     ·have hwf:wF=false:=by
       rw[HM.out]
       have:=q7N HNo.out (show nm2.length≤k by simp[nm2];omega)
       rwa [List.drop_zero]at this
      have HWF:=zb hwf
      clear hwf
      go_wp2_with fail
      go_ret
      exact⟨qm HWF.out.symm,q4⟩
def q6X:zl→Pay
 | .nil=>j1C []
 | .node _ _ y _ _=>y
def j1H:zl→Nat
 | .nil=>0
 | .node p _ _ _ _=>p
def q4t:zl→Nat
 | .nil=>0
 | .node _ s _ _ _=>s
def q0p (F:zl):Bool:=(q0Q (q4A F) || q0J (q4A F))&&!((q6X F).hi==[42])&&decide (q0n (q6X F).hi<q0n (q6X F).lo)
def q0v (F:zl):Bool:=q2f (q4A F)&&((q6X F).hi==[42])
def q0x (F:zl):Int × Int:=match (zu F).find? q0p with
 |some k=>(4,(q4t k:Int))
 |none=>match (zu F).find? q0v with
  |some k=>(5,(q4t k:Int))
  |none=>match (zu F).find? q2t with
   |some k=>(6,(j1H k:Int))
   |none=>(0,0)
def q0a (s:By):zl:=match q0R 8 (q0u s).1 with
 | .inl _=>.nil
 | .inr (F,_)=>F
def qh (s:By):Int × Int:=if (q0W s).1≠0 then q0W s else q0x (q0a s)
theorem q6G {s:By}(h:(q0W s).1=0):qz (q0a s) (q0u s).1:=by
 unfold q0W at h
 by_cases h1:240<s.length
 ·rw[if_pos h1]at h;simp at h
 ·rw[if_neg h1]at h
  by_cases h2:0≤(q0u s).2
  ·rw[if_pos h2]at h;simp at h
  ·rw[if_neg h2]at h
   unfold q6h at h
   unfold q0a
   cases hp:q0R 8 (q0u s).1 with
   |inl r=>rw[hp]at h;simp[outR]at h
   |inr p =>
    obtain⟨F,r⟩:=p
    rw[hp]at h
    cases r with
    |nil =>
     obtain⟨u,e,hr⟩:=q4L _ _ _ _ hp
     rw[List.append_nil]at e
     rw[e]
     exact hr
    |cons t r=>simp[outR]at h
theorem lexF_len (s:By):∀(f i:Nat) (acc:List Tok),acc.length≤i→i≤s.length→(q2m s f i acc).1.length≤s.length:=by
 intro f
 induction f with
 |zero=>intro i acc h h';rw[q2m];simp;omega
 |succ f ih =>
  intro i acc h h'
  rw[q2m]
  by_cases h1:s.length≤i
  ·rw[if_pos h1];simp;omega
  ·rw[if_neg h1]
   by_cases h2:q2z (s.getD i 0)=true
   ·rw[if_pos h2];exact ih _ _ (by omega) (by omega)
   ·rw[if_neg h2]
    by_cases h3:q3p (s.getD i 0) (cut s i (qA s i))=true
    ·rw[if_pos h3]
     have hl:=q8T s i (by omega)
     have:i+1≤qA s i:=by unfold qA;omega
     exact ih _ _ (by simp;omega) hl
    ·rw[if_neg h3];simp
theorem j2q (s:By):(q0u s).1.length≤s.length:=lexF_len s _ _ _ (by simp) (by omega)
theorem j5q {s:By}(h:(q0W s).1=0):s.length≤240:=by
 rcases Nat.lt_or_ge 240 s.length with g|g
 ·unfold q0W at h;rw[if_pos g]at h;simp at h
 ·exact g
theorem j7C {w:World}{v:Value}{u:List Tok}(h:q3Y w v u)(h0:0<u.length)(h1:u.length≤1000):∃b o cap,v=.slice (some ⟨b,o,none⟩) u.length cap∧q3G b w (.agg #[.slice (some ⟨b,o,none⟩) u.length cap]) u∧b<w.heap.size:=by
 have hh:=h
 rcases h with⟨_,rfl⟩|⟨b,o,cap,rfl,c1,c2,c3,c4⟩
 ·simp at h0
 ·exact⟨b,o,cap,rfl,⟨o,cap,rfl,hh,h0,h1⟩,c3⟩
structure SetF (w W2:World)(b:Nat)(x:Value)(u:List Tok):Prop where
 below:Below w.heap.size w W2
 size:w.heap.size+2≤W2.heap.size
 res:W2.cell? ⟨w.heap.size,0,none⟩=some (.slice none 0 0)
 resf:W2.frozen? ⟨w.heap.size,0,none⟩=false
 var:W2.cell? ⟨w.heap.size+1,0,none⟩=some x
 frm:q3G b W2 (.agg #[x]) u
 lt:b<W2.heap.size
 ne0:b≠w.heap.size
theorem j5w {w w1:World}{b:Nat}{x:Value}{u:List Tok}{T:TypeId}(hf:q3G b w1 (.agg #[x]) u)(hb:b<w1.heap.size)(r1:Below (w.heap.size+2) ((w.alloc (.cells #[.slice none 0 0] T)).alloc (.cells #[.slice none 0 0] T)) w1)(q1:Below w.heap.size w w1)(hs1:w.heap.size+1+1≤w1.heap.size):SetF w (w1.setCell ⟨w.heap.size+1,0,none⟩ x) b x u:=by
 have hc0:=zo r1 w.heap.size 0 (by omega)
 have hc1:=zo r1 (w.heap.size+1) 0 (by omega)
 have hf0:=r1.frozen (p:=⟨w.heap.size,0,none⟩) (by simp)
 have hne0:b≠w.heap.size:=by
  intro e
  subst e
  obtain⟨o,cap,_,ht,h0,_⟩:=hf
  rcases ht with⟨e,_⟩|⟨b',o',cap',e,c1,c2,c3,c4⟩
  ·simp at e
  ·simp at e
   obtain⟨⟨rfl,rfl⟩,rfl⟩:=e
   have:=(c4 0 h0).1
   rw[zo r1 w.heap.size _ (by omega),World.cell?_alloc_lt _ _ _ (by simp),World.cell?_alloc_at _ _ _ _ rfl]at this
   cases o with
   |zero=>simp at this
   |succ o=>simp at this
 have hne:b≠w.heap.size+1:=by
  intro e
  subst e
  obtain⟨o,cap,_,ht,h0,_⟩:=hf
  rcases ht with⟨e,_⟩|⟨b',o',cap',e,c1,c2,c3,c4⟩
  ·simp at e
  ·simp at e
   obtain⟨⟨rfl,rfl⟩,rfl⟩:=e
   have:=(c4 0 h0).1
   rw[zo r1 (w.heap.size+1) _ (by omega)]at this
   have e2:w.heap.size+1=(w.alloc (.cells #[.slice none 0 0] T)).heap.size:=by simp
   rw[e2,World.cell?_alloc_at _ _ _ _ rfl]at this
   cases o with
   |zero=>simp at this
   |succ o=>simp at this
 have hfar:∀o,(w1.setCell ⟨w.heap.size+1,0,none⟩ x).cell? ⟨b,o,none⟩=w1.cell? ⟨b,o,none⟩:=fun o=>zX w1 _ _ _ (by intro e;injection e with e1;exact hne e1.symm)
 refine⟨q1.setCell (by simp) _,by simp;omega,?_,?_,?_,?_,by simpa using hb,hne0⟩
 ·rw[zX w1 _ _ _ (by intro e;simp at e),hc0];simp
 ·rw[World.frozen?_setCell,hf0];simp
 ·exact zS w1 _ _ (u:=.slice none 0 0) (by rw[hc1];simp)
 ·obtain⟨o,cap,e,ht,h0,h1⟩:=hf
  refine⟨o,cap,e,?_,h0,h1⟩
  rcases ht with⟨e,_⟩|⟨b',o',cap',e,c1,c2,c3,c4⟩
  ·simp at e
  ·simp at e
   obtain⟨⟨rfl,rfl⟩,rfl⟩:=e
   refine .inr ⟨b,o,cap,rfl,c1,c2,by simpa using c3,fun i hi=>?_⟩
   rw[hfar,hfar]
   exact c4 i hi
theorem j0O {F:zl}{u:List Tok}(h:qz F u)(hs:(q0Q (q4A F) || q0J (q4A F))=true):∃(h4:4<u.length),(u[4]).text=(q6X F).hi∧(u[2]).text=(q6X F).lo∧(u[1]).pos=q4t F∧q4o (q6X F).lo=true∧q4B (q6X F).hi=true:=by
 cases F with
 |nil=>exact h.elim
 |node p sp y l r =>
  obtain⟨g1,g2,g3,g4⟩:=q5o hs
  exact j1T h hs g1 g2 g3 g4
theorem q7e {ks:List (zl × List Tok)}{f:zl→Bool}{k:Nat}(hk:k<ks.length)(hno:q1y ks (fun x=>f x.1) 0 k)(hf:f (ks[k]).1=true):(ks.map Prod.fst).find? f=some (ks[k]).1:=by
 rw[List.find?_eq_some_iff_getElem]
 refine⟨hf,k,by simpa using hk,by simp,fun j hj=>?_⟩
 have:=hno j (by omega) (zZ _) hj
 simp[this]
theorem q8s {ks:List (zl × List Tok)}{f:zl→Bool}{k:Nat}(hk:ks.length≤k)(hno:q1y ks (fun x=>f x.1) 0 k):(ks.map Prod.fst).find? f=none:=by
 rw[List.find?_eq_none]
 intro x hx
 obtain⟨a,ha,rfl⟩:=List.mem_map.1 hx
 obtain⟨j,hj,rfl⟩:=List.mem_iff_getElem.1 ha
 have:=hno j hj (zZ _) (by omega)
 simp[this]
theorem j7h {F:zl}{u:List Tok}(h:qz F u):∃(h0:0<u.length),(u[0]).pos=j1H F:=by
 refine⟨q1W h,?_⟩
 cases F with
 |nil=>exact h.elim
 |node p sp y l r =>
  rcases h with⟨_,_,_,_,_,q1,q2,q3,x,hx,hb⟩|⟨_,hw,_,_,_,v,q1,q2,q3,ul,hv,_,hl,rfl⟩|⟨_,hw,_,_,_,q1,q2,q3,ul,ur,hl,hr,rfl⟩|⟨_,hw,_,_,hlo,hhi,q1,q2,q3,q4,q5,q6,ul,hl,rfl⟩|⟨_,hw,_,hlo,hhi,q1,q2,q3,q4,q5,q6,q7,ul,ur,hl,hr,rfl⟩|⟨_,hw,_,_,_,_,_,rfl⟩
  ·rcases hb with⟨_,rfl⟩|⟨z,q4,q5,hz,_,rfl⟩<;>rfl
  all_goals rfl
theorem bel_held {wr wc w':World}{A:Prop}(h1:Below wc.heap.size wc w')(h2:A∧Below wr.heap.size wr wc):Below wr.heap.size wr w':=h2.2.trans (h1.mono h2.2.size)
theorem q8u {b:Nat}{w:World}{x:Value}{u:List Tok}(h:q3G b w (.agg #[x]) u):∃o cap,x=.slice (some ⟨b,o,none⟩) u.length cap∧u.length≤cap∧cap≤maxLen∧b<w.heap.size∧0<u.length∧u.length≤1000∧∀i (h:i<u.length),w.cell? ⟨b,o+i*2,none⟩=some (bs (u[i]).text)∧w.cell? ⟨b,o+i*2+1,none⟩=some (.int .i64 (u[i]).pos):=by
 obtain⟨o,cap,e,ht,h0,h1⟩:=h
 simp at e
 rcases ht with⟨e,_⟩|⟨b',o',cap',e',c1,c2,c3,c4⟩
 ·simp at e
 ·simp at e'
  obtain⟨⟨rfl,rfl⟩,rfl⟩:=e'
  exact⟨_,_,e,c1,c2,c3,h0,h1,c4⟩
theorem kidOwn_b {b:Nat}{w:World}{base:Nat}{v:Value}{ks:List (zl × List Tok)}(h:q2S b w base v ks):KidB b w v (ks.map Prod.snd):=by
 obtain⟨xs,hl,hown,hf⟩:=h
 obtain⟨h1,h2⟩:=id hown
 rcases h2 with⟨e,hn⟩|⟨g,cap,cur,rfl,e2,e3,e4,e5,e6,e7⟩
 ·exact .inl ⟨e,by rw[List.length_eq_zero_iff.1 hn];rfl⟩
 ·have hlt:g<w.heap.size:=by
   rcases Nat.lt_or_ge g w.heap.size with h'|h'
   ·exact h'
   ·simp[Array.getElem?_eq_none h']at e3
  refine .inr ⟨g,0,cap,by simp,by simpa using e4,e5,hlt,fun j hj=>?_⟩
  simp at hj
  refine⟨xs[j]'(by omega),?_,?_⟩
  ·rw[Nat.zero_add,hown.cellAt j (by omega),zG (by omega)]
  ·rw[List.getElem_map];exact hf j hj (by omega)
theorem j6P {b:Nat}{w:World}{base:Nat}{v:Value}{ks:List (zl × List Tok)}(h:q2S b w base v ks){g o n c:Nat}(e:v=.slice (some ⟨g,o,none⟩) n c):base≤g:=by
 obtain⟨xs,hl,⟨h1,h2⟩,hf⟩:=h
 rcases h2 with⟨e',hn⟩|⟨g',cap,cur,e',e2,_⟩
 ·rw[e]at e';simp at e'
 ·rw[e]at e'
  simp at e'
  rw[e'.1.1]
  exact e2
theorem j5u (F:zl)(u:List Tok)(v:Value)(w:World)(hR:qz F u)(hF:qB w v u) :
  Calls Tryz.prog 119 #[v] w fun e w'=>e=.returned (.bool (q2t F))∧Below w.heap.size w w':=by
 cases F with
 |nil=>exact hR.elim
 |node p sp y l r=>exact j7n p sp y l r u v w hR hF
theorem frm_set {b N:Nat}{w:World}{v:Value}{u:List Tok}(h:q3G b w v u)(hne:b≠N)(x:Value):qB (w.setCell ⟨N,0,none⟩ x) v u:=by
 obtain⟨o,cap,e,ht,h0,h1⟩:=h
 refine⟨b,o,cap,e,?_,h0,h1⟩
 rcases ht with⟨e,_⟩|⟨b',o',cap',e,c1,c2,c3,c4⟩
 ·simp at e
 ·simp at e
  obtain⟨⟨rfl,rfl⟩,rfl⟩:=e
  refine .inr ⟨b,o,cap,rfl,c1,c2,by simpa using c3,fun i hi=>?_⟩
  rw[zX w _ _ _ (by intro e;injection e with e1;exact hne e1.symm),zX w _ _ _ (by intro e;injection e with e1;exact hne e1.symm)]
  exact c4 i hi
def CRel (w3:World)(ks:List (zl × List Tok))(f:zl→Bool)(g:Nat)(vi:Value)(wr:World):Prop:=∃k:Nat,k≤ks.length∧g+k=ks.length∧vi=.int .i64 k∧q1y ks (fun x=>f x.1) 0 k∧Below w3.heap.size w3 wr
theorem j1J (s:By)(hs64:s.length≤maxLen)(w:World) :
  Calls Tryz.prog 90 #[bs s] w fun e w'=>∃a n c,e=.returned (.tuple #[.agg #[.slice a n c],.int .i64 (qh s).1,.int .i64 (qh s).2])∧((qh s).1=0→qB w' (.agg #[.slice a n c]) (q0u s).1∧∀k∈(Value.slice a n c).ownBlock.toList,w.heap.size≤k)∧Below w.heap.size w w':=by
 have hRd:=ref_Read s hs64
 by_cases hr:(q0W s).1=0
 ·have hc:qh s=q0x (q0a s):=by unfold qh;rw[if_neg (by simp[hr])]
  rw[hc]
  have HRe:=zb (q6G hr)
  have hlen:=zM (j2q s) (j5q hr)
  have HGo:Hid (q3t (q0u s).1):=q4m s
  generalize hrr:q0W s=rr at *
  obtain⟨re,rp⟩:=rr
  simp only[]at hr hRd
  subst hr
  generalize (q0u s).1=toks at *
  generalize q0a s=F at *
  clear hc hrr
  go_enter Tryz.func90,Tryz.ntmps90
  go_wp2_with fail
  have q0:=((zB w.heap.size w).alloc (zL _) (.cells #[.slice none 0 0] 149)).alloc (by simp) (.cells #[.slice none 0 0] 149)
  refine(hRd _).mono ?_
  rintro e w1 ⟨v,rfl,hsl,_,hb1⟩
  have hsl2:=hsl trivial
  have hsl:q3Y w1 v toks:=hsl2.1
  have hfr0:=hsl2.2
  have hpos:=q1W HRe.out
  obtain⟨b,o,cap,rfl,hfb,hbl⟩:=j7C hsl hpos (by omega)
  have HFRB:Hid (w.heap.size≤b):=zb (by have:=hfr0 b (by simp[Value.ownBlock]);simp at this;omega)
  clear hsl hsl2 hfr0
  have r1:=hb1.mono (B':=w.heap.size+2) (by simp)
  have q1:=q0.trans (hb1.mono (by simp;omega))
  have hs1:=r1.size
  simp at hs1
  have hc0:=zo r1 w.heap.size 0 (by omega)
  have hc1:=zo r1 (w.heap.size+1) 0 (by omega)
  have hf0:=r1.frozen (p:=⟨w.heap.size,0,none⟩) (by simp)
  have hf1:=r1.frozen (p:=⟨w.heap.size+1,0,none⟩) (by simp)
  clear hb1 hRd
  go_wp2_with fail
  have hW:=j5w hfb hbl r1 q1 hs1
  generalize (w1.setCell ⟨w.heap.size+1,0,none⟩ (.slice (some ⟨b,o,none⟩) toks.length cap))=W2 at *
  clear r1 q1 hs1 hc0 hc1 hf0 hf1 hfb hbl
  have hq2:=hW.below
  have hs2:=hW.size
  have hv2:=hW.var
  have HW2:=zb hW
  refine(ref_all b F toks _ _ HRe.out hW.frm hW.lt).mono ?_
  rintro e w3 ⟨vm,ks,rfl,hk1,hk2,hk3,hb3⟩
  have hbl3:b<w3.heap.size:=zT hW.lt hb3.size
  have hv3:=(zo hb3 (w.heap.size+1) 0 (by omega)).trans hW.var
  have hq3:=hq2.trans (hb3.mono hq2.size)
  have hs3:=zM hs2 hb3.size
  have HR3:=zb ((zo hb3 w.heap.size 0 (by omega)).trans hW.res)
  have HF3:=zb ((hb3.frozen (p:=⟨w.heap.size,0,none⟩) (by simp;omega)).trans hW.resf)
  have HFr3:=zb (hW.frm.keep hb3 hW.lt)
  have hbne:¬w.heap.size=b:=fun e=>hW.ne0 e.symm
  have hs20:=hs2
  clear hW hv2 hs2 hq2 HW2
  have hksl:=j6Q hk3
  have hkb:=kidOwn_b hk3
  have HGX:Hid (∀g o n c,vm=.slice (some ⟨g,o,none⟩) n c→W2.heap.size≤g):=fun g o n c e=>j6P hk3 e
  obtain⟨av,nv,cv,rfl,hnv,hcv⟩:=q5g hksl
  have hnv':ks.length=nv:=by simpa using hnv.symm
  have HK2:=zb hk2
  have HK1:=zb hk1
  have HK3:=zb hksl
  have HKB:=zb hkb
  have HNV:=zb hnv'
  unfold maxLen at hcv
  clear hk1 hk2 hk3 hnv hnv' hksl hb3 hkb
  go_wp2_with fail
  go_loopg [10] (nv) (fun g vi wr=>CRel w3 ks q0p g vi wr)
  case atStart=>exact⟨0,by omega,by have:=HNV.out;omega,rfl,(fun j hj h1 h2=>absurd h2 (by omega)),zB _ _⟩
  case round =>
   obtain⟨k,hk,hgk,rfl,hno,hbel⟩:=hrel
   have HN:=zb hno
   have HG:=zb hgk
   clear hno hgk
   by_cases hlt:k<nv
   ·have hlt':k<ks.length:=by rw[HNV.out];exact hlt
    obtain⟨gx,ok,xk,rfl,hxk,hfk⟩:=q7D (HKB.out.keep hbel hbl3 (zL _)) hlt'
    have hgx2:=HGX.out _ _ _ _ rfl
    have hgxn:¬w.heap.size=gx:=by omega
    have hmem:ks[k]∈ks:=List.getElem_mem hlt'
    have hRk:=(HK2.out _ hmem).1
    have hGk:q3t (ks[k]).2:=q0t HGo.out (HK2.out _ hmem).2
    have hsp:=j4e _ _ wr hfk.frm
    rw[q3z hRk]at hsp
    obtain⟨okk,ck,rfl,f1,f2,f3,f4,f5,f6⟩:=q8u hfk
    have HF6:=zb f6
    have HRk:=zb hRk
    have HGk:=zb hGk
    have hgx:gx<w3.heap.size:=j2p HK3.out
    clear hmem hfk hRk hGk f6
    unfold maxLen at f2
    cases hsx:(q0Q (q4A (ks[k]).1) || q0J (q4A (ks[k]).1))with
    |false =>
     have HB:Hid (q0p (ks[k]).1=false):=by unfold Hid q0p;rw[hsx];rfl
     rw[hsx]at hsp
     go_wp2_with fail
     refine hsp.mono ?_
     rintro e w4 ⟨rfl,hb4⟩
     go_wp2_with fail
     go_region
     go_wp2_with fail
     have hg1:0<gk:=by have:=HG.out;omega
     go_roundg (gk-1)
     case measure=>omega
     case rel=>exact⟨k+1,by omega,by have:=HG.out;omega,by go_num,q1U HN.out hlt' HB.out,(hbel.trans (hb4.mono hbel.size)).drew⟩
    |true =>
     obtain⟨h4k,e4,e2,e1,hnum,hend⟩:=j0O HRk.out hsx
     rw[hsx]at hsp
     have HRB:Hid (q0p (ks[k]).1=(!((ks[k]).2[4].text==[42])&&decide (q0n (ks[k]).2[4].text<q0n (ks[k]).2[2].text))):=by unfold Hid q0p;rw[hsx,e4,e2,Bool.true_and]
     have HE1:=zb e1
     have hg2:=q2N (HGk.out _ (List.getElem_mem (show 2<(ks[k]).2.length by omega))) (by rw[e2];exact hnum)
     have HN2:=zb (fun w'=>q4r (ks[k]).2[2].text ((ks[k]).2[2].pos:Int) hg2.2.1 hg2.2.2 hg2.1 w')
     have HN4:Hid (((ks[k]).2[4].text==[42])=false→∀w',Calls Tryz.prog 117 #[.agg #[bs (ks[k]).2[4].text,.int .i64 (ks[k]).2[4].pos]] w' fun e w''=>e=.returned (.int .i64 (q0n (ks[k]).2[4].text))∧Below w'.heap.size w' w''):=by
      intro hns w'
      have hg4:=q2N (HGk.out _ (List.getElem_mem h4k)) (by rw[e4];exact q9w hend (by rw[←e4];exact hns))
      exact q4r (ks[k]).2[4].text ((ks[k]).2[4].pos:Int) hg4.2.1 hg4.2.2 hg4.1 w'
     have c4:=HF6.out 4 h4k
     have c2:=HF6.out 2 (by omega)
     have c1:=HF6.out 1 (by omega)
     clear e4 e2 e1 hnum hend hg2 HF6
     generalize (ks[k]).2[4].text=t4 at *
     generalize (ks[k]).2[4].pos=p4 at *
     generalize (ks[k]).2[2].text=t2 at *
     generalize (ks[k]).2[2].pos=p2 at *
     generalize (ks[k]).2[1].text=t1 at *
     generalize (ks[k]).2[1].pos=p1 at *
     obtain⟨c4a,c4b⟩:=c4
     obtain⟨c2a,c2b⟩:=c2
     obtain⟨_,c1b⟩:=c1
     go_wp2_with fail
     refine hsp.mono ?_
     rintro e w4 ⟨rfl,hb4⟩
     have hx4:=(zo hb4 gx (ok+k) (by have:=hbel.size;omega)).trans hxk
     have d4a:=(zo hb4 b _ f3).trans c4a
     have d4b:=(zo hb4 b _ f3).trans c4b
     have d2a:=(zo hb4 b _ f3).trans c2a
     have d2b:=(zo hb4 b _ f3).trans c2b
     simp only[Nat.reduceMul,Nat.add_assoc,Nat.reduceAdd]at d4a d4b d2a d2b
     go_wp2_with fail
     cases hst:(t4==[42])with
     |true =>
      have HB:Hid (q0p (ks[k]).1=false):=by unfold Hid;rw[HRB.out,hst];rfl
      go_region
      go_wp2_with fail
      have hg1:0<gk:=by have:=HG.out;omega
      go_roundg (gk-1)
      case measure=>omega
      case rel=>exact⟨k+1,by omega,by have:=HG.out;omega,by go_num,q1U HN.out hlt' HB.out,(hbel.trans (hb4.mono hbel.size)).drew⟩
     |false =>
      have HN4:=zb (HN4.out hst)
      have hRB:q0p (ks[k]).1=decide (q0n t4<q0n t2):=by
       rw[HRB.out,hst]
       simp
      have HRB:=zb hRB
      clear hRB
      generalize q0n t4=n4 at *
      generalize q0n t2=n2 at *
      go_cut [72] from 31 to 81 (fun c wx=>c=.bool (decide (n4<n2))∧Below wr.heap.size wr wx)
      case first =>
       have b4:=hb4
       have SR:∀w',Below wr.heap.size wr w'→(w'.cell? ⟨gx,ok+k,none⟩=some (.slice (some ⟨b,okk,none⟩) (ks[k]).2.length ck)∧w'.cell? ⟨b,okk+8,none⟩=some (bs t4)∧w'.cell? ⟨b,okk+9,none⟩=some (.int .i64 p4)∧w'.cell? ⟨b,okk+4,none⟩=some (bs t2)∧w'.cell? ⟨b,okk+5,none⟩=some (.int .i64 p2))∧Below wr.heap.size wr w':=fun w' h =>
        ⟨⟨(zo h gx (ok+k) (by have:=hbel.size;omega)).trans hxk,(zo h b _ f3).trans c4a,(zo h b _ f3).trans c4b,(zo h b _ f3).trans c2a,(zo h b _ f3).trans c2b⟩,h⟩
       have HSR:=zb SR
       clear SR hx4 d4a d4b d2a d2b
       go_region_held (fun w'=>(w'.cell? ⟨gx,ok+k,none⟩=some (.slice (some ⟨b,okk,none⟩) (ks[k]).2.length ck)∧w'.cell? ⟨b,okk+8,none⟩=some (bs t4)∧w'.cell? ⟨b,okk+9,none⟩=some (.int .i64 p4)∧w'.cell? ⟨b,okk+4,none⟩=some (bs t2)∧w'.cell? ⟨b,okk+5,none⟩=some (.int .i64 p2))∧Below wr.heap.size wr w') (first|exact HSR.out _ b4.drew|exact HSR.out _ (bel_held (by assumption) (by assumption))) (first|(go_at_call_of 117 (bs t2);refine(HN2.out _).mono ?_;rintro e w5 ⟨rfl,hb5⟩)|(go_at_call_of 117 (bs t4);refine(HN4.out _).mono ?_;rintro e w6 ⟨rfl,hb6⟩))
       all_goals
        go_wp2_with fail
        go_meet
        case rel=>exact⟨rfl,(by assumption:_∧Below wr.heap.size wr _).2⟩
      case rest =>
       obtain⟨rfl,b5⟩:=hcut
       have d5:=hbel.trans (b5.mono hbel.size)
       clear hx4 d4a d4b d2a d2b hb4
       cases hd42:decide (n4<n2)with
       |false =>
        have HB:Hid (q0p (ks[k]).1=false):=by unfold Hid;rw[HRB.out,hd42]
        go_wp2_with fail
        have hg1:0<gk:=by have:=HG.out;omega
        go_roundg (gk-1)
        case measure=>omega
        case rel=>exact⟨k+1,by omega,by have:=HG.out;omega,by go_num,q1U HN.out hlt' HB.out,d5⟩
       |true =>
        have HFd:Hid (q0x F=(4,(p1:Int))):=by
         have:=q7e hlt' HN.out (HRB.out.trans hd42)
         rw[HK1.out]at this
         unfold Hid q0x
         rw[this,HE1.out]
        have hx5:=(zo b5 gx (ok+k) (by have:=hbel.size;omega)).trans hxk
        have e1b:=(zo b5 b _ f3).trans c1b
        have hv5:=(zo d5 (w.heap.size+1) 0 (by omega)).trans hv3
        have hr5:=(zo d5 w.heap.size 0 (by omega)).trans HR3.out
        have hz5:=(d5.frozen (p:=⟨w.heap.size,0,none⟩) (by simp;omega)).trans HF3.out
        simp only[Nat.one_mul,Nat.add_assoc,Nat.reduceAdd]at e1b
        go_wp2_with fail
        go_region
        go_wp2_with fail
        exact zP (v:=.tuple #[.agg #[.slice (some ⟨b,o,none⟩) toks.length cap],.int .i64 4,.int .i64 p1]) (by simp[results,Tryz.results90,go_sem,hr5]) rfl ⟨_,_,_,by rw[HFd.out],by rw[HFd.out];simp,((hq3.trans (d5.mono hq3.size)).setCell (by simp) _).drew⟩
   ·have HF1:Hid ((zu F).find? q0p=none):=by
     have:=q8s (show ks.length≤k by have:=HNV.out;omega) HN.out
     rw[HK1.out]at this
     exact this
    clear HN HG
    go_wp2_with fail
    go_loopg [12] (nv) (fun g vi wr=>CRel w3 ks q0v g vi wr)
    case atStart=>exact⟨0,by omega,by have:=HNV.out;omega,rfl,(fun j hj h1 h2=>absurd h2 (by omega)),hbel⟩
    case round =>
     clear hbel
     obtain⟨k,hk,hgk,rfl,hno,hbel⟩:=hrel
     have HN:=zb hno
     have HG:=zb hgk
     clear hno hgk
     by_cases hlt:k<nv
     ·have hlt':k<ks.length:=by rw[HNV.out];exact hlt
      obtain⟨gx,ok,xk,rfl,hxk,hfk⟩:=q7D (HKB.out.keep hbel hbl3 (zL _)) hlt'
      have hgx2:=HGX.out _ _ _ _ rfl
      have hgxn:¬w.heap.size=gx:=by omega
      have hmem:ks[k]∈ks:=List.getElem_mem hlt'
      have hRk:=(HK2.out _ hmem).1
      have hsp:=j1K _ _ wr hfk.frm
      rw[q3z hRk]at hsp
      obtain⟨okk,ck,rfl,f1,f2,f3,f4,f5,f6⟩:=q8u hfk
      have HF6:=zb f6
      have HRk:=zb hRk
      have hgx:gx<w3.heap.size:=j2p HK3.out
      clear hmem hfk hRk f6
      unfold maxLen at f2
      cases hsx:q2f (q4A (ks[k]).1)with
      |false =>
       have HB:Hid (q0v (ks[k]).1=false):=by unfold Hid q0v;rw[hsx];rfl
       rw[hsx]at hsp
       go_wp2_with fail
       refine hsp.mono ?_
       rintro e w4 ⟨rfl,hb4⟩
       go_wp2_with fail
       have hg1:0<gk:=by have:=HG.out;omega
       go_roundg (gk-1)
       case measure=>omega
       case rel=>exact⟨k+1,by omega,by have:=HG.out;omega,by go_num,q1U HN.out hlt' HB.out,hbel.trans (hb4.mono hbel.size)⟩
      |true =>
       obtain⟨h4k,e4,e2,e1,hnum,hend⟩:=j0O HRk.out (q3u hsx)
       rw[hsx]at hsp
       have HRB:Hid (q0v (ks[k]).1=((ks[k]).2[4].text==[42])):=by unfold Hid q0v;rw[hsx,e4,Bool.true_and]
       have HE1:=zb e1
       have c4:=HF6.out 4 h4k
       have c1:=HF6.out 1 (by omega)
       clear e4 e2 e1 hnum hend HF6
       generalize (ks[k]).2[4].text=t4 at *
       generalize (ks[k]).2[4].pos=p4 at *
       generalize (ks[k]).2[1].text=t1 at *
       generalize (ks[k]).2[1].pos=p1 at *
       obtain⟨c4a,c4b⟩:=c4
       obtain⟨_,c1b⟩:=c1
       go_wp2_with fail
       refine hsp.mono ?_
       rintro e w4 ⟨rfl,b5⟩
       have d5:=hbel.trans (b5.mono hbel.size)
       have hx5:=(zo b5 gx (ok+k) (by have:=hbel.size;omega)).trans hxk
       have d4a:=(zo b5 b _ f3).trans c4a
       have e1b:=(zo b5 b _ f3).trans c1b
       simp only[Nat.one_mul,Nat.reduceMul,Nat.add_assoc,Nat.reduceAdd]at d4a e1b
       cases hst:(t4==[42])with
       |false =>
        have HB:Hid (q0v (ks[k]).1=false):=by unfold Hid;rw[HRB.out,hst]
        go_wp2_with fail
        have hg1:0<gk:=by have:=HG.out;omega
        go_roundg (gk-1)
        case measure=>omega
        case rel=>exact⟨k+1,by omega,by have:=HG.out;omega,by go_num,q1U HN.out hlt' HB.out,d5⟩
       |true =>
        have HFd:Hid (q0x F=(5,(p1:Int))):=by
         have:=q7e hlt' HN.out (HRB.out.trans hst)
         rw[HK1.out]at this
         unfold Hid q0x
         rw[HF1.out,this,HE1.out]
        have hv5:=(zo d5 (w.heap.size+1) 0 (by omega)).trans hv3
        have hr5:=(zo d5 w.heap.size 0 (by omega)).trans HR3.out
        have hz5:=(d5.frozen (p:=⟨w.heap.size,0,none⟩) (by simp;omega)).trans HF3.out
        go_wp2_with fail
        go_region
        go_wp2_with fail
        exact zP (v:=.tuple #[.agg #[.slice (some ⟨b,o,none⟩) toks.length cap],.int .i64 5,.int .i64 p1]) (by simp[results,Tryz.results90,go_sem,hr5]) rfl ⟨_,_,_,by rw[HFd.out],by rw[HFd.out];simp,((hq3.trans (d5.mono hq3.size)).setCell (by simp) _).drew⟩
     ·have HF2:Hid ((zu F).find? q0v=none):=by
       have:=q8s (show ks.length≤k by have:=HNV.out;omega) HN.out
       rw[HK1.out]at this
       exact this
      clear HN HG
      go_wp2_with fail
      go_loopg [14] (nv) (fun g vi wr=>CRel w3 ks q2t g vi wr)
      case atStart=>exact⟨0,by omega,by have:=HNV.out;omega,rfl,(fun j hj h1 h2=>absurd h2 (by omega)),hbel⟩
      case round =>
       clear hbel
       obtain⟨k,hk,hgk,rfl,hno,hbel⟩:=hrel
       have HN:=zb hno
       have HG:=zb hgk
       clear hno hgk
       by_cases hlt:k<nv
       ·have hlt':k<ks.length:=by rw[HNV.out];exact hlt
        obtain⟨gx,ok,xk,rfl,hxk,hfk⟩:=q7D (HKB.out.keep hbel hbl3 (zL _)) hlt'
        have hgx2:=HGX.out _ _ _ _ rfl
        have hgxn:¬w.heap.size=gx:=by omega
        have hmem:ks[k]∈ks:=List.getElem_mem hlt'
        have hRk:=(HK2.out _ hmem).1
        have hsp:=j5u _ _ _ wr hRk hfk.frm
        obtain⟨okk,ck,rfl,f1,f2,f3,f4,f5,f6⟩:=q8u hfk
        obtain⟨h0k,e0⟩:=j7h hRk
        have c0:=f6 0 h0k
        have HE0:=zb e0
        have hgx:gx<w3.heap.size:=j2p HK3.out
        clear hmem hfk hRk f6 e0
        unfold maxLen at f2
        generalize (ks[k]).2[0].text=t0 at *
        generalize (ks[k]).2[0].pos=p0 at *
        obtain⟨_,c0b⟩:=c0
        cases hsx:q2t (ks[k]).1 with
        |false =>
         have HB:=zb hsx
         rw[hsx]at hsp
         clear hsx
         go_wp2_with fail
         refine hsp.mono ?_
         rintro e w4 ⟨rfl,hb4⟩
         go_wp2_with fail
         have hg1:0<gk:=by have:=HG.out;omega
         go_roundg (gk-1)
         case measure=>omega
         case rel=>exact⟨k+1,by omega,by have:=HG.out;omega,by go_num,q1U HN.out hlt' HB.out,hbel.trans (hb4.mono hbel.size)⟩
        |true =>
         have HFd:Hid (q0x F=(6,(p0:Int))):=by
          have:=q7e hlt' HN.out hsx
          rw[HK1.out]at this
          unfold Hid q0x
          rw[HF1.out,HF2.out,this,HE0.out]
         rw[hsx]at hsp
         clear hsx
         go_wp2_with fail
         refine hsp.mono ?_
         rintro e w4 ⟨rfl,b5⟩
         have d5:=hbel.trans (b5.mono hbel.size)
         have hx5:=(zo b5 gx (ok+k) (by have:=hbel.size;omega)).trans hxk
         have e0b:=(zo b5 b _ f3).trans c0b
         simp only[Nat.zero_mul,Nat.add_zero]at e0b
         have hv5:=(zo d5 (w.heap.size+1) 0 (by omega)).trans hv3
         have hr5:=(zo d5 w.heap.size 0 (by omega)).trans HR3.out
         have hz5:=(d5.frozen (p:=⟨w.heap.size,0,none⟩) (by simp;omega)).trans HF3.out
         go_wp2_with fail
         go_region
         go_wp2_with fail
         exact zP (v:=.tuple #[.agg #[.slice (some ⟨b,o,none⟩) toks.length cap],.int .i64 6,.int .i64 p0]) (by simp[results,Tryz.results90,go_sem,hr5]) rfl ⟨_,_,_,by rw[HFd.out],by rw[HFd.out];simp,((hq3.trans (d5.mono hq3.size)).setCell (by simp) _).drew⟩
       ·have HFd:Hid (q0x F=(0,0)):=by
         have:=q8s (show ks.length≤k by have:=HNV.out;omega) HN.out
         rw[HK1.out]at this
         unfold Hid q0x
         rw[HF1.out,HF2.out,this]
        have hv5:=(zo hbel (w.heap.size+1) 0 (by omega)).trans hv3
        have hr5:=(zo hbel w.heap.size 0 (by omega)).trans HR3.out
        have hz5:=(hbel.frozen (p:=⟨w.heap.size,0,none⟩) (by simp;omega)).trans HF3.out
        have HFin:=zb (frm_set (HFr3.out.keep hbel hbl3) (show b≠w.heap.size from fun e=>hbne e.symm))
        go_wp2_with fail
        exact zP (v:=.tuple #[.agg #[.slice (some ⟨b,o,none⟩) toks.length cap],.int .i64 0,.int .i64 0]) (by simp[results,Tryz.results90,go_sem,hr5]) rfl ⟨_,_,_,by rw[HFd.out],fun _=>⟨HFin.out _,fun k hk=>by simp[Value.ownBlock]at hk;rw[hk];exact HFRB.out⟩,((hq3.trans (hbel.mono hq3.size)).setCell (by simp) _)⟩
 ·have hc:qh s=q0W s:=by unfold qh;rw[if_pos hr]
  rw[hc]
  generalize q0W s=rr at *
  obtain⟨re,rp⟩:=rr
  simp only[]at hr hRd
  have hre:(re != 0)=true:=by simp[hr]
  go_enter Tryz.func90,Tryz.ntmps90
  go_wp2_with fail
  have q0:=((zB w.heap.size w).alloc (zL _) (.cells #[.slice none 0 0] 149)).alloc (by simp) (.cells #[.slice none 0 0] 149)
  refine(hRd _).mono ?_
  rintro e w1 ⟨v,rfl,_,hv0,hb1⟩
  have hv1:=hv0 hr
  subst hv1
  have r1:=hb1.mono (B':=w.heap.size+2) (by simp)
  have q1:=q0.trans (hb1.mono (by simp;omega))
  have hs1:=r1.size
  simp at hs1
  have hc0:=zo r1 w.heap.size 0 (by omega)
  have hc1:=zo r1 (w.heap.size+1) 0 (by omega)
  have hf0:=r1.frozen (p:=⟨w.heap.size,0,none⟩) (by simp)
  clear hb1 hRd hv0
  go_wp2_with fail
  exact zP (v:=.tuple #[.agg #[.slice none 0 0],.int .i64 re,.int .i64 rp]) (by simp[results,Tryz.results90,go_sem,hc0]) rfl ⟨_,_,_,rfl,fun h=>absurd h hr,q1.setCell (by simp) _⟩
end Go.Proofs.YtiamjjonoeaggaaGreatDoor
