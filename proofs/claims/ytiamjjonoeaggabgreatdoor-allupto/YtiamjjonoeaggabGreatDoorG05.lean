import Derived.Test.YtiamjjonoeaggabGreatDoorGA
import Derived.Test.YtiamjjonoeaggabGreatDoorG04
import Derived.Deep.RegionWith
import Derived.Deep.CutRange
set_option maxRecDepth 100000
set_option maxHeartbeats 16000000
namespace Go.Proofs.YtiamjjonoeaggabGreatDoor
open Go.RowKit
def zt:zl→By→Bool
 | .nil,_=>false
 | .node _ _ y l r,x=>match l with
  | .nil=>y.args.any fun a=>a==x
  |_=>!(y.word==[101,120,105,115,116,115]&&y.args==[x])&&(zt l x || zt r x)
theorem q7F {p sp:Nat}{y:Pay}{l r k:zl}(h:k∈q1g (.node p sp y l r)):k=l∨k=r:=by
 cases l with
 |nil=>simp[q1g]at h
 |node =>
  cases r with
  |nil=>simp[q1g]at h;exact .inl h
  |node=>simp[q1g]at h;exact h
theorem j6A {p sp:Nat}{y:Pay}{l r:zl}(x:By)(h:q1g (.node p sp y l r)≠[]):zt (.node p sp y l r) x=(!(y.word==[101,120,105,115,116,115]&&y.args==[x])&&(q1g (.node p sp y l r)).any fun k=>zt k x):=by
 cases l with
 |nil=>simp[q1g]at h
 |node =>
  cases r with
  |nil =>
   show(!(y.word==[101,120,105,115,116,115]&&y.args==[x])&&(zt _ x || false))=_
   simp[q1g]
  |node =>
   show(!(y.word==[101,120,105,115,116,115]&&y.args==[x])&&(zt _ x || zt _ x))=_
   simp[q1g]
theorem j6B {F:zl}{u:List Tok}(h:qz F u)(hlf:q3Z (hd u)=true)(x:By)(hx:q1J x=true):zt F x=(u.drop 1).any fun t=>t.text==x:=by
 have hx':x=[120]∨x=[121]:=by simpa[q1J]using hx
 have n1:(([40]:By)==x)=false:=by rcases hx' with rfl|rfl<;>rfl
 have n2:(([41]:By)==x)=false:=by rcases hx' with rfl|rfl<;>rfl
 have n3:(([44]:By)==x)=false:=by rcases hx' with rfl|rfl<;>rfl
 have hk:=q6z h hlf
 cases F with
 |nil=>exact h.elim
 |node p sp y l r =>
  rcases h with⟨hn,_,_,rfl,rfl,q1,q2,q3,a,ha,hb⟩|⟨hn,hw,_,_,rfl,v,q1,q2,q3,ul,hv,_,hl,rfl⟩|⟨hn,hw,_,_,_,q1,q2,q3,ul,ur,hl,hr,rfl⟩|⟨hn,hw,_,rfl,hlo,hhi,q1,q2,q3,q4,q5,q6,ul,hl,rfl⟩|⟨hn,hw,_,hlo,hhi,q1,q2,q3,q4,q5,q6,q7,ul,ur,hl,hr,rfl⟩|⟨_,hw,hy,_,_,rfl,rfl,rfl⟩
  ·rcases hb with⟨hy,rfl⟩|⟨z,q4,q5,hz,hy,rfl⟩
   ·simp[zt,hy,n1,n2,-List.any_eq_true]
   ·simp[zt,hy,n1,n2,n3,-List.any_eq_true]
  ·rw[q2l hl]at hk;simp at hk
  ·rw[q3J hl hr]at hk;simp at hk
  ·rw[q2l hl]at hk;simp at hk
  ·rw[q3J hl hr]at hk;simp at hk
  ·simp[zt,hy]
theorem q8X {p sp:Nat}{y:Pay}{l r:zl}{u:List Tok}(h:qz (.node p sp y l r) u)(hw:y.word=[101,120,105,115,116,115]):∃(h1:1<u.length),y.args=[(u[1]).text]∧q1J (u[1]).text=true:=by
 rcases h with⟨hn,_⟩|⟨hn,_,_,_,rfl,v,q1,q2,q3,ul,hv,ha,hl,rfl⟩|⟨hn,hw',_⟩|⟨hn,hw',_⟩|⟨hn,hw',_⟩|⟨_,hw',_⟩
 ·rw[hw]at hn;exact absurd hn (by decide)
 ·exact⟨by simp,ha,hv⟩
 ·rw[hw]at hw';exact absurd hw' (by decide)
 ·rw[hw]at hw';exact absurd hw' (by decide)
 ·rw[hw]at hw';exact absurd hw' (by decide)
 ·rw[hw]at hw';exact absurd hw' (by decide)
theorem kid_at {w:World}{v:Value}{us:List (List Tok)}(h:q5V w v us)(hne:us≠[]):∃g o cap,v=.slice (some ⟨g,o,none⟩) us.length cap∧us.length≤cap∧cap≤maxLen∧g<w.heap.size∧∀j (h:j<us.length),∃x,w.cell? ⟨g,o+j,none⟩=some x∧qB w (.agg #[x]) us[j]:=by
 rcases h with⟨_,h⟩|h
 ·exact absurd h hne
 ·exact h
theorem j5V {w:World}{g o c:Nat}{k0:zl × List Tok}{kt:List (zl × List Tok)}{k:Nat}(h:q5V w (.slice (some ⟨g,o,none⟩) ((k0::kt).map Prod.snd).length c) ((k0::kt).map Prod.snd))(hk:k<(k0::kt).length):∃x,w.cell? ⟨g,o+k,none⟩=some x∧qB w (.agg #[x]) ((k0::kt)[k]).2:=by
 rcases h with⟨h,_⟩|⟨g',o',c',e,h1,h2,h3,h4⟩
 ·simp at h
 ·simp at e
  obtain⟨⟨rfl,rfl⟩,rfl⟩:=e
  obtain⟨x,hx,hf⟩:=h4 k (by simpa using hk)
  refine⟨x,hx,?_⟩
  rw[List.getElem_map]at hf
  exact hf
def q1y {α:Type}(l:List α)(f:α→Bool)(a k:Nat):Prop:=∀j (h:j<l.length),a≤j→j<k→f l[j]=false
theorem q1U {α:Type}{l:List α}{f:α→Bool}{a k:Nat}(h:q1y l f a k)(hk:k<l.length)(hf:f l[k]=false):q1y l f a (k+1):=by
 intro j hj ha hjk
 rcases Nat.lt_or_ge j k with g|g
 ·exact h j hj ha g
 ·have:j=k:=by omega
  subst this
  exact hf
theorem q7N {α:Type}{l:List α}{f:α→Bool}{a k:Nat}(h:q1y l f a k)(hk:l.length≤k):(l.drop a).any f=false:=by
 rw[List.any_eq_false]
 intro x hx
 obtain⟨j,hj,rfl⟩:=List.mem_iff_getElem.1 hx
 simp at hj
 rw[List.getElem_drop]
 rw[h (a+j) (by omega) (by omega) (by omega)]
 simp
theorem q8f {α:Type}{l:List α}{f:α→Bool}{a k:Nat}(ha:a≤k)(hk:k<l.length)(hf:f l[k]=true):(l.drop a).any f=true:=by
 rw[List.any_eq_true]
 refine⟨l[k],?_,hf⟩
 rw[List.mem_iff_getElem]
 exact⟨k-a,by simp;omega,by rw[List.getElem_drop];congr 1;omega⟩
def FRel (B:Nat)(W0:World)(n:Nat)(bad:Nat→Prop)(vi:Value)(wr:World):Prop:=∃k:Nat,k≤n∧vi=.int .i64 k∧bad k∧Below B W0 wr
theorem q4q:∀(F:zl) (u:List Tok) (v:Value) (w:World) (x:By),qz F u→qB w v u→q1J x=true →
  Calls Tryz.prog 81 #[v,bs x] w fun e w'=>e=.returned (.bool (zt F x))∧Below w.heap.size w w':=by
 intro F
 induction F with
 |nil=>intro u v w x h;exact h.elim
 |node p sp y l r ihl ihr =>
  intro u v w x hR hF hx
  have HP:=zb (fun w1 (hb:Below w.heap.size w w1)=>q6H _ u v w1 hR (hF.below hb))
  have HW:=zb (fun w1 (hb:Below w.heap.size w w1)=>q0b v u w1 (hF.below hb))
  have HI:Hid (∀k∈q1g (.node p sp y l r),∀(u':List Tok) (v':Value) (w':World),qz k u'→qB w' v' u'→Calls Tryz.prog 81 #[v',bs x] w' fun e w''=>e=.returned (.bool (zt k x))∧Below w'.heap.size w' w''):=by
   intro k hk u' v' w' h1 h2
   rcases q7F hk with rfl|rfl
   ·exact ihl u' v' w' x h1 h2 hx
   ·exact ihr u' v' w' x h1 h2 hx
  clear ihl ihr
  have HL:=zb (fun h=>j6B hR h x hx)
  have HK:=zb (fun h=>j6A (p:=p) (sp:=sp) (y:=y) (l:=l) (r:=r) x h)
  have HX:=zb (fun h=>q8X hR h)
  have HLK:=zb (fun h=>q6z hR h)
  have HWd:Hid (hd u=y.word):=q3z hR
  have HNL:=zb (fun h=>q5F hR h)
  clear hR
  generalize hFF:(Go.Deep.BT.node p sp y l r:zl)=F at *
  clear hFF
  obtain⟨b,o,cap,rfl,h1,h2,h3,h4,h5,h6⟩:=qe hF
  have H6:=zb h6
  clear h6 hF
  unfold maxLen at h2
  go_enter Tryz.func81,Tryz.ntmps81
  go_wp2_with fail
  refine(HP.out _ ((zB _ _).alloc (zL _) _)).mono ?_
  rintro e w1 ⟨vk,ks,rfl,hk1,hk2,hk3,hb1⟩
  have r1:=hb1.mono (B':=w.heap.size+1) (by simp)
  have q1:=((zB w.heap.size w).alloc (zL _) _).trans (hb1.mono (by simp))
  have hc1:=zo r1 w.heap.size 0 (by simp)
  clear hb1
  cases ks with
  |nil =>
   simp at hk1
   have hlf:q3Z (hd u)=true:=by
    cases hh:q3Z (hd u)with
    |true=>rfl
    |false =>
     rcases HNL.out hh with⟨_,_,_,e,_⟩|⟨_,_,_,_,_,_,e,_⟩<;>rw[hk1]at e<;>simp at e
   have HE:=zb (HL.out hlf)
   rcases hk3 with⟨rfl,_⟩|⟨_,_,_,rfl,_⟩
   all_goals
    clear hk1 hk2 hlf HL HLK HNL HK HX
    try simp only[List.map_nil,List.length_nil]
    go_wp2_with fail
    go_loopw [6] (fun vi wr=>FRel (w.heap.size+1) (w.alloc (.cells #[.slice (some ⟨b,o,none⟩) u.length cap] 112)) u.length (fun k=>1≤k∧q1y u (fun t=>t.text==x) 1 k) vi wr) (fun vi _=>u.length-(intOf vi).toNat)
    case atStart=>exact⟨1,by omega,rfl,⟨zL _,fun j hj h1 h2=>absurd h2 (by omega)⟩,r1⟩
    case round =>
     obtain⟨k,hk,rfl,⟨hk1,hno⟩,hbel⟩:=hrel
     clear r1 q1 hc1
     have HN:=zb hno
     clear hno
     have hcb:=zo hbel w.heap.size 0 (by simp)
     by_cases hlt:k<u.length
     ·have hct:=(zo hbel b (o+k*2) (by omega)).trans ((World.cell?_alloc_lt _ _ _ h3).trans (H6.out k hlt).1)
      cases he:((u[k]).text==x)with
      |true =>
       have HH:Hid ((u.drop 1).any (fun t=>t.text==x)=true):=q8f hk1 hlt he
       generalize (u[k]).text=t at *
       go_wp2_with fail
       go_ret
       exact⟨qm (by rw[HE.out,HH.out]),((zB _ _).alloc (zL _) _).trans (hbel.mono (by omega))⟩
      |false =>
       have HH:Hid (q1y u (fun t=>t.text==x) 1 (k+1)):=q1U HN.out hlt he
       generalize (u[k]).text=t at *
       go_wp2_with fail
       go_roundw
       case rel=>exact⟨k+1,by omega,by go_num,⟨by omega,HH.out⟩,hbel⟩
       case measure=>simp[intOf];omega
     ·have HH:Hid ((u.drop 1).any (fun t=>t.text==x)=false):=q7N HN.out (by omega)
      go_wp2_with fail
      go_ret
      exact⟨qm (by rw[HE.out,HH.out]),((zB _ _).alloc (zL _) _).trans (hbel.mono (by omega))⟩
  |cons k0 kt =>
   have hne:q1g F≠[]:=by rw[←hk1];simp
   have HE:=zb (HK.out hne)
   clear HK HL HLK HNL
   obtain⟨gk,ok,ck,rfl,c1,c2,c3,c4⟩:=kid_at hk3 (by simp)
   have HK2:=zb hk2
   have HK1:=zb hk1
   have HK3:=zb hk3
   clear hk1 hk2 hk3 c4 hne
   have hlen:((k0::kt).map Prod.snd).length=kt.length+1:=by simp
   rw[hlen]at c1 ⊢
   clear hlen
   unfold maxLen at c2
   have hz:((kt.length:Int)+1==0)=false:=by simp;omega
   cases hex:(hd u==[101,120,105,115,116,115])with
   |true =>
    have hyw:y.word=[101,120,105,115,116,115]:=by rw[←HWd.out];simpa using hex
    obtain⟨hu1,hya,_⟩:=HX.out hyw
    have hct:=fun w2 (hb2:Below w1.heap.size w1 w2)=>(zo hb2 b (o+1*2) (by have:=r1.size;simp at this;omega)).trans ((zo r1 b (o+1*2) (by omega)).trans ((World.cell?_alloc_lt _ _ _ h3).trans (H6.out 1 hu1).1))
    have HCT:=zb hct
    clear hct
    generalize ht1:(u[1]).text=t1 at *
    have HYA:=zb hya
    have HYW:=zb hyw
    clear hya hyw HX ht1
    go_wp2_with fail
    refine(HW.out _ q1).mono ?_
    rintro e w2 ⟨rfl,hb2⟩
    have hs1:=r1.size
    simp at hs1
    have hc2:=(zo hb2 w.heap.size 0 (by omega)).trans hc1
    have hct2:=HCT.out w2 hb2
    simp only[Nat.one_mul]at hct2
    cases hx1:(t1==x)with
    |true =>
     have HEx:Hid ((!(y.word==[101,120,105,115,116,115]&&y.args==[x]))=false):=by
      unfold Hid
      rw[HYW.out,HYA.out]
      simp at hx1
      simp[hx1]
     go_wp2_with fail
     go_ret
     exact⟨qm (by rw[HE.out,HEx.out];rfl),q1.trans (hb2.mono q1.size)⟩
    |false =>
     have HEx:Hid ((!(y.word==[101,120,105,115,116,115]&&y.args==[x]))=true):=by
      unfold Hid
      rw[HYW.out,HYA.out]
      simp at hx1
      simp[hx1]
     go_wp2_with fail
     go_loopw [7] (fun vi wr=>FRel w1.heap.size w1 (kt.length+1) (fun k=>q1y (k0::kt) (fun k=>zt k.1 x) 0 k) vi wr) (fun vi _=>kt.length+1-(intOf vi).toNat)
     case atStart=>exact⟨0,by omega,rfl,(fun j hj h1 h2=>absurd h2 (by omega)),hb2⟩
     case round =>
      obtain⟨k,hk,rfl,hno,hbel⟩:=hrel
      have HN:=zb hno
      clear hno
      have hbt:=q1.trans (hbel.mono q1.size)
      by_cases hlt:k<kt.length+1
      ·have hlt':k<(k0::kt).length:=by simpa using hlt
       obtain⟨xk,hxk,hfk⟩:=j5V (HK3.out.below hbel) hlt'
       have hmem:(k0::kt)[k]∈k0::kt:=List.getElem_mem hlt'
       have hC:=HI.out _ (by rw[←HK1.out];exact List.mem_map_of_mem hmem) _ _ _ (HK2.out _ hmem).1 hfk
       have HNx:=zb (fun h=>q1U HN.out hlt' h)
       have HHt:=zb (fun h=>q8f (f:=fun k:zl × List Tok=>zt k.1 x) (zZ k) hlt' h)
       clear hmem hfk HN
       generalize hfb:zt ((k0::kt)[k]).1 x=fb at *
       have HFB:=zb hfb
       clear hfb
       cases fb with
       |true =>
        have HH:Hid ((q1g F).any (fun k=>zt k x)=true):=by
         have:=HHt.out rfl
         rw[List.drop_zero]at this
         unfold Hid
         rw[←HK1.out,List.any_map]
         exact this
        clear HNx HHt HFB
        go_wp2_with fail
        refine hC.mono ?_
        rintro e w3 ⟨rfl,hb3⟩
        go_wp2_with fail
        go_ret
        exact⟨qm (by rw[HE.out,HEx.out,HH.out];rfl),hbt.trans (hb3.mono hbt.size)⟩
       |false =>
        have HH:=zb (HNx.out rfl)
        clear HNx HHt HFB
        go_wp2_with fail
        refine hC.mono ?_
        rintro e w3 ⟨rfl,hb3⟩
        go_wp2_with fail
        go_roundw
        case rel=>exact⟨k+1,by omega,by go_num,HH.out,hbel.trans (hb3.mono hbel.size)⟩
        case measure=>simp[intOf];omega
      ·have HH:Hid ((q1g F).any (fun k=>zt k x)=false):=by
        have:=q7N HN.out (by simp;omega)
        rw[List.drop_zero]at this
        unfold Hid
        rw[←HK1.out,List.any_map]
        exact this
       go_wp2_with fail
       go_ret
       exact⟨qm (by rw[HE.out,HEx.out,HH.out];rfl),hbt⟩
   |false =>
    have HEx:Hid ((!(y.word==[101,120,105,115,116,115]&&y.args==[x]))=true):=by
     unfold Hid
     rw[←HWd.out,hex]
     rfl
    go_wp2_with fail
    refine(HW.out _ q1).mono ?_
    rintro e w2 ⟨rfl,hb2⟩
    have hs1:=r1.size
    simp at hs1
    have hc2:=(zo hb2 w.heap.size 0 (by omega)).trans hc1
    go_wp2_with fail
    go_loopw [7] (fun vi wr=>FRel w1.heap.size w1 (kt.length+1) (fun k=>q1y (k0::kt) (fun k=>zt k.1 x) 0 k) vi wr) (fun vi _=>kt.length+1-(intOf vi).toNat)
    case atStart=>exact⟨0,by omega,rfl,(fun j hj h1 h2=>absurd h2 (by omega)),hb2⟩
    case round =>
     obtain⟨k,hk,rfl,hno,hbel⟩:=hrel
     have HN:=zb hno
     clear hno
     have hbt:=q1.trans (hbel.mono q1.size)
     by_cases hlt:k<kt.length+1
     ·have hlt':k<(k0::kt).length:=by simpa using hlt
      obtain⟨xk,hxk,hfk⟩:=j5V (HK3.out.below hbel) hlt'
      have hmem:(k0::kt)[k]∈k0::kt:=List.getElem_mem hlt'
      have hC:=HI.out _ (by rw[←HK1.out];exact List.mem_map_of_mem hmem) _ _ _ (HK2.out _ hmem).1 hfk
      have HNx:=zb (fun h=>q1U HN.out hlt' h)
      have HHt:=zb (fun h=>q8f (f:=fun k:zl × List Tok=>zt k.1 x) (zZ k) hlt' h)
      clear hmem hfk HN
      generalize hfb:zt ((k0::kt)[k]).1 x=fb at *
      have HFB:=zb hfb
      clear hfb
      cases fb with
      |true =>
       have HH:Hid ((q1g F).any (fun k=>zt k x)=true):=by
        have:=HHt.out rfl
        rw[List.drop_zero]at this
        unfold Hid
        rw[←HK1.out,List.any_map]
        exact this
       clear HNx HHt HFB
       go_wp2_with fail
       refine hC.mono ?_
       rintro e w3 ⟨rfl,hb3⟩
       go_wp2_with fail
       go_ret
       exact⟨qm (by rw[HE.out,HEx.out,HH.out];rfl),hbt.trans (hb3.mono hbt.size)⟩
      |false =>
       have HH:=zb (HNx.out rfl)
       clear HNx HHt HFB
       go_wp2_with fail
       refine hC.mono ?_
       rintro e w3 ⟨rfl,hb3⟩
       go_wp2_with fail
       go_roundw
       case rel=>exact⟨k+1,by omega,by go_num,HH.out,hbel.trans (hb3.mono hbel.size)⟩
       case measure=>simp[intOf];omega
     ·have HH:Hid ((q1g F).any (fun k=>zt k x)=false):=by
       have:=q7N HN.out (by simp;omega)
       rw[List.drop_zero]at this
       unfold Hid
       rw[←HK1.out,List.any_map]
       exact this
      go_wp2_with fail
      go_ret
      exact⟨qm (by rw[HE.out,HEx.out,HH.out];rfl),hbt⟩
def q2f (t:By):Bool:=inB t q8k
theorem j4U (t:By)(w:World) :
  Calls Tryz.prog 112 #[bs t,.slice (some ⟨w.heap.size,0,none⟩) 4 4] (w.alloc (.cells #[bs [110,101,120,116],bs [115,111,111,110],bs [117,110,116,105,108],bs [117,110,117,110,116,105,108]] 9)) fun e w'=>e=.returned (.bool (q2f t))∧w'=w.alloc (.cells #[bs [110,101,120,116],bs [115,111,111,110],bs [117,110,116,105,108],bs [117,110,117,110,116,105,108]] 9):=
 q7m t _ q8k _ (qx w q8k 9 (by decide))
theorem j1J (v:Value)(u:List Tok)(w:World)(h:qB w v u) :
  Calls Tryz.prog 79 #[v] w fun e w'=>e=.returned (.bool (q2f (hd u)))∧Below w.heap.size w w':=by
 have HW:=zb (fun w1 (hb:Below w.heap.size w w1)=>q0b v u w1 (h.below hb))
 obtain⟨b,o,cap,rfl,_⟩:=qe h
 clear h
 go_enter Tryz.func79,Tryz.ntmps79
 go_wp2_with fail
 refine(HW.out _ ((zB _ _).alloc (zL _) _)).mono ?_
 rintro e w1 ⟨rfl,hb1⟩
 have q1:=((zB w.heap.size w).alloc (zL _) _).trans (hb1.mono (by simp))
 go_wp2_with fail
 refine(j4U (hd u) _).mono ?_
 rintro e w2 ⟨rfl,rfl⟩
 go_wp2_with fail
 go_ret
 exact⟨rfl,q1.alloc q1.size _⟩
theorem j4c (v:Value)(u:List Tok)(w:World)(h:qB w v u) :
  Calls Tryz.prog 77 #[v] w fun e w'=>e=.returned (.bool (q0Q (hd u) || q0J (hd u)))∧Below w.heap.size w w':=by
 have HW:=zb (fun w1 (hb:Below w.heap.size w w1)=>q0b v u w1 (h.below hb))
 obtain⟨b,o,cap,rfl,_⟩:=qe h
 clear h
 have h1:=q8I (hd u)
 have h2:=q8J (hd u)
 generalize q0Q (hd u)=b1 at *
 generalize q0J (hd u)=b2 at *
 cases b1 with
 |true =>
  go_enter Tryz.func77,Tryz.ntmps77
  go_wp2_with fail
  refine(HW.out _ ((zB _ _).alloc (zL _) _)).mono ?_
  rintro e w1 ⟨rfl,hb1⟩
  have q1:=((zB w.heap.size w).alloc (zL _) _).trans (hb1.mono (by simp))
  go_wp2_with fail
  refine(h1 _).mono ?_
  rintro e w2 ⟨rfl,hb2⟩
  go_wp2_with fail
  go_ret
  exact⟨rfl,q1.trans (hb2.mono q1.size)⟩
 |false =>
  go_enter Tryz.func77,Tryz.ntmps77
  go_wp2_with fail
  refine(HW.out _ ((zB _ _).alloc (zL _) _)).mono ?_
  rintro e w1 ⟨rfl,hb1⟩
  have q1:=((zB w.heap.size w).alloc (zL _) _).trans (hb1.mono (by simp))
  have r1:=hb1.mono (B':=w.heap.size+1) (by simp)
  go_wp2_with fail
  refine(h1 _).mono ?_
  rintro e w2 ⟨rfl,hb2⟩
  have hs1:=r1.size
  simp at hs1
  have q2:=q1.trans (hb2.mono q1.size)
  have r2:=r1.trans (hb2.mono (by omega))
  have hc2:=zo r2 w.heap.size 0 (by simp)
  go_wp2_with fail
  refine(HW.out _ q2).mono ?_
  rintro e w3 ⟨rfl,hb3⟩
  have q3:=q2.trans (hb3.mono q2.size)
  go_wp2_with fail
  refine(h2 _).mono ?_
  rintro e w4 ⟨rfl,hb4⟩
  go_wp2_with fail
  go_ret
  exact⟨rfl,q3.trans (hb4.mono q3.size)⟩
def mxI (a c:Int):Int:=if a<c then c else a
def zV:zl→Int
 | .nil=>-1
 | .node _ _ y l r=>if q2f y.word then(if mxI (mxI (-1) (zV l)) (zV r)==-1 then 0 else mxI (mxI (-1) (zV l)) (zV r))+(q0n y.hi:Int)else mxI (mxI (-1) (zV l)) (zV r)
def q3d:zl→Bool
 | .nil=>true
 | .node _ _ y l r=>!(q2f y.word&&y.hi==[42])&&q3d l&&q3d r
def q3t (u:List Tok):Prop:=∀t∈u,q0X t
def q4I (ks:List zl):Int:=ks.foldl (fun m k=>mxI m (zV k)) (-1)
theorem j3X {p sp:Nat}{y:Pay}{l r:zl}{u:List Tok}(h:qz (.node p sp y l r) u):q4I (q1g (.node p sp y l r))=mxI (mxI (-1) (zV l)) (zV r):=by
 have e0:mxI (-1) (zV .nil) = -1:=rfl
 have e1:∀a,-1≤a→mxI a (zV .nil)=a:=fun a ha=>by
  show(if a < -1 then -1 else a)=a
  rw[if_neg (by omega)]
 have e2:∀a,-1≤mxI (-1) a:=fun a=>by unfold mxI;split<;>omega
 rcases h with⟨hn,_,_,rfl,rfl,_⟩|⟨hn,hw,_,_,rfl,v,q1,q2,q3,ul,hv,_,hl,rfl⟩|⟨hn,hw,_,_,_,q1,q2,q3,ul,ur,hl,hr,rfl⟩|⟨hn,hw,_,rfl,hlo,hhi,q1,q2,q3,q4,q5,q6,ul,hl,rfl⟩|⟨hn,hw,_,hlo,hhi,q1,q2,q3,q4,q5,q6,q7,ul,ur,hl,hr,rfl⟩|⟨_,hw,_,_,_,rfl,rfl,rfl⟩
 ·rfl
 ·rw[q2l hl,e1 _ (e2 _)];rfl
 ·rw[q3J hl hr];rfl
 ·rw[q2l hl,e1 _ (e2 _)];rfl
 ·rw[q3J hl hr];rfl
 ·rfl
theorem j6m {t:By}(h:q2f t=true):t∈[[110,101,120,116],[115,111,111,110],[117,110,116,105,108],[117,110,117,110,116,105,108]]:=by
 unfold q2f inB q8k at h
 simp[List.any]at h
 simp
 rcases h with h|h|h|h<;>simp[h]
theorem j1S {p sp:Nat}{y:Pay}{l r:zl}{u:List Tok}(h:qz (.node p sp y l r) u)(_ha:(q0Q y.word || q0J y.word)=true)(hn:zv y.word=false)(hx:y.word≠[101,120,105,115,116,115])(hp:q0o y.word=false)(htr:y.word≠[116,114,117,101]) :
  ∃(h4:4<u.length),(u[4]).text=y.hi∧(u[2]).text=y.lo∧(u[1]).pos=sp∧q4o y.lo=true∧q4B y.hi=true:=by
 rcases h with⟨hn',_⟩|⟨_,hw,_⟩|⟨_,hw,_⟩|⟨_,hw,_,rfl,hlo,hhi,q1,q2,q3,q4,q5,q6,ul,hl,rfl⟩|⟨_,hw,_,hlo,hhi,q1,q2,q3,q4,q5,q6,q7,ul,ur,hl,hr,rfl⟩|⟨_,hw,_⟩
 ·rw[hn]at hn';simp at hn'
 ·exact absurd hw hx
 ·rw[hp]at hw;simp at hw
 ·exact⟨by simp,rfl,rfl,rfl,hlo,hhi⟩
 ·exact⟨by simp,rfl,rfl,rfl,hlo,hhi⟩
 ·exact absurd hw htr
theorem q5o {t:By}(ha:(q0Q t || q0J t)=true):zv t=false∧t≠[101,120,105,115,116,115]∧q0o t=false∧t≠[116,114,117,101]:=by
 have ho:q1K t=true:=by
  rw[Bool.or_eq_true]at ha
  rcases ha with h|h
  ·exact j2t h
  ·exact j2u h
 have hc:=q6f ho
 simp only[List.mem_cons,List.not_mem_nil,or_false]at hc
 rcases hc with rfl|rfl|rfl|rfl|rfl|rfl|rfl|rfl|rfl|rfl|rfl|rfl
 all_goals first|exact absurd ha (by decide)|exact⟨by decide,by decide,by decide,by decide⟩
theorem q3u {t:By}(h:q2f t=true):(q0Q t || q0J t)=true:=by
 have hc:=j6m h
 simp only[List.mem_cons,List.not_mem_nil,or_false]at hc
 rcases hc with rfl|rfl|rfl|rfl<;>decide
theorem q2N {t:Tok}(h:q0X t)(hn:q4o t.text=true):q1H t.text=true∧0<t.text.length∧t.text.length≤3:=by
 obtain⟨c,r,e,ho,hd⟩:=h
 rw[e]at hn
 have hd:=hd hn
 refine⟨hd,by rw[e];simp,?_⟩
 unfold q3p at ho
 have hn':qp (c.toNat:Int)=true:=hn
 rw[hn',q2W hn']at ho
 simp only[Bool.true_and,Bool.false_and,Bool.or_false,Bool.or_eq_true,decide_eq_true_eq]at ho
 rcases ho with ho|ho
 ·exfalso
  rw[e]at ho
  unfold inB q1m at ho
  simp[List.any]at ho
  simp[qp]at hn'
  rcases ho with⟨h,_⟩|⟨h,_⟩|⟨h,_⟩|⟨h,_⟩|⟨h,_⟩|⟨h,_⟩<;>subst h<;>revert hn'<;>decide
 ·exact ho
theorem q9w {t:By}(h:q4B t=true)(hs:(t==[42])=false):q4o t=true:=by
 unfold q4B at h
 rw[hs]at h
 simpa using h
theorem q9B {l:By}(h:q1H l=true)(h3:l.length≤3):q0n l≤999:=by
 have:=q7O h l.length (zL _)
 rw[List.take_length]at this
 have h2:10 ^ l.length≤10 ^ 3:=Nat.pow_le_pow_right (by omega) h3
 omega
theorem q0t {u u':List Tok}(h:q3t u)(hs:∀t∈u',t∈u):q3t u':=fun t ht=>h t (hs t ht)
theorem hi_le {u:List Tok}{y:Pay}(hg:q3t u)(h4:4<u.length)(e:(u[4]).text=y.hi)(he:q4B y.hi=true):q0n y.hi≤999:=by
 cases hs:(y.hi==[42])with
 |true =>
  have:y.hi=[42]:=by simpa using hs
  rw[this]
  decide
 |false =>
  have g:=q2N (hg _ (List.getElem_mem h4)) (by rw[e];exact q9w he hs)
  rw[e]at g
  exact q9B g.1 g.2.2
theorem mxI_le {a c n:Int}(h1:a≤n)(h2:c≤n):mxI a c≤n:=by unfold mxI;split<;>assumption
theorem j5d {a c:Int}:a≤mxI a c:=by unfold mxI;split<;>omega
theorem q7T:∀(F:zl) (u:List Tok),qz F u→q3t u→-1≤zV F∧zV F≤1000*(u.length:Int):=by
 intro F
 induction F with
 |nil=>intro u h;exact h.elim
 |node p sp y l r ihl ihr =>
  intro u h hg
  have hR:=h
  have key:∀(n:Int),zV l≤n→zV r≤n→-1≤n→999≤1000*(u.length:Int)→n+999≤1000*(u.length:Int)→q0n y.hi≤999→-1≤zV (.node p sp y l r)∧zV (.node p sp y l r)≤1000*(u.length:Int):=by
   intro n h1 h2 h3 h4 h5 h6
   have g0:=@j5d (-1) (zV l)
   have g1:=@j5d (mxI (-1) (zV l)) (zV r)
   have g2:=mxI_le (mxI_le h3 h1) h2
   rw[zV]
   generalize mxI (mxI (-1) (zV l)) (zV r)=m at *
   split
   ·split
    ·omega
    ·rename_i hne
     have:m≠-1:=by simpa using hne
     omega
   ·omega
  have hnil:zV .nil = -1:=rfl
  rcases h with⟨hn,hlo,hhi,rfl,rfl,q1,q2,q3,a,ha,hb⟩|⟨hn,hw,hlo,hhi,rfl,v,q1,q2,q3,ul,hv,_,hl,rfl⟩|⟨hn,hw,_,hlo,hhi,q1,q2,q3,ul,ur,hl,hr,rfl⟩|⟨hn,hw,_,rfl,hlo,hhi,q1,q2,q3,q4,q5,q6,ul,hl,rfl⟩|⟨hn,hw,_,hlo,hhi,q1,q2,q3,q4,q5,q6,q7,ul,ur,hl,hr,rfl⟩|⟨_,hw,_,hlo,hhi,rfl,rfl,rfl⟩
  ·have hp:=q1W hR
   exact key (-1) (by rw[hnil];omega) (by rw[hnil];omega) (by omega) (by omega) (by omega) (by rw[hhi];decide)
  ·have i1:=ihl ul hl (q0t hg (by intro t ht;simp[ht]))
   refine key (1000*(ul.length:Int)) i1.2 (by rw[hnil];omega) (by omega) ?_ ?_ (by rw[hhi];decide)<;>simp<;>omega
  ·have i1:=ihl ul hl (q0t hg (by intro t ht;simp[ht]))
   have i2:=ihr ur hr (q0t hg (by intro t ht;simp[ht]))
   refine key (1000*(ul.length:Int)+1000*(ur.length:Int)) (by omega) (by omega) (by omega) ?_ ?_ (by rw[hhi];decide)<;>simp<;>omega
  ·have i1:=ihl ul hl (q0t hg (by intro t ht;simp[ht]))
   refine key (1000*(ul.length:Int)) i1.2 (by rw[hnil];omega) (by omega) ?_ ?_ (hi_le (y:=y) hg (by simp) rfl hhi)<;>simp<;>omega
  ·have i1:=ihl ul hl (q0t hg (by intro t ht;simp[ht]))
   have i2:=ihr ur hr (q0t hg (by intro t ht;simp[ht]))
   refine key (1000*(ul.length:Int)+1000*(ur.length:Int)) (by omega) (by omega) (by omega) ?_ ?_ (hi_le (y:=y) hg (by simp) rfl hhi)<;>simp<;>omega
  ·exact key (-1) (by rw[hnil];omega) (by rw[hnil];omega) (by omega) (by simp) (by simp) (by rw[hhi];decide)
theorem q5g {w:World}{v:Value}{us:List (List Tok)}(h:q5V w v us):∃a n c,v=.slice a n c∧n=us.length∧n≤maxLen:=by
 rcases h with⟨h,rfl⟩|⟨g,o,cap,h,h1,h2,_⟩
 ·exact⟨_,_,_,h,rfl,zZ _⟩
 ·exact⟨_,_,_,h,rfl,by omega⟩
theorem q7E {w:World}{a:OA}{n c:Nat}{ks:List (zl × List Tok)}{k:Nat}(h:q5V w (.slice a n c) (ks.map Prod.snd))(hk:k<ks.length):∃g o x,a=some ⟨g,o,none⟩∧w.cell? ⟨g,o+k,none⟩=some x∧qB w (.agg #[x]) (ks[k]).2:=by
 rcases h with⟨_,h⟩|⟨g,o,c',e,h1,h2,h3,h4⟩
 ·simp at h
  subst h
  simp at hk
 ·simp at e
  obtain⟨rfl,rfl,rfl⟩:=e
  obtain⟨x,hx,hf⟩:=h4 k (by simpa using hk)
  refine⟨g,o,x,rfl,hx,?_⟩
  rw[List.getElem_map]at hf
  exact hf
theorem foldR_ge (l:List zl):-1≤q4I l:=by
 unfold q4I
 suffices ∀(l:List zl) (a:Int),-1≤a→-1≤l.foldl (fun m k=>mxI m (zV k)) a from this l (-1) (by omega)
 intro l
 induction l with
 |nil=>intro a h;exact h
 |cons k l ih=>intro a h;exact ih _ (Int.le_trans h j5d)
def RcRel (B:Nat)(W0:World)(ks:List (zl × List Tok))(vm vi:Value)(wr:World):Prop:=∃k:Nat,k≤ks.length∧vi=.int .i64 k∧vm=.int .i64 (q4I ((ks.take k).map Prod.fst))∧Below B W0 wr
theorem j4M (l:List zl)(k:zl):q4I (l++[k])=mxI (q4I l) (zV k):=by simp[q4I]
theorem j4N (ks:List (zl × List Tok))(k:Nat)(h:k<ks.length):q4I ((ks.take (k+1)).map Prod.fst)=mxI (q4I ((ks.take k).map Prod.fst)) (zV (ks[k]).1):=by
 rw[List.take_succ_eq_append_getElem h,List.map_append,List.map_singleton,j4M]
theorem q8G:∀(F:zl) (u:List Tok) (v:Value) (w:World),qz F u→q3t u→q3d F=true→qB w v u →
  Calls Tryz.prog 82 #[v] w fun e w'=>e=.returned (.int .i64 (zV F))∧Below w.heap.size w w':=by
 intro F
 induction F with
 |nil=>intro u v w h;exact h.elim
 |node p sp y l r ihl ihr =>
  intro u v w hR hG hA hF
  have HP:=zb (fun w1 (hb:Below w.heap.size w w1)=>q6H _ u v w1 hR (hF.below hb))
  have HAh:=zb (fun w1 (hb:Below w.heap.size w w1)=>j1J v u w1 (hF.below hb))
  have HI:Hid (∀k∈q1g (.node p sp y l r),∀(u':List Tok) (v':Value) (w':World),qz k u'→(∀t∈u',t∈u)→qB w' v' u'→(Calls Tryz.prog 82 #[v'] w' fun e w''=>e=.returned (.int .i64 (zV k))∧Below w'.heap.size w' w'')∧-1≤zV k∧zV k≤1000000):=by
   intro k hk u' v' w' h1 h2 h3
   have hg:=q0t hG h2
   have hb:=q7T k u' h1 hg
   obtain⟨_,_,_,_,_,_,_,_,h5,_⟩:=qe h3
   refine⟨?_,hb.1,by omega⟩
   rw[q3d]at hA
   simp only[Bool.and_eq_true]at hA
   rcases q7F hk with rfl|rfl
   ·exact ihl u' v' w' h1 hg hA.1.2 h3
   ·exact ihr u' v' w' h1 hg hA.2 h3
  clear ihl ihr
  have HWd:Hid (hd u=y.word):=q3z hR
  have HSh:=zb (j3X hR)
  have HSp:=zb (fun ha:q2f y.word=true=>j1S hR (q3u ha) (q5o (q3u ha)).1 (q5o (q3u ha)).2.1 (q5o (q3u ha)).2.2.1 (q5o (q3u ha)).2.2.2)
  have HRe:Hid (zV (.node p sp y l r)=if q2f y.word then(if mxI (mxI (-1) (zV l)) (zV r)==-1 then 0 else mxI (mxI (-1) (zV l)) (zV r))+(q0n y.hi:Int)else mxI (mxI (-1) (zV l)) (zV r)):=by unfold Hid;rw[zV]
  rw[←HSh.out]at HRe
  have HOk:Hid (q2f y.word=true→(y.hi==[42])=false):=by
   intro ha
   rw[q3d,ha]at hA
   simp only[Bool.true_and,Bool.and_eq_true,Bool.not_eq_true']at hA
   exact hA.1.1
  have hbd:=q7T _ u hR hG
  have HG:=zb hG
  clear hR hG hA HSh
  generalize hFF:(Go.Deep.BT.node p sp y l r:zl)=F at *
  clear hFF
  generalize zV F=rF at *
  obtain⟨b,o,cap,rfl,h1,h2,h3,h4,h5,h6⟩:=qe hF
  have H6:=zb h6
  clear h6 hF
  unfold maxLen at h2
  go_enter Tryz.func82,Tryz.ntmps82
  go_wp2_with fail
  refine(HP.out _ ((zB _ _).alloc (zL _) _)).mono ?_
  rintro e w1 ⟨vk,ks,rfl,hk1,hk2,hk3,hb1⟩
  have r1:=hb1.mono (B':=w.heap.size+1) (by simp)
  have q1:=((zB w.heap.size w).alloc (zL _) _).trans (hb1.mono (by simp))
  have hc1:=zo r1 w.heap.size 0 (by simp)
  clear hb1
  obtain⟨av,nv,cv,rfl,hnv,hcv⟩:=q5g hk3
  have hnv':ks.length=nv:=by simpa using hnv.symm
  have HK2:=zb hk2
  have HK1:=zb hk1
  have HK3:=zb hk3
  have HNV:=zb hnv'
  clear hk1 hk2 hk3 hnv hnv'
  go_wp2_with fail
  go_loopw [3,5] (fun vm vi wr=>RcRel w1.heap.size w1 ks vm vi wr) (fun _ vi _=>nv-(intOf vi).toNat)
  case atStart=>exact⟨0,by omega,rfl,rfl,zB _ _⟩
  case round =>
   obtain⟨k,hk,rfl,rfl,hbel⟩:=hrel
   have hbt:=q1.trans (hbel.mono q1.size)
   have hcb:=(zo hbel w.heap.size 0 (by have:=r1.size;simp at this;omega)).trans hc1
   unfold maxLen at hcv
   by_cases hlt:k<nv
   ·have hlt':k<ks.length:=by rw[HNV.out];exact hlt
    obtain⟨gk,ok,xk,rfl,hxk,hfk⟩:=q7E (HK3.out.below hbel) hlt'
    have hmem:ks[k]∈ks:=List.getElem_mem hlt'
    obtain⟨hC,hCl,hCu⟩:=HI.out _ (by rw[←HK1.out];exact List.mem_map_of_mem hmem) _ _ _ (HK2.out _ hmem).1 (HK2.out _ hmem).2 hfk
    have HT:=zb (j4N ks k hlt')
    have hk2:k+1≤ks.length:=hlt'
    clear hmem hfk hk
    generalize zV (ks[k]).1=rk at *
    clear hlt'
    generalize q4I ((ks.take k).map Prod.fst)=m at *
    by_cases hmx:m<rk
    ·go_wp2_with fail
     refine hC.mono ?_
     rintro e w3 ⟨rfl,hb3⟩
     go_wp2_with fail
     go_roundw
     case rel=>exact⟨k+1,hk2,by go_num,by rw[HT.out];unfold mxI;rw[if_pos hmx],hbel.trans (hb3.mono hbel.size)⟩
     case measure=>simp[intOf];omega
    ·go_wp2_with fail
     refine hC.mono ?_
     rintro e w3 ⟨rfl,hb3⟩
     go_wp2_with fail
     go_roundw
     case rel=>exact⟨k+1,hk2,by go_num,by rw[HT.out];unfold mxI;rw[if_neg (by omega)],hbel.trans (hb3.mono hbel.size)⟩
     case measure=>simp[intOf];omega
   ·have hkn:k=ks.length:=by have:=HNV.out;omega
    have HFo:Hid (q4I ((ks.take k).map Prod.fst)=q4I (q1g F)):=by unfold Hid;rw[hkn,List.take_length,HK1.out]
    clear hkn
    rw[HFo.out]
    have HFo2:=zb HFo.out
    clear HFo
    have hmb:-1≤q4I (q1g F):=foldR_ge _
    generalize q4I (q1g F)=m at *
    cases hah:q2f y.word with
    |false =>
     have hm:rF=m:=by have:=HRe.out;rw[hah]at this;simpa using this
     have HM:=zb hm
     clear hm HRe
     go_wp2_with fail
     refine(q5Y (HAh.out _ hbt) (by rw[HWd.out,hah])).mono ?_
     rintro e w3 ⟨rfl,hb3⟩
     go_wp2_with fail
     go_ret
     exact⟨q1l HM.out.symm,hbt.trans (hb3.mono hbt.size)⟩
    |true =>
     obtain⟨hu4,e4,_,_,_,hend⟩:=HSp.out hah
     have hnum:=q2N (HG.out _ (List.getElem_mem hu4)) (by rw[e4];exact q9w hend (HOk.out hah))
     have hNb:=q9B hnum.1 hnum.2.2
     have HNum:=zb (fun w'=>q4r (u[4]).text ((u[4]).pos:Int) hnum.2.1 hnum.2.2 hnum.1 w')
     have hct:=fun w2 (hb2:Below w1.heap.size w1 w2)=>(zo hb2 b (o+4*2) (by have:=r1.size;simp at this;omega)).trans ((zo r1 b (o+4*2) (by omega)).trans ((World.cell?_alloc_lt _ _ _ h3).trans (H6.out 4 hu4).1))
     have hcp:=fun w2 (hb2:Below w1.heap.size w1 w2)=>(zo hb2 b (o+4*2+1) (by have:=r1.size;simp at this;omega)).trans ((zo r1 b (o+4*2+1) (by omega)).trans ((World.cell?_alloc_lt _ _ _ h3).trans (H6.out 4 hu4).2))
     have HCT:=zb hct
     have HCP:=zb hcp
     have hm:rF=(if m==-1 then 0 else m)+(q0n (u[4]).text:Int):=by have:=HRe.out;rw[hah]at this;rw[e4];simpa using this
     have HM:=zb hm
     clear hct hcp hm HRe hnum
     generalize (u[4]).text=t4 at *
     generalize (u[4]).pos=p4 at *
     generalize q0n t4=n4 at *
     clear HSp e4
     by_cases hm1:m = -1
     ·subst hm1
      go_wp2_with fail
      refine(q5Y (HAh.out _ hbt) (by rw[HWd.out,hah])).mono ?_
      rintro e w3 ⟨rfl,hb3⟩
      have hb13:=hbel.trans (hb3.mono hbel.size)
      have hct3:=HCT.out w3 hb13
      have hcp3:=HCP.out w3 hb13
      have hcb3:=(zo hb13 w.heap.size 0 (by have:=r1.size;simp at this;omega)).trans hc1
      simp only[show 4*2=8 from rfl,Nat.add_assoc,Nat.reduceAdd]at hct3 hcp3
      go_wp2_with fail
      refine(HNum.out _).mono ?_
      rintro e w4 ⟨rfl,hb4⟩
      go_wp2_with fail
      go_ret
      exact⟨q1l (by rw[HM.out];simp),(hbt.trans (hb3.mono hbt.size)).trans (hb4.mono (zM hbt.size hb3.size))⟩
     ·have hm2:(m==-1)=false:=by simp[hm1]
      go_wp2_with fail
      refine(q5Y (HAh.out _ hbt) (by rw[HWd.out,hah])).mono ?_
      rintro e w3 ⟨rfl,hb3⟩
      have hb13:=hbel.trans (hb3.mono hbel.size)
      have hct3:=HCT.out w3 hb13
      have hcp3:=HCP.out w3 hb13
      have hcb3:=(zo hb13 w.heap.size 0 (by have:=r1.size;simp at this;omega)).trans hc1
      simp only[show 4*2=8 from rfl,Nat.add_assoc,Nat.reduceAdd]at hct3 hcp3
      have hmu:m≤2000000:=by
       have:=HM.out
       rw[hm2]at this
       simp at this
       omega
      go_wp2_with fail
      refine(HNum.out _).mono ?_
      rintro e w4 ⟨rfl,hb4⟩
      go_wp2_with fail
      go_ret
      exact⟨q1l (by rw[HM.out,hm2];rfl),(hbt.trans (hb3.mono hbt.size)).trans (hb4.mono (zM hbt.size hb3.size))⟩
def q4U (word:By)(a c:Bool):Bool:=(word==[111,114]&&(a != c)) || (word==[98,117,116]&&c&&!a) || (q0J word&&a&&!c)
def q2t:zl→Bool
 | .nil=>false
 | .node p sp y l r=>if y.word==[101,120,105,115,116,115]then !(zt l (y.args.headD []))else if (q1g (.node p sp y l r)).length<2 || y.word==[97,110,100]then false else q4U y.word (zt l [120]) (zt r [120]) || q4U y.word (zt l [121]) (zt r [121])
theorem j3c {p sp:Nat}{y:Pay}{l r:zl}{u:List Tok}(h:qz (.node p sp y l r) u)(hw:y.word=[101,120,105,115,116,115]):q1g (.node p sp y l r)=[l]:=by
 rcases h with⟨hn,_⟩|⟨hn,_,_,_,rfl,v,q1,q2,q3,ul,hv,ha,hl,rfl⟩|⟨hn,hw',_⟩|⟨hn,hw',_⟩|⟨hn,hw',_⟩|⟨_,hw',_⟩
 ·rw[hw]at hn;exact absurd hn (by decide)
 ·exact q2l hl
 ·rw[hw]at hw';exact absurd hw' (by decide)
 ·rw[hw]at hw';exact absurd hw' (by decide)
 ·rw[hw]at hw';exact absurd hw' (by decide)
 ·rw[hw]at hw';exact absurd hw' (by decide)
theorem two_kids {p sp:Nat}{y:Pay}{l r F:zl}{ks:List (zl × List Tok)}(hF:(Go.Deep.BT.node p sp y l r:zl)=F)(hk:ks.map Prod.fst=q1g F)(h2:2≤ks.length):∃(h:ks.length=2),(ks[0]).1=l∧(ks[1]).1=r:=by
 subst hF
 have hk':q1g (Go.Deep.BT.node p sp y l r)=[l,r]:=by
  have hl:=congrArg List.length hk
  rw[List.length_map]at hl
  cases l with
  |nil=>simp[q1g]at hl;subst hl;simp at h2
  |node =>
   cases r with
   |nil=>simp[q1g]at hl;omega
   |node=>rfl
 rw[hk']at hk
 match ks,hk with
 | [a,c],hk =>
  simp at hk
  exact⟨rfl,hk.1,hk.2⟩
theorem j2o {w:World}{g o n c:Nat}{us:List (List Tok)}(h:q5V w (.slice (some ⟨g,o,none⟩) n c) us):g<w.heap.size:=by
 rcases h with⟨h,_⟩|⟨g',o',c',e,h1,h2,h3,h4⟩
 ·simp at h
 ·simp at e
  obtain⟨⟨rfl,rfl⟩,rfl,rfl⟩:=e
  exact h3
def nm2:List (By):=[[120],[121]]
def WRel (w1 w3:World)(word:By)(fl fr:By→Bool)(g:Nat)(vi:Value)(wr:World):Prop:=∃k:Nat,k≤2∧g+k=2∧vi=.int .i64 k∧q1y nm2 (fun x=>q4U word (fl x) (fr x)) 0 k∧Below w1.heap.size w1 wr∧Below (w3.heap.size+1) (w3.alloc (.cells #[bs [120],bs [121]] 9)) wr
theorem two_word {p sp:Nat}{y:Pay}{l r:zl}{u:List Tok}(h:qz (.node p sp y l r) u)(h2:(q1g (.node p sp y l r)).length=2)(ha:(y.word==[97,110,100])=false) :
  ((y.word==[111,114])=true∧(y.word==[98,117,116])=false∧q0J y.word=false)∨((y.word==[111,114])=false∧(y.word==[98,117,116])=true∧q0J y.word=false)∨((y.word==[111,114])=false∧(y.word==[98,117,116])=false∧q0J y.word=true):=by
 rcases h with⟨hn,_,_,rfl,rfl,_⟩|⟨hn,hw,_,_,rfl,v,q1,q2,q3,ul,hv,_,hl,rfl⟩|⟨hn,hw,_,_,_,q1,q2,q3,ul,ur,hl,hr,rfl⟩|⟨hn,hw,_,rfl,hlo,hhi,q1,q2,q3,q4,q5,q6,ul,hl,rfl⟩|⟨hn,hw,_,hlo,hhi,q1,q2,q3,q4,q5,q6,q7,ul,ur,hl,hr,rfl⟩|⟨_,hw,_,_,_,rfl,rfl,rfl⟩
 ·simp[q1g]at h2
 ·rw[q2l hl]at h2;simp at h2
 ·have hc:y.word=[97,110,100]∨y.word=[98,117,116]∨y.word=[111,114]:=by
   unfold q0o inB q4P at hw
   simp[List.any]at hw
   rcases hw with h|h|h<;>simp[h]
  rcases hc with h|h|h
  ·rw[h]at ha;exact absurd ha (by decide)
  ·rw[h];exact .inr (.inl ⟨by decide,by decide,by decide⟩)
  ·rw[h];exact .inl ⟨by decide,by decide,by decide⟩
 ·rw[q2l hl]at h2;simp at h2
 ·have hc:y.word=[115,105,110,99,101]∨y.word=[117,110,115,105,110,99,101]∨y.word=[117,110,116,105,108]∨y.word=[117,110,117,110,116,105,108]:=by
   unfold q0J inB q9l at hw
   simp[List.any]at hw
   rcases hw with h|h|h|h<;>simp[h]
  rcases hc with h|h|h|h<;>rw[h]<;>exact .inr (.inr ⟨by decide,by decide,by decide⟩)
 ·simp[q1g]at h2
theorem j7m (p sp:Nat)(y:Pay)(l r:zl)(u:List Tok)(v:Value)(w:World)(hR:qz (.node p sp y l r) u)(hF:qB w v u) :
  Calls Tryz.prog 80 #[v] w fun e w'=>e=.returned (.bool (q2t (.node p sp y l r)))∧Below w.heap.size w w':=by
 have HP:=zb (fun w1 (hb:Below w.heap.size w w1)=>q6H _ u v w1 hR (hF.below hb))
 have HW:=zb (fun w1 (hb:Below w.heap.size w w1)=>q0b v u w1 (hF.below hb))
 have HX:=zb (fun h=>q8X hR h)
 have HWd:Hid (hd u=y.word):=q3z hR
 have HWr:Hid (q2t (.node p sp y l r)=if y.word==[101,120,105,115,116,115]then !(zt l (y.args.headD []))else if (q1g (.node p sp y l r)).length<2 || y.word==[97,110,100]then false else q4U y.word (zt l [120]) (zt r [120]) || q4U y.word (zt l [121]) (zt r [121])):=rfl
 have HKl:=zb (j3c hR)
 have HTW:=zb (fun h2 ha=>two_word hR h2 ha)
 clear hR
 generalize hFF:(Go.Deep.BT.node p sp y l r:zl)=F at *
 have HFF:=zb hFF
 clear hFF
 generalize q2t F=wF at *
 obtain⟨b,o,cap,rfl,h1,h2,h3,h4,h5,h6⟩:=qe hF
 have H6:=zb h6
 clear h6 hF
 unfold maxLen at h2
 go_enter Tryz.func80,Tryz.ntmps80
 go_wp2_with fail
 refine(HP.out _ ((zB _ _).alloc (zL _) _)).mono ?_
 rintro e w1 ⟨vk,ks,rfl,hk1,hk2,hk3,hb1⟩
 have r1:=hb1.mono (B':=w.heap.size+1) (by simp)
 have q1:=((zB w.heap.size w).alloc (zL _) _).trans (hb1.mono (by simp))
 have hs1:=r1.size
 simp at hs1
 have hc1:=zo r1 w.heap.size 0 (by simp)
 clear hb1
 obtain⟨av,nv,cv,rfl,hnv,hcv⟩:=q5g hk3
 have hnv':ks.length=nv:=by simpa using hnv.symm
 have HK2:=zb hk2
 have HK1:=zb hk1
 have HK3:=zb hk3
 have HNV:=zb hnv'
 unfold maxLen at hcv
 clear hk1 hk2 hk3 hnv hnv'
 cases hex:(y.word==[101,120,105,115,116,115])with
 |true =>
  have hyw:y.word=[101,120,105,115,116,115]:=by simpa using hex
  obtain⟨hu1,hya,hvar⟩:=HX.out hyw
  have hkl:=HKl.out hyw
  have hk0:0<ks.length:=by
   have:=congrArg List.length HK1.out
   rw[hkl]at this
   simp at this
   omega
  have hk0f:(ks[0]).1=l:=by
   have:(ks.map Prod.fst)[0]?=(q1g F)[0]?:=by rw[HK1.out]
   rw[hkl]at this
   simpa[hk0]using this
  have hm:wF=!(zt l (u[1]).text):=by have:=HWr.out;rw[hex,if_pos rfl,hya]at this;exact this
  have HM:=zb hm
  have HC:Hid (∀v' w',qB w' v' (ks[0]).2→Calls Tryz.prog 81 #[v',bs (u[1]).text] w' fun e w''=>e=.returned (.bool (zt l (u[1]).text))∧Below w'.heap.size w' w''):=by
   intro v' w' h
   have:=q4q (ks[0]).1 (ks[0]).2 v' w' (u[1]).text (HK2.out _ (List.getElem_mem hk0)).1 h hvar
   rw[hk0f]at this
   exact this
  have hct:=fun w2 (hb2:Below w1.heap.size w1 w2)=>(zo hb2 b (o+1*2) (by omega)).trans ((zo r1 b (o+1*2) (by omega)).trans ((World.cell?_alloc_lt _ _ _ h3).trans (H6.out 1 hu1).1))
  have HCT:=zb hct
  have hnv0:0<nv:=by rw[←HNV.out];exact hk0
  clear hct hm hya hvar hyw hkl hk0f
  generalize (u[1]).text=t1 at *
  go_wp2_with fail
  refine(HW.out _ q1).mono ?_
  rintro e w2 ⟨rfl,hb2⟩
  rw[HWd.out]
  have hc2:=(zo hb2 w.heap.size 0 (by omega)).trans hc1
  have hct2:=HCT.out w2 hb2
  simp only[Nat.one_mul]at hct2
  obtain⟨gk,ok,xk,rfl,hxk,hfk⟩:=q7E (HK3.out.below hb2) hk0
  simp only[Nat.add_zero]at hxk
  have hqb:=q1.trans (hb2.mono q1.size)
  have HFK:=zb hfk
  clear hfk
  generalize zt l t1=fb at *
  go_wp2_with fail
  go_region_with (go_at_call 81;refine(HC.out _ _ (HFK.out.below (by exact(zB _ _).drew))).mono ?_;rintro e w3 ⟨rfl,hb3⟩)
  all_goals
   go_wp2_with fail
   go_ret
   exact⟨qm HM.out.symm,hqb.trans ((show Below w2.heap.size w2 w3 from(zB _ _).drew.trans hb3).mono hqb.size)⟩
 |false =>
  have hm:wF=if nv<2 || y.word==[97,110,100]then false else q4U y.word (zt l [120]) (zt r [120]) || q4U y.word (zt l [121]) (zt r [121]):=by
   have:=HWr.out
   rw[hex]at this
   simp only[Bool.false_eq_true,if_false]at this
   rw[this,←HK1.out,List.length_map,HNV.out]
  have HM:=zb hm
  clear hm HWr HX HKl
  by_cases hn2:nv<2
  ·have hwf:wF=false:=by rw[HM.out];simp[hn2]
   have HWF:=zb hwf
   clear hwf
   go_wp2_with fail
   refine(HW.out _ q1).mono ?_
   rintro e w2 ⟨rfl,hb2⟩
   rw[HWd.out]
   go_wp2_with fail
   go_ret
   exact⟨qm HWF.out.symm,q1.trans (hb2.mono q1.size)⟩
  ·have hn2':decide (nv<2)=false:=by simp;omega
   cases hand:(y.word==[97,110,100])with
   |true =>
    have hwf:wF=false:=by rw[HM.out,hand];simp
    have HWF:=zb hwf
    clear hwf
    go_wp2_with fail
    refine(HW.out _ q1).mono ?_
    rintro e w2 ⟨rfl,hb2⟩
    rw[HWd.out]
    have q2:=q1.trans (hb2.mono q1.size)
    have hc2:=(zo hb2 w.heap.size 0 (by omega)).trans hc1
    go_wp2_with fail
    refine(HW.out _ q2).mono ?_
    rintro e w3 ⟨rfl,hb3⟩
    rw[HWd.out]
    go_wp2_with fail
    go_ret
    exact⟨qm HWF.out.symm,q2.trans (hb3.mono q2.size)⟩
   |false =>
    obtain⟨hk2,hkl,hkr⟩:=two_kids HFF.out HK1.out (by rw[HNV.out];omega)
    have hnv2:nv=2:=by rw[←HNV.out];exact hk2
    subst hnv2
    have hm:wF=(q4U y.word (zt l [120]) (zt r [120]) || q4U y.word (zt l [121]) (zt r [121])):=by
     have:=HM.out
     rw[hand]at this
     simpa using this
    clear HM
    have hm':wF=nm2.any (fun x=>q4U y.word (zt l x) (zt r x)):=by rw[hm];simp[nm2]
    have HM:=zb hm'
    clear hm hm'
    have hkk:(q1g F).length=2:=by rw[←HK1.out,List.length_map];exact hk2
    have hwc:=HTW.out hkk hand
    clear hkk HTW
    have HT2:=zb (q8J y.word)
    have hk0:0<ks.length:=by omega
    have hk1:1<ks.length:=by omega
    have HCl:Hid (∀v' w' x,q1J x=true→qB w' v' (ks[0]).2→Calls Tryz.prog 81 #[v',bs x] w' fun e w''=>e=.returned (.bool (zt l x))∧Below w'.heap.size w' w''):=by
     intro v' w' x hx h
     have:=q4q (ks[0]).1 (ks[0]).2 v' w' x (HK2.out _ (List.getElem_mem _)).1 h hx
     rw[hkl]at this
     exact this
    have HCr:Hid (∀v' w' x,q1J x=true→qB w' v' (ks[1]).2→Calls Tryz.prog 81 #[v',bs x] w' fun e w''=>e=.returned (.bool (zt r x))∧Below w'.heap.size w' w''):=by
     intro v' w' x hx h
     have:=q4q (ks[1]).1 (ks[1]).2 v' w' x (HK2.out _ (List.getElem_mem _)).1 h hx
     rw[hkr]at this
     exact this
    clear hkl hkr
    go_wp2_with fail
    refine(HW.out _ q1).mono ?_
    rintro e w2 ⟨rfl,hb2⟩
    rw[HWd.out]
    have q2:=q1.trans (hb2.mono q1.size)
    have hc2:=(zo hb2 w.heap.size 0 (by omega)).trans hc1
    go_wp2_with fail
    refine(HW.out _ q2).mono ?_
    rintro e w3 ⟨rfl,hb3⟩
    rw[HWd.out]
    have b13:=hb2.trans (hb3.mono hb2.size)
    go_wp2_with fail
    go_loopg [6] 2 (fun g vi wr=>WRel w1 w3 y.word (zt l) (zt r) g vi wr)
    case atStart=>exact⟨0,by omega,rfl,rfl,(fun j hj h1 h2=>absurd h2 (by omega)),b13.alloc b13.size _,(zB _ _)⟩
    case round =>
     obtain⟨k,hk,hgk2,rfl,hno,hbel,hbe3⟩:=hrel
     obtain⟨gg,hgg⟩:∃gg,gg=gk:=⟨_,rfl⟩
     have HGK:Hid (gk+k=2):=hgk2
     clear hgk2 hgg gg
     have HNo:=zb hno
     clear hno
     have q4:=q1.trans (hbel.mono q1.size)
     have hs3:=hbe3.size
     simp at hs3
     have hcb:=(zo hbel w.heap.size 0 (by omega)).trans hc1
     by_cases hlt:k<2
     ·have hx:=zo hbe3 w3.heap.size k (by omega)
      have hxn:∃x,nm2[k]?=some x∧q1J x=true∧wr.cell? ⟨w3.heap.size,k,none⟩=some (bs x):=by
       rcases(by omega:k=0∨k=1)with rfl|rfl
       ·exact⟨[120],rfl,rfl,by rw[hx];simp⟩
       ·exact⟨[121],rfl,rfl,by rw[hx];simp⟩
      obtain⟨x,hxk,hvar,hxc⟩:=hxn
      have hkn:k<nm2.length:=hlt
      have hnx:nm2[k]=x:=by rw[zG hkn]at hxk;exact Option.some.inj hxk
      have HNx:Hid (q4U y.word (zt l x) (zt r x)=false→q1y nm2 (fun x=>q4U y.word (zt l x) (zt r x)) 0 (k+1)):=fun h=>q1U HNo.out hkn (by rw[hnx];exact h)
      have HHt:Hid (q4U y.word (zt l x) (zt r x)=true→wF=true):=fun h=>by
       rw[HM.out]
       have:=q8f (a:=0) (f:=fun x=>q4U y.word (zt l x) (zt r x)) (zZ k) hkn (by rw[hnx];exact h)
       rwa [List.drop_zero]at this
      have HL:=zb (fun v' w' h=>HCl.out v' w' x hvar h)
      have HRr:=zb (fun v' w' h=>HCr.out v' w' x hvar h)
      clear hx hxk hnx hkn HNo
      generalize zt l x=fa at *
      generalize zt r x=fc at *
      obtain⟨gx,ok,xl,rfl,hxl,hfl⟩:=q7E (HK3.out.below hbel) hk0
      obtain⟨gx',ok',xr,e',hxr,hfr⟩:=q7E (HK3.out.below hbel) hk1
      simp only[Option.some.injEq,Addr.mk.injEq,and_true]at e'
      obtain⟨rfl,rfl⟩:=e'
      simp only[Nat.add_zero]at hxl
      have HFl:=zb hfl
      have HFr:=zb hfr
      have hgx:gx<w1.heap.size:=j2o HK3.out
      clear hfl hfr
      go_wp2_with fail
      go_cut [7] from 34 to 86 (fun va wx=>va=.bool fa∧Below wr.heap.size wr wx)
      case first =>
       go_region_with (go_at_call 81;refine(HL.out _ _ (HFl.out.below (by exact(zB _ _).drew))).mono ?_;rintro e w4 ⟨rfl,hb4⟩)
       all_goals
        have b4:Below wr.heap.size wr w4:=(zB _ _).drew.trans hb4
        go_wp2_with fail
        go_meet
        case rel=>exact⟨rfl,b4⟩
      case rest =>
       obtain⟨rfl,b4⟩:=hcut
       have hxr4:=(zo b4 gx (ok+1) (by have:=hbel.size;omega)).trans hxr
       have hxc4:=(zo b4 w3.heap.size k (by omega)).trans hxc
       go_wp2_with fail
       go_cut [8] from 34 to 86 (fun va wx=>va=.bool fc∧Below wr.heap.size wr wx)
       case first =>
        go_region_with (go_at_call 81;refine(HRr.out _ _ (HFr.out.below (by exact b4.drew))).mono ?_;rintro e w5 ⟨rfl,hb5⟩)
        all_goals
         have b5:Below wr.heap.size wr w5:=b4.drew.trans (hb5.mono b4.size)
         go_wp2_with fail
         go_meet
         case rel=>exact⟨rfl,b5⟩
       case rest =>
        clear hxr4 hxc4 b4
        obtain⟨rfl,b5⟩:=hcut
        have q5:=q4.trans (b5.mono q4.size)
        have hcb5:=(zo b5 w.heap.size 0 (by have:=hbel.size;omega)).trans hcb
        have e5:=hbe3.trans (b5.mono (by omega))
        have d5:=hbel.trans (b5.mono hbel.size)
        clear b5 hcb q4 hxl hxr HFl HFr hbel hbe3
        rcases hwc with⟨g1,g2,g3⟩|⟨g1,g2,g3⟩|⟨g1,g2,g3⟩
        all_goals
         have HT3:=zb (q0M HT2.out g3)
         have hbv:q4U y.word fa fc=q4U y.word fa fc:=rfl
         conv at hbv=>rhs;unfold q4U;rw[g1,g2,g3]
         have HB:=zb hbv
         clear g3 hbv
         cases fa<;>cases fc
         all_goals
          go_wp2_with fail
          refine(HW.out _ q5).mono ?_
          rintro e w6 ⟨rfl,b6⟩
          rw[HWd.out]
          have q6:=q5.trans (b6.mono q5.size)
          have hcb6:=(zo b6 w.heap.size 0 (by have:=d5.size;omega)).trans hcb5
          have e6:=e5.trans (b6.mono (by have:=e5.size;simp at this;omega))
          have d6:=d5.trans (b6.mono d5.size)
          go_wp2_with fail
         all_goals first
          |(go_ret;exact⟨qm (HHt.out (HB.out.trans rfl)).symm,q6⟩)
          |(refine(HW.out _ q6).mono ?_
            rintro e w7 ⟨rfl,b7⟩
            rw[HWd.out]
            have q7:=q6.trans (b7.mono q6.size)
            have hcb7:=(zo b7 w.heap.size 0 (by have:=d6.size;omega)).trans hcb6
            have e7:=e6.trans (b7.mono (by have:=e6.size;simp at this;omega))
            have d7:=d6.trans (b7.mono d6.size)
            clear hcb6 e6 d6 q6 b6
            go_wp2_with fail
            first
             |(go_ret;exact⟨qm (HHt.out (HB.out.trans rfl)).symm,q7⟩)
             |(refine(HW.out _ q7).mono ?_
               rintro e w8 ⟨rfl,b8⟩
               rw[HWd.out]
               have q8:=q7.trans (b8.mono q7.size)
               have e8:=e7.trans (b8.mono (by have:=e7.size;simp at this;omega))
               have d8:=d7.trans (b8.mono d7.size)
               clear hcb7 e7 d7 q7 b7
               go_wp2_with fail
               refine(HT3.out _).mono ?_
               rintro e w9 ⟨rfl,b9⟩
               have q9:=q8.trans (b9.mono q8.size)
               have e9:=e8.trans (b9.mono (by have:=e8.size;simp at this;omega))
               have d9:=d8.trans (b9.mono d8.size)
               clear e8 d8 q8 b8
               go_wp2_with fail
               first
                |(go_ret;exact⟨qm (HHt.out (HB.out.trans rfl)).symm,q9⟩)
                |(have hg1:0<gk:=by have:=HGK.out;omega
                  go_roundg (gk-1)
                  case measure=>omega
                  case rel=>exact⟨k+1,by omega,by have:=HGK.out;omega,by go_num,HNx.out (HB.out.trans rfl),d9,e9⟩)))
     ·have hwf:wF=false:=by
       rw[HM.out]
       have:=q7N HNo.out (show nm2.length≤k by simp[nm2];omega)
       rwa [List.drop_zero]at this
      have HWF:=zb hwf
      clear hwf
      go_wp2_with fail
      go_ret
      exact⟨qm HWF.out.symm,q4⟩
end Go.Proofs.YtiamjjonoeaggabGreatDoor
