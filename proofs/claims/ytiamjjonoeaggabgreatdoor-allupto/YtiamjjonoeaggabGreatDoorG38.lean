import Derived.Test.YtiamjjonoeaggabGreatDoorGA
import Derived.Test.YtiamjjonoeaggabGreatDoorGB
import Derived.Test.YtiamjjonoeaggabGreatDoorG21
import Derived.Test.YtiamjjonoeaggabGreatDoorG25
import Derived.Test.YtiamjjonoeaggabGreatDoorG30
import Derived.Test.YtiamjjonoeaggabGreatDoorG33
import Derived.Test.YtiamjjonoeaggabGreatDoorG36
import Derived.Test.YtiamjjonoeaggabGreatDoorG37
set_option maxRecDepth 100000
set_option maxHeartbeats 16000000
namespace Go.Proofs.YtiamjjonoeaggabGreatDoor
open Go.RowKit
theorem j4W:(Tryz.prog.info? 216).map (fun i=>(i.zero,i.size,i.bytes))=some (some (.slice none 0 0),1,24):=by kernel_rfl
theorem j6M:(Tryz.prog.info? 43).map (fun i=>(i.zero,i.size,i.bytes))=some (some (zn fun _=>0),10,20):=by kernel_rfl
theorem j3C {l r:zl}{p sp:Nat}{y:Pay}{u:List Tok}(h:qz (.node p sp y l r) u):(l=.nil∧r=.nil∧q1g (.node p sp y l r)=[])∨(l≠.nil∧r=.nil∧q1g (.node p sp y l r)=[l])∨(l≠.nil∧r≠.nil∧q1g (.node p sp y l r)=[l,r]):=by
 have hl:l=.nil→r=.nil:=by
  intro e
  subst e
  rcases h with⟨_,_,_,_,e4,_⟩|⟨_,_,_,_,e4,_⟩|⟨_,_,_,_,_,q1,q2,q3,ul,ur,hl',_⟩|⟨_,_,_,e4,_⟩|⟨_,_,_,_,_,q1,q2,q3,q4,q5,q6,q7,ul,ur,hl',_⟩|⟨_,_,_,_,_,_,e4,_⟩
  ·exact e4
  ·exact e4
  ·exact hl'.elim
  ·exact e4
  ·exact hl'.elim
  ·exact e4
 cases l with
 |nil =>
  have:=hl rfl
  subst this
  exact .inl ⟨rfl,rfl,rfl⟩
 |node a b c d e =>
  cases r with
  |nil=>exact .inr (.inl ⟨by simp,rfl,rfl⟩)
  |node a' b' c' d' e'=>exact .inr (.inr ⟨by simp,by simp,rfl⟩)
theorem part_of {w:World}{lv:Value}{l r:zl}{p sp:Nat}{y:Pay}{u:List Tok}{ks:List (zl × List Tok)}{xs:List Value}{n base:Nat}{L:List LPt}(hR:qz (.node p sp y l r) u)(hk:ks.map Prod.fst=q1g (.node p sp y l r))(hl:xs.length=ks.length)
  (hrow:w.ownsRow base 216 1 lv ks.length xs)(hT:∀j (h:j<ks.length) (h':j<xs.length),Tb w xs[j] n (qH L (ks[j]).1)):PartT w lv l r n (qH L l) (qH L r):=by
 have hrow0:=q1L (zZ base) hrow
 rcases j3C hR with⟨h1,h2,h3⟩|⟨h1,h2,h3⟩|⟨h1,h2,h3⟩
 ·exact⟨fun h=>absurd h1 h,fun h=>absurd h2 h⟩
 ·refine⟨fun _ _=>?_,fun h=>absurd h2 h⟩
  rw[h3]at hk
  match ks,xs,hl,hk with
  | [k],[x],_,hk =>
   have e:k.1=l:=by simpa using hk
   have:=hT 0 (by simp) (by simp)
   simp only[List.getElem_cons_zero]at this
   rw[e]at this
   exact⟨x,⟨[x],rfl,hrow0⟩,this,this⟩
 ·refine⟨fun _ h=>absurd h h2,fun _=>?_⟩
  rw[h3]at hk
  match ks,xs,hl,hk with
  | [k,k'],[x,x'],_,hk =>
   have e:k.1=l∧k'.1=r:=by simpa using hk
   have t0:=hT 0 (by simp) (by simp)
   have t1:=hT 1 (by simp) (by simp)
   simp only[List.getElem_cons_zero,List.getElem_cons_succ]at t0 t1
   rw[e.1]at t0
   rw[e.2]at t1
   exact⟨x,x',⟨[x,x'],rfl,hrow0⟩,t0,t1⟩
theorem wp_app1o {P:Program}{ops:Array Oper}{rest:List Oper}{o:Oper}{a:Act}{Q:Exit→Act→World→Prop}(hgd:o.guard=none)(x y:Operand)(t e:TypeId)
  (ho:o.op=.call {callee:=.builtin .append,args:=#[x,y],argTypes:=#[t,t]}){i:TypeInfo}{z:Value}{size bytes:Nat}(ht:P.underlying t=some (.slice e))(hi:P.info? e=some i)(hz:i.zero=some z)
  (hsize:i.size=size)(hby:i.bytes=bytes)(hzs:z.cells.size=size)(hsz:0<size)(base:Nat)(v:Value)(n:Nat)(xs news:List Value)(W:World)(hx:a.eval x=v)
  (hown:W.ownsRow base e size v n xs)(hy:a.eval y=.slice (some ⟨W.heap.size,0,none⟩) 1 1)(hl:news.length=size)(h1:∀u∈news,u.oneCell'=true)(hn:n≤100000)(hbb:bytes≤1000)(hbase:base≤W.heap.size)
  (h:∀v' w',w'.ownsRow base e size v' (n+1) (xs++news)→OnlyB v.ownBlock.toList W w'→wpList P ops Q rest (a.put o.dst v') w'):wpList P ops Q (o::rest) a (W.alloc (.cells news.toArray e)):=by
 refine wpList_append_own _ hgd x y t ho base e i z size bytes ht hi hz hsize hby hzs hsz v n xs hx (hown.alloc _) ⟨W.heap.size,0,none⟩ 1 1 news hy (by omega) ?_ h1 ?_ ?_ ?_ ?_
 ·intro j u hj
  rw[q2e]
  simpa using hj
 ·unfold maxLen;omega
 ·have:(n+1)*bytes≤100001*1000:=Nat.mul_le_mul (by omega) hbb
  omega
 ·simp;omega
 ·intro v' w' ho' hg _
  refine h v' w' ho' ⟨hg.os,hg.tape,hg.output,?_,fun k hk hn=>?_⟩
  ·have:=hg.size;simp at this;omega
  ·rw[hg.block k (by simp;omega) (fun e=>hn (by rw[←e];simp))]
   exact zO W _ hk
theorem Tb.only {w w':World}{v:Value}{m:Nat}{H:Nat→Nat→Nat→Bool}{bl:List Nat}(h:Tb w v m H)(ho:OnlyB bl w w')(hb:∀k∈bl,∃cs t,w.heap[k]?=some (.cells cs t (0,0))∧t≠43):Tb w' v m H:=
 ⟨by
  have hr:=h.row
  refine⟨hr.1,?_⟩
  rcases hr.2 with h'|⟨g,cap,cur,rfl,h2,h3,h4⟩
  ·exact .inl h'
  ·refine .inr ⟨g,cap,cur,rfl,h2,?_,h4⟩
   rw[ho.block g (zd h3) (fun hm=>by
    obtain⟨cs,t,e1,e2⟩:=hb g hm
    rw[h3]at e1
    simp only[Option.some.injEq,Obj.cells.injEq]at e1
    exact e2 e1.2.1.symm)]
   exact h3,h.far⟩
theorem zw {w:World}{base:Nat}{e:TypeId}{size:Nat}{v:Value}{n:Nat}{xs:List Value}(h:w.ownsRow base e size v n xs):∀k∈v.ownBlock.toList,base≤k∧∃cs,w.heap[k]?=some (.cells cs e (0,0)):=by
 intro k hk
 rcases h.2 with⟨rfl,_⟩|⟨g,cap,cur,rfl,h2,h3,h4⟩
 ·simp[Value.ownBlock]at hk
 ·have:k=g:=by simpa[Value.ownBlock]using hk
  subst this
  exact⟨h2,cur,h3⟩
def TbRel1 (w1:World)(ks:List (zl × List Tok))(L:List LPt)(n:Nat)(g:Nat)(vl vi:Value)(wr:World):Prop:=
 ∃(k:Nat) (xs:List Value),k≤ks.length∧ks.length-k≤g∧vi=.int .i64 k∧xs.length=k∧wr.ownsRow w1.heap.size 216 1 vl k xs∧(∀j (h:j<ks.length) (h':j<xs.length),Tb wr xs[j] n (qH L (ks[j]).1))∧Below w1.heap.size w1 wr
def TbRel2 (w2:World)(n:Nat)(H:Nat→Nat→Nat→Bool)(g:Nat)(vo vi:Value)(wr:World):Prop:=
 ∃k:Nat,k≤n∧n-k≤g∧vi=.int .i64 k∧wr.ownsRow w2.heap.size 43 10 vo k (q0H k H)∧Below w2.heap.size w2 wr
structure TnAt (w3 wq:World)(s:Nat→Nat→Bool)(x y:Nat):Prop where
 blk:wq.heap[w3.heap.size]?=some (.cells (zx (zf (q1p s x y))).toArray 43 (0,0))
 bel:Below w3.heap.size w3 wq
theorem TnAt.lt {w3 wq:World}{s:Nat→Nat→Bool}{x y:Nat}(h:TnAt w3 wq s x y):w3.heap.size<wq.heap.size:=zd h.blk
theorem TnAt.below {w3 wq w':World}{s:Nat→Nat→Bool}{x y:Nat}(h:TnAt w3 wq s x y)(hb:Below wq.heap.size wq w'):TnAt w3 w' s x y:=⟨(hb.block _ h.lt).trans h.blk,h.bel.trans (hb.mono h.bel.size)⟩
theorem TnAt.next {w3 wq:World}{s:Nat→Nat→Bool}{x y:Nat}(h:TnAt w3 wq s x y)(e:q1p s x y=q1p s x (y+1)):TnAt w3 wq s x (y+1):=⟨by rw[←e];exact h.blk,h.bel⟩
theorem TnAt.row {w3 wq:World}{s:Nat→Nat→Bool}{x:Nat}(h:TnAt w3 wq s x 10):TnAt w3 wq s (x+1) 0:=⟨by rw[←j5G];exact h.blk,h.bel⟩
def TnRelX (w3:World)(s:Nat→Nat→Bool)(g:Nat)(vi:Value)(wr:World):Prop:=∃x:Nat,x≤10∧10-x≤g∧vi=.int .i64 x∧TnAt w3 wr s x 0
def TnRelY (w3:World)(s:Nat→Nat→Bool)(x:Nat)(g:Nat)(vi:Value)(wr:World):Prop:=∃y:Nat,y≤10∧10-y≤g∧vi=.int .i64 y∧TnAt w3 wr s x y
theorem j7i:∀(F:zl) (u:List Tok) (v:Value) (w:World) (dv:Value) (DL:List (LPt × Value)),qz F u→q3t u→Lets u→qB w v u→DLogAt w dv DL→q5U w DL→q9H (zs DL) →
  Calls Tryz.prog 115 #[v,dv] w fun e w'=>∃v',e=.returned v'∧Tb w' v' DL.length (qH (zs DL) F)∧Below w.heap.size w w':=by
 intro F
 induction F with
 |nil=>intro u v w dv DL h;exact h.elim
 |node p sp y l r ihl ihr =>
  intro u v w dv DL hR hG hLe hF hL hH hM
  have HP:=zb (fun w1 (hb:Below w.heap.size w w1)=>q6H _ u v w1 hR (hF.below hb))
  have HI:Hid (∀k∈q1g (.node p sp y l r),∀(u':List Tok) (v':Value) (w':World),qz k u'→(∀t∈u',t∈u)→qB w' v' u'→DLogAt w' dv DL→q5U w' DL→Calls Tryz.prog 115 #[v',dv] w' fun e w''=>∃v'',e=.returned v''∧Tb w'' v'' DL.length (qH (zs DL) k)∧Below w'.heap.size w' w''):=by
   intro k hk u' v' w' h1 h2 h3 h4 h5
   rcases q7F hk with rfl|rfl
   ·exact ihl u' v' w' dv DL h1 (q0t hG h2) (hLe.sub h2) h3 h4 h5 hM
   ·exact ihr u' v' w' dv DL h1 (q0t hG h2) (hLe.sub h2) h3 h4 h5 hM
  have HPT:=zb (fun(W:World) (lv:Value) (ks:List (zl × List Tok)) (xs:List Value) (base:Nat) hk hl hrow hT=>@part_of W lv l r p sp y u ks xs DL.length base (zs DL) hR hk hl hrow hT)
  obtain⟨HN,hHN⟩:∃HN:Nat→Nat→Nat→Bool,HN=fun i x z=>qu (zz 0 p sp y l r) (zs DL) (qH (zs DL) l) (qH (zs DL) r) i x z:=⟨_,rfl⟩
  have HHO:Hid (∀(W:World) (lv:Value) (i x z:Nat),qB W v u→PartT W lv l r DL.length (qH (zs DL) l) (qH (zs DL) r)→DLogAt W dv DL→q5U W DL→i<DL.length→x<10→z<10→q5x v lv dv DL i x z W (HN i x z)):=zb (fun W lv i x z q1 q2 q3 q4 q5 q6 q7=>by rw[hHN];exact j7k p sp y l r u hR hG hLe v lv dv DL _ _ i x z q5 q6 q7 hM W q1 q2 q3 q4)
  have HEQ:Hid (∀W v',W.ownsRow 0 43 10 v' DL.length (q0H DL.length HN)→Tb W v' DL.length (qH (zs DL) (.node p sp y l r))):=zb (fun W v' h=>by
   refine⟨?_,fun i hi x z=>?_⟩
   ·rw[q4x (B:=HN) (fun i hi=>by
     funext x z
     rw[hHN]
     show(decide (i<(zs DL).length)&&_)=_
     rw[decide_eq_true (by simpa using hi),Bool.true_and])]
    exact h
   ·show(decide (i<(zs DL).length)&&_)=false
    rw[decide_eq_false (by simp;omega),Bool.false_and])
  have hkl:(q1g (.node p sp y l r)).length≤2:=by rcases j3C hR with⟨_,_,e⟩|⟨_,_,e⟩|⟨_,_,e⟩<;>(rw[e];simp)
  clear ihl ihr hHN hR hG hLe
  generalize hFF:(Go.Deep.BT.node p sp y l r:zl)=F at *
  clear hFF
  obtain⟨b,o,cap,rfl,hx1,hx2,hx3,hx4,hx5,hx6⟩:=qe hF
  clear hx1 hx2 hx3 hx4 hx5 hx6
  obtain⟨da,dc,rfl⟩:=qr hL.row
  have hsm:=hL.small
  have HF:=zb hF
  have HL:=zb hL
  have HH:=zb hH
  obtain⟨i0,hi0,hz0,hz1,hz2⟩:=info_parts j4W
  obtain⟨i1,hi1,iz0,iz1,iz2⟩:=info_parts j6M
  clear hF hL hH hM
  generalize zs DL=L at *
  generalize hn:DL.length=n at *
  generalize u.length=ul at *
  go_enter Tryz.func115,Tryz.ntmps115
  go_wp2_with fail
  refine(HP.out _ ((zB _ _).alloc (zL _) _)).mono ?_
  rintro e w1 ⟨vk,ks,rfl,hk1,hk2,hk3,hb1⟩
  have q1:=((zB w.heap.size w).alloc (zL _) _).trans (hb1.mono (by simp))
  have cb1:w1.heap[w.heap.size]?=some (.cells #[.slice (some ⟨b,o,none⟩) ul cap] 112 (0,0)):=(hb1.block w.heap.size (by simp)).trans (zN _ _)
  have hl1:w.heap.size<w1.heap.size:=zd cb1
  have HQ1:=zb q1
  have HCB:=zb cb1
  obtain⟨av,nv,cv,rfl,hnv,hcv⟩:=q5g hk3
  have hnv':ks.length=nv:=by simpa using hnv.symm
  have hnv2:nv≤2:=by rw[←hk1,List.length_map]at hkl;omega
  have HK1:=zb hk1
  have HK2:=zb hk2
  have HK3:=zb hk3
  clear hb1 q1 cb1 hk1 hk2 hk3 hnv HP hkl
  go_wp2_with fail
  go_loopg [6,7] nv (fun g vl vi wr=>TbRel1 w1 ks L n g vl vi wr)
  case atStart=>exact⟨0,[],by omega,by omega,rfl,rfl,zW _ _ _ _,fun j h h'=>absurd h' (by simp),zB _ _⟩
  case round =>
   obtain⟨k,xs,hk,hg,rfl,hxl,hown,hTb,hbel⟩:=hrel
   have HG:=zb hg
   have HO:=zb hown
   have HT:=zb hTb
   have HB:=zb hbel
   obtain⟨la,lc,rfl⟩:=qr hown
   clear hg hown hTb hbel
   unfold maxLen at hcv
   by_cases hlt:k<nv
   ·have hlt':k<ks.length:=by omega
    obtain⟨gk',ok,xk,rfl,hxk,hfk⟩:=q7E (HK3.out.below HB.out) hlt'
    have hmem:ks[k]∈ks:=List.getElem_mem hlt'
    have HC:=zb (HI.out _ (by rw[←HK1.out];exact List.mem_map_of_mem hmem) _ _ _ (HK2.out _ hmem).1 (HK2.out _ hmem).2 hfk (HL.out.below (HQ1.out.trans (HB.out.mono HQ1.out.size))) (HH.out.below (HQ1.out.trans (HB.out.mono HQ1.out.size))))
    clear hmem hfk
    go_wp2_with fail
    refine HC.out.mono ?_
    rintro e w3 ⟨tv,rfl,hT3,b3⟩
    obtain⟨ta,tc,rfl⟩:=hT3.form
    have HB3:=zb (HB.out.trans (b3.mono HB.out.size))
    have HO3:=zb (zh HO.out b3)
    have HT3:=zb hT3
    have HTS:Hid (∀(j:Nat) (h:j<ks.length) (h':j<xs.length),Tb w3 xs[j] n (qH L ks[j].fst)):=zb (fun j h h'=>(HT.out j h h').below b3)
    clear b3 hT3 HT HO hxk HC
    go_wp2_with (at_builtin;refine wp_app1o rfl (.tmp 29) (.tmp 31) 242 216 rfl Tryz.underlying242 hi0 hz0 hz1 hz2 rfl (by decide) w1.heap.size _ _ _ [.slice ta n tc] w3 rfl HO3.out (by simp[Act.eval]) rfl (by simp[Value.oneCell']) (by omega) (by decide) HB3.out.size ?_;intro v' w' hown' honly')
    have hg1:0<gk:=by have:=HG.out;omega
    go_roundg (gk-1)
    case measure=>omega
    case rel =>
     refine⟨k+1,xs++[.slice ta n tc],by omega,by have:=HG.out;omega,by go_num,by simp[hxl],hown',fun j h h'=>?_,HB3.out.trans ?_⟩
     ·have hbl:∀q∈(Value.slice la k lc).ownBlock.toList,∃cs t,w3.heap[q]?=some (.cells cs t (0,0))∧t≠43:=fun q hq=>by obtain⟨_,cs,e⟩:=zw HO3.out q hq;exact⟨cs,_,e,by decide⟩
      rcases Nat.lt_or_ge j xs.length with gj|gj
      ·rw[List.getElem_append_left gj]
       exact(HTS.out j h gj).only honly' hbl
      ·have ej:j=k:=by simp at h';omega
       subst ej
       rw[List.getElem_append_right gj]
       simp only[hxl,Nat.sub_self,List.getElem_cons_zero]
       exact HT3.out.only honly' hbl
     ·exact honly'.below HB3.out.size (fun q hq=>(zw HO3.out q hq).1)
   ·have hke:k=nv:=by omega
    have HPW:=zb (HPT.out wr (.slice la k lc) ks xs w1.heap.size HK1.out (by omega) (by rw[hnv',←hke];exact HO.out) HT.out)
    clear hnv'
    subst hke
    obtain⟨w2,hw2⟩:∃w2:World,w2=wr:=⟨_,rfl⟩
    have HBW:=zb (HQ1.out.trans (HB.out.mono HQ1.out.size))
    have HF2:=zb (HF.out.below HBW.out)
    have HL2:=zb (HL.out.below HBW.out)
    have HH2:=zb (HH.out.below HBW.out)
    have HCF:Hid (∀wq,Below w2.heap.size w2 wq→wq.cell? ⟨w.heap.size,0,none⟩=some (.slice (some ⟨b,o,none⟩) ul cap)):=zb (fun wq hb=>by
     have e1:=(HB.out.block w.heap.size hl1).trans HCB.out
     rw[←hw2]at e1
     exact zC _ _ 0 _ _ _ ((hb.block _ (by have:=HB.out.size;rw[←hw2]at this;omega)).trans e1))
    rw[←hw2]at HPW HBW HF2 HL2 HH2 ⊢
    have hl2:w.heap.size<w2.heap.size:=by have:=HB.out.size;rw[←hw2]at this;omega
    have HHW:Hid (∀wq,Below w2.heap.size w2 wq→∀i x z,i<n→x<10→z<10→q5x (.agg #[.slice (some ⟨b,o,none⟩) ul cap]) (.slice la k lc) (.slice da n dc) DL i x z wq (HN i x z)):=zb (fun wq hb i x z h1 h2 h3=>HHO.out wq _ i x z (HF2.out.below hb) (HPW.out.below hb) (HL2.out.below hb) (HH2.out.below hb) h1 h2 h3)
    clear HI HPT HHO HK1 HK2 HK3 HO HT HB HPW HF2 HL2 HH2 HCB HQ1 HL HH HF hw2
    go_wp2_with fail
    go_loopg [9,10] n (fun g vo vi wr=>TbRel2 w2 n HN g vo vi wr)
    case atStart=>exact⟨0,by omega,by omega,rfl,zW _ _ _ _,zB _ _⟩
    case round =>
     obtain⟨i,hi,hg,rfl,hown,hbel⟩:=hrel
     have HGI:=zb hg
     have HO:=zb hown
     have HB:=zb hbel
     obtain⟨oa,oc,rfl⟩:=qr hown
     obtain⟨gi,hgi⟩:∃gi:Nat,gi=gk:=⟨_,rfl⟩
     clear hg hown hbel
     by_cases hin:i<n
     ·obtain⟨w3,hw3⟩:∃w3:World,w3=wr:=⟨_,rfl⟩
      rw[←hw3]at HO HB ⊢
      clear hw3
      have hdi:decide ((i:Int)<(n:Int))=true:=by simp;omega
      have HHI:Hid (∀wq,Below w3.heap.size w3 wq→∀x z,x<10→z<10→q5x (.agg #[.slice (some ⟨b,o,none⟩) ul cap]) (.slice la k lc) (.slice da n dc) DL i x z wq (HN i x z)):=zb (fun wq hb x z h2 h3=>HHW.out wq (HB.out.trans (hb.mono HB.out.size)) i x z hin h2 h3)
      have HCI:Hid (∀wq,Below w3.heap.size w3 wq→wq.cell? ⟨w.heap.size,0,none⟩=some (.slice (some ⟨b,o,none⟩) ul cap)):=zb (fun wq hb=>HCF.out wq (HB.out.trans (hb.mono HB.out.size)))
      have hl3:w.heap.size<w3.heap.size:=zT hl2 HB.out.size
      obtain⟨s,hs⟩:∃s,s=HN i:=⟨_,rfl⟩
      have HS:=zb hs
      rw[←hs]at HHI
      clear hs
      have HYES:=zb (fun x y hx hy=>j5H s x y hx hy)
      have HNO:=zb (fun x y=>acc_no s x y)
      go_wp2_with fail
      go_loopg [12] 10 (fun g vi wr=>TnRelX w3 s g vi wr)
      case atStart =>
       refine⟨0,by omega,by omega,rfl,⟨?_,(zB _ _).alloc (zL _) _⟩⟩
       rw[j2Q]
       exact zN _ _
      case round =>
       obtain⟨x,hx,hg,rfl,hA⟩:=hrel
       have HGX:=zb hg
       have HA:=zb hA
       have hla:=hA.lt
       obtain⟨gx,hgx⟩:∃gx:Nat,gx=gk:=⟨_,rfl⟩
       have HGE:=zb hgx
       clear hg hA hgx
       by_cases hx10:x<10
       ·have hdx:decide ((x:Int)<10)=true:=by simp;omega
        go_wp2_with fail
        go_loopg [13] 10 (fun g vi wr=>TnRelY w3 s x g vi wr)
        case atStart=>exact⟨0,by omega,by omega,rfl,HA.out⟩
        case round =>
         obtain⟨y,hy,hgy,rfl,hAy⟩:=hrel
         have HGY:=zb hgy
         have HAY:=zb hAy
         have hly:=hAy.lt
         clear hgy hAy
         by_cases hy10:y<10
         ·have HC:=zb (HHI.out _ HAY.out.bel x y hx10 hy10)
          have cf:=HCI.out _ HAY.out.bel
          have HW:=zb (q8l (zf (q1p s x y)) x y)
          obtain⟨q,hq⟩:∃q,q=s x y:=⟨_,rfl⟩
          rw[←hq]at HC
          have HQ:=zb hq
          clear hq
          have hg1:0<gk:=by have:=HGY.out;omega
          go_wp2_with fail
          refine HC.out.mono ?_
          rintro e w4 ⟨rfl,b4⟩
          have HA4:=zb (HAY.out.below b4)
          have hl4:=HA4.out.lt
          clear b4 HC HAY hly cf
          cases q with
          |false =>
           go_wp2_with fail
           go_roundg (gk-1)
           case measure=>omega
           case rel=>exact⟨y+1,by omega,by have:=HGY.out;omega,by go_num,HA4.out.next (HNO.out x y HQ.out.symm)⟩
          |true =>
           have hc:=HW.out
           rw[HYES.out x y hx10 hy10 HQ.out.symm]at hc
           obtain⟨V1,hV1⟩:∃V1,V1=zn (zf (q1p s x y)):=⟨_,rfl⟩
           have L2:=(Arr.of_row (f:=zf (q1p s x y)) HA4.out.blk).load
           rw[←hV1]at L2 hc
           clear hV1
           go_wp2_with (refine zg rfl 43 (.tmp 11) rfl ⟨w3.heap.size,0,none⟩ V1 rfl L2 ?_)
           refine(hc _).mono ?_
           rintro e w5 ⟨rfl,b5⟩
           have A5:=HA4.out.below b5
           obtain⟨W,s1,s2,s3,s4,s5,s6,s7⟩:=q2g w5 w3.heap.size _ (zf (q1p s x (y+1))) A5.blk rfl
           have HW5:Hid (TnAt w3 W s x (y+1)):=zb ⟨s2,⟨s5.trans A5.bel.os,s6.trans A5.bel.tape,s7.trans A5.bel.output,by rw[s4];exact A5.bel.size,fun q hq=>by rw[s3 q (by omega)];exact A5.bel.block q hq⟩⟩
           generalize zf (q1p s x (y+1))=h1 at *
           obtain⟨V2,hV2⟩:∃V2,V2=zn h1:=⟨_,rfl⟩
           rw[←hV2]at s1 ⊢
           clear hV2 s2 s3 s4 s5 s6 s7 A5 b5
           go_wp2_with (refine ze rfl 43 (.tmp 11) (.tmp 59) rfl ⟨w3.heap.size,0,none⟩ V2 rfl rfl W s1 ?_)
           go_roundg (gk-1)
           case measure=>omega
           case rel=>exact⟨y+1,by omega,by have:=HGY.out;omega,by go_num,HW5.out⟩
         ·have hye:y=10:=by omega
          subst hye
          have HAR:=zb HAY.out.row
          have hg1:0<gx:=by have:=HGX.out;have:=HGE.out;omega
          go_wp2_with fail
          go_roundg (gx-1)
          case measure=>have:=HGE.out;omega
          case rel=>exact⟨x+1,by omega,by have:=HGX.out;have:=HGE.out;omega,by go_num,HAR.out⟩
       ·have hxe:x=10:=by omega
        subst hxe
        have L5:=(Arr.of_row (f:=zf (q1p s 10 0)) HA.out.blk).load
        rw[j0E (j5F s)]at L5
        have HO5:=zb (zh HO.out HA.out.bel)
        have HB5:=zb (HB.out.trans (HA.out.bel.mono HB.out.size))
        have HTS:Hid (q0H (i+1) HN=q0H i HN++zx (zf s)):=zb (by rw[q1E,HS.out])
        generalize zf s=h at *
        have hg1:0<gi:=by have:=HGI.out;omega
        go_wp2_with (first|(refine zg rfl 43 (.tmp 11) rfl ⟨w3.heap.size,0,none⟩ (zn h) rfl L5 ?_)|(at_builtin;refine q2c rfl (.tmp 60) (.tmp 62) 216 43 rfl Tryz.underlying216 hi1 iz0 iz1 iz2 rfl (by decide) w2 w2.heap.size _ _ _ [.int .u16 (h 0),.int .u16 (h 1),.int .u16 (h 2),.int .u16 (h 3),.int .u16 (h 4),.int .u16 (h 5),.int .u16 (h 6),.int .u16 (h 7),.int .u16 (h 8),.int .u16 (h 9)] wr rfl HO5.out (by simp[Act.eval]) rfl (by simp[Value.oneCell']) (by omega) (by decide) HB5.out HB5.out.size ?_;intro v' w' hown' hbel' hne))
        go_roundg (gi-1)
        case measure=>omega
        case rel=>exact⟨i+1,by omega,by have:=HGI.out;omega,by go_num,by rw[HTS.out];exact hown',hbel'⟩
     ·have hie:i=n:=by omega
      subst hie
      go_wp2_with fail
      go_ret
      exact⟨_,rfl,HEQ.out _ _ (q1L (zZ _) HO.out),HBW.out.trans (HB.out.mono HBW.out.size)⟩
structure DMonAt (w:World)(d:Nat)(fv:Value)(u:List Tok)(F:zl)(lv:Value)(DL:List (LPt × Value))(told:Nat)(ended:Bool):Prop where
 blk:w.heap[d]?=some (.cells #[fv,lv,.int .i64 told,.bool ended] 115 (0,0))
 frm:qB w (.agg #[fv]) u
 rd:qz F u
 good:q3t u
 lets:Lets u
 ahead:q3d F=true
 log:DLogAt w lv DL
 haps:q5U w DL
 ok:LogOk (zs DL)
 few:told≤DL.length
theorem DMonAt.lt {w:World}{d:Nat}{fv:Value}{u:List Tok}{F:zl}{lv:Value}{DL:List (LPt × Value)}{told:Nat}{ended:Bool}(h:DMonAt w d fv u F lv DL told ended):d<w.heap.size:=zd h.blk
theorem DMonAt.below {w w':World}{d:Nat}{fv:Value}{u:List Tok}{F:zl}{lv:Value}{DL:List (LPt × Value)}{told:Nat}{ended:Bool}(h:DMonAt w d fv u F lv DL told ended)(hb:Below w.heap.size w w'):DMonAt w' d fv u F lv DL told ended:=
 ⟨(hb.block d h.lt).trans h.blk,h.frm.below hb,h.rd,h.good,h.lets,h.ahead,h.log.below hb,h.haps.below hb,h.ok,h.few⟩
theorem DMonAt.cells {w:World}{d:Nat}{fv:Value}{u:List Tok}{F:zl}{lv:Value}{DL:List (LPt × Value)}{told:Nat}{ended:Bool}(h:DMonAt w d fv u F lv DL told ended) :
  w.cell? ⟨d,0,none⟩=some fv∧w.cell? ⟨d,1,none⟩=some lv∧w.cell? ⟨d,2,none⟩=some (.int .i64 told)∧w.cell? ⟨d,3,none⟩=some (.bool ended):=
 ⟨zC _ _ 0 _ _ _ h.blk,zC _ _ 1 _ _ _ h.blk,zC _ _ 2 _ _ _ h.blk,zC _ _ 3 _ _ _ h.blk⟩
theorem stampD {DL:List (LPt × Value)}{i:Nat}(h:i<DL.length):j0P (zs DL) i=(DL[i]).1.stamp:=by
 unfold j0P zs
 rw[List.getElem?_map,zG h]
 rfl
theorem q4z (W:World)(xs:List Value)(t:TypeId):∀j u,xs[j]?=some u→(W.alloc (.cells xs.toArray t)).cell? ((⟨W.heap.size,0,none⟩:Addr).add j)=some u:=by
 intro j u hj
 rw[q2e]
 simpa using hj
def VdRel (F:zl)(L:List LPt)(w1:World)(told n:Nat)(g:Nat)(vo vi:Value)(wr:World):Prop:=
 ∃k:Nat,told≤k∧k≤n∧n-k≤g∧vi=.int .i64 k∧wr.ownsRow w1.heap.size 45 12 vo (k-told) (zy (q1x F L told k))∧Below w1.heap.size w1 wr
theorem q5M (d:Nat)(fv:Value)(u:List Tok)(F:zl)(lv:Value)(DL:List (LPt × Value))(told:Nat)(ended:Bool)(w:World)(h:DMonAt w d fv u F lv DL told ended) :
  Calls Tryz.prog 86 #[.pointer (some ⟨d,0,none⟩)] w fun e w'=>∃v,e=.returned v∧w'.ownsRow w.heap.size 45 12 v (DL.length-told) (zy (q1x F (zs DL) told DL.length))∧Below w.heap.size w w':=by
 obtain⟨c0,c1,c2,c3⟩:=h.cells
 obtain⟨b,o,cap,efv'⟩:∃b o cap,fv=.slice (some ⟨b,o,none⟩) u.length cap:=by
  obtain⟨b,o,cap,e,_⟩:=qe h.frm
  exact⟨b,o,cap,by simpa using e⟩
 obtain⟨la,lc,rfl⟩:=qr h.log.row
 have hsm:=h.log.small
 have hfew:=h.few
 have hlt:=h.lt
 have HD:=zb h
 have HTB:=zb (fun W (q:DMonAt W d fv u F (.slice la DL.length lc) DL told ended)=>j7i F u _ W _ DL q.rd q.good q.lets q.frm q.log q.haps q.ok.mono)
 have HAN:=zb (fun t W (q:DMonAt W d fv u F (.slice la DL.length lc) DL told ended)=>j5p F u _ t W q.rd q.frm)
 subst efv'
 generalize hul:u.length=ul at *
 clear hul h
 go_enter Tryz.func86,Tryz.ntmps86
 go_wp2_with fail
 go_region_held3 (fun w'=>w'.cell? ⟨d,0,none⟩=some (.slice (some ⟨b,o,none⟩) ul cap)∧w'.cell? ⟨d,1,none⟩=some (.slice la DL.length lc)) (first|(exact⟨(HD1.out.cells).1,(HD1.out.cells).2.1⟩)|(exact⟨c0,c1⟩)|go_keep) ((go_at_call 115;refine(HTB.out _ (HD.out.below (by exact(zB _ _).drew))).mono ?_;rintro e w1 ⟨tv,rfl,hT1,b1⟩;have B1:Below w.heap.size w w1:=(zB _ _).drew.trans b1;have HD1:=zb (HD.out.below B1)))
 have HT1:=zb hT1
 have HB1:=zb B1
 obtain⟨ta,tc,rfl⟩:=hT1.form
 have d2:=HD1.out.cells.2.2.1
 have hl1:=HD1.out.lt
 obtain⟨i1,hi1,iz0,iz1,iz2⟩:=info_parts j3y
 clear hT1 B1 b1 HTB c0 c1 c2 c3 hlt HD
 go_wp2_with fail
 go_loopg [4,5] DL.length (fun g vo vi wr=>VdRel F (zs DL) w1 told DL.length g vo vi wr)
 case atStart=>exact⟨told,zL _,hfew,by omega,rfl,by rw[q4y _ _ _ _ (zL _),Nat.sub_self];exact zW _ _ _ _,zB _ _⟩
 case round =>
  obtain⟨k,hk0,hk,hg,rfl,hown,hbel⟩:=hrel
  have HG:=zb hg
  have HO:=zb hown
  have HB:=zb hbel
  obtain⟨va,vc,rfl⟩:=qr hown
  have HDR:=zb (HD1.out.below hbel)
  obtain⟨e0,e1,_,_⟩:=HDR.out.cells
  have hlr:=HDR.out.lt
  clear hg hown hbel
  by_cases hkn:k<DL.length
  ·obtain⟨gt,rfl,hgt,t1,t2,_⟩:=HT1.out.load hkn
   obtain⟨dg,rfl,hdg,g1,g2,_⟩:=HDR.out.log.at' hkn
   have HLD:Hid (∀w',Below wr.heap.size wr w'→(Instr.loadAt 43 (.pointer (some ⟨gt,k*10,none⟩))).run Tryz.prog w'=.ok (zn (zf (qH (zs DL) F k))) w'):=zb (fun w' hb=>by
    obtain⟨g',e',_,_,_,hr⟩:=(HT1.out.below (HB.out.trans (hb.mono HB.out.size))).load hkn
    simp only[Option.some.injEq,Addr.mk.injEq,and_true]at e'
    subst e'
    exact q9D hr)
   have HC1:Hid (∀w',Below w1.heap.size w1 w'→w'.cell? ⟨d,0,none⟩=some (.slice (some ⟨b,o,none⟩) ul cap)∧w'.cell? ⟨d,1,none⟩=some (.slice (some ⟨dg,0,none⟩) DL.length lc)∧w'.cell? ⟨dg,k*3,none⟩=some (.int .u16 (DL[k]).1.stamp)):=zb (fun w' hb=>by
    have q:=HD1.out.below hb
    obtain⟨g',e',_,_,_,hst,_⟩:=q.log.at' hkn
    simp only[Option.some.injEq,Addr.mk.injEq,and_true]at e'
    subst e'
    exact⟨q.cells.1,q.cells.2.1,hst⟩)
   have HC:Hid (∀w',Below wr.heap.size wr w'→w'.cell? ⟨d,0,none⟩=some (.slice (some ⟨b,o,none⟩) ul cap)∧w'.cell? ⟨d,1,none⟩=some (.slice (some ⟨dg,0,none⟩) DL.length lc)∧w'.cell? ⟨dg,k*3,none⟩=some (.int .u16 (DL[k]).1.stamp)):=zb (fun w' hb=>HC1.out w' (HB.out.trans (hb.mono HB.out.size)))
   have HAK:=zb (fun W q=>HAN.out (qH (zs DL) F k) W q)
   have HVR:Hid (q5t (verR F (zs DL) k)=[.int .i64 k,.int .u16 (DL[k]).1.stamp,.int .u16 (zf (q3K (zt F [120]) (zt F [121]) (qH (zs DL) F k)) 0),.int .u16 (zf (q3K (zt F [120]) (zt F [121]) (qH (zs DL) F k)) 1),.int .u16 (zf (q3K (zt F [120]) (zt F [121]) (qH (zs DL) F k)) 2),.int .u16 (zf (q3K (zt F [120]) (zt F [121]) (qH (zs DL) F k)) 3),.int .u16 (zf (q3K (zt F [120]) (zt F [121]) (qH (zs DL) F k)) 4),.int .u16 (zf (q3K (zt F [120]) (zt F [121]) (qH (zs DL) F k)) 5),.int .u16 (zf (q3K (zt F [120]) (zt F [121]) (qH (zs DL) F k)) 6),.int .u16 (zf (q3K (zt F [120]) (zt F [121]) (qH (zs DL) F k)) 7),.int .u16 (zf (q3K (zt F [120]) (zt F [121]) (qH (zs DL) F k)) 8),.int .u16 (zf (q3K (zt F [120]) (zt F [121]) (qH (zs DL) F k)) 9)]):=zb (by rw[←stampD hkn];rfl)
   have HTS:=zb (j0V F (zs DL) told k hk0)
   generalize zf (q3K (zt F [120]) (zt F [121]) (qH (zs DL) F k))=hh at *
   obtain⟨V0,hV0⟩:∃V0,V0=zn (zf (qH (zs DL) F k)):=⟨_,rfl⟩
   rw[←hV0]at HLD HAK
   clear hV0
   generalize (DL[k]).1.stamp=st at *
   unfold maxLen at t2 g2
   have HST:Hid (∀W bb old,W.heap[bb]?=some (.cells old 43 (0,0))→old.size=10→∃W',(Instr.storeAt 43 (.pointer (some ⟨bb,0,none⟩)) (zn hh)).run Tryz.prog W=.ok () W'∧W'.heap[bb]?=some (.cells (zx hh).toArray 43 (0,0))∧(∀k,k≠bb→W'.heap[k]?=W.heap[k]?)∧W'.heap.size=W.heap.size∧W'.os=W.os∧W'.tape=W.tape∧W'.output=W.output):=zb (fun W bb old h1 h2=>q2g W bb old hh h1 h2)
   obtain⟨VA,hVA⟩:∃VA,VA=zn hh:=⟨_,rfl⟩
   rw[←hVA]at HAK HST
   have HVA:=zb hVA
   clear hVA
   have hg1:0<gk:=by have:=HG.out;omega
   have S6:Hid (∀w',Below wr.heap.size wr w'→w'.cell? ⟨d,0,none⟩=some (.slice (some ⟨b,o,none⟩) ul cap)∧(Instr.loadAt 43 (.pointer (some ⟨gt,k*10,none⟩))).run Tryz.prog w'=.ok V0 w'):=zb (fun w' hb=>⟨(HC.out w' hb).1,HLD.out w' hb⟩)
   have HB0:Hid (Below wr.heap.size wr wr.drew):=zb (zB _ _).drew
   have hki:(k:Int)<(DL.length:Int):=by omega
   have hk00:(0:Int)≤(k:Int):=by omega
   go_wp2_with fail
   refine wp_region_held_drew (S:=fun w'=>w'.cell? ⟨d,0,none⟩=some (.slice (some ⟨b,o,none⟩) ul cap)∧(Instr.loadAt 43 (.pointer (some ⟨gt,k*10,none⟩))).run Tryz.prog w'=.ok V0 w') (by kernel_rfl) (S6.out _ HB0.out) (fun hS0=>?_)
   simp only[rz,Nat.zero_add,Nat.reduceAdd]
   refine tq 0 29 ?_
   simp only[Act.put,pz]
   refine tq 1 30 ?_
   simp only[Act.put,pz]
   refine tq 2 31 ?_
   simp only[Act.put,pz]
   refine tq 3 32 ?_
   simp only[Act.put,pz]
   refine tq 4 33 ?_
   simp only[Act.put,pz]
   refine tq 5 34 ?_
   simp only[Act.put,pz]
   refine tq 6 35 ?_
   simp only[Act.put,pz]
   refine ql (i:=7) (v:=V0) 36 rfl rfl (by kernel_rfl) (by kernel_rfl) (by kernel_rfl) (fun _ _ _ h=>h) (qJ (by rfl) 43 (.tmp 35) rfl ⟨gt,k*10,none⟩ _ rfl (fun w h=>h.2)) (by assumption) ?_
   simp only[Act.put,pz]
   refine zY (rs:=[8,9]) (by kernel_rfl) (by simp) ?_
   refine zR rfl (fun K hK=>?_) (zR rfl (fun K hK=>?_) zE)
   ·rw[if_pos (by rfl)]
    go_simp
    refine(HAK.out _ (HDR.out.below HB0.out)).mono ?_
    rintro e w3 ⟨rfl,bw3⟩
    have Bw3:Below wr.heap.size wr w3:=(HB0.out).trans (bw3.mono (HB0.out).size)
    go_simp
    refine hK.out _ _ (S6.out _ Bw3) (fun _=>?_)
    clear hK K
    refine rd1 9 rfl fun K hK=>?_
    go_simp
    have B4:Below wr.heap.size wr (w3.alloc (.cells zCs 43)):=Bw3.alloc Bw3.size _
    have K4:=zN w3 (.cells zCs 43)
    refine hK.out _ _ (S6.out _ B4) (fun _=>?_)
    clear hK K
    have hbb:wr.heap.size≤w3.heap.size:=Bw3.size
    obtain⟨w4,hw4⟩:∃w4,w4=w3.alloc (.cells zCs 43):=⟨_,rfl⟩
    rw[←hw4]at B4 K4 ⊢
    clear hw4 Bw3 bw3
    generalize w3.heap.size=bb at *
    obtain⟨W5,s1,s2,s3,s4,s5,s6,s7⟩:=HST.out w4 bb _ K4 rfl
    have B5:Below wr.heap.size wr W5:=⟨s5.trans B4.os,s6.trans B4.tape,s7.trans B4.output,by rw[s4];exact B4.size,fun q hq=>by rw[s3 q (by omega)];exact B4.block q hq⟩
    refine rd1 10 rfl fun K hK=>?_
    refine qE 43 (.tmp 6) (.tmp 37) rfl ⟨bb,0,none⟩ VA rfl rfl W5 s1 ?_
    refine hK.out _ _ (S6.out _ B5) (fun _=>?_)
    clear hK K
    refine zD (by kernel_rfl) ?_ _
    simp only[Act.put]
    have L5:∀w',Below W5.heap.size W5 w'→(Instr.loadAt 43 (.pointer (some ⟨bb,0,none⟩))).run Tryz.prog w'=.ok (zn hh) w':=fun w' hb=>(Arr.of_row (f:=hh) ((hb.block bb (zd s2)).trans s2)).load
    have HL5:=zb L5
    have HS2:=zb s2
    have HB5:=zb B5
    have HO5:=zb (zh HO.out B5)
    clear L5 B5 s1 s2 s3 s4 s5 s6 s7 K4 B4 hbb
    have S7:Hid (∀w',Below W5.heap.size W5 w'→w'.cell? ⟨d,1,none⟩=some (.slice (some ⟨dg,0,none⟩) DL.length lc)∧w'.cell? ⟨dg,k*3,none⟩=some (.int .u16 st)∧(Instr.loadAt 43 (.pointer (some ⟨bb,0,none⟩))).run Tryz.prog w'=.ok (zn hh) w'):=zb (fun w' hb=>⟨(HC.out w' (HB5.out.trans (hb.mono HB5.out.size))).2.1,(HC.out w' (HB5.out.trans (hb.mono HB5.out.size))).2.2,HL5.out w' hb⟩)
    have HB7:Hid (Below W5.heap.size W5 W5.drew):=zb (zB _ _).drew
    have hl5:d<W5.heap.size:=zT hlr HB5.out.size
    go_wp2_with fail
    refine wp_region_held_drew (S:=fun w'=>w'.cell? ⟨d,1,none⟩=some (.slice (some ⟨dg,0,none⟩) DL.length lc)∧w'.cell? ⟨dg,k*3,none⟩=some (.int .u16 st)∧(Instr.loadAt 43 (.pointer (some ⟨bb,0,none⟩))).run Tryz.prog w'=.ok (zn hh) w') (by kernel_rfl) (S7.out _ HB7.out) (fun hS7=>?_)
    simp only[rz,Nat.zero_add,Nat.reduceAdd]
    refine tq 0 38 ?_
    simp only[Act.put,pz]
    refine tq 1 39 ?_
    simp only[Act.put,pz]
    refine tq 2 40 ?_
    simp only[Act.put,pz]
    refine tq 3 41 ?_
    simp only[Act.put,pz]
    refine tq 4 42 ?_
    simp only[Act.put,pz]
    refine tq 5 43 ?_
    simp only[Act.put,pz]
    refine tq 6 44 ?_
    simp only[Act.put,pz]
    refine tq 7 45 ?_
    simp only[Act.put,pz]
    refine tq 8 46 ?_
    simp only[Act.put,pz]
    refine tq 9 47 ?_
    simp only[Act.put,pz]
    refine ql (i:=10) (v:=zn hh) 48 rfl rfl (by kernel_rfl) (by kernel_rfl) (by kernel_rfl) (fun _ _ _ h=>h) (qJ (by rfl) 43 (.tmp 6) rfl ⟨bb,0,none⟩ _ rfl (fun w h=>h.2.2)) (by assumption) ?_
    simp only[Act.put,pz]
    refine tq 11 49 ?_
    simp only[Act.put,pz]
    refine rd1 12 rfl fun K hK=>?_
    go_simp
    have B8:Below W5.heap.size W5 (W5.drew.alloc (.cells #[.int .i64 k,.int .u16 st,.int .u16 (hh 0),.int .u16 (hh 1),.int .u16 (hh 2),.int .u16 (hh 3),.int .u16 (hh 4),.int .u16 (hh 5),.int .u16 (hh 6),.int .u16 (hh 7),.int .u16 (hh 8),.int .u16 (hh 9)] 45)):=HB7.out.alloc HB7.out.size _
    refine hK.out _ _ (S7.out _ B8) (fun _=>?_)
    clear hK K
    refine zY (rs:=[13]) (by kernel_rfl) (by simp) ?_
    refine zR rfl (fun K hK=>?_) zE
    refine qM (by rfl) (.tmp 38) (.tmp 50) 33 (by rfl) w1.heap.size 45 Tryz.underlying33 hi1 iz0 iz1 iz2 rfl (by decide) (.slice va (k-told) vc) (k-told) (zy (q1x F (zs DL) told k)) (by rfl) (HO5.out.drew.alloc _) ⟨W5.drew.heap.size,0,none⟩ 1 1 [.int .i64 k,.int .u16 st,.int .u16 (hh 0),.int .u16 (hh 1),.int .u16 (hh 2),.int .u16 (hh 3),.int .u16 (hh 4),.int .u16 (hh 5),.int .u16 (hh 6),.int .u16 (hh 7),.int .u16 (hh 8),.int .u16 (hh 9)] (by rfl) rfl (q4z W5.drew _ _) (by simp[Value.oneCell']) (by unfold maxLen;omega) (by omega) (zM HB.out.size (zM HB5.out.size B8.size)) ?_
    intro v7 w7 hown7 hgrow7
    have Bb7:Below w1.heap.size w1 w7:=(HB.out.trans ((HB5.out.trans (B8.mono HB5.out.size)).mono HB.out.size)).grown hgrow7 (zM HB.out.size (zM HB5.out.size B8.size)) (fun q hq=>(HO5.out.lt q hq).1)
    obtain⟨a7,c7,rfl⟩:=qr hown7
    have hb7:w7.heap[bb]?=W5.heap[bb]?:=by
     rw[hgrow7.block bb (by have:=zd HS2.out;have:=B8.size;exact zT (zd HS2.out) B8.size) (fun e=>by
      obtain⟨_,cs,e2⟩:=zw HO5.out bb (by rw[←e];simp)
      rw[HS2.out]at e2
      simp at e2)]
     exact B8.block bb (zd HS2.out)
    have HS7:w7.cell? ⟨d,1,none⟩=some (.slice (some ⟨dg,0,none⟩) DL.length lc)∧w7.cell? ⟨dg,k*3,none⟩=some (.int .u16 st)∧(Instr.loadAt 43 (.pointer (some ⟨bb,0,none⟩))).run Tryz.prog w7=.ok (zn hh) w7:=⟨(HC1.out w7 Bb7).2.1,(HC1.out w7 Bb7).2.2,(Arr.of_row (f:=hh) (hb7.trans HS2.out)).load⟩
    refine hK.out _ _ HS7 (fun _=>?_)
    clear hK K hgrow7 hb7
    simp only[Act.put]
    refine rd1 14 rfl fun K hK=>?_
    go_simp
    refine hK.out _ _ HS7 (fun _=>?_)
    clear hK K
    refine zD (by kernel_rfl) ?_ _
    have HO7:=zb hown7
    have HB9:=zb Bb7
    clear hown7 Bb7 B8 HS7
    go_wp2_with fail
    go_roundg (gk-1)
    case measure=>omega
    case rel=>exact⟨k+1,by omega,by omega,by have:=HG.out;omega,by go_num,by rw[HTS.out,q3X,q5P,HVR.out,show k+1-told=k-told+1 by omega];exact HO7.out,HB9.out⟩
   ·rw[if_pos (by rfl)]
    go_simp
    have B3:Below wr.heap.size wr ((wr.alloc (.cells zCs 43)).drew):=((zB _ _).alloc (zL _) _).drew
    have K3:((wr.alloc (.cells zCs 43)).drew).heap[wr.heap.size]?=some (.cells zCs 43 (0,0)):=zN wr (.cells zCs 43)
    refine hK.out _ _ (S6.out _ B3) (fun _=>?_)
    clear hK K
    obtain⟨w3,hw3⟩:∃w3,w3=(wr.alloc (.cells zCs 43)).drew:=⟨_,rfl⟩
    rw[←hw3]at B3 K3 ⊢
    have hbl:wr.heap.size<w3.heap.size:=zd K3
    clear hw3
    refine rd1 8 rfl fun K hK=>?_
    go_simp
    refine(HAK.out _ (HDR.out.below B3)).mono ?_
    rintro e w4 ⟨rfl,bw4⟩
    have Bw4:Below wr.heap.size wr w4:=(B3).trans (bw4.mono (B3).size)
    go_simp
    refine hK.out _ _ (S6.out _ Bw4) (fun _=>?_)
    clear hK K
    have K4:=(bw4.block wr.heap.size hbl).trans K3
    have B4:=Bw4
    clear Bw4 bw4 B3 K3 hbl
    obtain⟨bb,hbbe⟩:∃bb,bb=wr.heap.size:=⟨_,rfl⟩
    have hbb:wr.heap.size≤bb:=by omega
    rw[←hbbe]at K4
    simp only[←hbbe]
    clear hbbe
    obtain⟨W5,s1,s2,s3,s4,s5,s6,s7⟩:=HST.out w4 bb _ K4 rfl
    have B5:Below wr.heap.size wr W5:=⟨s5.trans B4.os,s6.trans B4.tape,s7.trans B4.output,by rw[s4];exact B4.size,fun q hq=>by rw[s3 q (by omega)];exact B4.block q hq⟩
    refine rd1 10 rfl fun K hK=>?_
    refine qE 43 (.tmp 6) (.tmp 37) rfl ⟨bb,0,none⟩ VA rfl rfl W5 s1 ?_
    refine hK.out _ _ (S6.out _ B5) (fun _=>?_)
    clear hK K
    refine zD (by kernel_rfl) ?_ _
    simp only[Act.put]
    have L5:∀w',Below W5.heap.size W5 w'→(Instr.loadAt 43 (.pointer (some ⟨bb,0,none⟩))).run Tryz.prog w'=.ok (zn hh) w':=fun w' hb=>(Arr.of_row (f:=hh) ((hb.block bb (zd s2)).trans s2)).load
    have HL5:=zb L5
    have HS2:=zb s2
    have HB5:=zb B5
    have HO5:=zb (zh HO.out B5)
    clear L5 B5 s1 s2 s3 s4 s5 s6 s7 K4 B4 hbb
    have S7:Hid (∀w',Below W5.heap.size W5 w'→w'.cell? ⟨d,1,none⟩=some (.slice (some ⟨dg,0,none⟩) DL.length lc)∧w'.cell? ⟨dg,k*3,none⟩=some (.int .u16 st)∧(Instr.loadAt 43 (.pointer (some ⟨bb,0,none⟩))).run Tryz.prog w'=.ok (zn hh) w'):=zb (fun w' hb=>⟨(HC.out w' (HB5.out.trans (hb.mono HB5.out.size))).2.1,(HC.out w' (HB5.out.trans (hb.mono HB5.out.size))).2.2,HL5.out w' hb⟩)
    have HB7:Hid (Below W5.heap.size W5 W5.drew):=zb (zB _ _).drew
    have hl5:d<W5.heap.size:=zT hlr HB5.out.size
    go_wp2_with fail
    refine wp_region_held_drew (S:=fun w'=>w'.cell? ⟨d,1,none⟩=some (.slice (some ⟨dg,0,none⟩) DL.length lc)∧w'.cell? ⟨dg,k*3,none⟩=some (.int .u16 st)∧(Instr.loadAt 43 (.pointer (some ⟨bb,0,none⟩))).run Tryz.prog w'=.ok (zn hh) w') (by kernel_rfl) (S7.out _ HB7.out) (fun hS7=>?_)
    simp only[rz,Nat.zero_add,Nat.reduceAdd]
    refine tq 0 38 ?_
    simp only[Act.put,pz]
    refine tq 1 39 ?_
    simp only[Act.put,pz]
    refine tq 2 40 ?_
    simp only[Act.put,pz]
    refine tq 3 41 ?_
    simp only[Act.put,pz]
    refine tq 4 42 ?_
    simp only[Act.put,pz]
    refine tq 5 43 ?_
    simp only[Act.put,pz]
    refine tq 6 44 ?_
    simp only[Act.put,pz]
    refine tq 7 45 ?_
    simp only[Act.put,pz]
    refine tq 8 46 ?_
    simp only[Act.put,pz]
    refine tq 9 47 ?_
    simp only[Act.put,pz]
    refine ql (i:=10) (v:=zn hh) 48 rfl rfl (by kernel_rfl) (by kernel_rfl) (by kernel_rfl) (fun _ _ _ h=>h) (qJ (by rfl) 43 (.tmp 6) rfl ⟨bb,0,none⟩ _ rfl (fun w h=>h.2.2)) (by assumption) ?_
    simp only[Act.put,pz]
    refine tq 11 49 ?_
    simp only[Act.put,pz]
    refine rd1 12 rfl fun K hK=>?_
    go_simp
    have B8:Below W5.heap.size W5 (W5.drew.alloc (.cells #[.int .i64 k,.int .u16 st,.int .u16 (hh 0),.int .u16 (hh 1),.int .u16 (hh 2),.int .u16 (hh 3),.int .u16 (hh 4),.int .u16 (hh 5),.int .u16 (hh 6),.int .u16 (hh 7),.int .u16 (hh 8),.int .u16 (hh 9)] 45)):=HB7.out.alloc HB7.out.size _
    refine hK.out _ _ (S7.out _ B8) (fun _=>?_)
    clear hK K
    refine zY (rs:=[13]) (by kernel_rfl) (by simp) ?_
    refine zR rfl (fun K hK=>?_) zE
    refine qM (by rfl) (.tmp 38) (.tmp 50) 33 (by rfl) w1.heap.size 45 Tryz.underlying33 hi1 iz0 iz1 iz2 rfl (by decide) (.slice va (k-told) vc) (k-told) (zy (q1x F (zs DL) told k)) (by rfl) (HO5.out.drew.alloc _) ⟨W5.drew.heap.size,0,none⟩ 1 1 [.int .i64 k,.int .u16 st,.int .u16 (hh 0),.int .u16 (hh 1),.int .u16 (hh 2),.int .u16 (hh 3),.int .u16 (hh 4),.int .u16 (hh 5),.int .u16 (hh 6),.int .u16 (hh 7),.int .u16 (hh 8),.int .u16 (hh 9)] (by rfl) rfl (q4z W5.drew _ _) (by simp[Value.oneCell']) (by unfold maxLen;omega) (by omega) (zM HB.out.size (zM HB5.out.size B8.size)) ?_
    intro v7 w7 hown7 hgrow7
    have Bb7:Below w1.heap.size w1 w7:=(HB.out.trans ((HB5.out.trans (B8.mono HB5.out.size)).mono HB.out.size)).grown hgrow7 (zM HB.out.size (zM HB5.out.size B8.size)) (fun q hq=>(HO5.out.lt q hq).1)
    obtain⟨a7,c7,rfl⟩:=qr hown7
    have hb7:w7.heap[bb]?=W5.heap[bb]?:=by
     rw[hgrow7.block bb (by have:=zd HS2.out;have:=B8.size;exact zT (zd HS2.out) B8.size) (fun e=>by
      obtain⟨_,cs,e2⟩:=zw HO5.out bb (by rw[←e];simp)
      rw[HS2.out]at e2
      simp at e2)]
     exact B8.block bb (zd HS2.out)
    have HS7:w7.cell? ⟨d,1,none⟩=some (.slice (some ⟨dg,0,none⟩) DL.length lc)∧w7.cell? ⟨dg,k*3,none⟩=some (.int .u16 st)∧(Instr.loadAt 43 (.pointer (some ⟨bb,0,none⟩))).run Tryz.prog w7=.ok (zn hh) w7:=⟨(HC1.out w7 Bb7).2.1,(HC1.out w7 Bb7).2.2,(Arr.of_row (f:=hh) (hb7.trans HS2.out)).load⟩
    refine hK.out _ _ HS7 (fun _=>?_)
    clear hK K hgrow7 hb7
    simp only[Act.put]
    refine rd1 14 rfl fun K hK=>?_
    go_simp
    refine hK.out _ _ HS7 (fun _=>?_)
    clear hK K
    refine zD (by kernel_rfl) ?_ _
    have HO7:=zb hown7
    have HB9:=zb Bb7
    clear hown7 Bb7 B8 HS7
    go_wp2_with fail
    go_roundg (gk-1)
    case measure=>omega
    case rel=>exact⟨k+1,by omega,by omega,by have:=HG.out;omega,by go_num,by rw[HTS.out,q3X,q5P,HVR.out,show k+1-told=k-told+1 by omega];exact HO7.out,HB9.out⟩
  ·have hke:k=DL.length:=by omega
   subst hke
   go_wp2_with fail
   go_ret
   exact⟨_,rfl,q1L HB1.out.size HO.out,HB1.out.trans (HB.out.mono HB1.out.size)⟩
def q5c (fv:Value)(DL:List (LPt × Value)):List Nat:=fv.ownBlock.toList++DL.flatMap fun p=>p.2.ownBlock.toList
def q6L (d:Nat)(fv:Value)(la:OA)(DL:List (LPt × Value)):Prop:=∀k∈q5c fv DL,k∉d::zQ la
def q4f (w w':World)(d:Nat)(fv:Value)(u:List Tok)(F:zl)(la:OA)(DL:List (LPt × Value))(L:List LPt)(told:Nat)(ended:Bool):Prop:=
 ∃la' lc' DL',DMonAt w' d fv u F (.slice la' DL'.length lc') DL' told ended∧q6L d fv la' DL'∧zs DL'=L∧OnlyB (d::zQ la) w w'∧(∀k∈zQ la',k∈zQ la∨w.heap.size≤k)∧∀k∈q5c fv DL',k∈q5c fv DL∨w.heap.size≤k
theorem q4f.same {w w':World}{d:Nat}{fv:Value}{u:List Tok}{F:zl}{la:OA}{lc:Nat}{DL:List (LPt × Value)}{told:Nat}{ended:Bool}(h:DMonAt w d fv u F (.slice la DL.length lc) DL told ended)(hs:q6L d fv la DL)(hb:Below w.heap.size w w'):q4f w w' d fv u F la DL (zs DL) told ended:=
 ⟨la,lc,DL,h.below hb,hs,rfl,.of_below hb,fun _ hk=>.inl hk,fun _ hk=>.inl hk⟩
theorem q4w {w w':World}{v:Value}{l:List (By)}{bl:List Nat}(h:q1f w v l)(ho:OnlyB bl w w')(hn:∀k∈v.ownBlock.toList,k∉bl):q1f w' v l:=by
 rcases h with h|⟨b,o,cap,rfl,hlc,hcap,hlt,hc⟩
 ·exact .inl h
 ·exact .inr ⟨b,o,cap,rfl,hlc,hcap,zT hlt ho.size,fun i hi=>by rw[ho.cell hlt (hn b (by simp[Value.ownBlock]))];exact hc i hi⟩
theorem q8v {w w':World}{fv:Value}{u:List Tok}{bl:List Nat}(h:qB w (.agg #[fv]) u)(ho:OnlyB bl w w')(hn:∀k∈fv.ownBlock.toList,k∉bl):qB w' (.agg #[fv]) u:=by
 obtain⟨b,o,cap,e,ht,h0,h1⟩:=h
 have e':fv=.slice (some ⟨b,o,none⟩) u.length cap:=by simpa using e
 subst e'
 refine⟨b,o,cap,rfl,?_,h0,h1⟩
 rcases ht with⟨h',_⟩|⟨b',o',cap',e2,hlc,hcap,hlt,hc⟩
 ·simp at h'
 ·simp only[Value.slice.injEq,Option.some.injEq,Addr.mk.injEq,and_true,true_and]at e2
  obtain⟨⟨rfl,rfl⟩,rfl⟩:=e2
  refine .inr ⟨b,o,cap,rfl,hlc,hcap,zT hlt ho.size,fun i hi=>?_⟩
  rw[ho.cell hlt (hn b (by simp[Value.ownBlock])),ho.cell hlt (hn b (by simp[Value.ownBlock]))]
  exact hc i hi
def blkD (d:Nat)(fv:Value)(la:OA)(DL:List (LPt × Value)):List Nat:=d::(zQ la++q5c fv DL)
theorem q7g {w w':World}{fv:Value}{DL:List (LPt × Value)}{bl:List Nat}(h:q5U w DL)(ho:OnlyB bl w w')(hn:∀k∈q5c fv DL,k∉bl):q5U w' DL:=fun i hi =>
 ⟨q4w (h i hi).1 ho (fun k hk=>hn k (List.mem_append_right _ (List.mem_flatMap.2 ⟨DL[i],List.getElem_mem hi,hk⟩))),(h i hi).2⟩
theorem j1o {w w':World}{la:OA}{lc:Nat}{DL:List (LPt × Value)}{bl:List Nat}(h:DLogAt w (.slice la DL.length lc) DL)(ho:OnlyB bl w w')(hn:∀k∈zQ la,k∉bl):DLogAt w' (.slice la DL.length lc) DL:=
 ⟨q5n h.row ho (fun k hk=>hn k (by cases la with|none=>simp[Value.ownBlock]at hk|some a=>simp[Value.ownBlock]at hk;simp[zQ,hk])),h.small,h.times⟩
theorem DMonAt.keep {w w':World}{d:Nat}{fv:Value}{u:List Tok}{F:zl}{la:OA}{lc:Nat}{DL:List (LPt × Value)}{told:Nat}{ended:Bool}{bl:List Nat}(h:DMonAt w d fv u F (.slice la DL.length lc) DL told ended)(ho:OnlyB bl w w')(hn:∀k∈blkD d fv la DL,k∉bl):DMonAt w' d fv u F (.slice la DL.length lc) DL told ended:=
 ⟨(ho.block d h.lt (hn d (by simp[blkD]))).trans h.blk,q8v h.frm ho (fun k hk=>hn k (by simp only[blkD,q5c,List.mem_cons,List.mem_append];exact .inr (.inr (.inl hk)))),h.rd,h.good,h.lets,h.ahead,j1o h.log ho (fun k hk=>hn k (by simp only[blkD,List.mem_cons,List.mem_append];exact .inr (.inl hk))),q7g h.haps ho (fun k hk=>hn k (by simp only[blkD,List.mem_cons,List.mem_append];exact .inr (.inr hk))),h.ok,h.few⟩
theorem q8z {w:World}{d:Nat}{cs:Array Value}{la:OA}{lc:Nat}{DL:List (LPt × Value)}(h:DLogAt w (.slice la DL.length lc) DL)(hd:w.heap[d]?=some (.cells cs 115 (0,0))):d∉zQ la:=by
 have:=q8C hd h.row (by decide)
 intro hm
 cases la with
 |none=>simp[zQ]at hm
 |some a=>simp[zQ]at hm;simp[Value.ownBlock,hm]at this
theorem OnlyB.one (w:World)(b o:Nat)(u:Value):OnlyB [b] w (w.setCell ⟨b,o,none⟩ u):=(OnlyB.refl _ _).setCell (by simp) u
theorem DMonAt.put {w:World}{d:Nat}{fv:Value}{u:List Tok}{F:zl}{la:OA}{lc:Nat}{DL:List (LPt × Value)}{told told':Nat}{ended ended':Bool}(h:DMonAt w d fv u F (.slice la DL.length lc) DL told ended)(hs:q6L d fv la DL)(o:Nat)(v:Value)(hn:told'≤DL.length)
  (he:(#[fv,.slice la DL.length lc,.int .i64 told,.bool ended]:Array Value).setIfInBounds o v=#[fv,.slice la DL.length lc,.int .i64 told',.bool ended']):DMonAt (w.setCell ⟨d,o,none⟩ v) d fv u F (.slice la DL.length lc) DL told' ended':=by
 have ho:=OnlyB.one w d o v
 refine⟨?_,q8v h.frm ho (fun k hk=>?_),h.rd,h.good,h.lets,h.ahead,j1o h.log ho (fun k hk=>?_),q7g (fv:=fv) h.haps ho (fun k hk=>?_),h.ok,hn⟩
 ·rw[zH w d o _ _ v h.blk,he]
 ·have:=hs k (List.mem_append_left _ hk);simp at this ⊢;exact this.1
 ·intro e;simp at e;subst e;exact q8z h.log h.blk hk
 ·have:=hs k hk;simp at this ⊢;exact this.1
theorem own_take {w:World}{base:Nat}{e:TypeId}{size:Nat}{a:OA}{n c:Nat}{xs:List Value}(h:w.ownsRow base e size (.slice a n c) n xs)(k:Nat)(hk:k≤n)(ha:a≠none):w.ownsRow base e size (.slice a k c) k (xs.take (k*size)):=by
 refine⟨?_,?_⟩
 ·rw[List.length_take,h.1]
  exact Nat.min_eq_left (zU _ hk)
 ·rcases h.2 with⟨h',_⟩|⟨g,cap,cur,h',h2,h3,h4,h5,h6,h7⟩
  ·simp only[Value.slice.injEq]at h'
   exact absurd h'.1 ha
  ·simp only[Value.slice.injEq,true_and]at h'
   obtain⟨rfl,rfl⟩:=h'
   refine .inr ⟨g,c,cur,rfl,h2,h3,by omega,h5,h6,?_⟩
   rw[←h7,List.take_take,Nat.min_eq_left (zU _ hk)]
def q3B (w:World)(d:Nat)(fv:Value)(u:List Tok)(F:zl)(la:OA)(DL:List (LPt × Value))(told:Nat)(ended:Bool)(s:By)(e:Ending)(w':World):Prop:=
 ∃v,e=.returned (.tuple #[v,.int .i64 (q1a (zs DL) ended s).1,.int .i64 (q1a (zs DL) ended s).2])∧w'.ownsRow w.heap.size 45 12 v (q5a F (zs DL) told ended s).length (zy (q5a F (zs DL) told ended s))∧q4f w w' d fv u F la DL (q3g (zs DL) ended s) (q7u F (zs DL) told ended s) ended
theorem q6c {w w':World}{d:Nat}{fv:Value}{u:List Tok}{F:zl}{la:OA}{lc:Nat}{DL:List (LPt × Value)}{told:Nat}{ended:Bool}{s:By}{er at':Int}(h:DMonAt w d fv u F (.slice la DL.length lc) DL told ended)(hs:q6L d fv la DL)(he:q1a (zs DL) ended s=(er,at'))(h0:er≠0)(hb:Below w.heap.size w w') :
  q3B w d fv u F la DL told ended s (.returned (.tuple #[.slice none 0 0,.int .i64 er,.int .i64 at'])) w':=by
 have hne:¬(q1a (zs DL) ended s).1=0:=by rw[he];exact h0
 refine⟨_,by rw[he],?_,?_⟩
 ·unfold q5a
  rw[if_neg hne]
  exact zW _ _ _ _
 ·unfold q3g q7u
  rw[if_neg hne,if_neg hne]
  exact q4f.same h hs hb
theorem ref_End (d:Nat)(fv:Value)(u:List Tok)(F:zl)(la:OA)(lc:Nat)(DL:List (LPt × Value))(told:Nat)(ended:Bool)(w:World)(h:DMonAt w d fv u F (.slice la DL.length lc) DL told ended)(hs:q6L d fv la DL) :
  Calls Tryz.prog 61 #[.pointer (some ⟨d,0,none⟩)] w fun e w'=>∃v,e=.returned (.tuple #[v,.int .i64 (endE ended)])∧w'.ownsRow w.heap.size 45 12 v (endV F (zs DL) told ended).length (zy (endV F (zs DL) told ended))∧q4f w w' d fv u F la DL (zs DL) (endN (zs DL) told ended) true:=by
 obtain⟨c0,c1,c2,c3⟩:=h.cells
 have hlt:=h.lt
 have hf:=zF _ _ 3 _ _ h.blk
 have hsm:=h.log.small
 have HD:=zb h
 have HS:=zb hs
 clear h hs c0 c1 c2
 cases ended with
 |true =>
  go_enter Tryz.func61,Tryz.ntmps61
  go_wp2_with fail
  go_ret2
  exact⟨_,rfl,zW _ _ _ _,q4f.same HD.out HS.out (zB _ _)⟩
 |false =>
  have HD1:=zb (HD.out.put HS.out (told':=told) (ended':=true) 3 (.bool true) HD.out.few rfl)
  have HV:=zb (q5M d fv u F _ DL told true _ HD1.out)
  obtain⟨W1,hW1⟩:∃W1,W1=w.setCell ⟨d,3,none⟩ (.bool true):=⟨_,rfl⟩
  have hO1:OnlyB [d] w W1:=by rw[hW1];exact OnlyB.one w d 3 _
  go_enter Tryz.func61,Tryz.ntmps61
  go_wp2_with fail
  rw[←hW1]at HD1 HV ⊢
  clear hW1 c3 hf
  refine HV.out.mono ?_
  rintro e w2 ⟨v,rfl,hown,b2⟩
  have HD2:=zb (HD1.out.below b2)
  have e1:=HD2.out.cells.2.1
  have e2:=HD2.out.cells.2.2.1
  have hl2:=HD2.out.lt
  have hf2:=zF _ _ 2 _ _ HD2.out.blk
  have HO:=zb hown
  have HB2:=zb b2
  have HO1:=zb hO1
  clear hown b2 hO1 HV HD1
  go_wp2_with fail
  go_ret2
  have hlen:(zs DL).length=DL.length:=by simp
  refine⟨v,rfl,?_,?_⟩
  ·show World.ownsRow _ _ _ _ _ (q1x F (zs DL) told (zs DL).length).length (zy (q1x F (zs DL) told (zs DL).length))
   rw[q1R,hlen]
   exact q0U (q1L HO1.out.size HO.out) HD2.out.blk (by decide) _
  ·refine⟨la,lc,DL,?_,HS.out,rfl,?_,fun _ hk=>.inl hk,fun _ hk=>.inl hk⟩
   ·show DMonAt _ d fv u F _ DL (zs DL).length true
    rw[hlen]
    exact HD2.out.put HS.out (told':=DL.length) (ended':=true) 2 (.int .i64 DL.length) (zL _) rfl
   ·have o2:OnlyB (d::zQ la) w w2:=⟨HB2.out.os.trans HO1.out.os,HB2.out.tape.trans HO1.out.tape,HB2.out.output.trans HO1.out.output,zM HO1.out.size HB2.out.size,fun k hk hn=>(HB2.out.block k (zT hk HO1.out.size)).trans (HO1.out.block k hk (fun e=>hn (by simp at e;simp[e])))⟩
    exact o2.setCell (by simp) _
end Go.Proofs.YtiamjjonoeaggabGreatDoor
