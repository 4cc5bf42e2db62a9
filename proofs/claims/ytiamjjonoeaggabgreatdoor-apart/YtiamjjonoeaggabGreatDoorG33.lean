import Derived.Test.YtiamjjonoeaggabGreatDoorGA
import Derived.Test.YtiamjjonoeaggabGreatDoorGB
import Derived.Test.YtiamjjonoeaggabGreatDoorG29
import Derived.Test.YtiamjjonoeaggabGreatDoorG30
import Derived.Test.YtiamjjonoeaggabGreatDoorG32
set_option maxRecDepth 100000
set_option maxHeartbeats 16000000
namespace Go.Proofs.YtiamjjonoeaggabGreatDoor
open Go.RowKit
def j6K (F:zg)(n:Int)(m:Nat)(l:zg):Prop:=(l=.nil∧n<0)∨∃q:Nat,n=(q:Int)∧m<q∧q<zv F∧(zw F)[q]?=some l
theorem node_idx (F:zg)(hF:q3x F)(m:Nat)(hm:m<zv F) :
  ∃p sp y l r,(zw F)[m]?=some (.node p sp y l r)∧(q0p F 0)[m]?=some (zQ m p sp y l r)∧NodeOk y l r∧j6K F (zQ m p sp y l r).fst m l∧j6K F (zQ m p sp y l r).snd m r:=by
 have hm':m<(zw F).length:=by rw[q0f];exact hm
 obtain⟨p,sp,y,l,r,e,h1,h2,h3⟩:=j8f F 0 m _ (zG hm')
 rw[Nat.zero_add]at h1
 have hG:(zw F)[m]?=some (.node p sp y l r):=by rw[zG hm',e]
 rw[e]at h2 h3
 refine⟨p,sp,y,l,r,hG,h1,(h2 hF).1,?_,?_⟩
 ·have ef:(zQ m p sp y l r).fst=if zv l=0 then -1 else(m:Int)+1:=rfl
  rw[ef]
  by_cases hl:l=.nil
  ·subst hl
   exact .inl ⟨rfl,by rw[if_pos (show zv (.nil:zg)=0 from rfl)];decide⟩
  ·obtain⟨g1,g2⟩:=q3N hl
   rw[if_neg (by omega)]
   have h4:=h3 1 (by simp[zv];omega)
   have h5:(zw (.node p sp y l r))[1]?=some l:=by
    rw[zw,List.getElem?_cons_succ,List.getElem?_append_left (by rw[q0f];exact g2),g1]
   rw[h5]at h4
   have hq:=(List.getElem?_eq_some_iff.1 h4).1
   rw[q0f]at hq
   exact .inr ⟨m+1,by omega,by omega,hq,h4⟩
 ·have ef:(zQ m p sp y l r).snd=if zv r=0 then -1 else(m:Int)+1+zv l:=rfl
  rw[ef]
  by_cases hr:r=.nil
  ·subst hr
   exact .inl ⟨rfl,by rw[if_pos (show zv (.nil:zg)=0 from rfl)];decide⟩
  ·obtain⟨g1,g2⟩:=q3N hr
   rw[if_neg (by omega)]
   have h4:=h3 (1+zv l) (by simp[zv];omega)
   have h5:(zw (.node p sp y l r))[1+zv l]?=some r:=by
    rw[Nat.add_comm 1,zw,List.getElem?_cons_succ,List.getElem?_append_right (by rw[q0f];omega),q0f,Nat.sub_self,g1]
   rw[h5]at h4
   have hq:=(List.getElem?_eq_some_iff.1 h4).1
   rw[q0f]at hq
   exact .inr ⟨m+(1+zv l),by omega,by omega,hq,h4⟩
theorem j8v {y:Pay}{l r:zg}(m p sp:Nat)(h:NodeOk y l r):j3v (zQ m p sp y l r):=by
 have hk:(zQ m p sp y l r).kind=zo y.word:=rfl
 have hc:(zQ m p sp y l r).cnt=0∨(zQ m p sp y l r).cnt=(y.args.length:Int):=by
  unfold zQ
  split<;>simp
 unfold j3v
 rw[hk]
 have hs:=h.shape
 unfold q3l q4s at hs
 simp only[Bool.or_eq_true,beq_iff_eq]at hs
 have ha:y.args.length≤2:=by
  rcases hs with h'|h'|h'|h'|h'|h'
  ·exact h'.2.2.2.2.2
  ·rw[h'.2.2.2.2.2];simp
  ·obtain⟨v,h2,_⟩:=h'.2.2.2.2.2;rw[h2];simp
  ·rw[h'.2.2.2.2];simp
  ·rw[h'.2.2.2.2.1];simp
  ·rw[h'.2.2.2.2];simp
 refine⟨?_,?_⟩
 ·rcases hs with h'|h'|h'|h'|h'|h'
  ·exact .inr (.inl h'.1)
  ·exact .inl h'.1
  ·have:=h'.1;omega
  ·have:=h'.1;omega
  ·have:=h'.1;omega
  ·have:=h'.1;omega
 ·rcases hc with hc|hc
  ·exact⟨0,hc,by omega⟩
  ·exact⟨_,hc,ha⟩
structure SetsAt (w:World)(base gs:Nat)(F:zg)(L:List LPt)(n k:Nat)(xs:List Value):Prop where
 row:w.ownsRow base 137 1 (.slice (some ⟨gs,0,none⟩) (zv F) (zv F)) (zv F) xs
 tabs:∀m G,k≤m→(zw F)[m]?=some G→∃v,xs[m]?=some v∧Tb w v n (zu L G)
 form:∀u∈xs,∃a m c,u=.slice a m c
theorem SetsAt.below {w w':World}{base gs:Nat}{F:zg}{L:List LPt}{n k:Nat}{xs:List Value}(h:SetsAt w base gs F L n k xs)(hb:Below w.heap.size w w'):SetsAt w' base gs F L n k xs:=
 ⟨zp h.row hb,fun m G a b=>by obtain⟨v,h1,h2⟩:=h.tabs m G a b;exact⟨v,h1,h2.below hb⟩,h.form⟩
theorem Tb.other {w:World}{v:Value}{m:Nat}{H:Nat→Nat→Nat→Bool}(h:Tb w v m H){b o:Nat}{cs:Array Value}{t:TypeId}(hb:w.heap[b]?=some (.cells cs t (0,0)))(ht:t≠43)(u:Value):Tb (w.setCell ⟨b,o,none⟩ u) v m H:=
 ⟨q2q h.row hb ht u,h.far⟩
theorem SetsAt.other {w:World}{base gs:Nat}{F:zg}{L:List LPt}{n k:Nat}{xs:List Value}(h:SetsAt w base gs F L n k xs){b o:Nat}{cs:Array Value}{t:TypeId}(hb:w.heap[b]?=some (.cells cs t (0,0)))(ht:t≠43)(ht2:t≠137)(u:Value):SetsAt (w.setCell ⟨b,o,none⟩ u) base gs F L n k xs:=
 ⟨q2q h.row hb ht2 u,fun m G a b'=>by obtain⟨v,h1,h2⟩:=h.tabs m G a b';exact⟨v,h1,h2.other hb ht u⟩,h.form⟩
def j0u (xs:List Value)(N:Nat)(n:Int):Value:=if n<0∨(N:Int)≤n then .slice none 0 0 else xs.getD n.toNat (.slice none 0 0)
theorem SetsAt.part {w:World}{base gs:Nat}{F:zg}{L:List LPt}{n k:Nat}{xs:List Value}(h:SetsAt w base gs F L n (k+1) xs){i:Int}{l:zg}(hp:j6K F i k l):∃mA,mA≤n∧Tb w (j0u xs (zv F) i) mA (zu L l):=by
 rcases hp with⟨rfl,hi⟩|⟨q,rfl,hq,hqs,hG⟩
 ·refine⟨0,zZ _,?_⟩
  unfold j0u
  rw[if_pos (.inl hi)]
  exact⟨zW _ _ _ _,fun _ _ _ _=>rfl⟩
 ·refine⟨n,zL _,?_⟩
  obtain⟨v,h1,h2⟩:=h.tabs q l (by omega) hG
  unfold j0u
  rw[if_neg (by omega)]
  have e:xs.getD (q:Int).toNat (.slice none 0 0)=v:=by simp[List.getD,h1]
  rw[e]
  exact h2
theorem q7m {n:Nat}{A B:Nat→Nat→Nat→Bool}(h:∀i,i<n→A i=B i):q1I n A=q1I n B:=by
 induction n with
 |zero=>rfl
 |succ n ih=>rw[q2H,q2H,ih (fun i hi=>h i (by omega)),h n (by omega)]
theorem SetsAt.put {w:World}{base gs:Nat}{F:zg}{L:List LPt}{n k:Nat}{xs:List Value}(h:SetsAt w base gs F L n (k+1) xs){p sp:Nat}{y:Pay}{l r:zg}(hG:(zw F)[k]?=some (.node p sp y l r))(hn:n=L.length){va:OA}{vm vc:Nat}
  (hv:w.ownsRow 0 43 10 (.slice va vm vc) n (q1I n fun i x z=>qD (zQ k p sp y l r) L (zu L l) (zu L r) i x z)):SetsAt (w.setCell ⟨gs,k,none⟩ (.slice va vm vc)) base gs F L n k (xs.set k (.slice va vm vc)):=by
 have hgs:∃cs,w.heap[gs]?=some (.cells cs 137 (0,0)):=by
  rcases h.row.2 with⟨h',_⟩|⟨g,cap,cur,h',_,h3,_⟩
  ·simp at h'
  ·simp only[Value.slice.injEq,Option.some.injEq,Addr.mk.injEq,and_true,true_and]at h'
   obtain⟨rfl,rfl⟩:=h'
   exact⟨cur,h3⟩
 obtain⟨cs,hgs⟩:=hgs
 have hl:xs.length=zv F*1:=h.row.1
 have hk:=(List.getElem?_eq_some_iff.1 hG).1
 rw[q0f]at hk
 refine⟨(h.row.stored k _).1,fun m G hm hmG=>?_,fun u hu=>?_⟩
 ·rcases Nat.lt_or_ge k m with g|g
  ·obtain⟨v,h1,h2⟩:=h.tabs m G (by omega) hmG
   exact⟨v,by rw[List.getElem?_set_ne (by omega)];exact h1,h2.other hgs (by decide) _⟩
  ·have:m=k:=by omega
   subst this
   rw[hG]at hmG
   have hmG':(.node p sp y l r:zg)=G:=by simpa using hmG
   subst hmG'
   refine⟨_,List.getElem?_set_self (by omega),⟨q2q ?_ hgs (by decide) _,fun i hi x z=>?_⟩⟩
   ·have e:q1I n (zu L (.node p sp y l r))=q1I n fun i x z=>qD (zQ m p sp y l r) L (zu L l) (zu L r) i x z:=by
     apply q7m
     intro i hi
     funext x z
     rw[zu,decide_eq_true (by omega),Bool.true_and,j7t m]
    rw[e]
    exact hv
   ·rw[zu,decide_eq_false (by omega),Bool.false_and]
 ·rcases List.mem_or_eq_of_mem_set hu with h'|h'
  ·exact h.form u h'
  ·exact⟨_,_,_,h'⟩
theorem info_tab:(Tryz.prog.info? 137).map (fun i=>(i.zero,i.size,i.bytes))=some (some (.slice none 0 0),1,24):=by kernel_rfl
theorem made_tab (N:Nat):(madeCells (Value.slice none 0 0).cells (N*1)).toList=List.replicate N (.slice none 0 0):=by
 rw[Nat.mul_one]
 apply List.ext_getElem?
 intro i
 simp only[madeCells,Value.cells,List.getElem?_replicate,Array.toList_map,Array.toList_range,List.getElem?_map]
 by_cases h:i<N
 ·rw[if_pos h,List.getElem?_range h]
  simp[Nat.mod_one]
 ·rw[if_neg h,List.getElem?_eq_none (by simp;omega)]
  rfl
def AnRel (F:zg)(PL:List PPt)(w:World)(gi:Nat)(bx:Array Value)(gk:Nat)(vi:Value)(wr:World):Prop:=
 ∃k xs,k≤zv F∧k≤gk∧vi=.int .i64 ((k:Int)-1)∧SetsAt wr w.heap.size gi F (zz PL) PL.length k xs∧wr.heap[w.heap.size]?=some (.cells bx 88 (0,0))∧Below w.heap.size w wr
def AoRel (W2:World)(H:Nat→Nat→Nat→Bool)(n:Nat)(g:Nat)(va vi:Value)(wr:World):Prop:=
 ∃k:Nat,k≤n∧n-k≤g∧vi=.int .i64 k∧wr.ownsRow W2.heap.size 43 10 va k (q1I k H)∧Below W2.heap.size W2 wr
abbrev z25:Array Value:=#[.int .i64 0,.int .i64 0,.int .u8 0,.int .u8 0,.int .u8 0,.int .u8 0,.int .u8 0,.int .u8 0,.int .u8 0,.int .u8 0,.int .i64 0,.int .i64 0,.int .i64 0,.int .i64 0,.int .i64 0,.int .i64 0,.int .i64 0,.int .i64 0,.int .i64 0,.bool false,.int .i64 0,.int .i64 0,.pointer none,.slice none 0 0,.slice none 0 0]
theorem j0c {w:World}{b o:Nat}{cs:Array Value}{t:TypeId}(h:w.heap[b]?=some (.cells cs t (0,0)))(ho:o<cs.size)(a:OA)(m c:Nat):(Instr.storeAt 137 (.pointer (some ⟨b,o,none⟩)) (.slice a m c)).run Tryz.prog w=.ok () (w.setCell ⟨b,o,none⟩ (.slice a m c)):=by
 have hc:w.cell? ⟨b,o,none⟩=some cs[o]:=by rw[zC _ _ o _ _ _ h,Array.getElem?_eq_getElem ho]
 have hf:=zF _ _ o _ _ h
 simp[go_sem,hc,hf]
theorem j5j {w:World}{b o:Nat}{v:Value}(hc:w.cell? ⟨b,o,none⟩=some v):(Instr.loadAt 3 (.pointer (some ⟨b,o,none⟩))).run Tryz.prog w=.ok v w:=by
 simp[go_sem,hc]
theorem z0c (r:Nat→Int)(w:World):(Instr.buildSlice 137 1 #[(0,zr r)]).run Tryz.prog w=.ok (.slice (some ⟨w.heap.size,0,none⟩) 1 1) (w.alloc (.cells (qA r).toArray 43)):=by
 simp[Instr.buildSlice,go_sem,qA,zr]
theorem rel_news (W:World)(r:Nat→Int)(t:TypeId):∀j u,(qA r)[j]?=some u→(W.alloc (.cells (qA r).toArray t)).cell? ((⟨W.heap.size,0,none⟩:Addr).add j)=some u:=by
 intro j u hj
 rw[q4x,Nat.zero_add,zC _ _ j _ _ _ (zN W _),List.getElem?_toArray]
 exact hj
theorem j2F {xs:List Value}(h:∀u∈xs,∃a m c,u=.slice a m c)(i:Nat):∃a m c,xs.getD i (.slice none 0 0)=.slice a m c:=by
 by_cases hi:i<xs.length
 ·obtain⟨a,m,c,e⟩:=h _ (List.getElem_mem hi)
  exact⟨a,m,c,by simp[List.getD,hi,e]⟩
 ·exact⟨none,0,0,by simp[List.getD,hi]⟩
theorem j4X (F:zg)(hF:q3x F)(hnil:F≠.nil)(hN:zv F≤255)(gn cn:Nat)(fx fy:Bool)(rc:Int)(lb lo:Nat)(ao:OA)(cap:Nat)(PL:List PPt)(w:World)(h:NodesAt w gn cn (q0p F 0))(hL:LogAt w lb lo ao cap PL)(hH:q6k w PL) :
  Calls Tryz.prog 54 #[.slice (some ⟨gn,0,none⟩) (zv F) cn,.agg #[.bool fx,.bool fy,.int .i64 rc],.pointer (some ⟨lb,lo,none⟩)] w fun e w'=>∃v,e=.returned v∧w'.ownsRow w.heap.size 43 10 v PL.length (q1I PL.length fun i=>q4T fx fy (zu (zz PL) F i))∧Below w.heap.size w w':=by
 have H:=zb h
 have HL:=zb hL
 have HH:=zb hH
 have HNI:=zb (fun m hm=>node_idx F hF m hm)
 obtain⟨sh1,sh2⟩:=q3N hnil
 have HSH:=zb sh1
 have hsm:=hL.small
 clear h hL hH sh1
 obtain⟨i0,hi0,hz0,hz1,hz2⟩:=info_parts info_tab
 generalize hn:zv F=N at *
 have HSZ:=zb hn
 clear hn
 go_enter Tryz.func54,Tryz.ntmps54
 go_wp2_with (at_make;refine wpList_make_full _ rfl (.tmp 15) (.tmp 15) 158 rfl w.heap.size 137 i0 _ 1 Tryz.underlying158 hi0 hz0 hz1 .i64 .i64 N N N rfl rfl rfl rfl (by rw[hz2];omega) (by unfold maxLen;omega) (by simp) ?_;intro w1 hown1 hgrow1)
 rw[made_tab]at hown1
 have B0:Below w.heap.size w (w.alloc (.cells #[.bool fx,.bool fy,.int .i64 rc] 88)):=(zB _ _).alloc (zL _) _
 have B1:Below w.heap.size w w1:=B0.grown hgrow1 (by simp) (by intro k hk;simp at hk)
 have X1:w1.heap[w.heap.size]?=some (.cells #[.bool fx,.bool fy,.int .i64 rc] 88 (0,0)):=by rw[hgrow1.block _ (by simp) (by simp)];exact zN _ _
 have HB1:=zb B1
 have HX1:=zb X1
 have HO1:Hid (SetsAt w1 w.heap.size (w.heap.size+1) F (zz PL) PL.length N (List.replicate N (.slice none 0 0))):=zb ⟨by rw[HSZ.out];simpa using hown1,fun m G hm hG=>by have:=(List.getElem?_eq_some_iff.1 hG).1;rw[q0f,HSZ.out]at this;omega,fun u hu=>by rw[List.eq_of_mem_replicate hu];exact⟨_,_,_,rfl⟩⟩
 clear hown1 hgrow1 B0 B1 X1 hi0 hz0 hz1 hz2
 go_loopg [8] N (fun g vi wr=>AnRel F PL w (w.heap.size+1) #[.bool fx,.bool fy,.int .i64 rc] g vi wr)
 case atStart=>exact⟨N,_,by have:=HSZ.out;omega,zL _,rfl,HO1.out,HX1.out,HB1.out⟩
 case round =>
  obtain⟨k,xs,hk,hg,rfl,hsets,hbx,hbel⟩:=hrel
  have HG:=zb hg
  have HS:=zb hsets
  have HX:=zb hbx
  have HB:=zb hbel
  have hrow:=q4N (zZ _) hsets.row
  rw[HSZ.out]at hk hrow
  clear hg hsets hbx hbel HO1 HX1 HB1
  cases k with
  |zero =>
   obtain⟨v0,hx0,T0⟩:=HS.out.tabs 0 F (zZ _) HSH.out
   obtain⟨ta,tc,rfl⟩:=T0.form
   have HPA:=zb (j1j (w.heap.size+1) N N xs (by omega) 0 wr hrow (.slice ta PL.length tc) (by rw[if_neg (by omega)];simp[List.getD,hx0]) HS.out.form)
   have hzw:w.heap.size+1<wr.heap.size:=(hrow.lt _ rfl).2
   have HT0:=zb T0
   clear T0 hx0 hrow
   go_wp2_with fail
   refine HPA.out.mono ?_
   rintro e W2 ⟨rfl,b2⟩
   have T2:=HT0.out.below b2
   have X2:=(b2.block _ (by omega)).trans HX.out
   have B2:Below w.heap.size w W2:=HB.out.trans (b2.mono HB.out.size)
   have HT2:=zb T2
   have HX2:=zb X2
   have HB2:=zb B2
   have hz2w:w.heap.size<W2.heap.size:=by have:=b2.size;omega
   clear T2 X2 B2 b2 HPA HT0 HS HX HB
   obtain⟨i1,hi1,iz0,iz1,iz2⟩:=info_parts j5e
   have HBB:=zb (fun i=>j7c fx fy rc (zu (zz PL) F i))
   obtain⟨H2,hH2⟩:∃H2:Nat→Nat→Nat→Bool,H2=fun i=>q4T fx fy (zu (zz PL) F i):=⟨_,rfl⟩
   have HFO:Hid (∀i,zr (zm (q4T fx fy (zu (zz PL) F i)))=zr (zm (H2 i))):=zb (fun i=>by rw[hH2])
   have HH2:=zb hH2
   clear hH2
   go_wp2_with fail
   go_loopg [12,13] PL.length (fun g va vi wr=>AoRel W2 H2 PL.length g va vi wr)
   case atStart=>exact⟨0,zZ _,by omega,rfl,zW _ _ _ _,zB _ _⟩
   case round =>
    obtain⟨k,hk,hg,rfl,hown,hb⟩:=hrel
    have HG':=zb hg
    have HO:=zb hown
    have HBW:=zb hb
    obtain⟨ra,rc',rfl⟩:=q1n hown
    clear hg hown hb
    by_cases hkn:k<PL.length
    ·obtain⟨gt,rfl,_,ht1,ht2,_⟩:=HT2.out.load hkn
     obtain⟨UR,hUR⟩:∃U,U=zr (zm (zu (zz PL) F k)):=⟨_,rfl⟩
     obtain⟨UI,hUI⟩:∃U,U=Value.agg #[.bool fx,.bool fy,.int .i64 rc]:=⟨_,rfl⟩
     obtain⟨UN,hUN⟩:∃U,U=zr (zm (H2 k)):=⟨_,rfl⟩
     have HS2:Hid (∀w',Below W2.heap.size W2 w'→(Instr.loadAt 43 (.pointer (some ⟨gt,k*10,none⟩))).run Tryz.prog w'=.ok UR w'∧(Instr.loadAt 88 (.pointer (some ⟨w.heap.size,0,none⟩))).run Tryz.prog w'=.ok UI w'):=zb (fun w' hb=>by
      obtain⟨g',e',_,_,_,hr⟩:=(HT2.out.below hb).load hkn
      simp only[Option.some.injEq,Addr.mk.injEq,and_true]at e'
      subst e'
      refine⟨by rw[hUR];exact j4c hr,?_⟩
      rw[hUI]
      exact qH (P:=Tryz.prog) 88 88 w' w.heap.size _ (0,0) _ ((hb.block _ hz2w).trans HX2.out) Tryz.underlying88 rfl (by kernel_rfl))
     have HNR:Hid (∀w',Calls Tryz.prog 74 #[UR,UI] w' fun e w''=>e=.returned UN∧Below w'.heap.size w' w''):=zb (fun w'=>by rw[hUR,hUI,hUN,←HFO.out k];exact HBB.out k w')
     have HSL:Hid (∀w',(Instr.buildSlice 137 1 #[(0,UN)]).run Tryz.prog w'=.ok (.slice (some ⟨w'.heap.size,0,none⟩) 1 1) (w'.alloc (.cells (qA (zm (H2 k))).toArray 43))):=zb (fun w'=>by rw[hUN];exact z0c _ w')
     have HTS:=zb (q2H k H2)
     unfold maxLen at ht2
     clear hUR hUI hUN
     generalize zm (H2 k)=r2 at *
     have HB0:Hid (Below W2.heap.size W2 wr.drew):=zb (HBW.out.drew)
     go_wp2_with fail
     refine wp_region_held_drew (S:=fun w'=>(Instr.loadAt 43 (.pointer (some ⟨gt,k*10,none⟩))).run Tryz.prog w'=.ok UR w'∧(Instr.loadAt 88 (.pointer (some ⟨w.heap.size,0,none⟩))).run Tryz.prog w'=.ok UI w') (by kernel_rfl) (HS2.out _ HB0.out) (fun _=>?_)
     refine q0k (i:=0) (v:=.slice ra k rc') 60 rfl rfl (by kernel_rfl) (by kernel_rfl) (by kernel_rfl) (fun _ _ _ h=>h) (Or.inl ⟨by rfl,fun w _=>by go_simp⟩) (HS2.out _ HB0.out) ?_
     simp only[Act.put,List.setIfInBounds_toArray,List.set_cons_succ,List.set_cons_zero]
     refine q0k (i:=1) (v:=.slice (some ⟨gt,0,none⟩) PL.length tc) 61 rfl rfl (by kernel_rfl) (by kernel_rfl) (by kernel_rfl) (fun _ _ _ h=>h) (Or.inl ⟨by rfl,fun w _=>by go_simp⟩) (HS2.out _ HB0.out) ?_
     simp only[Act.put,List.setIfInBounds_toArray,List.set_cons_succ,List.set_cons_zero]
     refine q0k (i:=2) (v:=.int .i64 k) 62 rfl rfl (by kernel_rfl) (by kernel_rfl) (by kernel_rfl) (fun _ _ _ h=>h) (Or.inl ⟨by rfl,fun w _=>by go_simp⟩) (HS2.out _ HB0.out) ?_
     simp only[Act.put,List.setIfInBounds_toArray,List.set_cons_succ,List.set_cons_zero]
     refine q0k (i:=3) (v:=.pointer (some ⟨gt,k*10,none⟩)) 63 rfl rfl (by kernel_rfl) (by kernel_rfl) (by kernel_rfl) (fun _ _ _ h=>h) (Or.inl ⟨by rfl,fun w _=>by go_simp⟩) (HS2.out _ HB0.out) ?_
     simp only[Act.put,List.setIfInBounds_toArray,List.set_cons_succ,List.set_cons_zero]
     refine q0k (i:=4) (v:=UR) 64 rfl rfl (by kernel_rfl) (by kernel_rfl) (by kernel_rfl) (fun _ _ _ h=>h) (q0Q (by rfl) 43 (.tmp 63) rfl ⟨gt,k*10,none⟩ _ rfl (fun w h=>h.1)) (HS2.out _ HB0.out) ?_
     simp only[Act.put,List.setIfInBounds_toArray,List.set_cons_succ,List.set_cons_zero]
     refine q0k (i:=5) (v:=UI) 65 rfl rfl (by kernel_rfl) (by kernel_rfl) (by kernel_rfl) (fun _ _ _ h=>h) (q0Q (by rfl) 88 (.tmp 4) rfl ⟨w.heap.size,0,none⟩ _ rfl (fun w h=>h.2)) (HS2.out _ HB0.out) ?_
     simp only[Act.put,List.setIfInBounds_toArray]
     refine rd1 6 rfl fun K hK=>?_
     go_simp
     refine(HNR.out _).mono ?_
     rintro e w5 ⟨rfl,b5⟩
     have Bb5:Below W2.heap.size W2 w5:=HB0.out.trans (b5.mono HB0.out.size)
     have O5:=zp HO.out.drew b5
     go_simp
     refine hK.out _ _ (HS2.out _ Bb5) (fun _=>?_)
     clear hK K b5
     refine rd1 7 rfl fun K hK=>?_
     refine q1O 137 (.tmp 66) rfl UN _ _ rfl (HSL.out _) ?_
     have Bb6:=Bb5.alloc Bb5.size (.cells (qA r2).toArray 43)
     refine hK.out _ _ (HS2.out _ Bb6) (fun _=>?_)
     clear hK K
     simp only[Act.put]
     refine zY (rs:=[8]) (by kernel_rfl) (by simp) ?_
     refine zR rfl (fun K hK=>?_) zE
     refine q0F (by rfl) (.tmp 60) (.tmp 67) 137 (by rfl) W2.heap.size 43 Tryz.underlying137 hi1 iz0 iz1 iz2 rfl (by decide) (.slice ra k rc') k (q1I k H2) (by rfl) (O5.alloc _) ⟨w5.heap.size,0,none⟩ 1 1 (qA r2) (by rfl) rfl (rel_news w5 _ _) (by simp[Value.oneCell']) (by unfold maxLen;omega) (by omega) (by have:=Bb6.size;exact this) ?_
     intro v7 w7 hown7 hgrow7
     have Bb7:=Bb6.grown hgrow7 Bb6.size (fun q hq=>(O5.lt q hq).1)
     obtain⟨a7,c7,rfl⟩:=q1n hown7
     refine hK.out _ _ (HS2.out _ Bb7) (fun _=>?_)
     clear hK K hgrow7
     simp only[Act.put]
     refine rd1 9 rfl fun K hK=>?_
     go_simp
     refine hK.out _ _ (HS2.out _ Bb7) (fun _=>?_)
     clear hK K
     refine zD (by kernel_rfl) ?_ _
     have HO7:=zb hown7
     have HB7:=zb Bb7
     clear hown7 Bb7 Bb6 Bb5 O5
     go_wp2_with fail
     have hg1:0<gk:=by have:=HG'.out;omega
     go_roundg (gk-1)
     case measure=>omega
     case rel=>exact⟨k+1,by omega,by have:=HG'.out;omega,by go_num,by rw[HTS.out];exact HO7.out,HB7.out⟩
    ·have hkn':k=PL.length:=by omega
     have HK:=zb hkn'
     clear hkn'
     go_wp2_with fail
     go_ret
     exact⟨.slice ra k rc',rfl,by rw[←HH2.out,←HK.out];exact q4N (Nat.le_of_lt hz2w) HO.out,HB2.out.trans (HBW.out.mono (Nat.le_of_lt hz2w))⟩
  |succ m =>
   have e:(((m+1:Nat):Int)-1)=(m:Int):=by omega
   rw[e]
   clear e
   obtain⟨p,sp,y,l,r,g1,g2,g3,g4,g5⟩:=HNI.out m (by omega)
   have hNr:=H.out.below HB.out
   have hLd:=hNr.load g2
   have rg:=hNr.cells m _ g2
   have hgn:=hNr.lt
   have hKO:=j8v m p sp g3
   have PUT:=zb (fun W (q:SetsAt W w.heap.size (w.heap.size+1) F (zz PL) PL.length (m+1) xs) va vm vc=>SetsAt.put (va:=va) (vm:=vm) (vc:=vc) q g1 (by simp))
   generalize zQ m p sp y l r=nd at *
   have cf:=rg 20 (.int .i64 nd.fst) rfl
   have cs:=rg 21 (.int .i64 nd.snd) rfl
   obtain⟨va,na,ca,hva⟩:∃a n c,j0u xs N nd.fst=.slice a n c:=by
    unfold j0u
    split
    ·exact⟨_,_,_,rfl⟩
    ·exact j2F HS.out.form _
   obtain⟨vb,nb,cb,hvb⟩:∃a n c,j0u xs N nd.snd=.slice a n c:=by
    unfold j0u
    split
    ·exact⟨_,_,_,rfl⟩
    ·exact j2F HS.out.form _
   obtain⟨W3,S3,G3,B3,Z3⟩:=q0m (P:=Tryz.prog) 168 wr z25 (q1a nd lb lo (.slice none 0 0) (.slice none 0 0)).toArray (by kernel_rfl) rfl (by simp[Value.oneCell'])
   have hzw:w.heap.size+1<wr.heap.size:=(hrow.lt _ rfl).2
   have LF:(Instr.loadAt 3 (.pointer (some ⟨gn,m*22+20,none⟩))).run Tryz.prog W3=.ok (.int .i64 nd.fst) W3:=j5j (by rw[zK (B3.block gn hgn)];exact cf)
   have HPA:=zb (fun W (q:W.ownsRow 0 137 1 (.slice (some ⟨w.heap.size+1,0,none⟩) N N) N xs) n=>j1j (w.heap.size+1) N N xs (by omega) n W q (j0u xs N n) rfl HS.out.form)
   have hrow3:=zp hrow B3
   have HG3:=zb G3
   have HB3:=zb B3
   have HZ3:=zb Z3
   have HR3:=zb hrow3
   have HCS:=zb cs
   have HKO:=zb hKO
   have HG4:=zb g4
   have HG5:=zb g5
   have HGN:=zb hgn
   have HVA:=zb hva
   have HVB:=zb hvb
   clear G3 B3 Z3 hrow3 cs cf hKO g1 g2 g3 g4 g5 rg hNr hgn hrow hva hvb
   go_wp2_with (first|(refine ze rfl 168 (.tmp 9) (.tmp 29) rfl ⟨wr.heap.size,0,none⟩ _ rfl rfl W3 S3 ?_)|(refine zj rfl 166 (.tmp 26) rfl ⟨gn,m*22,none⟩ (q1C nd) rfl hLd ?_)|(refine zj rfl 3 (.tmp 34) rfl ⟨gn,m*22+20,none⟩ _ rfl LF ?_))
   refine(HPA.out _ HR3.out nd.fst).mono ?_
   rintro e w4 ⟨rfl,b4⟩
   rw[HVA.out]
   have hz3:=HZ3.out
   have G4:=(b4.block wr.heap.size (by omega)).trans HG3.out
   have S4:=j0c G4 (o:=23) (by simp) va na ca
   have B4:Below wr.heap.size wr w4:=HB3.out.trans (b4.mono HB3.out.size)
   have SS4:=(HS.out.below B4).other (o:=23) G4 (by decide) (by decide) (.slice va na ca)
   have B5:=B4.setCell (p:=⟨wr.heap.size,23,none⟩) (zL _) (.slice va na ca)
   have G5:=zH w4 wr.heap.size 23 _ _ (.slice va na ca) G4
   have hz5:wr.heap.size<(w4.setCell ⟨wr.heap.size,23,none⟩ (.slice va na ca)).heap.size:=by have:=b4.size;simp;omega
   generalize w4.setCell ⟨wr.heap.size,23,none⟩ (.slice va na ca)=w5 at *
   have LS:(Instr.loadAt 3 (.pointer (some ⟨gn,m*22+21,none⟩))).run Tryz.prog w5=.ok (.int .i64 nd.snd) w5:=j5j (by rw[zK (B5.block gn HGN.out)];exact HCS.out)
   have HSS:=zb SS4
   have HB5:=zb B5
   have HG5':=zb G5
   clear b4 G4 B4 SS4 B5 G5 S3 LF hLd hz3 HR3 HG3 HB3 HZ3
   go_wp2_with (first|(refine ze rfl 137 (.tmp 37) (.tmp 36) rfl ⟨wr.heap.size,23,none⟩ _ rfl rfl w5 S4 ?_)|(refine zj rfl 3 (.tmp 42) rfl ⟨gn,m*22+21,none⟩ _ rfl LS ?_))
   have hrow5:=q4N (zZ _) HSS.out.row
   rw[HSZ.out]at hrow5
   refine(HPA.out _ hrow5 nd.snd).mono ?_
   rintro e w6 ⟨rfl,b6⟩
   rw[HVB.out]
   have G6:=(b6.block wr.heap.size hz5).trans HG5'.out
   have S6:=j0c G6 (o:=24) (by simp) vb nb cb
   have SS6:=(HSS.out.below b6).other (o:=24) G6 (by decide) (by decide) (.slice vb nb cb)
   have B6:Below wr.heap.size wr w6:=HB5.out.trans (b6.mono HB5.out.size)
   have B7:=B6.setCell (p:=⟨wr.heap.size,24,none⟩) (zL _) (.slice vb nb cb)
   have G7:=zH w6 wr.heap.size 24 _ _ (.slice vb nb cb) G6
   have hz7:wr.heap.size<(w6.setCell ⟨wr.heap.size,24,none⟩ (.slice vb nb cb)).heap.size:=by have:=b6.size;simp;omega
   generalize w6.setCell ⟨wr.heap.size,24,none⟩ (.slice vb nb cb)=w7 at *
   have L7:(Instr.loadAt 168 (.pointer (some ⟨wr.heap.size,0,none⟩))).run Tryz.prog w7=.ok (.agg (q1a nd lb lo (.slice va na ca) (.slice vb nb cb)).toArray) w7:=q2I G7
   obtain⟨mA,hmA,TA⟩:=SS6.part HG4.out
   obtain⟨mB,hmB,TB⟩:=SS6.part HG5.out
   rw[HSZ.out,HVA.out]at TA
   rw[HSZ.out,HVB.out]at TB
   have B7w:Below w.heap.size w w7:=HB.out.trans (B7.mono HB.out.size)
   obtain⟨U,hU⟩:∃U,U=Value.agg (q1a nd lb lo (.slice va na ca) (.slice vb nb cb)).toArray:=⟨_,rfl⟩
   have HE:=zb (j1i U nd HKO.out lb lo ao cap PL _ _ hU mA mB _ _ hmA w7 ⟨HL.out.below B7w,TA,TB,by omega,by omega⟩ (HH.out.below B7w))
   rw[←hU]at L7
   have HSS7:=zb SS6
   have HB7:=zb B7
   have HB7w:=zb B7w
   clear b6 G6 B6 SS6 B7 G7 S4 LS hrow5 TA TB hU HSS HB5 HG5' B7w
   go_wp2_with (first|(refine ze rfl 137 (.tmp 45) (.tmp 44) rfl ⟨wr.heap.size,24,none⟩ _ rfl rfl w7 S6 ?_)|(refine zj rfl 168 (.tmp 9) rfl ⟨wr.heap.size,0,none⟩ U rfl L7 ?_))
   refine HE.out.mono ?_
   rintro e w8 ⟨v8,rfl,hO8,b8⟩
   obtain⟨a8,c8,rfl⟩:=q1n hO8
   have SS8:=HSS7.out.below b8
   have hg8:∃cs,w8.heap[w.heap.size+1]?=some (.cells cs 137 (0,0))∧m<cs.size:=by
    rcases SS8.row.2 with⟨h',_⟩|⟨g,cap,cur,h',_,h3,_,_,h6,_⟩
    ·simp at h'
    ·simp only[Value.slice.injEq,Option.some.injEq,Addr.mk.injEq,and_true,true_and]at h'
     obtain⟨rfl,rfl⟩:=h'
     exact⟨cur,h3,by have:=HSZ.out;omega⟩
   obtain⟨cs8,G8,hm8⟩:=hg8
   have S8:=j0c G8 (o:=m) hm8 a8 PL.length c8
   have SS9:=PUT.out w8 SS8 a8 PL.length c8 (q4N (zZ _) hO8)
   have B8:Below w.heap.size w w8:=HB7w.out.trans (b8.mono HB7w.out.size)
   have B9:=B8.setCell (p:=⟨w.heap.size+1,m,none⟩) (Nat.le_succ _) (.slice a8 PL.length c8)
   have X9:(w8.setCell ⟨w.heap.size+1,m,none⟩ (.slice a8 PL.length c8)).heap[w.heap.size]?=some (.cells #[.bool fx,.bool fy,.int .i64 rc] 88 (0,0)):=by
    rw[Below.heap_setCell _ _ _ _ (by simp),b8.block _ (by omega),HB7.out.block _ (by omega)]
    exact HX.out
   generalize w8.setCell ⟨w.heap.size+1,m,none⟩ (.slice a8 PL.length c8)=w9 at *
   have HSS9:=zb SS9
   have HB9:=zb B9
   have HX9:=zb X9
   clear b8 SS8 G8 SS9 B8 B9 X9 hO8 HE HSS7 HB7 HB7w L7 S6
   go_wp2_with (first|(refine ze rfl 137 (.tmp 51) (.tmp 50) rfl ⟨w.heap.size+1,m,none⟩ _ rfl rfl w9 S8 ?_))
   have hg1:0<gk:=by have:=HG.out;omega
   go_roundg (gk-1)
   case measure=>omega
   case rel=>exact⟨m,_,by have:=HSZ.out;omega,by have:=HG.out;omega,by first|rfl|go_num,HSS9.out,HX9.out,HB9.out⟩
abbrev Ver:=Nat × Nat × (Nat→Nat→Bool)
abbrev q3O (v:Ver):List Value:=[.int .i64 v.1,.int .u16 v.2.1,.int .u16 (zm v.2.2 0),.int .u16 (zm v.2.2 1),.int .u16 (zm v.2.2 2),.int .u16 (zm v.2.2 3),.int .u16 (zm v.2.2 4),.int .u16 (zm v.2.2 5),.int .u16 (zm v.2.2 6),.int .u16 (zm v.2.2 7),.int .u16 (zm v.2.2 8),.int .u16 (zm v.2.2 9)]
def zV (l:List Ver):List Value:=l.flatMap q3O
theorem q6N (l r:List Ver):zV (l++r)=zV l++zV r:=by simp[zV]
theorem j4p (v:Ver):zV [v]=q3O v:=by simp[zV]
def q1Y (L:List LPt)(i:Nat):Nat:=match L[i]? with
 |some p=>p.stamp
 |none=>0
def verR (F:zg)(L:List LPt)(i:Nat):Ver:=(i,q1Y L i,q4T (qk F).x (qk F).y (zu L F i))
def qI (F:zg)(L:List LPt)(a c:Nat):List Ver:=(List.range' a (c-a)).map (verR F L)
theorem j2k (F:zg)(L:List LPt)(a c:Nat)(h:c≤a):qI F L a c=[]:=by
 unfold qI
 rw[show c-a=0 by omega]
 rfl
theorem j7S (F:zg)(L:List LPt)(a c:Nat)(h:a≤c):qI F L a (c+1)=qI F L a c++[verR F L c]:=by
 unfold qI
 rw[show c+1-a=(c-a)+1 by omega,List.range'_concat,List.map_append]
 simp
 congr 1
 omega
theorem q0q (F:zg)(L:List LPt)(a c:Nat):(qI F L a c).length=c-a:=by simp[qI]
structure FormGood (F:zg):Prop where
 ok:q3x F
 nn:F≠.nil
 sz:zv F≤255
structure MonAt (w:World)(b gn cn:Nat)(ao:OA)(cap:Nat)(F:zg)(PL:List PPt)(told:Nat)(ended:Bool):Prop where
 blk:w.heap[b]?=some (.cells (j2O (.slice (some ⟨gn,0,none⟩) (zv F) cn) (qk F).x (qk F).y (qk F).reach (.slice ao PL.length cap) told ended) 93 (0,0))
 nodes:w.ownsRow 0 166 22 (.slice (some ⟨gn,0,none⟩) (zv F) cn) (zv F) (qw (q0p F 0))
 log:LogAt w b 4 ao cap PL
 haps:q6k w PL
 few:told≤PL.length
theorem q7j {w w':World}{bl:List Nat}{base:Nat}{e:TypeId}{size:Nat}{v:Value}{n:Nat}{xs:List Value}(h:w.ownsRow base e size v n xs)(ho:OnlyB bl w w')(hb:∀k,v.ownBlock=some k→k∉bl):w'.ownsRow base e size v n xs:=by
 refine⟨h.1,?_⟩
 rcases h.2 with h'|⟨g,cap,cur,rfl,h2,h3,h4⟩
 ·exact .inl h'
 ·refine .inr ⟨g,cap,cur,rfl,h2,?_,h4⟩
  rw[ho.block g (zd h3) (hb g rfl)]
  exact h3
def Kinds (bl:List Nat)(w:World):Prop:=∀k∈bl,∃cs t,w.heap[k]?=some (.cells cs t (0,0))∧(t=93∨t=136)
theorem q0E {w w':World}{bl:List Nat}{base:Nat}{e:TypeId}{size:Nat}{v:Value}{n:Nat}{xs:List Value}(h:w.ownsRow base e size v n xs)(ho:OnlyB bl w w')(hk:Kinds bl w)(h1:e≠93)(h2:e≠136):w'.ownsRow base e size v n xs:=by
 refine q7j h ho (fun k hv hm=>?_)
 obtain⟨cs,t,hc,ht⟩:=hk k hm
 refine q8v hc h ?_ hv.symm
 rcases ht with rfl|rfl
 ·exact Ne.symm h1
 ·exact Ne.symm h2
theorem MonAt.lt {w:World}{b gn cn:Nat}{ao:OA}{cap:Nat}{F:zg}{PL:List PPt}{told:Nat}{ended:Bool}(h:MonAt w b gn cn ao cap F PL told ended):b<w.heap.size:=zd h.blk
theorem MonAt.kinds {w:World}{b gn cn:Nat}{ao:OA}{cap:Nat}{F:zg}{PL:List PPt}{told:Nat}{ended:Bool}(h:MonAt w b gn cn ao cap F PL told ended):Kinds (b::q0P ao) w:=by
 intro k hk
 rcases List.mem_cons.1 hk with rfl|hk
 ·exact⟨_,_,h.blk,.inl rfl⟩
 ·rcases h.log.row.2 with⟨h',_⟩|⟨g,cap',cur,h',_,h3,_⟩
  ·simp only[Value.slice.injEq]at h'
   rw[h'.1]at hk
   simp[q0P]at hk
  ·simp only[Value.slice.injEq]at h'
   rw[h'.1]at hk
   simp[q0P]at hk
   subst hk
   exact⟨_,_,h3,.inr rfl⟩
theorem MonAt.keep {w w':World}{b gn cn:Nat}{ao:OA}{cap:Nat}{F:zg}{PL:List PPt}{told:Nat}{ended:Bool}{bl:List Nat}(h:MonAt w b gn cn ao cap F PL told ended)(ho:OnlyB bl w w')(hk:Kinds bl w)(h1:b∉bl)(h2:∀k∈q0P ao,k∉bl):MonAt w' b gn cn ao cap F PL told ended:=by
 refine⟨(ho.block b h.lt h1).trans h.blk,q0E h.nodes ho hk (by decide) (by decide),?_,fun p hp=>⟨q0E (h.haps p hp).1 ho hk (by decide) (by decide),(h.haps p hp).2⟩,h.few⟩
 refine⟨by rw[ho.cell h.lt h1];exact h.log.cell,zT h.lt ho.size,q7j h.log.row ho (fun k hv=>h2 k ?_),h.log.small,h.log.times⟩
 cases ao with
 |none=>simp[Value.ownBlock]at hv
 |some a=>simp only[Value.ownBlock,Option.some.injEq]at hv;simp[q0P,hv]
theorem MonAt.below {w w':World}{b gn cn:Nat}{ao:OA}{cap:Nat}{F:zg}{PL:List PPt}{told:Nat}{ended:Bool}(h:MonAt w b gn cn ao cap F PL told ended)(hb:Below w.heap.size w w'):MonAt w' b gn cn ao cap F PL told ended:=
 h.keep (bl:=[]) (.of_below hb) (fun k hk=>by simp at hk) (by simp) (by simp)
theorem MonAt.cells {w:World}{b gn cn:Nat}{ao:OA}{cap:Nat}{F:zg}{PL:List PPt}{told:Nat}{ended:Bool}(h:MonAt w b gn cn ao cap F PL told ended) :
  w.cell? ⟨b,0,none⟩=some (.slice (some ⟨gn,0,none⟩) (zv F) cn)∧w.cell? ⟨b,1,none⟩=some (.bool (qk F).x)∧w.cell? ⟨b,2,none⟩=some (.bool (qk F).y)∧w.cell? ⟨b,3,none⟩=some (.int .i64 (qk F).reach)∧w.cell? ⟨b,4,none⟩=some (.slice ao PL.length cap)∧w.cell? ⟨b,5,none⟩=some (.int .i64 told)∧w.cell? ⟨b,6,none⟩=some (.bool ended):=by
 have q:=fun j=>zC w b j _ _ _ h.blk
 exact⟨q 0,q 1,q 2,q 3,q 4,q 5,q 6⟩
theorem MonAt.frozen {w:World}{b gn cn:Nat}{ao:OA}{cap:Nat}{F:zg}{PL:List PPt}{told:Nat}{ended:Bool}(h:MonAt w b gn cn ao cap F PL told ended)(o:Nat):w.frozen? ⟨b,o,none⟩=false:=zF _ _ o _ _ h.blk
theorem LogAt.other {w:World}{b o:Nat}{ao:OA}{cap:Nat}{PL:List PPt}(h:LogAt w b o ao cap PL){cs:Array Value}{t:TypeId}(hb:w.heap[b]?=some (.cells cs t (0,0)))(ht:t≠136){o':Nat}(hne:o'≠o)(u:Value):LogAt (w.setCell ⟨b,o',none⟩ u) b o ao cap PL:=by
 refine⟨?_,by simpa using h.lt,q2q h.row hb ht u,h.small,h.times⟩
 have hc:=h.cell
 rw[zC _ _ o _ _ _ hb]at hc
 rw[zC _ _ o _ _ _ (zH w b o' _ _ u hb),Array.getElem?_setIfInBounds_ne hne]
 exact hc
theorem MonAt.setTold {w:World}{b gn cn:Nat}{ao:OA}{cap:Nat}{F:zg}{PL:List PPt}{told:Nat}{ended:Bool}(h:MonAt w b gn cn ao cap F PL told ended)(n:Nat)(hn:n≤PL.length):MonAt (w.setCell ⟨b,5,none⟩ (.int .i64 n)) b gn cn ao cap F PL n ended:=
 ⟨zH w b 5 _ _ (.int .i64 n) h.blk,q2q h.nodes h.blk (by decide) _,h.log.other h.blk (by decide) (by decide) _,fun p hp=>⟨q2q (h.haps p hp).1 h.blk (by decide) _,(h.haps p hp).2⟩,hn⟩
theorem MonAt.setEnded {w:World}{b gn cn:Nat}{ao:OA}{cap:Nat}{F:zg}{PL:List PPt}{told:Nat}{ended:Bool}(h:MonAt w b gn cn ao cap F PL told ended)(e:Bool):MonAt (w.setCell ⟨b,6,none⟩ (.bool e)) b gn cn ao cap F PL told e:=
 ⟨zH w b 6 _ _ (.bool e) h.blk,q2q h.nodes h.blk (by decide) _,h.log.other h.blk (by decide) (by decide) _,fun p hp=>⟨q2q (h.haps p hp).1 h.blk (by decide) _,(h.haps p hp).2⟩,h.few⟩
theorem MonAt.nodesAt {w:World}{b gn cn:Nat}{ao:OA}{cap:Nat}{F:zg}{PL:List PPt}{told:Nat}{ended:Bool}(h:MonAt w b gn cn ao cap F PL told ended):NodesAt w gn cn (q0p F 0):=
 NodesAt.of_row (base:=0) (by rw[q1S];exact h.nodes)
theorem j6F (b gn cn:Nat)(ao:OA)(cap:Nat)(F:zg)(PL:List PPt)(told:Nat)(ended:Bool)(w:World)(h:MonAt w b gn cn ao cap F PL told ended) :
  Calls Tryz.prog 13 #[.pointer (some ⟨b,0,none⟩)] w fun e w'=>e=.returned (.tuple #[.int .i64 PL.length,.int .i64 told])∧Below w.heap.size w w':=by
 have HC:=zb (fun W (q:LogAt W b 4 ao cap PL)=>q7H b 4 ao cap PL W q)
 obtain⟨c0,c1,c2,c3,c4,c5,c6⟩:=h.cells
 have hlt:=h.lt
 have HL:=zb h.log
 clear h c0 c1 c2 c3 c4 c6
 go_enter Tryz.func13,Tryz.ntmps13
 go_wp2_with fail
 go_region_held3 (fun w'=>w'.cell? ⟨b,5,none⟩=some (.int .i64 told)) (first|go_keep|(exact c5)) ((go_at_call 36;refine(HC.out _ (HL.out.below (by exact(zB _ _).drew))).mono ?_;rintro e w3 ⟨rfl,rfl⟩))
 all_goals
  go_wp2_with fail
  go_ret2
  exact⟨rfl,(zB _ _).drew⟩
theorem j5h:(Tryz.prog.info? 45).map (fun i=>(i.zero,i.size,i.bytes))=some (some (.agg #[.int .i64 0,.int .u16 0,.int .u16 0,.int .u16 0,.int .u16 0,.int .u16 0,.int .u16 0,.int .u16 0,.int .u16 0,.int .u16 0,.int .u16 0,.int .u16 0]),12,32):=by kernel_rfl
theorem j9e (st:Int)(va:OA)(n vc:Nat)(w:World):(Instr.field 96 (.agg #[.int .u16 st,.slice va n vc]) 0).run Tryz.prog w=.ok (.int .u16 st) w:=by kernel_rfl
theorem stamp_at {PL:List PPt}{i:Nat}(h:i<PL.length):q1Y (zz PL) i=(PL[i]).1.stamp:=by
 unfold q1Y
 rw[List.getElem?_map,zG h]
 rfl
def TlRel (F:zg)(L:List LPt)(W2:World)(told c:Nat)(g:Nat)(vl vi:Value)(wr:World):Prop:=
 ∃k:Nat,told≤k∧k≤c∧c-k≤g∧vi=.int .i64 k∧wr.ownsRow W2.heap.size 45 12 vl (k-told) (zV (qI F L told k))∧Below W2.heap.size W2 wr
theorem j6H (b gn cn:Nat)(ao:OA)(cap:Nat)(F:zg)(hF:FormGood F)(PL:List PPt)(told:Nat)(ended:Bool)(c:Nat)(hc:c≤PL.length)(w:World)(h:MonAt w b gn cn ao cap F PL told ended) :
  Calls Tryz.prog 35 #[.pointer (some ⟨b,0,none⟩),.int .i64 c] w fun e w'=>∃v,e=.returned v∧w'.ownsRow w.heap.size 45 12 v (c-told) (zV (qI F (zz PL) told c))∧MonAt w' b gn cn ao cap F PL (max told c) ended∧OnlyB [b] w w':=by
 obtain⟨c0,c1,c2,c3,c4,c5,c6⟩:=h.cells
 have hlt:=h.lt
 have hsm:=h.log.small
 have hfew:=h.few
 have HM:=zb h
 by_cases hle:c≤told
 ·clear h c0 c1 c2 c3 c4 c6
  go_enter Tryz.func35,Tryz.ntmps35
  go_wp2_with fail
  go_ret
  refine⟨_,rfl,?_,by rw[Nat.max_eq_left hle];exact HM.out,OnlyB.refl _ _⟩
  rw[j2k _ _ _ _ hle,show c-told=0 by omega]
  exact zW _ _ _ _
 ·have HA:=zb (fun W (q:MonAt W b gn cn ao cap F PL told ended)=>j4X F hF.ok hF.nn hF.sz gn cn (qk F).x (qk F).y (qk F).reach b 4 ao cap PL W q.nodesAt q.log q.haps)
  have HAT:=zb (fun i hi W (q:MonAt W b gn cn ao cap F PL told ended)=>pts_At b 4 ao cap PL i hi W q.log (fun p hp=>by obtain⟨a',c',e'⟩:=q1n (q.haps p hp).1;exact⟨_,_,_,e'⟩))
  obtain⟨H2,hH2⟩:∃H2:Nat→Nat→Nat→Bool,H2=fun i=>q4T (qk F).x (qk F).y (zu (zz PL) F i):=⟨_,rfl⟩
  rw[←hH2]at HA
  have HVR:Hid (∀i (hi:i<PL.length),q3O (verR F (zz PL) i)=[.int .i64 i,.int .u16 (PL[i]).1.stamp,.int .u16 (zm (H2 i) 0),.int .u16 (zm (H2 i) 1),.int .u16 (zm (H2 i) 2),.int .u16 (zm (H2 i) 3),.int .u16 (zm (H2 i) 4),.int .u16 (zm (H2 i) 5),.int .u16 (zm (H2 i) 6),.int .u16 (zm (H2 i) 7),.int .u16 (zm (H2 i) 8),.int .u16 (zm (H2 i) 9)]):=zb (fun i hi=>by rw[hH2,←stamp_at hi];rfl)
  have HTS:=zb (fun k hk=>j7S F (zz PL) told k hk)
  have HT0:=zb (j2k F (zz PL) told told (zL _))
  clear h hH2
  generalize (qk F).x=fx at *
  generalize (qk F).y=fy at *
  generalize (qk F).reach=rc at *
  generalize hN:zv F=N at *
  go_enter Tryz.func35,Tryz.ntmps35
  go_wp2_with fail
  go_region_held3 (fun w'=>w'.cell? ⟨b,0,none⟩=some (.slice (some ⟨gn,0,none⟩) N cn)∧w'.cell? ⟨b,1,none⟩=some (.bool fx)∧w'.cell? ⟨b,2,none⟩=some (.bool fy)∧w'.cell? ⟨b,3,none⟩=some (.int .i64 rc)) (first|go_keep|(exact⟨c0,c1,c2,c3⟩)|(exact KEEP3.out)) ((go_at_call 54;refine(HA.out _ (HM.out.below (by exact(zB _ _).drew))).mono ?_;rintro e w3 ⟨av,rfl,hO3,b3⟩;obtain⟨aa,ac,rfl⟩:=q1n hO3;have B3:Below w.heap.size w w3:=((zB _ _).drew).trans b3;have KEEP3:Hid (w3.cell? ⟨b,0,none⟩=some (.slice (some ⟨gn,0,none⟩) N cn)∧w3.cell? ⟨b,1,none⟩=some (.bool fx)∧w3.cell? ⟨b,2,none⟩=some (.bool fy)∧w3.cell? ⟨b,3,none⟩=some (.int .i64 rc)):=zb ⟨(zK (a:=⟨b,0,none⟩) (B3.block b hlt)).trans c0,(zK (a:=⟨b,1,none⟩) (B3.block b hlt)).trans c1,(zK (a:=⟨b,2,none⟩) (B3.block b hlt)).trans c2,(zK (a:=⟨b,3,none⟩) (B3.block b hlt)).trans c3⟩))
  have M3:=HM.out.below B3
  have d5:=M3.cells.2.2.2.2.2.1
  have hl3:=M3.lt
  have T3:Tb w3 (.slice aa PL.length ac) PL.length (fun i x y=>decide (i<PL.length)&&H2 i x y):=⟨by rw[q7m (B:=H2) (fun i hi=>by funext x y;rw[decide_eq_true hi,Bool.true_and])];exact q4N (zZ _) hO3,fun i hi x y=>by rw[decide_eq_false (by omega),Bool.false_and]⟩
  have HT3:=zb T3
  have HM3:=zb M3
  have HB3:=zb B3
  obtain⟨i1,hi1,iz0,iz1,iz2⟩:=info_parts j5h
  clear M3 T3 B3 b3 hO3 KEEP3 HA c0 c1 c2 c3 c4 c5 c6 hlt
  go_wp2_with fail
  go_loopg [6,7] c (fun g vl vi wr=>TlRel F (zz PL) w3 told c g vl vi wr)
  case atStart=>exact⟨told,zL _,by omega,by omega,rfl,by rw[HT0.out,Nat.sub_self];exact zW _ _ _ _,zB _ _⟩
  case round =>
   obtain⟨k,hk0,hk,hg,rfl,hown,hb⟩:=hrel
   have HG:=zb hg
   have HO:=zb hown
   have HB:=zb hb
   obtain⟨va,vc,rfl⟩:=q1n hown
   clear hg hown hb
   by_cases hkc:k<c
   ·have hkn:k<PL.length:=by omega
    have HAK:=zb (HAT.out k hkn wr (HM3.out.below HB.out))
    obtain⟨ha,hc',hhv⟩:=q1n (HM3.out.haps _ (List.getElem_mem hkn)).1
    rw[hhv]at HAK
    clear hhv
    generalize (PL[k]).1.haps.length=hn at *
    have HVK:=zb (HVR.out k hkn)
    have HTK:=zb (HTS.out k hk0)
    obtain⟨gt,rfl,_,ht1,ht2,_⟩:=HT3.out.load hkn
    have HLD:Hid (∀w',Below w3.heap.size w3 w'→(Instr.loadAt 43 (.pointer (some ⟨gt,k*10,none⟩))).run Tryz.prog w'=.ok (zr (zm (H2 k))) w'):=zb (fun w' hb=>by
     obtain⟨g',e',_,_,_,hr⟩:=(HT3.out.below hb).load hkn
     simp only[Option.some.injEq,Addr.mk.injEq,and_true]at e'
     subst e'
     rw[show(fun x y=>decide (k<PL.length)&&H2 k x y)=H2 k by funext x y;rw[decide_eq_true hkn,Bool.true_and]]at hr
     exact j4c hr)
    unfold maxLen at ht2
    generalize zm (H2 k)=r at *
    generalize (PL[k]).1.stamp=st at *
    go_wp2_with fail
    refine HAK.out.mono ?_
    rintro e w4 ⟨rfl,b4⟩
    have HB4:=zb (HB.out.trans (b4.mono HB.out.size))
    have HO4:=zb (zp HO.out b4)
    have L4:=HLD.out _ HB4.out
    have FL:=j9e st ha hn hc' w4
    clear b4
    go_wp2_with (first|(refine zj rfl 43 (.tmp 53) rfl ⟨gt,k*10,none⟩ (zr r) rfl L4 ?_)|(at_builtin;refine q3k rfl (.tmp 48) (.tmp 56) 33 45 rfl Tryz.underlying33 hi1 iz0 iz1 iz2 rfl (by decide) w3 w3.heap.size _ _ _ [.int .i64 k,.int .u16 st,.int .u16 (r 0),.int .u16 (r 1),.int .u16 (r 2),.int .u16 (r 3),.int .u16 (r 4),.int .u16 (r 5),.int .u16 (r 6),.int .u16 (r 7),.int .u16 (r 8),.int .u16 (r 9)] w4 rfl HO4.out (by simp[Act.eval]) rfl (by simp[Value.oneCell']) (by omega) (by decide) HB4.out HB4.out.size ?_;intro v' w' hown' hbel' hne))
    have hg1:0<gk:=by have:=HG.out;omega
    go_roundg (gk-1)
    case measure=>omega
    case rel=>exact⟨k+1,by omega,by omega,by have:=HG.out;omega,by go_num,by rw[HTK.out,q6N,j4p,HVK.out,show k+1-told=k-told+1 by omega];exact hown',hbel'⟩
   ·have hkc':k=c:=by omega
    have HK:=zb hkc'
    have M4:=HM3.out.below HB.out
    have f5:=M4.frozen 5
    have e5:=M4.cells.2.2.2.2.2.1
    have hl4:=M4.lt
    have HM4:=zb M4
    clear hkc' M4
    go_wp2_with fail
    go_ret
    refine⟨.slice va (k-told) vc,rfl,?_,by rw[Nat.max_eq_right (by omega)];exact HM4.out.setTold c hc,?_⟩
    ·have q:=HO.out
     rw[HK.out]at q ⊢
     exact q2q (q4N HB3.out.size q) HM4.out.blk (by decide) _
    ·exact(OnlyB.of_below (HB3.out.trans (HB.out.mono HB3.out.size))).setCell (by simp) _
end Go.Proofs.YtiamjjonoeaggabGreatDoor
