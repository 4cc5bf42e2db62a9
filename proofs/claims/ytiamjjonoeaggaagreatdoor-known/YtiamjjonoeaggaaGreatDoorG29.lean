import Derived.Test.YtiamjjonoeaggaaGreatDoorGA
import Derived.Test.YtiamjjonoeaggaaGreatDoorGB
import Derived.Test.YtiamjjonoeaggaaGreatDoorG02
import Derived.Test.YtiamjjonoeaggaaGreatDoorG05
import Derived.Test.YtiamjjonoeaggaaGreatDoorG07
import Derived.Test.YtiamjjonoeaggaaGreatDoorG10
import Derived.Test.YtiamjjonoeaggaaGreatDoorG14
import Derived.Test.YtiamjjonoeaggaaGreatDoorG15
import Derived.Test.YtiamjjonoeaggaaGreatDoorG16
import Derived.Deep.RegionHeld3
import Derived.Deep.MidRow
namespace Go.Proofs.YtiamjjonoeaggaaGreatDoor
open Go.RowKit
abbrev dptCs (p:LPt × Value):List Value:=[.int .u16 p.1.stamp,.int .i64 p.1.time,p.2]
def q2V (l:List (LPt × Value)):List Value:=l.flatMap dptCs
theorem q6a (l:List (LPt × Value)):∀(i:Nat) (h:i<l.length) (j:Nat),j<3→(q2V l)[i*3+j]?=(dptCs l[i])[j]?:=by
 induction l with
 |nil=>intro i h;simp at h
 |cons n r ih =>
  intro i h j hj
  have e:q2V (n::r)=dptCs n++q2V r:=rfl
  have e2:(dptCs n).length=3:=rfl
  rw[e]
  cases i with
  |zero=>rw[List.getElem?_append_left (by omega)];simp
  |succ i =>
   have hi:i<r.length:=by simpa using h
   rw[List.getElem?_append_right (by omega),e2,show(i+1)*3+j-3=i*3+j by omega,ih i hi j hj]
   rfl
structure DLogAt (w:World)(v:Value)(DL:List (LPt × Value)):Prop where
 row:w.ownsRow 0 222 3 v DL.length (q2V DL)
 small:DL.length≤40
 times:∀(i:Nat) (hi:i<DL.length),(DL[i]).1.time≤32768*i∧(DL[i]).1.stamp≤65535
theorem DLogAt.below {w w':World}{v:Value}{DL:List (LPt × Value)}(h:DLogAt w v DL)(hb:Below w.heap.size w w'):DLogAt w' v DL:=⟨zo h.row hb,h.small,h.times⟩
theorem DLogAt.at' {w:World}{ao:OA}{cap:Nat}{DL:List (LPt × Value)}(h:DLogAt w (.slice ao DL.length cap) DL){i:Nat}(hi:i<DL.length) :
  ∃g,ao=some ⟨g,0,none⟩∧g<w.heap.size∧DL.length≤cap∧cap≤maxLen∧w.cell? ⟨g,i*3,none⟩=some (.int .u16 (DL[i]).1.stamp)∧w.cell? ⟨g,i*3+1,none⟩=some (.int .i64 (DL[i]).1.time)∧w.cell? ⟨g,i*3+2,none⟩=some (DL[i]).2:=by
 have hr:=h.row
 obtain⟨g,cap',e⟩:=zJ hr (by omega)
 injection e with e1 e2 e3
 subst e1 e3
 have hlt:=(hr.lt g rfl).2
 refine⟨g,rfl,hlt,?_⟩
 have hc:DL.length≤cap∧cap≤maxLen:=by
  rcases hr.2 with⟨h',_⟩|⟨g',cap',cur,h',_,_,p1,p2,_⟩
  ·simp at h'
  ·simp only[Value.slice.injEq,Option.some.injEq,Addr.mk.injEq,and_true,true_and]at h'
   obtain⟨rfl,rfl⟩:=h'
   exact⟨p1,p2⟩
 have hl:(q2V DL).length=DL.length*3:=hr.1
 refine⟨hc.1,hc.2,?_,?_,?_⟩
 ·have:=hr.cellAt (i*3) (by omega)
  rw[this,show i*3=i*3+0 from rfl,q6a DL i hi 0 (by omega)]
  rfl
 ·have:=hr.cellAt (i*3+1) (by omega)
  rw[this,q6a DL i hi 1 (by omega)]
  rfl
 ·have:=hr.cellAt (i*3+2) (by omega)
  rw[this,q6a DL i hi 2 (by omega)]
  rfl
theorem q6d (s:Nat→Nat→Bool)(x y:Nat)(hx:x<10)(hy:y<10)(w:World):Calls Tryz.prog 26 #[zr (zm s),.int .i64 x,.int .i64 y] w fun e w'=>e=.returned (.bool (s x y))∧Below w.heap.size w w':=by
 have h:=j3v (zm s) x y w
 rw[relN_has s x y hx hy]at h
 exact h
structure TabsAt (w:World)(lv:Value)(two:Bool)(vF vL:Value)(n:Nat)(HF HL:Nat→Nat→Nat→Bool):Prop where
 row:∃xs,xs=(if two=true then [vF,vL]else [vL])∧w.ownsRow 0 246 1 lv xs.length xs
 fst:Tb w vF n HF
 lst:Tb w vL n HL
theorem TabsAt.below {w w':World}{lv:Value}{two:Bool}{vF vL:Value}{n:Nat}{HF HL:Nat→Nat→Nat→Bool}(h:TabsAt w lv two vF vL n HF HL)(hb:Below w.heap.size w w'):TabsAt w' lv two vF vL n HF HL:=
 ⟨by obtain⟨xs,h1,h2⟩:=h.row;exact⟨xs,h1,zo h2 hb⟩,h.fst.below hb,h.lst.below hb⟩
theorem TabsAt.one {w:World}{lv:Value}{vF vL:Value}{n:Nat}{HF HL:Nat→Nat→Nat→Bool}(h:TabsAt w lv false vF vL n HF HL):∃g cap,lv=.slice (some ⟨g,0,none⟩) 1 cap∧g<w.heap.size∧1≤cap∧cap≤maxLen∧w.cell? ⟨g,0,none⟩=some vL:=by
 obtain⟨xs,rfl,h2⟩:=h.row
 simp only[Bool.false_eq_true,if_false,List.length_cons,List.length_nil]at h2
 obtain⟨g,cap,e⟩:=zJ h2 (by omega)
 subst e
 have c0:=h2.cellAt 0 (by omega)
 rcases h2.2 with⟨h',_⟩|⟨g',cap',cur,h',_,_,p1,p2,_⟩
 ·simp at h'
 ·simp only[Value.slice.injEq,Option.some.injEq,Addr.mk.injEq,and_true,true_and]at h'
  obtain⟨rfl,rfl⟩:=h'
  exact⟨g,cap,rfl,(h2.lt g rfl).2,p1,p2,c0⟩
theorem TabsAt.two {w:World}{lv:Value}{vF vL:Value}{n:Nat}{HF HL:Nat→Nat→Nat→Bool}(h:TabsAt w lv true vF vL n HF HL):∃g cap,lv=.slice (some ⟨g,0,none⟩) 2 cap∧g<w.heap.size∧2≤cap∧cap≤maxLen∧w.cell? ⟨g,0,none⟩=some vF∧w.cell? ⟨g,1,none⟩=some vL:=by
 obtain⟨xs,rfl,h2⟩:=h.row
 simp only[if_true,List.length_cons,List.length_nil]at h2
 obtain⟨g,cap,e⟩:=zJ h2 (by omega)
 subst e
 have c0:=h2.cellAt 0 (by omega)
 have c1:=h2.cellAt 1 (by omega)
 rcases h2.2 with⟨h',_⟩|⟨g',cap',cur,h',_,_,p1,p2,_⟩
 ·simp at h'
 ·simp only[Value.slice.injEq,Option.some.injEq,Addr.mk.injEq,and_true,true_and]at h'
  obtain⟨rfl,rfl⟩:=h'
  exact⟨g,cap,rfl,(h2.lt g rfl).2,p1,p2,c0,c1⟩
theorem tk_no {P:Program}{md:Region.Mode}{ops:Array Oper}{Q:Exit→Act→World→Prop}{S:World→Prop}{i:Nat}{oi:Oper}{fuel:Nat}{listed:Array Bool}{a:Act}{w:World}(d:Tmp)(hi:ops[i]?=some oi)(hd:oi.dst=some d)
  (hs:Region.noSelect ops=true)(hf:Region.free md ops listed i=true)(hr:(Region.ready md ops listed).contains i=true)
  (hQ:∀c a w,Q (.panic c) (a.put oi.dst undef) w→Q (.panic c) a w)(hw:Region.wanted oi (yielded ops a.tmps)=false)(hS:S w)
  (h:wpAnyH P md ops Q S fuel (listed.setIfInBounds i true) (a.put (some d) undef) w):wpAnyH P md ops Q S (fuel+1) listed a w:=
 wpAnyH_take hi hs hf hr hQ (.inr ⟨hw,rfl⟩) hS (by rw[hd];exact h)
theorem q0V {P:Program}{md:Region.Mode}{ops:Array Oper}{Q:Exit→Act→World→Prop}{S:World→Prop}{i:Nat}{oi:Oper}{v:Value}{fuel:Nat}{listed:Array Bool}{a:Act}{w:World}(d:Tmp)(hi:ops[i]?=some oi)(hd:oi.dst=some d)
  (hs:Region.noSelect ops=true)(hf:Region.free md ops listed i=true)(hr:(Region.ready md ops listed).contains i=true)
  (hQ:∀c a w,Q (.panic c) (a.put oi.dst v) w→Q (.panic c) a w)(hw:Region.wanted oi (yielded ops a.tmps)=true)(hS:S w)(hy:∀w,S w→(execOp a.eval oi).run P w=.ok (.value v) w)
  (h:wpAnyH P md ops Q S fuel (listed.setIfInBounds i true) (a.put (some d) v) w):wpAnyH P md ops Q S (fuel+1) listed a w:=
 wpAnyH_take hi hs hf hr hQ (.inl ⟨hw,hy⟩) hS (by rw[hd];exact h)
theorem pz {α:Type}:(∀(l:List α) (i:Nat) (v:α),l.toArray.setIfInBounds i v=(l.set i v).toArray)∧(∀(l:List α) (x v:α),(x::l).set 0 v=v::l)∧(∀(l:List α) (x v:α) (i:Nat),(x::l).set (i+1) v=x::l.set i v):=⟨by simp,by simp,by simp⟩
theorem tq {P:Program}{md:Region.Mode}{ops:Array Oper}{Q:Exit→Act→World→Prop}{S:World→Prop}(i:Nat){oi:Oper}{v:Value}{fuel:Nat}{listed:Array Bool}{a:Act}{w:World}(d:Tmp)
  (h:wpAnyH P md ops Q S fuel (listed.setIfInBounds i true) (a.put (some d) v) w)(hi:ops[i]?=some oi:=by rfl)(hd:oi.dst=some d:=by rfl)(hs:Region.noSelect ops=true:=by kernel_rfl)(hf:Region.free md ops listed i=true:=by kernel_rfl)(hr:(Region.ready md ops listed).contains i=true:=by kernel_rfl)
  (hQ:∀c a w,Q (.panic c) (a.put oi.dst v) w→Q (.panic c) a w:=by exact fun _ _ _ h=>h)(hw:Region.wanted oi (yielded ops a.tmps)=true:=by rfl)(hS:S w:=by assumption)(hy:∀w,S w→(execOp a.eval oi).run P w=.ok (.value v) w:=by(intro w hSw;(try dsimp only at hSw);go_simp;(try with_reducible rfl))):wpAnyH P md ops Q S (fuel+1) listed a w:=
 q0V d hi hd hs hf hr hQ hw hS hy h
theorem tn {P:Program}{md:Region.Mode}{ops:Array Oper}{Q:Exit→Act→World→Prop}{S:World→Prop}(i:Nat){oi:Oper}{fuel:Nat}{listed:Array Bool}{a:Act}{w:World}(d:Tmp)
  (h:wpAnyH P md ops Q S fuel (listed.setIfInBounds i true) (a.put (some d) undef) w)(hi:ops[i]?=some oi:=by rfl)(hd:oi.dst=some d:=by rfl)(hs:Region.noSelect ops=true:=by kernel_rfl)(hf:Region.free md ops listed i=true:=by kernel_rfl)(hr:(Region.ready md ops listed).contains i=true:=by kernel_rfl)
  (hQ:∀c a w,Q (.panic c) (a.put oi.dst undef) w→Q (.panic c) a w:=by exact fun _ _ _ h=>h)(hw:Region.wanted oi (yielded ops a.tmps)=false:=by rfl)(hS:S w:=by assumption):wpAnyH P md ops Q S (fuel+1) listed a w:=
 tk_no d hi hd hs hf hr hQ hw hS h
def q0J (t:By):By:=if t=[120]then [121]else if t=[121]then [120]else t
theorem OnlyB.row {bl:List Nat}{w w':World}(h:OnlyB bl w w'){k:Nat}{cs:Array Value}{t:TypeId}(hc:w.heap[k]?=some (.cells cs t (0,0)))(hn:k∉bl):w'.heap[k]?=some (.cells cs t (0,0)):=by
 have hl:k<w.heap.size:=by
  rcases Nat.lt_or_ge k w.heap.size with g|g
  ·exact g
  ·rw[Array.getElem?_eq_none g]at hc;simp at hc
 exact(h.block k hl hn).trans hc
structure AtmAt (w wr:World)(fb:Nat)(t o:By)(x y:Bool):Prop where
 res:wr.heap[w.heap.size]?=some (.cells #[bs [],bs [],.bool false,.bool false,.int .i64 0] 23 (0,0))
 made:wr.heap[w.heap.size+1]?=some (.cells #[bs t,bs o,.bool x,.bool y,.int .i64 (-1)] 23 (0,0))
 nm:wr.heap[w.heap.size+2]?=some (.cells #[bs [112],bs [113],bs [114]] 9 (0,0))
 ar:wr.heap[w.heap.size+3]?=some (.cells #[bs [120],bs [121],bs [49],bs [50]] 9 (0,0))
 ot:wr.heap[w.heap.size+4]?=some (.cells #[bs [121],bs [120],bs [49],bs [50]] 9 (0,0))
 only:OnlyB [fb] w wr
 lt:fb<w.heap.size
theorem AtmAt.next {w wr w':World}{fb:Nat}{t o:By}{x y:Bool}(h:AtmAt w wr fb t o x y)(ho:OnlyB [fb] wr w'):AtmAt w w' fb t o x y:=
 have hn:∀k,fb<k→k∉[fb]:=fun k hk e=>by simp at e;omega
 ⟨ho.row h.res (hn _ h.lt),ho.row h.made (hn _ (by have:=h.lt;omega)),ho.row h.nm (hn _ (by have:=h.lt;omega)),ho.row h.ar (hn _ (by have:=h.lt;omega)),ho.row h.ot (hn _ (by have:=h.lt;omega)),h.only.trans ho,h.lt⟩
theorem AtmAt.size {w wr:World}{fb:Nat}{t o:By}{x y:Bool}(h:AtmAt w wr fb t o x y):w.heap.size+4<wr.heap.size:=by
 have hc:=h.ot
 rcases Nat.lt_or_ge (w.heap.size+4) wr.heap.size with g|g
 ·exact g
 ·rw[Array.getElem?_eq_none g]at hc;simp at hc
theorem AtmAt.put {w wr:World}{fb:Nat}{t o t' o':By}{x y x' y':Bool}(h:AtmAt w wr fb t o x y)(j:Nat)(v:Value)(he:(#[bs t,bs o,.bool x,.bool y,.int .i64 (-1)]:Array Value).setIfInBounds j v=#[bs t',bs o',.bool x',.bool y',.int .i64 (-1)]):AtmAt w (wr.setCell ⟨w.heap.size+1,j,none⟩ v) fb t' o' x' y':=by
 have hk:∀k,k≠w.heap.size+1→(wr.setCell ⟨w.heap.size+1,j,none⟩ v).heap[k]?=wr.heap[k]?:=fun k hk=>Below.heap_setCell wr _ _ k hk
 refine⟨by rw[hk _ (by omega)];exact h.res,?_,by rw[hk _ (by omega)];exact h.nm,by rw[hk _ (by omega)];exact h.ar,by rw[hk _ (by omega)];exact h.ot,?_,h.lt⟩
 ·rw[zH wr _ j _ _ v h.made,he]
 ·refine⟨h.only.os,h.only.tape,h.only.output,by simpa using h.only.size,fun k hk1 hn=>?_⟩
  rw[hk k (by omega)]
  exact h.only.block k hk1 hn
theorem j7O (k:Nat)(h:k<4):(#[bs [120],bs [121],bs [49],bs [50]]:Array Value)[k]?=some (bs (q1X k))∧(#[bs [121],bs [120],bs [49],bs [50]]:Array Value)[k]?=some (bs (q0J (q1X k))):=by
 have:k=0∨k=1∨k=2∨k=3:=by omega
 rcases this with rfl|rfl|rfl|rfl<;>exact⟨rfl,rfl⟩
theorem AtmAt.facts {w wr:World}{fb:Nat}{t o:By}{x y:Bool}(h:AtmAt w wr fb t o x y):wr.cell? ⟨w.heap.size+1,0,none⟩=some (bs t)∧wr.cell? ⟨w.heap.size+1,1,none⟩=some (bs o)∧wr.cell? ⟨w.heap.size+1,2,none⟩=some (.bool x)∧wr.cell? ⟨w.heap.size+1,3,none⟩=some (.bool y)∧wr.cell? ⟨w.heap.size+1,4,none⟩=some (.int .i64 (-1))∧(∀j,wr.frozen? ⟨w.heap.size+1,j,none⟩=false)∧w.heap.size+1<wr.heap.size:=
 ⟨zC _ _ 0 _ _ _ h.made,zC _ _ 1 _ _ _ h.made,zC _ _ 2 _ _ _ h.made,zC _ _ 3 _ _ _ h.made,zC _ _ 4 _ _ _ h.made,fun j=>zF _ _ j _ _ h.made,by have:=h.size;omega⟩
theorem AtmAt.args {w wr:World}{fb:Nat}{t o:By}{x y:Bool}(h:AtmAt w wr fb t o x y)(k:Nat)(hk:k<4):wr.cell? ⟨w.heap.size+1+1+1,k,none⟩=some (bs (q1X k))∧wr.cell? ⟨w.heap.size+1+1+1+1,k,none⟩=some (bs (q0J (q1X k))):=⟨(zC _ _ k _ _ _ h.ar).trans (j7O k hk).1,(zC _ _ k _ _ _ h.ot).trans (j7O k hk).2⟩
theorem FeedAt.set {W:World}{fb b:Nat}{s:By}{i:Nat}(h:FeedAt W fb s i)(hb:fb≠b)(o:Nat)(v:Value):FeedAt (W.setCell ⟨b,o,none⟩ v) fb s i:=
 ⟨by rw[Below.heap_setCell W _ _ fb hb];exact h.blk,h.le,h.sm⟩
theorem q7j {w lo hi:By}{A B:zh}(hA:A≠.nil)(hw:(w==[101,120,105,115,116,115])=false)(x:By):zg (opF w lo hi A B) x=(zg A x || zg B x):=by
 unfold opF
 cases A with
 |nil=>exact absurd rfl hA
 |node a b c d e =>
  show(!(w==[101,120,105,115,116,115]&&([]:List (By))==[x])&&(zg (.node a b c d e) x || zg B x))=_
  rw[hw]
  rfl
theorem j6l {w:By}(hw:qE w=true)(lo hi:By)(A:zh)(n:Nat):zy (opF w lo hi A .nil)=(w++q2E (lo,hi,n))++[40]++zy A++[41]:=by
 have k:=q0a.2.1 hw
 unfold opF
 simp only[zy,k.1,k.2.1,k.2.2,hw,Bool.false_eq_true,if_false,if_true]
 simp
theorem j6m {w:By}(hw:qB w=true)(lo hi:By)(A B:zh)(n:Nat):zy (opF w lo hi A B)=(w++q2E (lo,hi,n))++[40]++zy A++[44]++zy B++[41]:=by
 have k:=q0a.2.2 hw
 unfold opF
 simp only[zy,k.1,k.2.1,k.2.2.1,k.2.2.2,hw,Bool.false_eq_true,if_false,if_true]
 simp
end Go.Proofs.YtiamjjonoeaggaaGreatDoor
