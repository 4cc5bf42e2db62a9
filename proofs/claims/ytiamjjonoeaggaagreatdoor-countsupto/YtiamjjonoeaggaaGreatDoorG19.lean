import Derived.Test.YtiamjjonoeaggaaGreatDoorGA
import Derived.Test.YtiamjjonoeaggaaGreatDoorG12
import Derived.Test.YtiamjjonoeaggaaGreatDoorG14
import Derived.Test.YtiamjjonoeaggaaGreatDoorG17
import Derived.Test.YtiamjjonoeaggaaGreatDoorG18
import Derived.Deep.RegionLaw
import Derived.Laws.OwnMore
import Derived.Deep.RegionHeld
import Derived.Lib.SmallJoins
import Derived.Deep.RegionHeld3
import Derived.Laws.StructEq
import Derived.ChangeKeysEq
set_option maxRecDepth 100000
set_option maxHeartbeats 16000000
namespace Go.Proofs.YtiamjjonoeaggaaGreatDoor
open Go.RowKit
theorem qM {P:Program}{ops:Array Oper}{o:Oper}{a:Act}{w:World}{K:Act→World→Prop}{Q:Exit→Act→World→Prop}{E:Prop}
  (hg:o.guard=none)(s x:Operand)(t:TypeId)(hop:o.op=Op.call {callee:=Callee.builtin Builtin.append,args:=#[s,x],argTypes:=#[t,t]})
  (base:Nat)(e:TypeId){i:TypeInfo}{z:Value}{size bytes:Nat}(ht:P.underlying t=some (.slice e))(hi:P.info? e=some i)(hz:i.zero=some z)(hsize:i.size=size)(hby:i.bytes=bytes)(hzs:z.cells.size=size)(hsz:0<size)
  (v:Value)(n:Nat)(xs:List Value)(hs:a.eval s=v)(hown:w.ownsRow base e size v n xs)
  (ad:Addr)(m c:Nat)(news:List Value)(hx:a.eval x=.slice (some ad) m c)(hl:news.length=m*size)(hnews:∀j u,news[j]?=some u→w.cell? (ad.add j)=some u)(h1:∀u∈news,u.oneCell'=true)
  (h63:n+m≤maxLen)(hbytes:(n+m)*bytes≤140737488355328)(hbase:base≤w.heap.size)
  (hK:∀v' w',w'.ownsRow base e size v' (n+m) (xs++news)→w.grownBy w' v.ownBlock→K (a.put o.dst v') w') :
  if Region.wanted o (yielded ops a.tmps)=true then Oper.wp P o a w K Q else E:=by
 have hw:Region.wanted o (yielded ops a.tmps)=true:=by simp[Region.wanted,hg]
 rw[if_pos hw]
 exact wp_append_own w s x t hop base e i z size bytes ht hi hz hsize hby hzs hsz v n xs hs hown ad m c news hx hl hnews h1 h63 hbytes hbase (fun v' w' a b _=>hK v' w' a b)
def qw (l:List PNode):List Value:=l.flatMap zm
theorem q3i (l:List PNode):(qw l).length=l.length*22:=by
 induction l with
 |nil=>rfl
 |cons n r ih =>
  have e:qw (n::r)=zm n++qw r:=by simp[qw]
  have e2:(zm n).length=22:=rfl
  rw[e,List.length_append,ih,e2,List.length_cons]
  omega
theorem j0d (l r:List PNode):qw (l++r)=qw l++qw r:=by simp[qw]
theorem j3O (n:PNode):qw [n]=zm n:=by simp[qw]
theorem j0e (l r:List PNode)(n:PNode)(j:Nat)(hj:j<22):(qw (l++n::r))[l.length*22+j]?=(zm n)[j]?:=by
 have e:qw (l++n::r)=qw l++(zm n++qw r):=by simp[qw]
 have e2:(zm n).length=22:=rfl
 rw[e,List.getElem?_append_right (by rw[q3i];omega),q3i,List.getElem?_append_left (by omega)]
 congr 1
 omega
theorem j3P (l r:List PNode)(n n':PNode)(j:Nat)(hj:j<22)(u:Value)(he:zm n'=(zm n).set j u):(qw (l++n::r)).set (l.length*22+j) u=qw (l++n'::r):=by
 have e:∀n,qw (l++n::r)=qw l++(zm n++qw r):=by intro n;simp[qw]
 have e2:(zm n).length=22:=rfl
 rw[e,e,List.set_append_right _ _ (by rw[q3i];omega),q3i,show l.length*22+j-l.length*22=j by omega,List.set_append_left _ _ (by omega),he]
theorem args_le (ts:List PTok)(nx:Nat)(nd:PNode):(q6O ts nx nd).2.1≤nx+5:=by
 unfold q6O q6P
 repeat' split
 all_goals (simp only[];omega)
theorem span_le (ts:List PTok)(nx:Nat)(nd:PNode):(q3n ts nx nd).2.1≤nx+5:=by
 unfold q3n
 repeat' split
 all_goals (simp only[];omega)
theorem q7B (ts:List PTok)(nx:Nat):(q0E ts nx).2.1≤nx+6:=by
 unfold q0E
 have a:=args_le ts (nx+1) (q0T (zp ts nx))
 have b:=span_le ts (nx+1) (q0T (zp ts nx))
 repeat' split
 all_goals first|omega|(simp only[];omega)
theorem parts_le (ts:List PTok)(F:Nat→Nat→Bool × Nat × List PNode)(c:Nat)(hF:∀nx base,(F nx base).2.1≤nx+c)(m base:Nat)(nd:PNode):(q2L ts F m base nd).2.1≤m+3+2*c:=by
 unfold q2L
 have a:=hF (m+1) (base+1)
 have b:=hF ((F (m+1) (base+1)).2.1+1) (base+1+(F (m+1) (base+1)).2.2.length)
 repeat' split
 all_goals (simp only[];omega)
def q4g:Nat→Nat
 | 0=>0
 |d+1=>9+2*q4g d
theorem j2g (ts:List PTok):∀d nx base,(qO ts d nx base).2.1≤nx+q4g d:=by
 intro d
 induction d with
 |zero=>intro nx base;simp[qO,q4g]
 |succ d ih =>
  intro nx base
  have h:=q7B ts nx
  have p:=parts_le ts (qO ts d) (q4g d) ih (q0E ts nx).2.1 base (q0E ts nx).2.2
  rw[qO]
  repeat' split
  all_goals (simp only[q4g];omega)
def q2O:Nat→Nat
 | 0=>0
 |d+1=>1+2*q2O d
theorem j5l (ts:List PTok)(F:Nat→Nat→Bool × Nat × List PNode)(c:Nat)(hF:∀nx base,(F nx base).2.2.length≤c)(m base:Nat)(nd:PNode):(q2L ts F m base nd).2.2.length≤1+2*c:=by
 unfold q2L
 have a:=hF (m+1) (base+1)
 have b:=hF ((F (m+1) (base+1)).2.1+1) (base+1+(F (m+1) (base+1)).2.2.length)
 repeat' split
 all_goals (simp only[List.length_cons,List.length_append,List.length_nil];omega)
theorem j6A (ts:List PTok):∀d nx base,(qO ts d nx base).2.2.length≤q2O d:=by
 intro d
 induction d with
 |zero=>intro nx base;simp[qO,q2O]
 |succ d ih =>
  intro nx base
  have p:=j5l ts (qO ts d) (q2O d) ih (q0E ts nx).2.1 base (q0E ts nx).2.2
  rw[qO]
  repeat' split
  all_goals (simp only[q2O,List.length_cons,List.length_nil];omega)
def PN (w:World)(bp bt ct:Nat)(ts:List PTok)(nx:Nat)(ns:List PNode):Prop:=∃nv,Pars w bp bt ct ts nv nx∧w.ownsRow (bp+1) 168 22 nv ns.length (qw ns)
theorem q1P {w w':World}{bl:List Nat}{base:Nat}{e:TypeId}{size:Nat}{v:Value}{n:Nat}{xs:List Value}(h:w.ownsRow base e size v n xs)(ho:OnlyB bl w w')(hb:∀k∈bl,k<base):w'.ownsRow base e size v n xs:=by
 refine⟨h.1,?_⟩
 rcases h.2 with hn|⟨g,cap,cur,rfl,hb',hgg,rest⟩
 ·exact .inl hn
 ·refine .inr ⟨g,cap,cur,rfl,hb',?_,rest⟩
  rw[ho.block g (Array.getElem?_eq_some_iff.1 hgg).1 (fun hm=>by have:=hb g hm;omega)]
  exact hgg
theorem PN.only {w w':World}{bp bt ct:Nat}{ts:List PTok}{nx:Nat}{ns:List PNode}(h:PN w bp bt ct ts nx ns)(ho:OnlyB [] w w'):PN w' bp bt ct ts nx ns:=by
 obtain⟨nv,h1,h2⟩:=h
 exact⟨nv,h1.only ho (by simp) (by simp),q1P h2 ho (by simp)⟩
def q8p (w w':World)(bp bt ct:Nat)(ts:List PTok)(ns:List PNode)(o:Bool × Nat × List PNode):Prop:=
 (∃nv,Pars w' bp bt ct ts nv o.2.1∧(o.1=true→w'.ownsRow (bp+1) 168 22 nv (ns++o.2.2).length (qw (ns++o.2.2))))∧Below bp w w'
abbrev q0D (nd:PNode)(lb lo:Nat)(vf vs:Value):List Value:=[.int .i64 nd.kind,.int .i64 nd.pos,.int .u8 (zj nd.name 0),.int .u8 (zj nd.name 1),.int .u8 (zj nd.name 2),.int .u8 (zj nd.name 3),.int .u8 (zj nd.name 4),.int .u8 (zj nd.name 5),.int .u8 (zj nd.name 6),.int .u8 (zj nd.name 7),.int .i64 nd.k0,.int .i64 nd.v0,.int .i64 nd.k1,.int .i64 nd.v1,.int .i64 nd.cnt,.int .i64 nd.var,.int .i64 nd.sat,.int .i64 nd.slo,.int .i64 nd.shi,.bool nd.sop,.int .i64 nd.fst,.int .i64 nd.snd,.pointer (some ⟨lb,lo,none⟩),vf,vs]
theorem q1k {w W1 w2:World}{b:Nat}(G1:W1.heap[b]?=some (.cells zCs 47 (0,0)))(hw:w.heap.size≤b)(B1:Below w.heap.size w W1)(b2:Below W1.heap.size W1 w2)(r:Nat→Int) :
  ∃W,(Instr.storeAt 47 (.pointer (some ⟨b,0,none⟩)) (zn r)).run Tryz.prog w2=.ok () W∧(loadVar 47 ⟨b,0,none⟩).run Tryz.prog W=.ok (zn r) W∧Below w.heap.size w W:=by
 have hb:b<W1.heap.size:=by
  rcases Nat.lt_or_ge b W1.heap.size with g|g
  ·exact g
  ·rw[Array.getElem?_eq_none g]at G1;simp at G1
 have G2:=(b2.block b hb).trans G1
 have B2:Below w.heap.size w w2:=B1.trans (b2.mono B1.size)
 obtain⟨W,S1,s2,s3,s4,s5,s6,s7⟩:=q2g _ b _ r G2 rfl
 exact⟨W,S1,(Arr.of_row (f:=r) s2).loadV,⟨s5.trans B2.os,s6.trans B2.tape,s7.trans B2.output,by rw[s4];exact B2.size,fun k hk=>by rw[s3 k (by omega)];exact B2.block k hk⟩⟩
theorem q0q {W0:World}{b:Nat}{nd:PNode}{lb lo:Nat}{vf vs:Value}(g0:W0.heap[b]?=some (.cells (q0D nd lb lo vf vs).toArray 182 (0,0)))(j:Nat):W0.cell? ⟨b,j,none⟩=(q0D nd lb lo vf vs)[j]?:=by
 rw[zC _ _ j _ _ _ g0,List.getElem?_toArray]
theorem hol_goal (V:Value)(nd:PNode)(lb lo:Nat)(vf vs:Value)(hV:V=.agg (q0D nd lb lo vf vs).toArray)(mA mB:Nat)(hA40:mA≤40)(hB40:mB≤40)(A B:Nat→Nat→Nat→Bool)(j:Nat)(w:World)(hA:Tb w vf mA A)(hB:Tb w vs mB B) :
  Calls Tryz.prog 168 #[V,.int .i64 j] w fun e w'=>e=.returned (zn (zf fun x y=>q1q nd A B x y j))∧Below w.heap.size w w':=by
 obtain⟨fa,fc,rfl⟩:=hA.form
 obtain⟨sa,sc,rfl⟩:=hB.form
 have HV:=zb hV
 have HA:=zb hA
 have HB:=zb hB
 clear hV hA hB
 by_cases hk:nd.kind=12∨nd.kind=13
 ·have hg:(fun x y=>q1q nd A B x y j)=A j:=by funext x y;unfold q1q;rw[if_pos hk]
  rw[hg]
  have HC:=zb (fun W (h:Tb W (.slice fa mA fc) mA A)=>q0g (.slice fa mA fc) mA A hA40 j W h)
  generalize zf (A j)=r at *
  obtain⟨U,hU⟩:∃U,U=zn r:=⟨_,rfl⟩
  rw[←hU]
  have HU:=zb hU
  clear hU hg
  rcases hk with hk|hk
  all_goals
   go_enter Tryz.func168,Tryz.ntmps168
   go_wp2_with (first|(refine qo rfl 182 (.tmp 0) rfl V _ rfl HV.out ?_;intro W0 g0 b0 z0;have c0:=q0q g0 0;have c23:=q0q g0 23;simp only[List.getElem?_cons_zero,List.getElem?_cons_succ,hk]at c0 c23;have hl0:w.heap.size<W0.heap.size:=(by omega);have B1:=b0.alloc b0.size (.cells zCs 47);have G1:=zN W0 (.cells zCs 47);have HB1:=zb B1;have HG1:=zb G1;have HZ0:=zb z0;clear B1 G1 g0 z0))
   refine(HC.out _ ((HA.out.below b0).below (by exact(zB _ _).alloc (zL _) _))).mono ?_
   rintro e w2 ⟨rfl,b2⟩
   obtain⟨W,S1,LV,BW⟩:=q1k HG1.out (by omega) HB1.out b2 r
   rw[←HU.out]at S1 LV ⊢
   have HW:=zb BW
   clear b2 BW c0 c23 b0
   go_wp2_with (refine ze rfl 47 (.tmp 4) (.tmp 14) rfl ⟨W0.heap.size,0,none⟩ U rfl rfl W S1 ?_)
   exact zP (v:=U) (zr rfl _ _ _ _ rfl LV) rfl ⟨rfl,HW.out⟩
 ·have hg:(fun x y=>q1q nd A B x y j)=B j:=by funext x y;unfold q1q;rw[if_neg hk]
  rw[hg]
  have HC:=zb (fun W (h:Tb W (.slice sa mB sc) mB B)=>q0g (.slice sa mB sc) mB B hB40 j W h)
  generalize zf (B j)=r at *
  obtain⟨U,hU⟩:∃U,U=zn r:=⟨_,rfl⟩
  rw[←hU]
  have HU:=zb hU
  have k1:¬nd.kind=12:=fun h=>hk (.inl h)
  have k2:¬nd.kind=13:=fun h=>hk (.inr h)
  have e1:(nd.kind==12)=false:=by simpa using k1
  have e2:(nd.kind==13)=false:=by simpa using k2
  generalize hkk:nd.kind=kk at *
  have HKK:=zb hkk
  clear hU hg hk hkk
  go_enter Tryz.func168,Tryz.ntmps168
  go_wp2_with (first|(refine qo rfl 182 (.tmp 0) rfl V _ rfl HV.out ?_;intro W0 g0 b0 z0;have c0:=q0q g0 0;have c24:=q0q g0 24;simp only[List.getElem?_cons_zero,List.getElem?_cons_succ,HKK.out]at c0 c24;have hl0:w.heap.size<W0.heap.size:=(by omega);have B1:=b0.alloc b0.size (.cells zCs 47);have G1:=zN W0 (.cells zCs 47);have HB1:=zb B1;have HG1:=zb G1;have HZ0:=zb z0;clear B1 G1 g0 z0))
  refine(HC.out _ ((HB.out.below b0).below (by exact(zB _ _).alloc (zL _) _))).mono ?_
  rintro e w2 ⟨rfl,b2⟩
  obtain⟨W,S1,LV,BW⟩:=q1k HG1.out (by omega) HB1.out b2 r
  rw[←HU.out]at S1 LV ⊢
  have HW:=zb BW
  clear b2 BW c0 c24 b0
  go_wp2_with (refine ze rfl 47 (.tmp 4) (.tmp 18) rfl ⟨W0.heap.size,0,none⟩ U rfl rfl W S1 ?_)
  exact zP (v:=U) (zr rfl _ _ _ _ rfl LV) rfl ⟨rfl,HW.out⟩
theorem qt {w:World}{base:Nat}{e:TypeId}{size:Nat}{v:Value}{n:Nat}{xs:List Value}(h:w.ownsRow base e size v n xs):∃ao cap,v=.slice ao n cap:=by
 rcases h.2 with⟨rfl,rfl⟩|⟨g,cap,cur,rfl,_⟩
 ·exact⟨none,0,rfl⟩
 ·exact⟨_,cap,rfl⟩
theorem Pars.nodesSet {w:World}{bp bt ct:Nat}{ts:List PTok}{nv:Value}{nx:Nat}(h:Pars w bp bt ct ts nv nx)(u:Value):Pars (w.setCell ⟨bp,2,none⟩ u) bp bt ct ts u nx:=by
 refine⟨?_,?_,zS w _ _ h.nodes,fun o=>by rw[World.frozen?_setCell];exact h.free o,h.cap,h.ne,by simpa using h.lt,fun i hi j hj=>?_⟩
 ·rw[zX w _ _ _ (by intro e;injection e with e1 e2;simp at e2)];exact h.toks
 ·rw[zX w _ _ _ (by intro e;injection e with e1 e2;simp at e2)];exact h.next
 ·rw[zX w _ _ _ (by intro e;injection e with e1 e2;exact h.ne e1.symm)];exact h.cells i hi j hj
theorem q1j {w1 w2 w3:World}{bp bt ct:Nat}{ts:List PTok}{nv:Value}{nx:Nat}{ns:List PNode}{nd:PNode}{ob:Obj}(hP:Pars w1 bp bt ct ts nv nx)(hbt:bt<bp)(hb:Below w1.heap.size w1 w2)(hrow:∀k,nv.ownBlock=some k→bp+1≤k∧k<w1.heap.size)
  (hN:w2.cell? ⟨w1.heap.size,0,none⟩=some (.int .i64 nd.kind))(hg:(w2.drew.alloc ob).grownBy w3 nv.ownBlock){g cap:Nat}(hown:w3.ownsRow (bp+1) 168 22 (.slice (some ⟨g,0,none⟩) (ns.length+1) cap) (ns.length+1) (qw ns++zm nd)) :
  PN (w3.setCell ⟨bp,2,none⟩ (.slice (some ⟨g,0,none⟩) (ns.length+1) cap)) bp bt ct ts nx (ns++[nd])∧(w3.setCell ⟨bp,2,none⟩ (.slice (some ⟨g,0,none⟩) (ns.length+1) cap)).cell? ⟨w1.heap.size,0,none⟩=some (.int .i64 nd.kind)∧Below bp w1 (w3.setCell ⟨bp,2,none⟩ (.slice (some ⟨g,0,none⟩) (ns.length+1) cap)):=by
 have hl:=hP.lt.2
 have hs2:w1.heap.size<w2.heap.size:=World.block_lt_of_cell? w2 _ hN
 have hb2:Below w1.heap.size w1 (w2.drew.alloc ob):=(hb.drew).alloc (by simpa using hb.size) _
 have hP3:Pars w3 bp bt ct ts nv nx:=by
  have hP2:=hP.only (bl:=[]) (.of_below hb2) (by simp) (by simp)
  have ho:OnlyB (match nv.ownBlock with|some k=>[k]|none=>[]) (w2.drew.alloc ob) w3:=by
   refine⟨hg.os,hg.tape,hg.output,hg.size,fun k hk hn=>hg.block k hk (fun e=>hn ?_)⟩
   rw[←e]
   simp
  refine hP2.only ho ?_ ?_
  ·cases e:nv.ownBlock with
   |none=>simp
   |some k=>have:=hrow k e;simp;omega
  ·cases e:nv.ownBlock with
   |none=>simp
   |some k=>have:=hrow k e;simp;omega
 have hkey:∀k,k<w1.heap.size+1→some k≠nv.ownBlock→w3.heap[k]?=w2.heap[k]?:=by
  intro k hk hn
  rw[hg.block k (by simp;omega) hn]
  exact zO w2.drew _ (by simpa using (by omega:k<w2.heap.size))
 refine⟨⟨_,hP3.nodesSet _,?_⟩,?_,?_⟩
 ·rw[j0d,j3O,List.length_append]
  exact ownsRow_setCell_below hown (by simp) _
 ·rw[zX _ _ _ _ (by intro e;injection e with e1 e2;omega),zK (w:=w2) (hkey w1.heap.size (by omega) (fun e=>by have:=hrow _ e.symm;omega))]
  exact hN
 ·refine⟨hg.os.trans hb2.os,hg.tape.trans hb2.tape,hg.output.trans hb2.output,?_,fun k hk=>?_⟩
  ·have:=hg.size
   have:=hb2.size
   simp at *
   omega
  ·rw[Below.heap_setCell w3 _ _ k (by simp;omega),hkey k (by omega) (fun e=>by have:=hrow _ e.symm;omega)]
   exact hb.block k (by omega)
theorem q4a (W:World)(nd:PNode)(t:TypeId):∀j u,(zm nd)[j]?=some u→(W.alloc (.cells (zm nd).toArray t)).cell? ((⟨W.heap.size,0,none⟩:Addr).add j)=some u:=by
 intro j u hj
 rw[q2e,Nat.zero_add,zC _ _ j _ _ _ (zN W _)]
 simpa using hj
theorem q1N (nd:PNode):∀u∈zm nd,u.oneCell'=true:=by simp[zm,Value.oneCell']
theorem q7i:(Tryz.prog.info? 168).map (fun i=>(i.zero,i.size,i.bytes))=some (some (q0Y q4n),22,120):=by kernel_rfl
theorem q3e {w2 w3:World}{bp:Nat}{v nv:Value}{ob:Obj}(hg:(w2.drew.alloc ob).grownBy w3 v.ownBlock)(hrow:∀k,v.ownBlock=some k→bp+1≤k)(hl:bp<w2.heap.size)(hc:w2.cell? ⟨bp,2,none⟩=some nv)(hf:w2.frozen? ⟨bp,2,none⟩=false) :
  w3.cell? ⟨bp,2,none⟩=some nv∧w3.frozen? ⟨bp,2,none⟩=false:=by
 have e:w3.heap[bp]?=w2.heap[bp]?:=by
  rw[hg.block bp (by simp;omega) (fun e=>by have:=hrow bp e.symm;omega)]
  exact zO w2.drew _ (by simpa using hl)
 exact⟨by rw[zK (w:=w2) e];exact hc,by rw[World.frozen?_of_block (w:=w2) e];exact hf⟩
def FormC (bp bt ct:Nat)(ts:List PTok)(d:Nat):Prop:=∀(w:World) (nx:Nat) (ns:List PNode) (dp:Int),dp+d=9→PN w bp bt ct ts nx ns→bt<bp→nx+q4g d≤4000→ns.length+q2O d≤1000 →
 Calls Tryz.prog 71 #[.pointer (some ⟨bp,0,none⟩),.int .i64 dp] w fun e w'=>e=.returned (.bool (qO ts d nx ns.length).1)∧q8p w w' bp bt ct ts ns (qO ts d nx ns.length)
def PartsC (bp bt ct:Nat)(ts:List PTok)(d:Nat):Prop:=∀(w:World) (m:Nat) (ns:List PNode) (nd:PNode) (dp:Int),dp+d=9→PN w bp bt ct ts m (ns++[nd])→bt<bp→m+3+2*q4g d≤4000→ns.length+1+2*q2O d≤1000 →
 Calls Tryz.prog 105 #[.pointer (some ⟨bp,0,none⟩),.int .i64 ns.length,.int .i64 dp] w fun e w'=>e=.returned (.bool (q2L ts (qO ts d) m ns.length nd).1)∧q8p w w' bp bt ct ts ns (q2L ts (qO ts d) m ns.length nd)
theorem j6B (bp bt ct:Nat)(ts:List PTok):FormC bp bt ct ts 0:=by
 intro w nx ns dp hd hpn hbt hn hm
 have hd:dp=9:=by omega
 subst hd
 obtain⟨nv,hP,hown⟩:=hpn
 have H:=zb hP
 clear hP hown hn hm
 go_enter Tryz.func71,Tryz.ntmps71
 go_wp2_with fail
 go_ret
 exact⟨rfl,⟨nv,H.out,fun h=>absurd h (by simp[qO])⟩,zB _ _⟩
theorem qy {P:Program}{o:Oper}{a:Act}{w:World}{K:Act→World→Prop}{Q:Exit→Act→World→Prop}(ty:TypeId)(x:Operand)(ho:o.op=.load ty x)(ad:Addr)(v:Value)(hx:a.eval x=.pointer (some ad))(hr:(Instr.loadAt ty (.pointer (some ad))).run P w=.ok v w)
  (h:K (a.put o.dst v) w):o.wp P a w K Q:=by
 unfold Oper.wp execOp
 simp only[ho,hx,hr,Sem.run_bind,Sem.run_pure,Result.andThen_ok]
 exact h
theorem q1o {P:Program}{o:Oper}{a:Act}{w:World}{K:Act→World→Prop}{Q:Exit→Act→World→Prop}(ty:TypeId)(x:Operand)(ho:o.op=.buildSlice ty 1 #[(0,x)])(v u:Value)(W:World)(hx:a.eval x=v)(hr:(Instr.buildSlice ty 1 #[(0,v)]).run P w=.ok u W)
  (h:K (a.put o.dst u) W):o.wp P a w K Q:=by
 unfold Oper.wp execOp
 simp only[ho,List.map_toArray,List.map_cons,List.map_nil,hx,hr,Sem.run_bind,Sem.run_pure,Result.andThen_ok]
 exact h
theorem q8M (nd:PNode)(w:World):(Instr.buildSlice 80 1 #[(0,q0Y nd)]).run Tryz.prog w=.ok (.slice (some ⟨w.heap.size,0,none⟩) 1 1) (w.alloc (.cells (zm nd).toArray 168)):=by
 simp[Instr.buildSlice,go_sem,zm]
theorem qE {P:Program}{o:Oper}{a:Act}{w:World}{K:Act→World→Prop}{Q:Exit→Act→World→Prop}(ty:TypeId)(x y:Operand)(ho:o.op=.store ty x y)(ad:Addr)(v:Value)(hx:a.eval x=.pointer (some ad))(hy:a.eval y=v)(W':World)(hr:(Instr.storeAt ty (.pointer (some ad)) v).run P w=.ok () W')
  (h:K (a.put o.dst undef) W'):o.wp P a w K Q:=by
 unfold Oper.wp execOp
 simp only[ho,hx,hy,hr,Sem.run_bind,Sem.run_pure,Result.andThen_ok]
 exact h
theorem q0f (W:World)(r:Nat→Int):∃W',(Instr.storeAt 47 (.pointer (some ⟨W.heap.size,0,none⟩)) (zn r)).run Tryz.prog (W.alloc (.cells zCs 47))=.ok () W'∧W'.heap[W.heap.size]?=some (.cells (zx r).toArray 47 (0,0))∧Below W.heap.size W W'∧W'.heap.size=W.heap.size+1:=
 qI (P:=Tryz.prog) 47 W zCs #[.int .u16 (r 0),.int .u16 (r 1),.int .u16 (r 2),.int .u16 (r 3),.int .u16 (r 4),.int .u16 (r 5),.int .u16 (r 6),.int .u16 (r 7),.int .u16 (r 8),.int .u16 (r 9)] (by kernel_rfl) rfl (by simp[Value.oneCell'])
theorem qb {w:World}{b:Nat}{r:Nat→Int}(h:w.heap[b]?=some (.cells (zx r).toArray 47 (0,0))):(Instr.loadAt 47 (.pointer (some ⟨b,0,none⟩))).run Tryz.prog w=.ok (zn r) w:=(Arr.of_row (f:=r) h).load
theorem j1v (V:Value)(nd:PNode)(lb lo:Nat)(vf vs:Value)(hV:V=.agg (q0D nd lb lo vf vs).toArray)(mA:Nat)(hA40:mA≤40)(A:Nat→Nat→Nat→Bool)(j:Nat)(w:World)(hA:Tb w vf mA A) :
  Calls Tryz.prog 169 #[V,.int .i64 j] w fun e w'=>e=.returned (zn (zf fun x y=>q0y nd A x y j))∧Below w.heap.size w w':=by
 obtain⟨fa,fc,rfl⟩:=hA.form
 have HV:=zb hV
 have HA:=zb hA
 have HC:=zb (fun W (h:Tb W (.slice fa mA fc) mA A)=>q0g (.slice fa mA fc) mA A hA40 j W h)
 clear hV hA
 obtain⟨U,hU⟩:∃U,U=zn (zf (A j)):=⟨_,rfl⟩
 rw[←hU]at HC
 have HU:=zb hU
 clear hU
 by_cases hk:nd.kind=14∨nd.kind=16
 ·have hg:(fun x y=>q0y nd A x y j)=A j:=by funext x y;unfold q0y;rw[if_pos hk]
  rw[hg,←HU.out]
  clear hg
  rcases hk with hk|hk
  all_goals
   go_enter Tryz.func169,Tryz.ntmps169
   go_wp2_with (first|(refine qo rfl 182 (.tmp 0) rfl V _ rfl HV.out ?_;intro W0 g0 b0 z0;have c23:=q0q g0 23;simp only[List.getElem?_cons_zero,List.getElem?_cons_succ]at c23;have hl0:w.heap.size<W0.heap.size:=(by omega);have B1:=b0.alloc b0.size (.cells zCs 47);have G1:=zN W0 (.cells zCs 47);have HB1:=zb B1;have HG1:=zb G1;have HZ0:=zb z0;have HG0:=zb g0;clear B1 G1 g0 z0))
   refine(HC.out _ ((HA.out.below b0).below (by exact(zB _ _).alloc (zL _) _))).mono ?_
   rintro e w2 ⟨rfl,b2⟩
   obtain⟨W3,S3,g3,b3,z3⟩:=q0f w2 (zf (A j))
   have b23:Below (W0.alloc (.cells zCs 47)).heap.size (W0.alloc (.cells zCs 47)) W3:=b2.trans (b3.mono b2.size)
   obtain⟨W,S1,LV,BW⟩:=q1k HG1.out (by omega) HB1.out b23 (zf (A j))
   have L3:=qb g3
   rw[←HU.out]at S1 LV S3 L3
   have G03:W3.heap[w.heap.size]?=_:=(b23.block w.heap.size (by simp;omega)).trans ((zO _ _ hl0).trans HG0.out)
   have c0:=q0q G03 0
   simp only[List.getElem?_cons_zero,hk]at c0
   have hl3:w.heap.size<W3.heap.size:=by have:=b23.size;simp at this;omega
   have HW:=zb BW
   clear b2 BW c23 b0 b3 b23 g3 z3 G03
   go_wp2_with (first|(refine ze rfl 47 (.tmp 5) (.tmp 9) rfl ⟨w2.heap.size,0,none⟩ U rfl rfl W3 S3 ?_)|(refine zg rfl 47 (.tmp 5) rfl ⟨w2.heap.size,0,none⟩ U rfl L3 ?_)|(refine ze rfl 47 (.tmp 4) (.tmp 16) rfl ⟨W0.heap.size,0,none⟩ U rfl rfl W S1 ?_))
   exact zP (v:=U) (zr rfl _ _ _ _ rfl LV) rfl ⟨rfl,HW.out⟩
 ·by_cases hk2:nd.kind=15∨nd.kind=17
  ·have hg:(fun x y=>q0y nd A x y j)=(fun x y=>true&&!A j x y):=by funext x y;unfold q0y;rw[if_neg hk,if_pos hk2];simp
   rw[hg]
   have HWO:=zb (q9a (fun _ _=>true) (A j))
   have HAL:=zb q2x
   rw[←HU.out]at HWO
   generalize zf (fun x y=>true&&!A j x y)=r at *
   generalize zf (fun _ _=>true)=ra at *
   obtain⟨T,hT⟩:∃T,T=zn r:=⟨_,rfl⟩
   obtain⟨TA,hTA⟩:∃TA,TA=zn ra:=⟨_,rfl⟩
   rw[←hT]
   rw[←hT,←hTA]at HWO
   rw[←hTA]at HAL
   have HTT:=zb hT
   clear hg hT hTA hk
   rcases hk2 with HKK|HKK
   all_goals
    go_enter Tryz.func169,Tryz.ntmps169
    go_wp2_with (first|(refine qo rfl 182 (.tmp 0) rfl V _ rfl HV.out ?_;intro W0 g0 b0 z0;have c23:=q0q g0 23;simp only[List.getElem?_cons_zero,List.getElem?_cons_succ]at c23;have hl0:w.heap.size<W0.heap.size:=(by omega);have B1:=b0.alloc b0.size (.cells zCs 47);have G1:=zN W0 (.cells zCs 47);have HB1:=zb B1;have HG1:=zb G1;have HZ0:=zb z0;have HG0:=zb g0;clear B1 G1 g0 z0))
    refine(HC.out _ ((HA.out.below b0).below (by exact(zB _ _).alloc (zL _) _))).mono ?_
    rintro e w2 ⟨rfl,b2⟩
    obtain⟨W3,S3,g3,b3,z3⟩:=q0f w2 (zf (A j))
    have b23:Below (W0.alloc (.cells zCs 47)).heap.size (W0.alloc (.cells zCs 47)) W3:=b2.trans (b3.mono b2.size)
    have L3:=fun(W:World) (h:Below W3.heap.size W3 W)=>qb ((h.block w2.heap.size (by omega)).trans g3)
    rw[←HU.out]at S3 L3
    have G03:W3.heap[w.heap.size]?=_:=(b23.block w.heap.size (by simp;omega)).trans ((zO _ _ hl0).trans HG0.out)
    have c0:=q0q G03 0
    simp only[List.getElem?_cons_zero,HKK]at c0
    have hl3:w.heap.size<W3.heap.size:=by have:=b23.size;simp at this;omega
    have HL3:=zb L3
    have HB23:=zb b23
    clear b2 c23 b0 b3 b23 g3 z3 G03 L3
    go_wp2_with (refine ze rfl 47 (.tmp 5) (.tmp 9) rfl ⟨w2.heap.size,0,none⟩ U rfl rfl W3 S3 ?_)
    have fin:∀w7,Below W3.heap.size W3 w7→∃W,(Instr.storeAt 47 (.pointer (some ⟨W0.heap.size,0,none⟩)) T).run Tryz.prog w7=.ok () W∧(loadVar 47 ⟨W0.heap.size,0,none⟩).run Tryz.prog W=.ok T W∧Below w.heap.size w W:=fun w7 b7=>by
     obtain⟨W,S1,LV,BW⟩:=q1k HG1.out (by omega) HB1.out (HB23.out.trans (b7.mono HB23.out.size)) r
     rw[←HTT.out]at S1 LV
     exact⟨W,S1,LV,BW⟩
    have FIN:=zb fin
    clear fin
    refine wp_region_any (by kernel_rfl) ?_
    change wpAny _ _ _ _ _ _ _ (World.drew _)
    refine wpAny_ready (rs:=[0,1]) (by kernel_rfl) (by simp) ?_
    refine AllReady.cons rfl (fun K hK=>?_) (AllReady.cons rfl (fun K hK=>?_) AllReady.nil)
    ·rw[if_pos (by rfl)]
     go_simp
     refine(HAL.out _).mono ?_
     rintro e w4 ⟨rfl,b4⟩
     have B4:Below W3.heap.size W3 w4:=((zB _ _).drew).trans b4
     have L4:=HL3.out _ B4
     go_simp
     refine hK _ _ ?_
     clear hK K b4
     refine wpAny_ready (rs:=[1]) (by kernel_rfl) (by simp) ?_
     refine AllReady.cons rfl (fun K hK=>?_) AllReady.nil
     rw[if_pos (by rfl)]
     refine qy 47 (.tmp 5) rfl ⟨w2.heap.size,0,none⟩ U rfl L4 ?_
     refine hK _ _ ?_
     clear hK K L4
     simp only[Act.put]
     refine wpAny_ready (rs:=[2]) (by kernel_rfl) (by simp) ?_
     refine AllReady.cons rfl (fun K hK=>?_) AllReady.nil
     rw[if_pos (by rfl)]
     go_simp
     refine(HWO.out _).mono ?_
     rintro e w5 ⟨rfl,b5⟩
     obtain⟨W,S1,LV,BW⟩:=FIN.out w5 (B4.trans (b5.mono B4.size))
     have HW:=zb BW
     go_simp
     refine hK _ _ ?_
     clear hK K b5 BW B4
     refine wpAny_ready (rs:=[3]) (by kernel_rfl) (by simp) ?_
     refine AllReady.cons rfl (fun K hK=>?_) AllReady.nil
     rw[if_pos (by rfl)]
     refine qE 47 (.tmp 4) (.tmp 22) rfl ⟨W0.heap.size,0,none⟩ T rfl rfl W S1 ?_
     refine hK _ _ ?_
     clear hK K
     refine wpAny_done (by kernel_rfl) ?_ _
     simp only[Act.put]
     go_wp2_with fail
     exact zP (v:=T) (zr rfl _ _ _ _ rfl LV) rfl ⟨rfl,HW.out⟩
    ·rw[if_pos (by rfl)]
     refine qy 47 (.tmp 5) rfl ⟨w2.heap.size,0,none⟩ U rfl (HL3.out _ ((zB _ _).drew)) ?_
     refine hK _ _ ?_
     clear hK K
     simp only[Act.put]
     refine wpAny_ready (rs:=[0]) (by kernel_rfl) (by simp) ?_
     refine AllReady.cons rfl (fun K hK=>?_) AllReady.nil
     rw[if_pos (by rfl)]
     go_simp
     refine(HAL.out _).mono ?_
     rintro e w4 ⟨rfl,b4⟩
     have B4:Below W3.heap.size W3 w4:=((zB _ _).drew).trans b4
     go_simp
     refine hK _ _ ?_
     clear hK K b4
     refine wpAny_ready (rs:=[2]) (by kernel_rfl) (by simp) ?_
     refine AllReady.cons rfl (fun K hK=>?_) AllReady.nil
     rw[if_pos (by rfl)]
     go_simp
     refine(HWO.out _).mono ?_
     rintro e w5 ⟨rfl,b5⟩
     obtain⟨W,S1,LV,BW⟩:=FIN.out w5 (B4.trans (b5.mono B4.size))
     have HW:=zb BW
     go_simp
     refine hK _ _ ?_
     clear hK K b5 BW B4
     refine wpAny_ready (rs:=[3]) (by kernel_rfl) (by simp) ?_
     refine AllReady.cons rfl (fun K hK=>?_) AllReady.nil
     rw[if_pos (by rfl)]
     refine qE 47 (.tmp 4) (.tmp 22) rfl ⟨W0.heap.size,0,none⟩ T rfl rfl W S1 ?_
     refine hK _ _ ?_
     clear hK K
     refine wpAny_done (by kernel_rfl) ?_ _
     simp only[Act.put]
     go_wp2_with fail
     exact zP (v:=T) (zr rfl _ _ _ _ rfl LV) rfl ⟨rfl,HW.out⟩
  ·have hg:(fun x y=>q0y nd A x y j)=(fun _ _=>true):=by funext x y;unfold q0y;rw[if_neg hk,if_neg hk2]
   rw[hg]
   have HAL:=zb q2x
   generalize zf (fun _ _=>true)=r at *
   obtain⟨T,hT⟩:∃T,T=zn r:=⟨_,rfl⟩
   rw[←hT]
   rw[←hT]at HAL
   have HTT:=zb hT
   have k1:¬nd.kind=14:=fun h=>hk (.inl h)
   have k2:¬nd.kind=16:=fun h=>hk (.inr h)
   have k3:¬nd.kind=15:=fun h=>hk2 (.inl h)
   have k4:¬nd.kind=17:=fun h=>hk2 (.inr h)
   have e1:(nd.kind==14)=false:=by simpa using k1
   have e2:(nd.kind==16)=false:=by simpa using k2
   have e3:(nd.kind==15)=false:=by simpa using k3
   have e4:(nd.kind==17)=false:=by simpa using k4
   generalize hkk:nd.kind=kk at *
   have HKQ:=zb hkk
   clear hT hg hk hk2 hkk
   go_enter Tryz.func169,Tryz.ntmps169
   go_wp2_with (first|(refine qo rfl 182 (.tmp 0) rfl V _ rfl HV.out ?_;intro W0 g0 b0 z0;have c23:=q0q g0 23;simp only[List.getElem?_cons_zero,List.getElem?_cons_succ]at c23;have hl0:w.heap.size<W0.heap.size:=(by omega);have B1:=b0.alloc b0.size (.cells zCs 47);have G1:=zN W0 (.cells zCs 47);have HB1:=zb B1;have HG1:=zb G1;have HZ0:=zb z0;have HG0:=zb g0;clear B1 G1 g0 z0))
   refine(HC.out _ ((HA.out.below b0).below (by exact(zB _ _).alloc (zL _) _))).mono ?_
   rintro e w2 ⟨rfl,b2⟩
   obtain⟨W3,S3,g3,b3,z3⟩:=q0f w2 (zf (A j))
   have b23:Below (W0.alloc (.cells zCs 47)).heap.size (W0.alloc (.cells zCs 47)) W3:=b2.trans (b3.mono b2.size)
   have L3:=fun(W:World) (h:Below W3.heap.size W3 W)=>qb ((h.block w2.heap.size (by omega)).trans g3)
   rw[←HU.out]at S3 L3
   have G03:W3.heap[w.heap.size]?=_:=(b23.block w.heap.size (by simp;omega)).trans ((zO _ _ hl0).trans HG0.out)
   have c0:=q0q G03 0
   simp only[List.getElem?_cons_zero,HKQ.out]at c0
   have hl3:w.heap.size<W3.heap.size:=by have:=b23.size;simp at this;omega
   have HL3:=zb L3
   have HB23:=zb b23
   clear b2 c23 b0 b3 b23 g3 z3 G03 L3
   go_wp2_with (refine ze rfl 47 (.tmp 5) (.tmp 9) rfl ⟨w2.heap.size,0,none⟩ U rfl rfl W3 S3 ?_)
   refine(HAL.out _).mono ?_
   rintro e w5 ⟨rfl,b5⟩
   obtain⟨W,S1,LV,BW⟩:=q1k HG1.out (by omega) HB1.out (HB23.out.trans (b5.mono HB23.out.size)) r
   rw[←HTT.out]at S1 LV
   have HW:=zb BW
   clear b5 BW c0
   go_wp2_with (refine ze rfl 47 (.tmp 4) (.tmp 23) rfl ⟨W0.heap.size,0,none⟩ T rfl rfl W S1 ?_)
   exact zP (v:=T) (zr rfl _ _ _ _ rfl LV) rfl ⟨rfl,HW.out⟩
theorem qJ {P:Program}{ops:Array Oper}{S:World→Prop}{op:Oper}{a:Act}(hw:Region.wanted op (yielded ops a.tmps)=true)(ty:TypeId)(x:Operand)(ho:op.op=.load ty x)(ad:Addr)(v:Value)(hx:a.eval x=.pointer (some ad))
  (hr:∀w,S w→(Instr.loadAt ty (.pointer (some ad))).run P w=.ok v w):YieldsIf P ops S op v a:=
 .inl ⟨hw,fun w hS=>by
  unfold execOp
  simp only[ho,hx,hr w hS,Sem.run_bind,Sem.run_pure,Result.andThen_ok]⟩
structure VwAt (w:World)(lb lo:Nat)(ao:OA)(cap:Nat)(PL:List PPt)(vf vs:Value)(mA mB:Nat)(A B:Nat→Nat→Nat→Bool):Prop where
 log:LogAt w lb lo ao cap PL
 fst:Tb w vf mA A
 snd:Tb w vs mB B
 szA:mA≤40
 szB:mB≤40
theorem VwAt.below {w w':World}{lb lo:Nat}{ao:OA}{cap:Nat}{PL:List PPt}{vf vs:Value}{mA mB:Nat}{A B:Nat→Nat→Nat→Bool}(h:VwAt w lb lo ao cap PL vf vs mA mB A B)(hb:Below w.heap.size w w'):VwAt w' lb lo ao cap PL vf vs mA mB A B:=
 ⟨h.log.below hb,h.fst.below hb,h.snd.below hb,h.szA,h.szB⟩
theorem q1Y {w:World}{b:Nat}{nd:PNode}{lb lo:Nat}{vf vs:Value}(h:w.heap[b]?=some (.cells (q0D nd lb lo vf vs).toArray 182 (0,0))):(Instr.loadAt 182 (.pointer (some ⟨b,0,none⟩))).run Tryz.prog w=.ok (.agg (q0D nd lb lo vf vs).toArray) w:=
 q1s (P:=Tryz.prog) 182 182 w b (q0D nd lb lo vf vs).toArray (0,0) _ h Tryz.underlying182 rfl (by kernel_rfl)
structure FdAt (w wr:World)(nd:PNode)(lb lo:Nat)(vf vs:Value)(bk:Nat)(f k:Nat→Nat→Bool):Prop where
 view:wr.heap[w.heap.size]?=some (.cells (q0D nd lb lo vf vs).toArray 182 (0,0))
 res:wr.heap[w.heap.size+1]?=some (.cells zCs 47 (0,0))
 fnd:wr.heap[w.heap.size+2]?=some (.cells (zx (zf f)).toArray 47 (0,0))
 kep:wr.heap[bk]?=some (.cells (zx (zf k)).toArray 47 (0,0))
 bel:Below w.heap.size w wr
 ge:w.heap.size+3≤bk
theorem zd {w:World}{b:Nat}{o:Obj}(h:w.heap[b]?=some o):b<w.heap.size:=by
 rcases Nat.lt_or_ge b w.heap.size with g|g
 ·exact g
 ·rw[Array.getElem?_eq_none g]at h;simp at h
theorem FdAt.below {w wr w':World}{nd:PNode}{lb lo:Nat}{vf vs:Value}{bk:Nat}{f k:Nat→Nat→Bool}(h:FdAt w wr nd lb lo vf vs bk f k)(hb:Below wr.heap.size wr w'):FdAt w w' nd lb lo vf vs bk f k:=
 ⟨(hb.block _ (zd h.view)).trans h.view,(hb.block _ (zd h.res)).trans h.res,(hb.block _ (zd h.fnd)).trans h.fnd,(hb.block _ (zd h.kep)).trans h.kep,h.bel.trans (hb.mono h.bel.size),h.ge⟩
theorem FdAt.setF {w wr:World}{nd:PNode}{lb lo:Nat}{vf vs:Value}{bk:Nat}{f k:Nat→Nat→Bool}(h:FdAt w wr nd lb lo vf vs bk f k)(g:Nat→Nat→Bool) :
  ∃W,(Instr.storeAt 47 (.pointer (some ⟨w.heap.size+2,0,none⟩)) (zn (zf g))).run Tryz.prog wr=.ok () W∧FdAt w W nd lb lo vf vs bk g k∧∀q,q≠w.heap.size+2→W.heap[q]?=wr.heap[q]?:=by
 obtain⟨W,s1,s2,s3,s4,s5,s6,s7⟩:=q2g wr (w.heap.size+2) _ (zf g) h.fnd rfl
 have hge:=h.ge
 exact⟨W,s1,⟨(s3 _ (by omega)).trans h.view,(s3 _ (by omega)).trans h.res,s2,(s3 _ (by omega)).trans h.kep,⟨s5.trans h.bel.os,s6.trans h.bel.tape,s7.trans h.bel.output,by rw[s4];exact h.bel.size,fun q hq=>by rw[s3 q (by omega)];exact h.bel.block q hq⟩,h.ge⟩,s3⟩
theorem FdAt.setK {w wr:World}{nd:PNode}{lb lo:Nat}{vf vs:Value}{bk:Nat}{f k:Nat→Nat→Bool}(h:FdAt w wr nd lb lo vf vs bk f k)(g:Nat→Nat→Bool) :
  ∃W,(Instr.storeAt 47 (.pointer (some ⟨bk,0,none⟩)) (zn (zf g))).run Tryz.prog wr=.ok () W∧FdAt w W nd lb lo vf vs bk f g∧∀q,q≠bk→W.heap[q]?=wr.heap[q]?:=by
 obtain⟨W,s1,s2,s3,s4,s5,s6,s7⟩:=q2g wr bk _ (zf g) h.kep rfl
 have hge:=h.ge
 exact⟨W,s1,⟨(s3 _ (by omega)).trans h.view,(s3 _ (by omega)).trans h.res,(s3 _ (by omega)).trans h.fnd,s2,⟨s5.trans h.bel.os,s6.trans h.bel.tape,s7.trans h.bel.output,by rw[s4];exact h.bel.size,fun q hq=>by rw[s3 q (by omega)];exact h.bel.block q hq⟩,h.ge⟩,s3⟩
theorem q5f (k v:Int)(d:Nat)(hd:d<10)(w:World) :
  Calls Tryz.prog 179 #[.agg #[.int .i64 k,.int .i64 v],.int .i64 d] w fun e w'=>e=.returned (zn (zf fun x y=>q4T k v d x y))∧Below w.heap.size w w':=by
 have HB1:Hid (Below w.heap.size w ((w.alloc (.cells #[.int .i64 k,.int .i64 v] 163)).alloc (.cells zCs 47))):=zb (((zB _ _).alloc (zL _) _).alloc (by simp) _)
 have G1:((w.alloc (.cells #[.int .i64 k,.int .i64 v] 163)).alloc (.cells zCs 47)).heap[w.heap.size+1]?=some (.cells zCs 47 (0,0)):=by
  have:=zN (w.alloc (.cells #[.int .i64 k,.int .i64 v] 163)) (.cells zCs 47)
  simpa using this
 have HG1:=zb G1
 clear G1
 by_cases hk:k=3∨k=4
 ·have e:(fun x y=>q4T k v d x y)=valS k d:=by
   funext x y
   unfold q4T valS
   rcases hk with rfl|rfl
   ·rw[if_pos rfl,if_pos rfl]
   ·rw[if_neg (by decide),if_pos rfl,if_neg (by decide)]
  rw[e]
  have HC:=zb (j1d k d hd)
  generalize zf (valS k d)=r at *
  obtain⟨T,hT⟩:∃T,T=zn r:=⟨_,rfl⟩
  rw[←hT]at HC ⊢
  have HT:=zb hT
  clear e hT
  rcases hk with rfl|rfl
  all_goals
   go_enter Tryz.func179,Tryz.ntmps179
   go_wp2_with fail
   refine(HC.out _).mono ?_
   rintro e w2 ⟨rfl,b2⟩
   obtain⟨W,S1,LV,BW⟩:=q1k HG1.out (by omega) HB1.out b2 r
   rw[←HT.out]at S1 LV
   have HW:=zb BW
   clear b2 BW
   go_wp2_with (refine ze rfl 47 (.tmp 4) (.tmp 16) rfl ⟨w.heap.size+1,0,none⟩ T rfl rfl W S1 ?_)
   exact zP (v:=T) (zr rfl _ _ _ _ rfl LV) rfl ⟨rfl,HW.out⟩
 ·have k1:¬k=3:=fun h=>hk (.inl h)
  have k2:¬k=4:=fun h=>hk (.inr h)
  have e1:(k==3)=false:=by simpa using k1
  have e2:(k==4)=false:=by simpa using k2
  by_cases hv:v=(d:Int)
  ·have e:(fun x y=>q4T k v d x y)=(fun _ _=>true):=by funext x y;unfold q4T;rw[if_neg k1,if_neg k2,decide_eq_true hv]
   rw[e]
   have HC:=zb q2x
   generalize zf (fun _ _=>true)=r at *
   obtain⟨T,hT⟩:∃T,T=zn r:=⟨_,rfl⟩
   rw[←hT]at HC ⊢
   have HT:=zb hT
   subst hv
   clear e hT hk
   go_enter Tryz.func179,Tryz.ntmps179
   go_wp2_with fail
   refine(HC.out _).mono ?_
   rintro e w2 ⟨rfl,b2⟩
   obtain⟨W,S1,LV,BW⟩:=q1k HG1.out (by omega) HB1.out b2 r
   rw[←HT.out]at S1 LV
   have HW:=zb BW
   clear b2 BW
   go_wp2_with (refine ze rfl 47 (.tmp 4) (.tmp 21) rfl ⟨w.heap.size+1,0,none⟩ T rfl rfl W S1 ?_)
   exact zP (v:=T) (zr rfl _ _ _ _ rfl LV) rfl ⟨rfl,HW.out⟩
  ·have e:(fun x y=>q4T k v d x y)=(fun _ _=>false):=by funext x y;unfold q4T;rw[if_neg k1,if_neg k2,decide_eq_false hv]
   rw[e,q4s (fun _ _=>rfl)]
   have e3:(v==(d:Int))=false:=by simpa using hv
   clear e hk HB1 HG1
   go_enter Tryz.func179,Tryz.ntmps179
   go_wp2_with fail
   exact zP (v:=zn fun _=>0) (by simp[results,Tryz.results179,go_sem]) rfl ⟨rfl,((zB _ _).alloc (zL _) _).alloc (by simp) _⟩
theorem j6h (xs:Array Value)(j:Nat)(v:Value)(h:xs[j]?=some v)(w:World):(part 5 xs j).run Tryz.prog w=.ok v w:=by
 simp[part,go_sem,h]
theorem q2k (xs ys:Array Value)(w:World)(j:Nat)(is:List Nat)(a b:Int)(r:Bool)(h1:xs[j]?=some (.int .u8 a))(h2:ys[j]?=some (.int .u8 b))(hr:(Op.eqItems 9999 5 1 xs ys is).run Tryz.prog w=.ok r w):(Op.eqItems 9999 5 1 xs ys (j::is)).run Tryz.prog w=.ok (a==b&&r) w:=by
 have he:(Op.equalIn 9999 5 (.int .u8 a) (.int .u8 b)).run Tryz.prog w=.ok (a==b) w:=run_equalIn_int w 9998 5 .u8 .u8 a b Tryz.underlying5
 simp only[Op.eqItems,Sem.run_bind,Nat.mul_one,j6h _ _ _ h1,j6h _ _ _ h2,Result.andThen_ok,he]
 cases a==b
 ·rfl
 ·simpa using hr
theorem j6l (a c:By)(w:World):(Op.equalIn 10000 127 (q3s a) (q3s c)).run Tryz.prog w=.ok (q7L a c) w:=by
 obtain⟨i,hi⟩:∃i,Tryz.prog.info? 5=some i:=⟨Tryz.t5,by kernel_rfl⟩
 rw[show(10000:Nat)=9999+1 from rfl,run_equalIn_array w 9999 _ _ Tryz.underlying127 hi,show Tryz.prog.cellsOf 5=1 by kernel_rfl]
 have e:q7L a c=(zj a 0==zj c 0&&(zj a 1==zj c 1&&(zj a 2==zj c 2&&(zj a 3==zj c 3&&(zj a 4==zj c 4&&(zj a 5==zj c 5&&(zj a 6==zj c 6&&(zj a 7==zj c 7&&true)))))))):=by
  unfold q7L
  rw[show List.range 8=[0,1,2,3,4,5,6,7] from rfl]
  rfl
 rw[e,show List.range 8=[0,1,2,3,4,5,6,7] from rfl]
 refine q2k _ _ w 0 _ _ _ _ rfl rfl (q2k _ _ w 1 _ _ _ _ rfl rfl (q2k _ _ w 2 _ _ _ _ rfl rfl (q2k _ _ w 3 _ _ _ _ rfl rfl (q2k _ _ w 4 _ _ _ _ rfl rfl (q2k _ _ w 5 _ _ _ _ rfl rfl (q2k _ _ w 6 _ _ _ _ rfl rfl (q2k _ _ w 7 _ _ _ _ rfl rfl ?_)))))))
 rfl
theorem j6r {P:Program}(w:World)(base:Nat)(t ty e:TypeId)(i:TypeInfo)(z:Value)(size bytes:Nat)(ht:P.underlying t=some (.slice e))(hi:P.info? e=some i)(hz:i.zero=some z)
  (hsize:i.size=size)(hby:i.bytes=bytes)(hzs:z.cells.size=size)(hsz:0<size)
  (v:Value)(n:Nat)(xs:List Value)(hown:w.ownsRow base e size v n xs)
  (a:Addr)(m c:Nat)(news:List Value)(hl:news.length=m*size)(hnews:∀j u,news[j]?=some u→w.cell? (a.add j)=some u)(h1:∀u∈news,u.oneCell'=true)
  (h63:n+m≤maxLen)(hbytes:(n+m)*bytes≤140737488355328)(hbase:base≤w.heap.size)(hm:0<m) :
  ∃v' w',(Builtin.append_ #[t,t] ty #[v,.slice (some a) m c]).run P w=.ok v' w'∧w'.ownsRow base e size v' (n+m) (xs++news)∧w.grownBy w' v.ownBlock∧(v'.ownBlock=v.ownBlock∨v'.ownBlock=some w.heap.size):=by
 obtain⟨v',w',hr,h2,h3,_⟩:=run_append_own (P:=P) w base t ty e i z size bytes ht hi hz hsize hby hzs hsz v n xs hown a m c news hl hnews h1 h63 hbytes hbase
 refine⟨v',w',hr,h2,h3,?_⟩
 subst hsize
 subst hby
 have hsmall:n+m≤9223372036854775807:=by simp only[maxLen]at h63;omega
 rcases hown.2 with⟨rfl,rfl⟩|⟨g,cap,cur,rfl,hbg,hg,hnc,hcm,hcs,htake⟩
 ·have hr2:=run_append_nil (P:=P) w t ty e i z ht hi hz a m c news hl hnews (by omega) (by omega) (by have hb:=hbytes;simp only[Nat.zero_add]at hb;omega)
  rw[hr]at hr2
  injection hr2 with e1 _
  right
  rw[e1]
  rfl
 ·by_cases hroom:n+m≤cap
  ·have hfit:n*i.size+news.length≤cur.size:=by rw[hl,hcs,←Nat.add_mul];exact zU _ hroom
   have hr2:=run_append_room (P:=P) w t ty e i ht hi g n cap cur hg a m c news hl hnews h1 hroom hfit
   rw[hr]at hr2
   injection hr2 with e1 _
   left
   rw[e1]
   rfl
  ·have holds:∀j u,xs[j]?=some u→w.cell? ((⟨g,0,none⟩:Addr).add j)=some u:=hown.cells (g:=g) rfl
   have hr2:=run_append_grow (P:=P) w t ty e i z ht hi hz ⟨g,0,none⟩ n cap xs hown.1 holds a m c news hl hnews (by omega) (by omega) (growslice_fits (by omega) hbytes)
   rw[hr]at hr2
   injection hr2 with e1 _
   right
   rw[e1]
   rfl
theorem q4v {P:Program}{ops:Array Oper}{o:Oper}{a:Act}{w:World}{K:Act→World→Prop}{Q:Exit→Act→World→Prop}{E:Prop}
  (hg:o.guard=none)(s x:Operand)(t:TypeId)(hop:o.op=Op.call {callee:=Callee.builtin Builtin.append,args:=#[s,x],argTypes:=#[t,t]})
  (base:Nat)(e:TypeId){i:TypeInfo}{z:Value}{size bytes:Nat}(ht:P.underlying t=some (.slice e))(hi:P.info? e=some i)(hz:i.zero=some z)(hsize:i.size=size)(hby:i.bytes=bytes)(hzs:z.cells.size=size)(hsz:0<size)
  (v:Value)(n:Nat)(xs:List Value)(hs:a.eval s=v)(hown:w.ownsRow base e size v n xs)
  (ad:Addr)(m c:Nat)(news:List Value)(hx:a.eval x=.slice (some ad) m c)(hl:news.length=m*size)(hnews:∀j u,news[j]?=some u→w.cell? (ad.add j)=some u)(h1:∀u∈news,u.oneCell'=true)
  (h63:n+m≤maxLen)(hbytes:(n+m)*bytes≤140737488355328)(hbase:base≤w.heap.size)(hm:0<m)
  (hK:∀v' w',w'.ownsRow base e size v' (n+m) (xs++news)→w.grownBy w' v.ownBlock→(v'.ownBlock=v.ownBlock∨v'.ownBlock=some w.heap.size)→K (a.put o.dst v') w') :
  if Region.wanted o (yielded ops a.tmps)=true then Oper.wp P o a w K Q else E:=by
 have hw:Region.wanted o (yielded ops a.tmps)=true:=by simp[Region.wanted,hg]
 rw[if_pos hw]
 obtain⟨v',w',hr,h2,h3,h4⟩:=j6r (P:=P) w base t o.type e i z size bytes ht hi hz hsize hby hzs hsz v n xs hown ad m c news hl hnews h1 h63 hbytes hbase hm
 unfold Oper.wp execOp
 simp only[hop,resolve,invoke,builtin,Sem.run_bind,Sem.run_pure,Result.andThen_ok,List.map_toArray,List.map_cons,List.map_nil,hs,hx,hr]
 exact hK v' w' h2 h3 h4
theorem j3h (bp bt ct:Nat)(ts:List PTok)(d:Nat)(hd8:d<8)(w:World)(nx:Nat)(ns:List PNode)(dp:Int)(hd:dp+(d+1:Nat)=9)(hpn:PN w bp bt ct ts nx ns)(_hbt:bt<bp)(hn:nx+q4g (d+1)≤4000)(hm:ns.length+q2O (d+1)≤1000)(hcase:(q0E ts nx).1=false) :
  Calls Tryz.prog 71 #[.pointer (some ⟨bp,0,none⟩),.int .i64 dp] w fun e w'=>e=.returned (.bool (qO ts (d+1) nx ns.length).1)∧q8p w w' bp bt ct ts ns (qO ts (d+1) nx ns.length):=by
 have HC:=zb hcase
 clear hcase
 have hdp1:1≤dp:=by omega
 have hdp8:dp≤8:=by omega
 have HD:Hid (dp+1+d=9):=zb (by omega)
 have hn6:nx≤4000:=by omega
 have HL:=zb (q7B ts nx)
 obtain⟨nv,hP,hown⟩:=hpn
 have HO:=zb hown
 have hh:=q8i bp bt ct ts nv nx w hP (by omega)
 generalize hr:qO ts (d+1) nx ns.length=r
 have HT:=zb hr
 have HN:Hid (nx+9+2*q4g d≤4000∧ns.length+1+2*q2O d≤1000):=zb (by simp only[q4g,q2O]at hn hm;omega)
 clear hr hown hn hm hd
 generalize hhd:q0E ts nx=hr at *
 have HH:=zb hhd
 clear hhd
 obtain⟨ok,m,nd⟩:=hr
 obtain⟨V,hV⟩:∃V,V=q0Y nd:=⟨_,rfl⟩
 rw[←hV]at hh
 have HV:=zb hV
 clear hV
 have H:=zb hP
 have hlt:=hP.lt.2
 clear hP
 go_enter Tryz.func71,Tryz.ntmps71
 go_wp2_with fail
 refine hh.mono ?_
 rintro e w1 ⟨rfl,hP1,ho1⟩
 have hown1:=q1P HO.out ho1 (by simp)
 obtain⟨ao,cap,rfl⟩:=qt hown1
 have hrow:=hown1.lt
 have hl1:=hP1.lt.2
 obtain⟨w2,hst2,hB2,hb2,hs2⟩:=qI (P:=Tryz.prog) 168 w1 (zm q4n).toArray (zm nd).toArray (by kernel_rfl) rfl (by simp[zm,Value.oneCell'])
 rw[show Value.agg (zm nd).toArray=V from HV.out.symm]at hst2
 simp only[zm]at hst2
 have HP1:=zb hP1
 have HO1:=zb hown1
 have HB2:=zb hB2
 have HS2:=zb hs2
 clear hh hP1 hown1 hB2 hs2
 simp only[]at *
 have hok:ok=false:=by have:=HC.out;simpa using this
 subst hok
 have er:=HT.out
 rw[qO,HH.out]at er
 simp only[Bool.false_eq_true,if_false]at er
 subst er
 go_wp2_with (refine ze rfl 168 (.tmp 5) (.tmp 13) rfl ⟨w1.heap.size,0,none⟩ _ rfl rfl w2 hst2 ?_)
 go_ret
 exact⟨rfl,⟨_,HP1.out.only (bl:=[]) (.of_below hb2) (by simp) (by simp),fun h=>absurd h (by simp)⟩,(ho1.below (B:=bp) (by omega) (by simp)).trans (hb2.mono (by omega))⟩
end Go.Proofs.YtiamjjonoeaggaaGreatDoor
