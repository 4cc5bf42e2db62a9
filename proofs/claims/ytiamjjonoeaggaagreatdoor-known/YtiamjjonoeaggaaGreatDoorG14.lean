import Derived.Test.YtiamjjonoeaggaaGreatDoorGA
import Derived.Test.YtiamjjonoeaggaaGreatDoorGB
import Derived.Test.YtiamjjonoeaggaaGreatDoorG02
import Derived.Test.YtiamjjonoeaggaaGreatDoorG09
import Derived.Test.YtiamjjonoeaggaaGreatDoorG10
import Derived.Test.YtiamjjonoeaggaaGreatDoorG12
import Derived.Test.YtiamjjonoeaggaaGreatDoorG13
import Derived.Deep.RegionLaw
import Derived.Laws.OwnMore
import Derived.Deep.RegionHeld
import Derived.Lib.SmallJoins
set_option maxRecDepth 100000
set_option maxHeartbeats 16000000
namespace Go.Proofs.YtiamjjonoeaggaaGreatDoor
open Go.RowKit
theorem q0B {P:Program}{ops:Array Oper}{o:Oper}{a:Act}{w:World}{K:Act→World→Prop}{Q:Exit→Act→World→Prop}{E:Prop}
  (hg:o.guard=none)(s x:Operand)(t:TypeId)(hop:o.op=Op.call {callee:=Callee.builtin Builtin.append,args:=#[s,x],argTypes:=#[t,t]})
  (base:Nat)(e:TypeId){i:TypeInfo}{z:Value}{size bytes:Nat}(ht:P.underlying t=some (.slice e))(hi:P.info? e=some i)(hz:i.zero=some z)(hsize:i.size=size)(hby:i.bytes=bytes)(hzs:z.cells.size=size)(hsz:0<size)
  (v:Value)(n:Nat)(xs:List Value)(hs:a.eval s=v)(hown:w.ownsRow base e size v n xs)
  (ad:Addr)(m c:Nat)(news:List Value)(hx:a.eval x=.slice (some ad) m c)(hl:news.length=m*size)(hnews:∀j u,news[j]?=some u→w.cell? (ad.add j)=some u)(h1:∀u∈news,u.oneCell'=true)
  (h63:n+m≤maxLen)(hbytes:(n+m)*bytes≤140737488355328)(hbase:base≤w.heap.size)
  (hK:∀v' w',w'.ownsRow base e size v' (n+m) (xs++news)→w.grownBy w' v.ownBlock→K (a.put o.dst v') w') :
  if Region.wanted o (yielded ops a.tmps)=true then Oper.wp P o a w K Q else E:=by
 have hw:Region.wanted o (yielded ops a.tmps)=true:=by simp[Region.wanted,hg]
 rw[if_pos hw]
 exact wp_append_own w s x t hop base e i z size bytes ht hi hz hsize hby hzs hsz v n xs hs hown ad m c news hx hl hnews h1 h63 hbytes hbase (fun v' w' a b _=>hK v' w' a b)
def qr (l:List PNode):List Value:=l.flatMap zq
theorem q3E (l:List PNode):(qr l).length=l.length*22:=by
 induction l with
 |nil=>rfl
 |cons n r ih =>
  have e:qr (n::r)=zq n++qr r:=by simp[qr]
  have e2:(zq n).length=22:=rfl
  rw[e,List.length_append,ih,e2,List.length_cons]
  omega
theorem j1f (l r:List PNode):qr (l++r)=qr l++qr r:=by simp[qr]
theorem j5t (n:PNode):qr [n]=zq n:=by simp[qr]
theorem j1g (l r:List PNode)(n:PNode)(j:Nat)(hj:j<22):(qr (l++n::r))[l.length*22+j]?=(zq n)[j]?:=by
 have e:qr (l++n::r)=qr l++(zq n++qr r):=by simp[qr]
 have e2:(zq n).length=22:=rfl
 rw[e,List.getElem?_append_right (by rw[q3E];omega),q3E,List.getElem?_append_left (by omega)]
 congr 1
 omega
theorem j5u (l r:List PNode)(n n':PNode)(j:Nat)(hj:j<22)(u:Value)(he:zq n'=(zq n).set j u):(qr (l++n::r)).set (l.length*22+j) u=qr (l++n'::r):=by
 have e:∀n,qr (l++n::r)=qr l++(zq n++qr r):=by intro n;simp[qr]
 have e2:(zq n).length=22:=rfl
 rw[e,e,List.set_append_right _ _ (by rw[q3E];omega),q3E,show l.length*22+j-l.length*22=j by omega,List.set_append_left _ _ (by omega),he]
theorem args_le (ts:List PTok)(nx:Nat)(nd:PNode):(q7I ts nx nd).2.1≤nx+5:=by
 unfold q7I q7J
 repeat' split
 all_goals (simp only[];omega)
theorem span_le (ts:List PTok)(nx:Nat)(nd:PNode):(q3K ts nx nd).2.1≤nx+5:=by
 unfold q3K
 repeat' split
 all_goals (simp only[];omega)
theorem q8y (ts:List PTok)(nx:Nat):(q0Y ts nx).2.1≤nx+6:=by
 unfold q0Y
 have a:=args_le ts (nx+1) (q1o (zt ts nx))
 have b:=span_le ts (nx+1) (q1o (zt ts nx))
 repeat' split
 all_goals first|omega|(simp only[];omega)
theorem parts_le (ts:List PTok)(F:Nat→Nat→Bool × Nat × List PNode)(c:Nat)(hF:∀nx base,(F nx base).2.1≤nx+c)(m base:Nat)(nd:PNode):(q3e ts F m base nd).2.1≤m+3+2*c:=by
 unfold q3e
 have a:=hF (m+1) (base+1)
 have b:=hF ((F (m+1) (base+1)).2.1+1) (base+1+(F (m+1) (base+1)).2.2.length)
 repeat' split
 all_goals (simp only[];omega)
def q4P:Nat→Nat
 | 0=>0
 |d+1=>9+2*q4P d
theorem j3q (ts:List PTok):∀d nx base,(q0f ts d nx base).2.1≤nx+q4P d:=by
 intro d
 induction d with
 |zero=>intro nx base;simp[q0f,q4P]
 |succ d ih =>
  intro nx base
  have h:=q8y ts nx
  have p:=parts_le ts (q0f ts d) (q4P d) ih (q0Y ts nx).2.1 base (q0Y ts nx).2.2
  rw[q0f]
  repeat' split
  all_goals (simp only[q4P];omega)
def q3g:Nat→Nat
 | 0=>0
 |d+1=>1+2*q3g d
theorem j7j (ts:List PTok)(F:Nat→Nat→Bool × Nat × List PNode)(c:Nat)(hF:∀nx base,(F nx base).2.2.length≤c)(m base:Nat)(nd:PNode):(q3e ts F m base nd).2.2.length≤1+2*c:=by
 unfold q3e
 have a:=hF (m+1) (base+1)
 have b:=hF ((F (m+1) (base+1)).2.1+1) (base+1+(F (m+1) (base+1)).2.2.length)
 repeat' split
 all_goals (simp only[List.length_cons,List.length_append,List.length_nil];omega)
theorem j8L (ts:List PTok):∀d nx base,(q0f ts d nx base).2.2.length≤q3g d:=by
 intro d
 induction d with
 |zero=>intro nx base;simp[q0f,q3g]
 |succ d ih =>
  intro nx base
  have p:=j7j ts (q0f ts d) (q3g d) ih (q0Y ts nx).2.1 base (q0Y ts nx).2.2
  rw[q0f]
  repeat' split
  all_goals (simp only[q3g,List.length_cons,List.length_nil];omega)
def PN (w:World)(bp bt ct:Nat)(ts:List PTok)(nx:Nat)(ns:List PNode):Prop:=∃nv,Pars w bp bt ct ts nv nx∧w.ownsRow (bp+1) 168 22 nv ns.length (qr ns)
theorem q2n {w w':World}{bl:List Nat}{base:Nat}{e:TypeId}{size:Nat}{v:Value}{n:Nat}{xs:List Value}(h:w.ownsRow base e size v n xs)(ho:OnlyB bl w w')(hb:∀k∈bl,k<base):w'.ownsRow base e size v n xs:=by
 refine⟨h.1,?_⟩
 rcases h.2 with hn|⟨g,cap,cur,rfl,hb',hgg,rest⟩
 ·exact .inl hn
 ·refine .inr ⟨g,cap,cur,rfl,hb',?_,rest⟩
  rw[ho.block g (Array.getElem?_eq_some_iff.1 hgg).1 (fun hm=>by have:=hb g hm;omega)]
  exact hgg
theorem PN.only {w w':World}{bp bt ct:Nat}{ts:List PTok}{nx:Nat}{ns:List PNode}(h:PN w bp bt ct ts nx ns)(ho:OnlyB [] w w'):PN w' bp bt ct ts nx ns:=by
 obtain⟨nv,h1,h2⟩:=h
 exact⟨nv,h1.only ho (by simp) (by simp),q2n h2 ho (by simp)⟩
def q9j (w w':World)(bp bt ct:Nat)(ts:List PTok)(ns:List PNode)(o:Bool × Nat × List PNode):Prop:=
 (∃nv,Pars w' bp bt ct ts nv o.2.1∧(o.1=true→w'.ownsRow (bp+1) 168 22 nv (ns++o.2.2).length (qr (ns++o.2.2))))∧Below bp w w'
theorem ql {w:World}{base:Nat}{e:TypeId}{size:Nat}{v:Value}{n:Nat}{xs:List Value}(h:w.ownsRow base e size v n xs):∃ao cap,v=.slice ao n cap:=by
 rcases h.2 with⟨rfl,rfl⟩|⟨g,cap,cur,rfl,_⟩
 ·exact⟨none,0,rfl⟩
 ·exact⟨_,cap,rfl⟩
theorem Pars.nodesSet {w:World}{bp bt ct:Nat}{ts:List PTok}{nv:Value}{nx:Nat}(h:Pars w bp bt ct ts nv nx)(u:Value):Pars (w.setCell ⟨bp,2,none⟩ u) bp bt ct ts u nx:=by
 refine⟨?_,?_,zS w _ _ h.nodes,fun o=>by rw[World.frozen?_setCell];exact h.free o,h.cap,h.ne,by simpa using h.lt,fun i hi j hj=>?_⟩
 ·rw[zX w _ _ _ (by intro e;injection e with e1 e2;simp at e2)];exact h.toks
 ·rw[zX w _ _ _ (by intro e;injection e with e1 e2;simp at e2)];exact h.next
 ·rw[zX w _ _ _ (by intro e;injection e with e1 e2;exact h.ne e1.symm)];exact h.cells i hi j hj
theorem q1E {w1 w2 w3:World}{bp bt ct:Nat}{ts:List PTok}{nv:Value}{nx:Nat}{ns:List PNode}{nd:PNode}{ob:Obj}(hP:Pars w1 bp bt ct ts nv nx)(hbt:bt<bp)(hb:Below w1.heap.size w1 w2)(hrow:∀k,nv.ownBlock=some k→bp+1≤k∧k<w1.heap.size)
  (hN:w2.cell? ⟨w1.heap.size,0,none⟩=some (.int .i64 nd.kind))(hg:(w2.drew.alloc ob).grownBy w3 nv.ownBlock){g cap:Nat}(hown:w3.ownsRow (bp+1) 168 22 (.slice (some ⟨g,0,none⟩) (ns.length+1) cap) (ns.length+1) (qr ns++zq nd)) :
  PN (w3.setCell ⟨bp,2,none⟩ (.slice (some ⟨g,0,none⟩) (ns.length+1) cap)) bp bt ct ts nx (ns++[nd])∧(w3.setCell ⟨bp,2,none⟩ (.slice (some ⟨g,0,none⟩) (ns.length+1) cap)).cell? ⟨w1.heap.size,0,none⟩=some (.int .i64 nd.kind)∧Below bp w1 (w3.setCell ⟨bp,2,none⟩ (.slice (some ⟨g,0,none⟩) (ns.length+1) cap)):=by
 have hl:=hP.lt.2
 have hs2:w1.heap.size<w2.heap.size:=World.block_lt_of_cell? w2 _ hN
 have hb2:Below w1.heap.size w1 (w2.drew.alloc ob):=(hb.drew).alloc (by simpa using hb.size) _
 have hP3:Pars w3 bp bt ct ts nv nx:=by
  have hP2:=hP.only (bl:=[]) (.of_below hb2) (by simp) (by simp)
  have ho:OnlyB (match nv.ownBlock with|some k=>[k]|none=>[]) (w2.drew.alloc ob) w3:=by
   refine⟨hg.os,hg.tape,hg.output,hg.size,fun k hk hn=>hg.block k hk (fun e=>hn ?_)⟩
   rw[←e]
   simp
  refine hP2.only ho ?_ ?_
  ·cases e:nv.ownBlock with
   |none=>simp
   |some k=>have:=hrow k e;simp;omega
  ·cases e:nv.ownBlock with
   |none=>simp
   |some k=>have:=hrow k e;simp;omega
 have hkey:∀k,k<w1.heap.size+1→some k≠nv.ownBlock→w3.heap[k]?=w2.heap[k]?:=by
  intro k hk hn
  rw[hg.block k (by simp;omega) hn]
  exact zO w2.drew _ (by simpa using (by omega:k<w2.heap.size))
 refine⟨⟨_,hP3.nodesSet _,?_⟩,?_,?_⟩
 ·rw[j1f,j5t,List.length_append]
  exact ownsRow_setCell_below hown (by simp) _
 ·rw[zX _ _ _ _ (by intro e;injection e with e1 e2;omega),zK (w:=w2) (hkey w1.heap.size (by omega) (fun e=>by have:=hrow _ e.symm;omega))]
  exact hN
 ·refine⟨hg.os.trans hb2.os,hg.tape.trans hb2.tape,hg.output.trans hb2.output,?_,fun k hk=>?_⟩
  ·have:=hg.size
   have:=hb2.size
   simp at *
   omega
  ·rw[Below.heap_setCell w3 _ _ k (by simp;omega),hkey k (by omega) (fun e=>by have:=hrow _ e.symm;omega)]
   exact hb.block k (by omega)
theorem q4H (W:World)(nd:PNode)(t:TypeId):∀j u,(zq nd)[j]?=some u→(W.alloc (.cells (zq nd).toArray t)).cell? ((⟨W.heap.size,0,none⟩:Addr).add j)=some u:=by
 intro j u hj
 rw[q4l,Nat.zero_add,zC _ _ j _ _ _ (zN W _)]
 simpa using hj
theorem q2m (nd:PNode):∀u∈zq nd,u.oneCell'=true:=by simp[zq,Value.oneCell']
theorem q8e:(Tryz.prog.info? 168).map (fun i=>(i.zero,i.size,i.bytes))=some (some (q1w q4X),22,120):=by kernel_rfl
theorem q3B {w2 w3:World}{bp:Nat}{v nv:Value}{ob:Obj}(hg:(w2.drew.alloc ob).grownBy w3 v.ownBlock)(hrow:∀k,v.ownBlock=some k→bp+1≤k)(hl:bp<w2.heap.size)(hc:w2.cell? ⟨bp,2,none⟩=some nv)(hf:w2.frozen? ⟨bp,2,none⟩=false) :
  w3.cell? ⟨bp,2,none⟩=some nv∧w3.frozen? ⟨bp,2,none⟩=false:=by
 have e:w3.heap[bp]?=w2.heap[bp]?:=by
  rw[hg.block bp (by simp;omega) (fun e=>by have:=hrow bp e.symm;omega)]
  exact zO w2.drew _ (by simpa using hl)
 exact⟨by rw[zK (w:=w2) e];exact hc,by rw[World.frozen?_of_block (w:=w2) e];exact hf⟩
def FormC (bp bt ct:Nat)(ts:List PTok)(d:Nat):Prop:=∀(w:World) (nx:Nat) (ns:List PNode) (dp:Int),dp+d=9→PN w bp bt ct ts nx ns→bt<bp→nx+q4P d≤4000→ns.length+q3g d≤1000 →
 Calls Tryz.prog 71 #[.pointer (some ⟨bp,0,none⟩),.int .i64 dp] w fun e w'=>e=.returned (.bool (q0f ts d nx ns.length).1)∧q9j w w' bp bt ct ts ns (q0f ts d nx ns.length)
def PartsC (bp bt ct:Nat)(ts:List PTok)(d:Nat):Prop:=∀(w:World) (m:Nat) (ns:List PNode) (nd:PNode) (dp:Int),dp+d=9→PN w bp bt ct ts m (ns++[nd])→bt<bp→m+3+2*q4P d≤4000→ns.length+1+2*q3g d≤1000 →
 Calls Tryz.prog 105 #[.pointer (some ⟨bp,0,none⟩),.int .i64 ns.length,.int .i64 dp] w fun e w'=>e=.returned (.bool (q3e ts (q0f ts d) m ns.length nd).1)∧q9j w w' bp bt ct ts ns (q3e ts (q0f ts d) m ns.length nd)
theorem j8M (bp bt ct:Nat)(ts:List PTok):FormC bp bt ct ts 0:=by
 intro w nx ns dp hd hpn hbt hn hm
 have hd:dp=9:=by omega
 subst hd
 obtain⟨nv,hP,hown⟩:=hpn
 have H:=zb hP
 clear hP hown hn hm
 go_enter Tryz.func71,Tryz.ntmps71
 go_wp2_with fail
 go_ret
 exact⟨rfl,⟨nv,H.out,fun h=>absurd h (by simp[q0f])⟩,zB _ _⟩
theorem q0b {P:Program}{o:Oper}{a:Act}{w:World}{K:Act→World→Prop}{Q:Exit→Act→World→Prop}(ty:TypeId)(x:Operand)(ho:o.op=.load ty x)(ad:Addr)(v:Value)(hx:a.eval x=.pointer (some ad))(hr:(Instr.loadAt ty (.pointer (some ad))).run P w=.ok v w)
  (h:K (a.put o.dst v) w):o.wp P a w K Q:=by
 unfold Oper.wp execOp
 simp only[ho,hx,hr,Sem.run_bind,Sem.run_pure,Result.andThen_ok]
 exact h
theorem q1I {P:Program}{o:Oper}{a:Act}{w:World}{K:Act→World→Prop}{Q:Exit→Act→World→Prop}(ty:TypeId)(x:Operand)(ho:o.op=.buildSlice ty 1 #[(0,x)])(v u:Value)(W:World)(hx:a.eval x=v)(hr:(Instr.buildSlice ty 1 #[(0,v)]).run P w=.ok u W)
  (h:K (a.put o.dst u) W):o.wp P a w K Q:=by
 unfold Oper.wp execOp
 simp only[ho,List.map_toArray,List.map_cons,List.map_nil,hx,hr,Sem.run_bind,Sem.run_pure,Result.andThen_ok]
 exact h
theorem q9M (nd:PNode)(w:World):(Instr.buildSlice 80 1 #[(0,q1w nd)]).run Tryz.prog w=.ok (.slice (some ⟨w.heap.size,0,none⟩) 1 1) (w.alloc (.cells (zq nd).toArray 168)):=by
 simp[Instr.buildSlice,go_sem,zq]
theorem j8y {P:Program}(w:World)(base:Nat)(t ty e:TypeId)(i:TypeInfo)(z:Value)(size bytes:Nat)(ht:P.underlying t=some (.slice e))(hi:P.info? e=some i)(hz:i.zero=some z)
  (hsize:i.size=size)(hby:i.bytes=bytes)(hzs:z.cells.size=size)(hsz:0<size)
  (v:Value)(n:Nat)(xs:List Value)(hown:w.ownsRow base e size v n xs)
  (a:Addr)(m c:Nat)(news:List Value)(hl:news.length=m*size)(hnews:∀j u,news[j]?=some u→w.cell? (a.add j)=some u)(h1:∀u∈news,u.oneCell'=true)
  (h63:n+m≤maxLen)(hbytes:(n+m)*bytes≤140737488355328)(hbase:base≤w.heap.size)(hm:0<m) :
  ∃v' w',(Builtin.append_ #[t,t] ty #[v,.slice (some a) m c]).run P w=.ok v' w'∧w'.ownsRow base e size v' (n+m) (xs++news)∧w.grownBy w' v.ownBlock∧(v'.ownBlock=v.ownBlock∨v'.ownBlock=some w.heap.size):=by
 obtain⟨v',w',hr,h2,h3,_⟩:=run_append_own (P:=P) w base t ty e i z size bytes ht hi hz hsize hby hzs hsz v n xs hown a m c news hl hnews h1 h63 hbytes hbase
 refine⟨v',w',hr,h2,h3,?_⟩
 subst hsize
 subst hby
 have hsmall:n+m≤9223372036854775807:=by simp only[maxLen]at h63;omega
 rcases hown.2 with⟨rfl,rfl⟩|⟨g,cap,cur,rfl,hbg,hg,hnc,hcm,hcs,htake⟩
 ·have hr2:=run_append_nil (P:=P) w t ty e i z ht hi hz a m c news hl hnews (by omega) (by omega) (by have hb:=hbytes;simp only[Nat.zero_add]at hb;omega)
  rw[hr]at hr2
  injection hr2 with e1 _
  right
  rw[e1]
  rfl
 ·by_cases hroom:n+m≤cap
  ·have hfit:n*i.size+news.length≤cur.size:=by rw[hl,hcs,←Nat.add_mul];exact zU _ hroom
   have hr2:=run_append_room (P:=P) w t ty e i ht hi g n cap cur hg a m c news hl hnews h1 hroom hfit
   rw[hr]at hr2
   injection hr2 with e1 _
   left
   rw[e1]
   rfl
  ·have holds:∀j u,xs[j]?=some u→w.cell? ((⟨g,0,none⟩:Addr).add j)=some u:=hown.cells (g:=g) rfl
   have hr2:=run_append_grow (P:=P) w t ty e i z ht hi hz ⟨g,0,none⟩ n cap xs hown.1 holds a m c news hl hnews (by omega) (by omega) (growslice_fits (by omega) hbytes)
   rw[hr]at hr2
   injection hr2 with e1 _
   right
   rw[e1]
   rfl
theorem j1L {P:Program}{ops:Array Oper}{o:Oper}{a:Act}{w:World}{K:Act→World→Prop}{Q:Exit→Act→World→Prop}{E:Prop}
  (hg:o.guard=none)(s x:Operand)(t:TypeId)(hop:o.op=Op.call {callee:=Callee.builtin Builtin.append,args:=#[s,x],argTypes:=#[t,t]})
  (base:Nat)(e:TypeId){i:TypeInfo}{z:Value}{size bytes:Nat}(ht:P.underlying t=some (.slice e))(hi:P.info? e=some i)(hz:i.zero=some z)(hsize:i.size=size)(hby:i.bytes=bytes)(hzs:z.cells.size=size)(hsz:0<size)
  (v:Value)(n:Nat)(xs:List Value)(hs:a.eval s=v)(hown:w.ownsRow base e size v n xs)
  (ad:Addr)(m c:Nat)(news:List Value)(hx:a.eval x=.slice (some ad) m c)(hl:news.length=m*size)(hnews:∀j u,news[j]?=some u→w.cell? (ad.add j)=some u)(h1:∀u∈news,u.oneCell'=true)
  (h63:n+m≤maxLen)(hbytes:(n+m)*bytes≤140737488355328)(hbase:base≤w.heap.size)(hm:0<m)
  (hK:∀v' w',w'.ownsRow base e size v' (n+m) (xs++news)→w.grownBy w' v.ownBlock→(v'.ownBlock=v.ownBlock∨v'.ownBlock=some w.heap.size)→K (a.put o.dst v') w') :
  if Region.wanted o (yielded ops a.tmps)=true then Oper.wp P o a w K Q else E:=by
 have hw:Region.wanted o (yielded ops a.tmps)=true:=by simp[Region.wanted,hg]
 rw[if_pos hw]
 obtain⟨v',w',hr,h2,h3,h4⟩:=j8y (P:=P) w base t o.type e i z size bytes ht hi hz hsize hby hzs hsz v n xs hown ad m c news hl hnews h1 h63 hbytes hbase hm
 unfold Oper.wp execOp
 simp only[hop,resolve,invoke,builtin,Sem.run_bind,Sem.run_pure,Result.andThen_ok,List.map_toArray,List.map_cons,List.map_nil,hs,hx,hr]
 exact hK v' w' h2 h3 h4
def q1Z (ao:OA):List Nat:=match ao with
 |some a=>[a.block]
 |none=>[]
def q7B (L:List LPt)(st:Nat):Nat:=if L.length=0 then 0 else q0C L 0 (L.length-1)+toR L st
theorem info_pt:(Tryz.prog.info? 137).map (fun i=>(i.zero,i.size,i.bytes))=some (some (.agg #[.int .u16 0,.slice none 0 0,.int .i64 0]),3,40):=by kernel_rfl
theorem j3Q (b o:Nat)(ao:OA)(cap:Nat)(PL:List PPt)(w:World)(h:LogAt w b o ao cap PL) :
  Calls Tryz.prog 57 #[.pointer (some ⟨b,o,none⟩),.int .i64 0,.int .i64 ((PL.length:Int)-1)] w fun e w'=>e=.returned (.int .i64 (if PL.length=0 then 0 else q0C (zA PL) 0 (PL.length-1):Nat))∧Below w.heap.size w w':=by
 by_cases hn:PL.length=0
 ·rw[if_pos hn]
  exact j1s b o ao cap PL _ hn w h
 ·rw[if_neg hn]
  have:=q6Q b o ao cap PL 0 (PL.length-1) (by omega) (by omega) w h
  rwa [show((PL.length-1:Nat):Int)=(PL.length:Int)-1 by omega]at this
theorem q8f {w:World}{b base size n:Nat}{cs:Array Value}{t e:TypeId}{v:Value}{xs:List Value}(h:w.heap[b]?=some (.cells cs t (0,0)))(ho:w.ownsRow base e size v n xs)(ht:t≠e):some b≠v.ownBlock:=by
 rcases ho.2 with⟨rfl,_⟩|⟨g,cap,cur,rfl,_,hg,_⟩
 ·simp[Value.ownBlock]
 ·intro hb
  simp only[Value.ownBlock,Option.some.injEq]at hb
  subst hb
  rw[h]at hg
  simp at hg
  exact ht hg.2
theorem news3_at (W:World)(e:TypeId)(x y z:Value):∀j u,[x,y,z][j]?=some u→(W.alloc (.cells #[x,y,z] e)).cell? ((⟨W.heap.size,0,none⟩:Addr).add j)=some u:=by
 intro j u hj
 rw[q4l,Nat.zero_add,zC _ _ j _ _ _ (zN W _)]
 simpa using hj
theorem add_time (PL:List PPt)(st:Nat):q7B (zA PL) st=(if PL.length=0 then 0 else q0C (zA PL) 0 (PL.length-1))+toR (zA PL) st:=by
 unfold q7B
 rw[List.length_map]
 by_cases h:PL.length=0
 ·rw[if_pos h,if_pos h]
  have:PL=[]:=List.eq_nil_of_length_eq_zero h
  rw[this]
  rfl
 ·rw[if_neg h,if_neg h]
theorem q2i {w:World}{b o base size n:Nat}{cs:Array Value}{t e:TypeId}{v:Value}{xs:List Value}(ho:w.ownsRow base e size v n xs)(h:w.heap[b]?=some (.cells cs t (0,0)))(ht:t≠e)(u:Value):(w.setCell ⟨b,o,none⟩ u).ownsRow base e size v n xs:=by
 refine⟨ho.1,?_⟩
 rcases ho.2 with h'|⟨g,cap,cur,h1,h2,h3,h4⟩
 ·exact .inl h'
 ·refine .inr ⟨g,cap,cur,h1,h2,?_,h4⟩
  rw[Below.heap_setCell _ _ _ _ (by intro e';simp at e';subst e';rw[h]at h3;simp at h3;exact ht h3.2)]
  exact h3
theorem add_post {w W0 w2 w5 w6:World}{b o:Nat}{ao:OA}{cap:Nat}{PL:List PPt}{cs:Array Value}{t:TypeId}{st T:Nat}{l:List Hp}{hv5:Value}{ob:Obj}{g6 cap6:Nat}{vt:Int}(hst:st≤65535)(hn:PL.length<40)
  (htm:∀(i:Nat) (hi:i<PL.length),(PL[i]).1.time≤32768*i∧(PL[i]).1.stamp≤65535)(hT:T≤32768*PL.length)(hvt:vt=(T:Int))(hlb:b<w.heap.size)(ht:t≠137)(hth:t≠130)
  (B0:Below w.heap.size w W0)(B02:Below W0.heap.size W0 w2)(M2:w2.heap[b]?=some (.cells cs t (0,0)))(hown:w2.ownsRow 0 137 3 (.slice ao PL.length cap) PL.length (q2r PL))
  (b5:Below w2.drew.heap.size w2.drew w5)(hO5:w5.ownsRow w2.drew.heap.size 130 11 hv5 l.length (qH l))(hgrow6:(w5.alloc ob).grownBy w6 (Value.slice ao PL.length cap).ownBlock)
  (hown6:w6.ownsRow 0 137 3 (.slice (some ⟨g6,0,none⟩) (PL.length+1) cap6) (PL.length+1) (q2r PL++[.int .u16 st,hv5,.int .i64 vt])){ov:Value}(c6:w6.cell? ⟨b,o,none⟩=some ov) :
  LogAt (w6.setCell ⟨b,o,none⟩ (.slice (some ⟨g6,0,none⟩) (PL.length+1) cap6)) b o (some ⟨g6,0,none⟩) cap6 (PL++[(⟨st,T,l⟩,hv5)])∧(w6.setCell ⟨b,o,none⟩ (.slice (some ⟨g6,0,none⟩) (PL.length+1) cap6)).ownsRow w.heap.size 130 11 hv5 l.length (qH l)∧(w6.setCell ⟨b,o,none⟩ (.slice (some ⟨g6,0,none⟩) (PL.length+1) cap6)).heap[b]?=some (.cells (cs.setIfInBounds o (.slice (some ⟨g6,0,none⟩) (PL.length+1) cap6)) t (0,0))∧OnlyB (b::q1Z ao) w (w6.setCell ⟨b,o,none⟩ (.slice (some ⟨g6,0,none⟩) (PL.length+1) cap6)):=by
 have z1:=B0.size
 have z2:=B02.size
 have z5:w2.heap.size≤w5.heap.size:=b5.size
 have z6:=hgrow6.size
 simp at z6
 have hb2:b<w2.heap.size:=by omega
 have hb6:w6.heap[b]?=some (.cells cs t (0,0)):=by
  rw[hgrow6.block b (by simp;omega) (q8f M2 hown ht),zO _ _ (by omega),b5.block b hb2]
  exact M2
 have e1:(PL++[((⟨st,T,l⟩:LPt),hv5)]).length=PL.length+1:=by simp
 have hrow:w6.ownsRow 0 137 3 (.slice (some ⟨g6,0,none⟩) (PL.length+1) cap6) (PL.length+1) (q2r (PL++[(⟨st,T,l⟩,hv5)])):=by
  rw[hvt]at hown6
  have e2:q2r (PL++[((⟨st,T,l⟩:LPt),hv5)])=q2r PL++[.int .u16 st,hv5,.int .i64 T]:=by simp[q2r]
  rw[e2]
  exact hown6
 have hO6:w6.ownsRow w2.drew.heap.size 130 11 hv5 l.length (qH l):=by
  refine(hO5.alloc ob).kept hgrow6 ?_
  cases hx:hv5.ownBlock with
  |none=>exact .inl rfl
  |some k =>
   right
   intro e
   rw[←e]at hgrow6
   have h5:=(hO5.lt k hx).1
   have h2:k<w2.heap.size:=(hown.lt k e.symm).2
   have h5':w2.heap.size≤k:=h5
   omega
 refine⟨⟨?_,?_,?_,?_,?_⟩,?_,?_,?_⟩
 ·rw[e1];exact zS w6 _ _ c6
 ·simp;omega
 ·rw[e1];exact q2i hrow hb6 ht _
 ·rw[e1];omega
 ·intro i hi
  rw[e1]at hi
  by_cases h:i<PL.length
  ·rw[List.getElem_append_left h];exact htm i h
  ·have:i=PL.length:=by omega
   subst this
   simp
   exact⟨hT,hst⟩
 ·exact q4B (by show w.heap.size≤w2.heap.size;omega) (q2i hO6 hb6 hth _)
 ·exact zH w6 b o cs t _ hb6
 ·refine⟨(hgrow6.os.trans b5.os).trans (B02.os.trans B0.os),(hgrow6.tape.trans b5.tape).trans (B02.tape.trans B0.tape),(hgrow6.output.trans b5.output).trans (B02.output.trans B0.output),by simp;omega,fun k hk hnm=>?_⟩
  have hkb:k≠b:=fun e=>hnm (by rw[e];exact List.mem_cons_self)
  rw[Below.heap_setCell _ _ _ _ (by simpa using hkb),hgrow6.block k (by simp;omega) ?_,zO _ _ (by omega),b5.block k (show k<w2.heap.size by omega)]
  ·show w2.heap[k]?=_
   rw[B02.block k (by omega),B0.block k hk]
  ·intro e
   apply hnm
   cases ao with
   |none=>simp[Value.ownBlock]at e
   |some a =>
    simp only[Value.ownBlock,Option.some.injEq]at e
    subst e
    simp[q1Z]
theorem j5A (st:Nat)(hst:st≤65535)(hv:Value)(l:List Hp)(b o:Nat)(ao:OA)(cap:Nat)(PL:List PPt)(w:World)(h:LogAt w b o ao cap PL)(cs:Array Value)(t:TypeId)(hm:w.heap[b]?=some (.cells cs t (0,0)))(ht:t≠137)(hth:t≠130)
  (hl:w.ownsRow 0 130 11 hv l.length (qH l))(hl80:l.length≤80)(hstep:toR (zA PL) st<32768)(hn:PL.length<40) :
  Calls Tryz.prog 39 #[.pointer (some ⟨b,o,none⟩),.agg #[.int .u16 st,hv]] w fun e w'=>e=.returned (.int .i64 0)∧∃g' cap' hv',LogAt w' b o (some ⟨g',0,none⟩) cap' (PL++[(⟨st,q7B (zA PL) st,l⟩,hv')])∧w'.ownsRow w.heap.size 130 11 hv' l.length (qH l)∧w'.heap[b]?=some (.cells (cs.setIfInBounds o (.slice (some ⟨g',0,none⟩) (PL.length+1) cap')) t (0,0))∧OnlyB (b::q1Z ao) w w'∧(g'∈q1Z ao∨w.heap.size≤g'):=by
 obtain⟨va,vc,rfl⟩:=q1i hl
 have B0:Below w.heap.size w (w.alloc (.cells #[.int .u16 st,.slice va l.length vc] 92)):=(zB _ _).alloc (zL _) _
 have H0:=zb (h.below B0)
 have HL0:=zb (zo hl B0)
 have HB0:=zb B0
 have HT1:=zb (fun W hW=>j1t b o ao cap PL st hst W hW)
 have HT2:=zb (fun W hW=>j3Q b o ao cap PL W hW)
 have hsm:=h.small
 have htimes:=h.times
 have HTM:=zb h.times
 have G0:=zN w (.cells #[.int .u16 st,.slice va l.length vc] 92)
 have s0:(w.alloc (.cells #[.int .u16 st,.slice va l.length vc] 92)).heap.size=w.heap.size+1:=by simp
 have HG0:=zb G0
 have hlb:=h.lt
 have HM:Hid ((w.alloc (.cells #[.int .u16 st,.slice va l.length vc] 92)).heap[b]?=some (.cells cs t (0,0))):=zb (by rw[zO _ _ h.lt];exact hm)
 have HS0:=zb s0
 clear h hl B0 G0 hm s0
 have HAT:Hid (q7B (zA PL) st=(if PL.length=0 then 0 else q0C (zA PL) 0 (PL.length-1))+toR (zA PL) st):=zb (add_time PL st)
 have HZR:Hid (PL.length=0→toR (zA PL) st=0):=zb (fun h=>by
  have:PL=[]:=List.eq_nil_of_length_eq_zero h
  rw[this]
  rfl)
 generalize q7B (zA PL) st=T at *
 generalize toR (zA PL) st=step at *
 obtain⟨z,hz⟩:∃z:Int,z=(step:Int):=⟨_,rfl⟩
 rw[←hz]at HT1
 have hz0:0≤z:=by omega
 have hz1:z<32768:=by omega
 have HZS:=zb hz
 have HSTEP:=zb hstep
 clear hstep hz
 have hwh:(if PL.length=0 then 0 else q0C (zA PL) 0 (PL.length-1):Nat)≤32768*(PL.length-1):=by
  split
  ·omega
  ·unfold q0C
   rw[j4a (show 0<PL.length by omega),j4a (show PL.length-1<PL.length by omega)]
   have a1:=(htimes 0 (by omega)).1
   have a2:=(htimes (PL.length-1) (by omega)).1
   omega
 generalize (if PL.length=0 then 0 else q0C (zA PL) 0 (PL.length-1):Nat)=wh at *
 obtain⟨whole,hw⟩:∃z:Int,z=(wh:Int):=⟨_,rfl⟩
 rw[←hw]at HT2
 have hw0:0≤whole:=by omega
 have hw1:whole≤2000000:=by omega
 have HWH:=zb hw
 have HWB:=zb hwh
 clear hw hwh
 go_enter Tryz.func39,Tryz.ntmps39
 go_wp2_with fail
 generalize w.alloc (.cells #[.int .u16 st,.slice va l.length vc] 92)=W0 at *
 refine(HT1.out _ H0.out).mono ?_
 rintro e w1 ⟨rfl,b1⟩
 have h1:=H0.out.below b1
 have c1:=h1.cell
 have hlt1:=h1.lt
 have H1:=zb h1
 have HB1:=zb b1
 have HTT:=zb ht
 have HST:=zb hst
 clear b1 h1 HT1 ht hst
 go_wp2_with fail
 refine(HT2.out _ H1.out).mono ?_
 rintro e w2 ⟨rfl,b2⟩
 have b02:Below W0.heap.size W0 w2:=HB1.out.trans (b2.mono HB1.out.size)
 have h2:=H0.out.below b02
 have c2:=h2.cell
 have hlt2:=h2.lt
 have hL2:=zo HL0.out b02
 have G2:=(b02.block w.heap.size (by have:=HS0.out;omega)).trans HG0.out
 have z0:=zC _ _ 0 _ _ _ G2
 have z1:=zC _ _ 1 _ _ _ G2
 simp only[gz]at z0 z1
 have hlz:w.heap.size<w2.heap.size:=by have:=b02.size;have:=HS0.out;omega
 have HC:=zb (fun W (hW:W.ownsRow 0 130 11 (.slice va l.length vc) l.length (qH l))=>j5C st (.slice va l.length vc) l W hW hl80)
 have H2:=zb h2
 have HL2:=zb hL2
 have HB02:=zb b02
 obtain⟨i0,hi0,iz0,iz1,iz2⟩:=info_parts info_pt
 clear b2 b02 h2 hL2 G2 H1 HB1 HT2 c1 hlt1
 go_wp2_with fail
 clear htimes
 have HOWN:=zb H2.out.row
 have M2:w2.heap[b]?=some (.cells cs t (0,0)):=(HB02.out.block b (by have:=HS0.out;omega)).trans HM.out
 have G2:w2.heap[w.heap.size]?=some (.cells #[.int .u16 st,.slice va l.length vc] 92 (0,0)):=(HB02.out.block w.heap.size (by have:=HS0.out;omega)).trans HG0.out
 have fz:=zF _ _ o _ _ M2
 have KEEP5:Hid (∀w5,Below w2.drew.heap.size w2.drew w5→w5.cell? ⟨b,o,none⟩=some (.slice ao PL.length cap)∧w5.cell? ⟨w.heap.size,0,none⟩=some (.int .u16 st)∧w5.cell? ⟨w.heap.size,1,none⟩=some (.slice va l.length vc)):=zb (fun w5 b5=>⟨by rw[zK (b5.block b hlt2)];exact c2,by rw[zK (b5.block w.heap.size hlz)];exact z0,by rw[zK (b5.block w.heap.size hlz)];exact z1⟩)
 have KEEP6:Hid (∀w5 w6 ob,Below w2.drew.heap.size w2.drew w5→(w5.alloc ob).grownBy w6 (Value.slice ao PL.length cap).ownBlock→w6.heap[b]?=w2.heap[b]?∧w6.heap[w.heap.size]?=w2.heap[w.heap.size]?):=zb (fun w5 w6 ob b5 hg=>by
  have ha:=q8f M2 HOWN.out HTT.out
  have hb:=q8f G2 HOWN.out (by decide)
  refine⟨?_,?_⟩
  ·rw[hg.block b (by have:=b5.size;simp;exact Nat.lt_succ_of_lt (zT hlt2 this)) ha,zO _ _ (zT hlt2 b5.size)]
   exact b5.block b hlt2
  ·rw[hg.block w.heap.size (by have:=b5.size;simp;exact Nat.lt_succ_of_lt (zT hlz this)) hb,zO _ _ (zT hlz b5.size)]
   exact b5.block w.heap.size hlz)
 have HM2:=zb M2
 clear M2 G2
 go_region_law ((first|(refine j1L (by rfl) (.tmp 33) (.tmp 38) 85 (by rfl) 0 137 Tryz.underlying85 hi0 iz0 iz1 iz2 rfl (by decide) (.slice ao PL.length cap) PL.length (q2r PL) (by rfl) ((zo HOWN.out.drew b5).alloc _) ⟨w5.heap.size,0,none⟩ 1 1 [.int .u16 st,.slice va5 l.length vc5,.int .i64 (whole+z)] (by rfl) rfl (news3_at w5 _ _ _ _) (by simp[Value.oneCell']) (by unfold maxLen;omega) (by omega) (zZ _) (by decide) ?_;intro v6 w6 hown6 hgrow6 hwh6;obtain⟨g6,cap6,rfl⟩:=zJ hown6 (by omega);have fz6:=(World.frozen?_of_block (a:=⟨b,o,none⟩) (KEEP6.out _ _ _ b5 hgrow6).1).trans fz;have c6:=(zK (a:=⟨b,o,none⟩) (KEEP6.out _ _ _ b5 hgrow6).1).trans c2)|(rw[if_pos (by rfl)];go_simp;go_at_call 58;refine(HC.out _ HL2.out.drew).mono ?_;rintro e w5 ⟨hv',rfl,hO5,b5⟩;obtain⟨va5,vc5,rfl⟩:=q1i hO5;have c5:=(KEEP5.out _ b5).1;have hl5:=zT hlt2 b5.size)))
 all_goals
  have P:=add_post (T:=T) HST.out hn HTM.out (by have:=HAT.out;have:=HWB.out;have:=HSTEP.out;have h0:=HZR.out;by_cases e:PL.length=0;exact(by have:=h0 e;omega);omega) (by have:=HAT.out;have:=HWH.out;have:=HZS.out;omega) hlb HTT.out hth HB0.out HB02.out HM2.out HOWN.out b5 hO5 hgrow6 hown6 c6
  have HP:=zb P
  have WH:Hid (g6∈q1Z ao∨w.heap.size≤g6):=zb (by
   have z5:=b5.size
   have z2:=HB02.out.size
   have z0:=HS0.out
   rcases hwh6 with h6|h6
   ·left
    cases ao with
    |none=>simp[Value.ownBlock]at h6
    |some a0=>simp only[Value.ownBlock,Option.some.injEq]at h6;simp[q1Z,h6]
   ·right
    simp only[Value.ownBlock,Option.some.injEq]at h6
    have e5:(w5.alloc (.cells #[.int .u16 st,.slice va5 l.length vc5,.int .i64 (whole+z)] 137)).heap.size=w5.heap.size+1:=by simp
    have z2':w2.drew.heap.size=w2.heap.size:=rfl
    omega)
  clear P hwh6 b5 hO5 hgrow6 hown6 c6 fz6 c5
  generalize w6.setCell ⟨b,o,none⟩ (.slice (some ⟨g6,0,none⟩) (PL.length+1) cap6)=w7 at *
  go_wp2_with fail
  go_ret
  obtain⟨P1,P2,P3,P4⟩:=HP.out
  exact⟨rfl,g6,cap6,_,P1,P2,P3,P4,WH.out⟩
theorem j7o (st:Nat)(hst:st≤65535)(va:OA)(vn vc:Nat)(b o:Nat)(ao:OA)(cap:Nat)(PL:List PPt)(w:World)(h:LogAt w b o ao cap PL)(hno:¬(toR (zA PL) st<32768∧PL.length<40)) :
  Calls Tryz.prog 39 #[.pointer (some ⟨b,o,none⟩),.agg #[.int .u16 st,.slice va vn vc]] w fun e w'=>e=.returned (.int .i64 (if 32768≤toR (zA PL) st then 7 else 8))∧Below w.heap.size w w':=by
 have B0:Below w.heap.size w (w.alloc (.cells #[.int .u16 st,.slice va vn vc] 92)):=(zB _ _).alloc (zL _) _
 have H0:=zb (h.below B0)
 have HB0:=zb B0
 have HT1:=zb (fun W hW=>j1t b o ao cap PL st hst W hW)
 have hsm:=h.small
 have hsz:w.heap.size≤(w.alloc (.cells #[.int .u16 st,.slice va vn vc] 92)).heap.size:=by simp
 have HSZ:=zb hsz
 clear h B0 hsz
 generalize toR (zA PL) st=step at *
 obtain⟨z,hz⟩:∃z:Int,z=(step:Int):=⟨_,rfl⟩
 rw[←hz]at HT1
 by_cases hs:32768≤step
 ·rw[if_pos hs]
  have hz1:32768≤z:=by omega
  clear hz hs hno
  go_enter Tryz.func39,Tryz.ntmps39
  go_wp2_with fail
  generalize w.alloc (.cells #[.int .u16 st,.slice va vn vc] 92)=W0 at *
  refine(HT1.out _ H0.out).mono ?_
  rintro e w1 ⟨rfl,b1⟩
  have HB1:Hid (Below w.heap.size w w1):=zb (HB0.out.trans (b1.mono HSZ.out))
  clear b1 HT1
  go_wp2_with fail
  go_ret
  exact⟨rfl,HB1.out⟩
 ·rw[if_neg hs]
  have hz1:z<32768:=by omega
  have hz0:0≤z:=by omega
  have hn:40≤PL.length:=by omega
  clear hz hs hno
  go_enter Tryz.func39,Tryz.ntmps39
  go_wp2_with fail
  generalize w.alloc (.cells #[.int .u16 st,.slice va vn vc] 92)=W0 at *
  refine(HT1.out _ H0.out).mono ?_
  rintro e w1 ⟨rfl,b1⟩
  have HB1:Hid (Below w.heap.size w w1):=zb (HB0.out.trans (b1.mono HSZ.out))
  have h1:=H0.out.below b1
  have c1:=h1.cell
  have hlt1:=h1.lt
  clear b1 h1 HT1
  go_wp2_with fail
  go_ret
  exact⟨rfl,HB1.out⟩
theorem j4I (bp bt ct:Nat)(ts:List PTok)(d:Nat)(hd8:d<8)(w:World)(nx:Nat)(ns:List PNode)(dp:Int)(hd:dp+(d+1:Nat)=9)(hpn:PN w bp bt ct ts nx ns)(_hbt:bt<bp)(hn:nx+q4P (d+1)≤4000)(hm:ns.length+q3g (d+1)≤1000)(hcase:(q0Y ts nx).1=false) :
  Calls Tryz.prog 71 #[.pointer (some ⟨bp,0,none⟩),.int .i64 dp] w fun e w'=>e=.returned (.bool (q0f ts (d+1) nx ns.length).1)∧q9j w w' bp bt ct ts ns (q0f ts (d+1) nx ns.length):=by
 have HC:=zb hcase
 clear hcase
 have hdp1:1≤dp:=by omega
 have hdp8:dp≤8:=by omega
 have HD:Hid (dp+1+d=9):=zb (by omega)
 have hn6:nx≤4000:=by omega
 have HL:=zb (q8y ts nx)
 obtain⟨nv,hP,hown⟩:=hpn
 have HO:=zb hown
 have hh:=q8Z bp bt ct ts nv nx w hP (by omega)
 generalize hr:q0f ts (d+1) nx ns.length=r
 have HT:=zb hr
 have HN:Hid (nx+9+2*q4P d≤4000∧ns.length+1+2*q3g d≤1000):=zb (by simp only[q4P,q3g]at hn hm;omega)
 clear hr hown hn hm hd
 generalize hhd:q0Y ts nx=hr at *
 have HH:=zb hhd
 clear hhd
 obtain⟨ok,m,nd⟩:=hr
 obtain⟨V,hV⟩:∃V,V=q1w nd:=⟨_,rfl⟩
 rw[←hV]at hh
 have HV:=zb hV
 clear hV
 have H:=zb hP
 have hlt:=hP.lt.2
 clear hP
 go_enter Tryz.func71,Tryz.ntmps71
 go_wp2_with fail
 refine hh.mono ?_
 rintro e w1 ⟨rfl,hP1,ho1⟩
 have hown1:=q2n HO.out ho1 (by simp)
 obtain⟨ao,cap,rfl⟩:=ql hown1
 have hrow:=hown1.lt
 have hl1:=hP1.lt.2
 obtain⟨w2,hst2,hB2,hb2,hs2⟩:=qI (P:=Tryz.prog) 168 w1 (zq q4X).toArray (zq nd).toArray (by kernel_rfl) rfl (by simp[zq,Value.oneCell'])
 rw[show Value.agg (zq nd).toArray=V from HV.out.symm]at hst2
 simp only[zq]at hst2
 have HP1:=zb hP1
 have HO1:=zb hown1
 have HB2:=zb hB2
 have HS2:=zb hs2
 clear hh hP1 hown1 hB2 hs2
 simp only[]at *
 have hok:ok=false:=by have:=HC.out;simpa using this
 subst hok
 have er:=HT.out
 rw[q0f,HH.out]at er
 simp only[Bool.false_eq_true,if_false]at er
 subst er
 go_wp2_with (refine ze rfl 168 (.tmp 5) (.tmp 13) rfl ⟨w1.heap.size,0,none⟩ _ rfl rfl w2 hst2 ?_)
 go_ret
 exact⟨rfl,⟨_,HP1.out.only (bl:=[]) (.of_below hb2) (by simp) (by simp),fun h=>absurd h (by simp)⟩,(ho1.below (B:=bp) (by omega) (by simp)).trans (hb2.mono (by omega))⟩
structure LogOk (L:List LPt):Prop where
 mono:Mono L
 zero:tmL L 0=0
theorem LogOk.nil:LogOk []:=⟨fun i j _ h=>absurd h (by simp),rfl⟩
theorem j7L {L:List LPt}(h:LogOk L)(st:Nat)(hn:0<L.length):q7B L st=tmL L (L.length-1)+toR L st:=by
 unfold q7B
 rw[if_neg (by omega)]
 unfold q0C
 rw[h.zero]
 omega
theorem j4b (L:List LPt)(p:LPt):tmL (L++[p]) L.length=p.time:=by
 unfold tmL
 rw[List.getElem?_append_right (zL _),Nat.sub_self]
 rfl
theorem LogOk.add {L:List LPt}(h:LogOk L)(st:Nat)(l:List Hp):LogOk (L++[⟨st,q7B L st,l⟩]):=by
 constructor
 ·intro i j hij hj
  simp only[List.length_append,List.length_cons,List.length_nil]at hj
  rcases Nat.lt_or_ge j L.length with g|g
  ·rw[q3N g,q3N (Nat.lt_of_le_of_lt hij g)]
   exact h.mono i j hij g
  ·have e:j=L.length:=by omega
   subst e
   rw[j4b]
   rcases Nat.lt_or_ge i L.length with gi|gi
   ·rw[q3N gi,j7L h st (by omega)]
    have:=h.mono i (L.length-1) (by omega) (by omega)
    show tmL L i≤tmL L (L.length-1)+toR L st
    omega
   ·have e:i=L.length:=by omega
    subst e
    rw[j4b]
    exact zL _
 ·by_cases hn:L.length=0
  ·have:L=[]:=List.length_eq_zero_iff.1 hn
   subst this
   rfl
  ·rw[q3N (by omega)]
   exact h.zero
theorem j7v (L:List LPt)(rc:Int):∀f c,c≤L.length→L.length≤c+f→c≤q3S L rc f c∧q3S L rc f c≤L.length∧(∀k,c≤k→k<q3S L rc f c→rc<(q0C L k (L.length-1):Int))∧(q3S L rc f c<L.length→¬rc<(q0C L (q3S L rc f c) (L.length-1):Int)):=by
 intro f
 induction f with
 |zero=>intro c h1 h2;exact⟨zL _,h1,fun k k1 k2=>absurd k2 (by simp[q3S];omega),fun h=>absurd h (by simp[q3S];omega)⟩
 |succ f ih =>
  intro c h1 h2
  rw[q3S]
  by_cases hc:c+1≤L.length∧rc<(q0C L c (L.length-1):Int)
  ·rw[if_pos hc]
   obtain⟨a1,a2,a3,a4⟩:=ih (c+1) hc.1 (by omega)
   refine⟨by omega,a2,fun k k1 k2=>?_,a4⟩
   by_cases e:k=c
   ·rw[e];exact hc.2
   ·exact a3 k (by omega) k2
  ·rw[if_neg hc]
   exact⟨zL _,h1,fun k k1 k2=>absurd k2 (by omega),fun h h'=>hc ⟨by omega,h'⟩⟩
theorem j8C {L:List LPt}(hM:Mono L){a c:Nat}(h:a≤c)(hc:c<L.length):q0C L c (L.length-1)≤q0C L a (L.length-1):=by
 have h1:=hM a c h hc
 have h2:=hM c (L.length-1) (by omega) (by omega)
 unfold q0C
 omega
theorem sett_iff {L:List LPt}(hM:Mono L)(rc:Int){c:Nat}(hc:c<L.length):rc<(q0C L c (L.length-1):Int)↔c<q0u L rc:=by
 obtain⟨_,a2,a3,a4⟩:=j7v L rc L.length 0 (zZ _) (by omega)
 constructor
 ·intro h
  rcases Nat.lt_or_ge c (q0u L rc)with g|g
  ·exact g
  ·have hs:q0u L rc<L.length:=by omega
   have:=j8C hM g hc
   exact absurd (show rc<(q0C L (q0u L rc) (L.length-1):Int)by omega) (a4 hs)
 ·intro h
  exact a3 c (zZ _) h
theorem j3V {L:List LPt}(hM:Mono L)(rc:Int){c:Nat}(hc:c<L.length):rc<(tmL L (L.length-1):Int)-(tmL L c:Int)↔c<q0u L rc:=by
 rw[←sett_iff hM rc hc]
 have h2:=hM c (L.length-1) (by omega) (by omega)
 unfold q0C
 omega
end Go.Proofs.YtiamjjonoeaggaaGreatDoor
