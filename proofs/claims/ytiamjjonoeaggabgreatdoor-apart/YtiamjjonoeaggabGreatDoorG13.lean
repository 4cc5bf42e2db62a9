import Derived.Test.YtiamjjonoeaggabGreatDoorGA
import Derived.Test.YtiamjjonoeaggabGreatDoorGB
import Derived.Test.YtiamjjonoeaggabGreatDoorG08
import Derived.Test.YtiamjjonoeaggabGreatDoorG12
import Derived.Deep.RegionLaw
import Derived.Laws.OwnMore
import Derived.Deep.RegionHeld
import Derived.Lib.SmallJoins
set_option maxRecDepth 100000
set_option maxHeartbeats 16000000
namespace Go.Proofs.YtiamjjonoeaggabGreatDoor
open Go.RowKit
theorem q0F {P:Program}{ops:Array Oper}{o:Oper}{a:Act}{w:World}{K:Act→World→Prop}{Q:Exit→Act→World→Prop}{E:Prop}
  (hg:o.guard=none)(s x:Operand)(t:TypeId)(hop:o.op=Op.call {callee:=Callee.builtin Builtin.append,args:=#[s,x],argTypes:=#[t,t]})
  (base:Nat)(e:TypeId){i:TypeInfo}{z:Value}{size bytes:Nat}(ht:P.underlying t=some (.slice e))(hi:P.info? e=some i)(hz:i.zero=some z)(hsize:i.size=size)(hby:i.bytes=bytes)(hzs:z.cells.size=size)(hsz:0<size)
  (v:Value)(n:Nat)(xs:List Value)(hs:a.eval s=v)(hown:w.ownsRow base e size v n xs)
  (ad:Addr)(m c:Nat)(news:List Value)(hx:a.eval x=.slice (some ad) m c)(hl:news.length=m*size)(hnews:∀j u,news[j]?=some u→w.cell? (ad.add j)=some u)(h1:∀u∈news,u.oneCell'=true)
  (h63:n+m≤maxLen)(hbytes:(n+m)*bytes≤140737488355328)(hbase:base≤w.heap.size)
  (hK:∀v' w',w'.ownsRow base e size v' (n+m) (xs++news)→w.grownBy w' v.ownBlock→K (a.put o.dst v') w') :
  if Region.wanted o (yielded ops a.tmps)=true then Oper.wp P o a w K Q else E:=by
 have hw:Region.wanted o (yielded ops a.tmps)=true:=by simp[Region.wanted,hg]
 rw[if_pos hw]
 exact wp_append_own w s x t hop base e i z size bytes ht hi hz hsize hby hzs hsz v n xs hs hown ad m c news hx hl hnews h1 h63 hbytes hbase (fun v' w' a b _=>hK v' w' a b)
def qw (l:List PNode):List Value:=l.flatMap zq
theorem q3R (l:List PNode):(qw l).length=l.length*22:=by
 induction l with
 |nil=>rfl
 |cons n r ih =>
  have e:qw (n::r)=zq n++qw r:=by simp[qw]
  have e2:(zq n).length=22:=rfl
  rw[e,List.length_append,ih,e2,List.length_cons]
  omega
theorem j1w (l r:List PNode):qw (l++r)=qw l++qw r:=by simp[qw]
theorem j5E (n:PNode):qw [n]=zq n:=by simp[qw]
theorem j1x (l r:List PNode)(n:PNode)(j:Nat)(hj:j<22):(qw (l++n::r))[l.length*22+j]?=(zq n)[j]?:=by
 have e:qw (l++n::r)=qw l++(zq n++qw r):=by simp[qw]
 have e2:(zq n).length=22:=rfl
 rw[e,List.getElem?_append_right (by rw[q3R];omega),q3R,List.getElem?_append_left (by omega)]
 congr 1
 omega
theorem j5F (l r:List PNode)(n n':PNode)(j:Nat)(hj:j<22)(u:Value)(he:zq n'=(zq n).set j u):(qw (l++n::r)).set (l.length*22+j) u=qw (l++n'::r):=by
 have e:∀n,qw (l++n::r)=qw l++(zq n++qw r):=by intro n;simp[qw]
 have e2:(zq n).length=22:=rfl
 rw[e,e,List.set_append_right _ _ (by rw[q3R];omega),q3R,show l.length*22+j-l.length*22=j by omega,List.set_append_left _ _ (by omega),he]
theorem args_le (ts:List PTok)(nx:Nat)(nd:PNode):(q7Y ts nx nd).2.1≤nx+5:=by
 unfold q7Y q7Z
 repeat' split
 all_goals (simp only[];omega)
theorem span_le (ts:List PTok)(nx:Nat)(nd:PNode):(q3Z ts nx nd).2.1≤nx+5:=by
 unfold q3Z
 repeat' split
 all_goals (simp only[];omega)
theorem q8P (ts:List PTok)(nx:Nat):(q1c ts nx).2.1≤nx+6:=by
 unfold q1c
 have a:=args_le ts (nx+1) (q1w (zt ts nx))
 have b:=span_le ts (nx+1) (q1w (zt ts nx))
 repeat' split
 all_goals first|omega|(simp only[];omega)
theorem parts_le (ts:List PTok)(F:Nat→Nat→Bool × Nat × List PNode)(c:Nat)(hF:∀nx base,(F nx base).2.1≤nx+c)(m base:Nat)(nd:PNode):(q3o ts F m base nd).2.1≤m+3+2*c:=by
 unfold q3o
 have a:=hF (m+1) (base+1)
 have b:=hF ((F (m+1) (base+1)).2.1+1) (base+1+(F (m+1) (base+1)).2.2.length)
 repeat' split
 all_goals (simp only[];omega)
def q4Z:Nat→Nat
 | 0=>0
 |d+1=>9+2*q4Z d
theorem j3C (ts:List PTok):∀d nx base,(q0i ts d nx base).2.1≤nx+q4Z d:=by
 intro d
 induction d with
 |zero=>intro nx base;simp[q0i,q4Z]
 |succ d ih =>
  intro nx base
  have h:=q8P ts nx
  have p:=parts_le ts (q0i ts d) (q4Z d) ih (q1c ts nx).2.1 base (q1c ts nx).2.2
  rw[q0i]
  repeat' split
  all_goals (simp only[q4Z];omega)
def q3r:Nat→Nat
 | 0=>0
 |d+1=>1+2*q3r d
theorem j7z (ts:List PTok)(F:Nat→Nat→Bool × Nat × List PNode)(c:Nat)(hF:∀nx base,(F nx base).2.2.length≤c)(m base:Nat)(nd:PNode):(q3o ts F m base nd).2.2.length≤1+2*c:=by
 unfold q3o
 have a:=hF (m+1) (base+1)
 have b:=hF ((F (m+1) (base+1)).2.1+1) (base+1+(F (m+1) (base+1)).2.2.length)
 repeat' split
 all_goals (simp only[List.length_cons,List.length_append,List.length_nil];omega)
theorem j9g (ts:List PTok):∀d nx base,(q0i ts d nx base).2.2.length≤q3r d:=by
 intro d
 induction d with
 |zero=>intro nx base;simp[q0i,q3r]
 |succ d ih =>
  intro nx base
  have p:=j7z ts (q0i ts d) (q3r d) ih (q1c ts nx).2.1 base (q1c ts nx).2.2
  rw[q0i]
  repeat' split
  all_goals (simp only[q3r,List.length_cons,List.length_nil];omega)
def PN (w:World)(bp bt ct:Nat)(ts:List PTok)(nx:Nat)(ns:List PNode):Prop:=∃nv,Pars w bp bt ct ts nv nx∧w.ownsRow (bp+1) 166 22 nv ns.length (qw ns)
theorem q2w {w w':World}{bl:List Nat}{base:Nat}{e:TypeId}{size:Nat}{v:Value}{n:Nat}{xs:List Value}(h:w.ownsRow base e size v n xs)(ho:OnlyB bl w w')(hb:∀k∈bl,k<base):w'.ownsRow base e size v n xs:=by
 refine⟨h.1,?_⟩
 rcases h.2 with hn|⟨g,cap,cur,rfl,hb',hgg,rest⟩
 ·exact .inl hn
 ·refine .inr ⟨g,cap,cur,rfl,hb',?_,rest⟩
  rw[ho.block g (Array.getElem?_eq_some_iff.1 hgg).1 (fun hm=>by have:=hb g hm;omega)]
  exact hgg
theorem PN.only {w w':World}{bp bt ct:Nat}{ts:List PTok}{nx:Nat}{ns:List PNode}(h:PN w bp bt ct ts nx ns)(ho:OnlyB [] w w'):PN w' bp bt ct ts nx ns:=by
 obtain⟨nv,h1,h2⟩:=h
 exact⟨nv,h1.only ho (by simp) (by simp),q2w h2 ho (by simp)⟩
def q9z (w w':World)(bp bt ct:Nat)(ts:List PTok)(ns:List PNode)(o:Bool × Nat × List PNode):Prop:=
 (∃nv,Pars w' bp bt ct ts nv o.2.1∧(o.1=true→w'.ownsRow (bp+1) 166 22 nv (ns++o.2.2).length (qw (ns++o.2.2))))∧Below bp w w'
theorem qn {w:World}{base:Nat}{e:TypeId}{size:Nat}{v:Value}{n:Nat}{xs:List Value}(h:w.ownsRow base e size v n xs):∃ao cap,v=.slice ao n cap:=by
 rcases h.2 with⟨rfl,rfl⟩|⟨g,cap,cur,rfl,_⟩
 ·exact⟨none,0,rfl⟩
 ·exact⟨_,cap,rfl⟩
theorem Pars.nodesSet {w:World}{bp bt ct:Nat}{ts:List PTok}{nv:Value}{nx:Nat}(h:Pars w bp bt ct ts nv nx)(u:Value):Pars (w.setCell ⟨bp,2,none⟩ u) bp bt ct ts u nx:=by
 refine⟨?_,?_,zS w _ _ h.nodes,fun o=>by rw[World.frozen?_setCell];exact h.free o,h.cap,h.ne,by simpa using h.lt,fun i hi j hj=>?_⟩
 ·rw[zX w _ _ _ (by intro e;injection e with e1 e2;simp at e2)];exact h.toks
 ·rw[zX w _ _ _ (by intro e;injection e with e1 e2;simp at e2)];exact h.next
 ·rw[zX w _ _ _ (by intro e;injection e with e1 e2;exact h.ne e1.symm)];exact h.cells i hi j hj
theorem q1K {w1 w2 w3:World}{bp bt ct:Nat}{ts:List PTok}{nv:Value}{nx:Nat}{ns:List PNode}{nd:PNode}{ob:Obj}(hP:Pars w1 bp bt ct ts nv nx)(hbt:bt<bp)(hb:Below w1.heap.size w1 w2)(hrow:∀k,nv.ownBlock=some k→bp+1≤k∧k<w1.heap.size)
  (hN:w2.cell? ⟨w1.heap.size,0,none⟩=some (.int .i64 nd.kind))(hg:(w2.drew.alloc ob).grownBy w3 nv.ownBlock){g cap:Nat}(hown:w3.ownsRow (bp+1) 166 22 (.slice (some ⟨g,0,none⟩) (ns.length+1) cap) (ns.length+1) (qw ns++zq nd)) :
  PN (w3.setCell ⟨bp,2,none⟩ (.slice (some ⟨g,0,none⟩) (ns.length+1) cap)) bp bt ct ts nx (ns++[nd])∧(w3.setCell ⟨bp,2,none⟩ (.slice (some ⟨g,0,none⟩) (ns.length+1) cap)).cell? ⟨w1.heap.size,0,none⟩=some (.int .i64 nd.kind)∧Below bp w1 (w3.setCell ⟨bp,2,none⟩ (.slice (some ⟨g,0,none⟩) (ns.length+1) cap)):=by
 have hl:=hP.lt.2
 have hs2:w1.heap.size<w2.heap.size:=World.block_lt_of_cell? w2 _ hN
 have hb2:Below w1.heap.size w1 (w2.drew.alloc ob):=(hb.drew).alloc (by simpa using hb.size) _
 have hP3:Pars w3 bp bt ct ts nv nx:=by
  have hP2:=hP.only (bl:=[]) (.of_below hb2) (by simp) (by simp)
  have ho:OnlyB (match nv.ownBlock with|some k=>[k]|none=>[]) (w2.drew.alloc ob) w3:=by
   refine⟨hg.os,hg.tape,hg.output,hg.size,fun k hk hn=>hg.block k hk (fun e=>hn ?_)⟩
   rw[←e]
   simp
  refine hP2.only ho ?_ ?_
  ·cases e:nv.ownBlock with
   |none=>simp
   |some k=>have:=hrow k e;simp;omega
  ·cases e:nv.ownBlock with
   |none=>simp
   |some k=>have:=hrow k e;simp;omega
 have hkey:∀k,k<w1.heap.size+1→some k≠nv.ownBlock→w3.heap[k]?=w2.heap[k]?:=by
  intro k hk hn
  rw[hg.block k (by simp;omega) hn]
  exact zO w2.drew _ (by simpa using (by omega:k<w2.heap.size))
 refine⟨⟨_,hP3.nodesSet _,?_⟩,?_,?_⟩
 ·rw[j1w,j5E,List.length_append]
  exact ownsRow_setCell_below hown (by simp) _
 ·rw[zX _ _ _ _ (by intro e;injection e with e1 e2;omega),zK (w:=w2) (hkey w1.heap.size (by omega) (fun e=>by have:=hrow _ e.symm;omega))]
  exact hN
 ·refine⟨hg.os.trans hb2.os,hg.tape.trans hb2.tape,hg.output.trans hb2.output,?_,fun k hk=>?_⟩
  ·have:=hg.size
   have:=hb2.size
   simp at *
   omega
  ·rw[Below.heap_setCell w3 _ _ k (by simp;omega),hkey k (by omega) (fun e=>by have:=hrow _ e.symm;omega)]
   exact hb.block k (by omega)
theorem q4U (W:World)(nd:PNode)(t:TypeId):∀j u,(zq nd)[j]?=some u→(W.alloc (.cells (zq nd).toArray t)).cell? ((⟨W.heap.size,0,none⟩:Addr).add j)=some u:=by
 intro j u hj
 rw[q4x,Nat.zero_add,zC _ _ j _ _ _ (zN W _)]
 simpa using hj
theorem q2v (nd:PNode):∀u∈zq nd,u.oneCell'=true:=by simp[zq,Value.oneCell']
theorem q8t:(Tryz.prog.info? 166).map (fun i=>(i.zero,i.size,i.bytes))=some (some (q1C q5h),22,120):=by kernel_rfl
theorem q3P {w2 w3:World}{bp:Nat}{v nv:Value}{ob:Obj}(hg:(w2.drew.alloc ob).grownBy w3 v.ownBlock)(hrow:∀k,v.ownBlock=some k→bp+1≤k)(hl:bp<w2.heap.size)(hc:w2.cell? ⟨bp,2,none⟩=some nv)(hf:w2.frozen? ⟨bp,2,none⟩=false) :
  w3.cell? ⟨bp,2,none⟩=some nv∧w3.frozen? ⟨bp,2,none⟩=false:=by
 have e:w3.heap[bp]?=w2.heap[bp]?:=by
  rw[hg.block bp (by simp;omega) (fun e=>by have:=hrow bp e.symm;omega)]
  exact zO w2.drew _ (by simpa using hl)
 exact⟨by rw[zK (w:=w2) e];exact hc,by rw[World.frozen?_of_block (w:=w2) e];exact hf⟩
def FormC (bp bt ct:Nat)(ts:List PTok)(d:Nat):Prop:=∀(w:World) (nx:Nat) (ns:List PNode) (dp:Int),dp+d=9→PN w bp bt ct ts nx ns→bt<bp→nx+q4Z d≤4000→ns.length+q3r d≤1000 →
 Calls Tryz.prog 91 #[.pointer (some ⟨bp,0,none⟩),.int .i64 dp] w fun e w'=>e=.returned (.bool (q0i ts d nx ns.length).1)∧q9z w w' bp bt ct ts ns (q0i ts d nx ns.length)
def PartsC (bp bt ct:Nat)(ts:List PTok)(d:Nat):Prop:=∀(w:World) (m:Nat) (ns:List PNode) (nd:PNode) (dp:Int),dp+d=9→PN w bp bt ct ts m (ns++[nd])→bt<bp→m+3+2*q4Z d≤4000→ns.length+1+2*q3r d≤1000 →
 Calls Tryz.prog 124 #[.pointer (some ⟨bp,0,none⟩),.int .i64 ns.length,.int .i64 dp] w fun e w'=>e=.returned (.bool (q3o ts (q0i ts d) m ns.length nd).1)∧q9z w w' bp bt ct ts ns (q3o ts (q0i ts d) m ns.length nd)
theorem j9h (bp bt ct:Nat)(ts:List PTok):FormC bp bt ct ts 0:=by
 intro w nx ns dp hd hpn hbt hn hm
 have hd:dp=9:=by omega
 subst hd
 obtain⟨nv,hP,hown⟩:=hpn
 have H:=zb hP
 clear hP hown hn hm
 go_enter Tryz.func91,Tryz.ntmps91
 go_wp2_with fail
 go_ret
 exact⟨rfl,⟨nv,H.out,fun h=>absurd h (by simp[q0i])⟩,zB _ _⟩
theorem q0e {P:Program}{o:Oper}{a:Act}{w:World}{K:Act→World→Prop}{Q:Exit→Act→World→Prop}(ty:TypeId)(x:Operand)(ho:o.op=.load ty x)(ad:Addr)(v:Value)(hx:a.eval x=.pointer (some ad))(hr:(Instr.loadAt ty (.pointer (some ad))).run P w=.ok v w)
  (h:K (a.put o.dst v) w):o.wp P a w K Q:=by
 unfold Oper.wp execOp
 simp only[ho,hx,hr,Sem.run_bind,Sem.run_pure,Result.andThen_ok]
 exact h
theorem q1O {P:Program}{o:Oper}{a:Act}{w:World}{K:Act→World→Prop}{Q:Exit→Act→World→Prop}(ty:TypeId)(x:Operand)(ho:o.op=.buildSlice ty 1 #[(0,x)])(v u:Value)(W:World)(hx:a.eval x=v)(hr:(Instr.buildSlice ty 1 #[(0,v)]).run P w=.ok u W)
  (h:K (a.put o.dst u) W):o.wp P a w K Q:=by
 unfold Oper.wp execOp
 simp only[ho,List.map_toArray,List.map_cons,List.map_nil,hx,hr,Sem.run_bind,Sem.run_pure,Result.andThen_ok]
 exact h
theorem q9Z (nd:PNode)(w:World):(Instr.buildSlice 86 1 #[(0,q1C nd)]).run Tryz.prog w=.ok (.slice (some ⟨w.heap.size,0,none⟩) 1 1) (w.alloc (.cells (zq nd).toArray 166)):=by
 simp[Instr.buildSlice,go_sem,zq]
theorem j8R {P:Program}(w:World)(base:Nat)(t ty e:TypeId)(i:TypeInfo)(z:Value)(size bytes:Nat)(ht:P.underlying t=some (.slice e))(hi:P.info? e=some i)(hz:i.zero=some z)
  (hsize:i.size=size)(hby:i.bytes=bytes)(hzs:z.cells.size=size)(hsz:0<size)
  (v:Value)(n:Nat)(xs:List Value)(hown:w.ownsRow base e size v n xs)
  (a:Addr)(m c:Nat)(news:List Value)(hl:news.length=m*size)(hnews:∀j u,news[j]?=some u→w.cell? (a.add j)=some u)(h1:∀u∈news,u.oneCell'=true)
  (h63:n+m≤maxLen)(hbytes:(n+m)*bytes≤140737488355328)(hbase:base≤w.heap.size)(hm:0<m) :
  ∃v' w',(Builtin.append_ #[t,t] ty #[v,.slice (some a) m c]).run P w=.ok v' w'∧w'.ownsRow base e size v' (n+m) (xs++news)∧w.grownBy w' v.ownBlock∧(v'.ownBlock=v.ownBlock∨v'.ownBlock=some w.heap.size):=by
 obtain⟨v',w',hr,h2,h3,_⟩:=run_append_own (P:=P) w base t ty e i z size bytes ht hi hz hsize hby hzs hsz v n xs hown a m c news hl hnews h1 h63 hbytes hbase
 refine⟨v',w',hr,h2,h3,?_⟩
 subst hsize
 subst hby
 have hsmall:n+m≤9223372036854775807:=by simp only[maxLen]at h63;omega
 rcases hown.2 with⟨rfl,rfl⟩|⟨g,cap,cur,rfl,hbg,hg,hnc,hcm,hcs,htake⟩
 ·have hr2:=run_append_nil (P:=P) w t ty e i z ht hi hz a m c news hl hnews (by omega) (by omega) (by have hb:=hbytes;simp only[Nat.zero_add]at hb;omega)
  rw[hr]at hr2
  injection hr2 with e1 _
  right
  rw[e1]
  rfl
 ·by_cases hroom:n+m≤cap
  ·have hfit:n*i.size+news.length≤cur.size:=by rw[hl,hcs,←Nat.add_mul];exact zU _ hroom
   have hr2:=run_append_room (P:=P) w t ty e i ht hi g n cap cur hg a m c news hl hnews h1 hroom hfit
   rw[hr]at hr2
   injection hr2 with e1 _
   left
   rw[e1]
   rfl
  ·have holds:∀j u,xs[j]?=some u→w.cell? ((⟨g,0,none⟩:Addr).add j)=some u:=hown.cells (g:=g) rfl
   have hr2:=run_append_grow (P:=P) w t ty e i z ht hi hz ⟨g,0,none⟩ n cap xs hown.1 holds a m c news hl hnews (by omega) (by omega) (growslice_fits (by omega) hbytes)
   rw[hr]at hr2
   injection hr2 with e1 _
   right
   rw[e1]
   rfl
theorem j2d {P:Program}{ops:Array Oper}{o:Oper}{a:Act}{w:World}{K:Act→World→Prop}{Q:Exit→Act→World→Prop}{E:Prop}
  (hg:o.guard=none)(s x:Operand)(t:TypeId)(hop:o.op=Op.call {callee:=Callee.builtin Builtin.append,args:=#[s,x],argTypes:=#[t,t]})
  (base:Nat)(e:TypeId){i:TypeInfo}{z:Value}{size bytes:Nat}(ht:P.underlying t=some (.slice e))(hi:P.info? e=some i)(hz:i.zero=some z)(hsize:i.size=size)(hby:i.bytes=bytes)(hzs:z.cells.size=size)(hsz:0<size)
  (v:Value)(n:Nat)(xs:List Value)(hs:a.eval s=v)(hown:w.ownsRow base e size v n xs)
  (ad:Addr)(m c:Nat)(news:List Value)(hx:a.eval x=.slice (some ad) m c)(hl:news.length=m*size)(hnews:∀j u,news[j]?=some u→w.cell? (ad.add j)=some u)(h1:∀u∈news,u.oneCell'=true)
  (h63:n+m≤maxLen)(hbytes:(n+m)*bytes≤140737488355328)(hbase:base≤w.heap.size)(hm:0<m)
  (hK:∀v' w',w'.ownsRow base e size v' (n+m) (xs++news)→w.grownBy w' v.ownBlock→(v'.ownBlock=v.ownBlock∨v'.ownBlock=some w.heap.size)→K (a.put o.dst v') w') :
  if Region.wanted o (yielded ops a.tmps)=true then Oper.wp P o a w K Q else E:=by
 have hw:Region.wanted o (yielded ops a.tmps)=true:=by simp[Region.wanted,hg]
 rw[if_pos hw]
 obtain⟨v',w',hr,h2,h3,h4⟩:=j8R (P:=P) w base t o.type e i z size bytes ht hi hz hsize hby hzs hsz v n xs hown ad m c news hl hnews h1 h63 hbytes hbase hm
 unfold Oper.wp execOp
 simp only[hop,resolve,invoke,builtin,Sem.run_bind,Sem.run_pure,Result.andThen_ok,List.map_toArray,List.map_cons,List.map_nil,hs,hx,hr]
 exact hK v' w' h2 h3 h4
theorem j4Q (bp bt ct:Nat)(ts:List PTok)(d:Nat)(hd8:d<8)(w:World)(nx:Nat)(ns:List PNode)(dp:Int)(hd:dp+(d+1:Nat)=9)(hpn:PN w bp bt ct ts nx ns)(_hbt:bt<bp)(hn:nx+q4Z (d+1)≤4000)(hm:ns.length+q3r (d+1)≤1000)(hcase:(q1c ts nx).1=false) :
  Calls Tryz.prog 91 #[.pointer (some ⟨bp,0,none⟩),.int .i64 dp] w fun e w'=>e=.returned (.bool (q0i ts (d+1) nx ns.length).1)∧q9z w w' bp bt ct ts ns (q0i ts (d+1) nx ns.length):=by
 have HC:=zb hcase
 clear hcase
 have hdp1:1≤dp:=by omega
 have hdp8:dp≤8:=by omega
 have HD:Hid (dp+1+d=9):=zb (by omega)
 have hn6:nx≤4000:=by omega
 have HL:=zb (q8P ts nx)
 obtain⟨nv,hP,hown⟩:=hpn
 have HO:=zb hown
 have hh:=q9q bp bt ct ts nv nx w hP (by omega)
 generalize hr:q0i ts (d+1) nx ns.length=r
 have HT:=zb hr
 have HN:Hid (nx+9+2*q4Z d≤4000∧ns.length+1+2*q3r d≤1000):=zb (by simp only[q4Z,q3r]at hn hm;omega)
 clear hr hown hn hm hd
 generalize hhd:q1c ts nx=hr at *
 have HH:=zb hhd
 clear hhd
 obtain⟨ok,m,nd⟩:=hr
 obtain⟨V,hV⟩:∃V,V=q1C nd:=⟨_,rfl⟩
 rw[←hV]at hh
 have HV:=zb hV
 clear hV
 have H:=zb hP
 have hlt:=hP.lt.2
 clear hP
 go_enter Tryz.func91,Tryz.ntmps91
 go_wp2_with fail
 refine hh.mono ?_
 rintro e w1 ⟨rfl,hP1,ho1⟩
 have hown1:=q2w HO.out ho1 (by simp)
 obtain⟨ao,cap,rfl⟩:=qn hown1
 have hrow:=hown1.lt
 have hl1:=hP1.lt.2
 obtain⟨w2,hst2,hB2,hb2,hs2⟩:=q0m (P:=Tryz.prog) 166 w1 (zq q5h).toArray (zq nd).toArray (by kernel_rfl) rfl (by simp[zq,Value.oneCell'])
 rw[show Value.agg (zq nd).toArray=V from HV.out.symm]at hst2
 simp only[zq]at hst2
 have HP1:=zb hP1
 have HO1:=zb hown1
 have HB2:=zb hB2
 have HS2:=zb hs2
 clear hh hP1 hown1 hB2 hs2
 simp only[]at *
 have hok:ok=false:=by have:=HC.out;simpa using this
 subst hok
 have er:=HT.out
 rw[q0i,HH.out]at er
 simp only[Bool.false_eq_true,if_false]at er
 subst er
 go_wp2_with (refine ze rfl 166 (.tmp 5) (.tmp 13) rfl ⟨w1.heap.size,0,none⟩ _ rfl rfl w2 hst2 ?_)
 go_ret
 exact⟨rfl,⟨_,HP1.out.only (bl:=[]) (.of_below hb2) (by simp) (by simp),fun h=>absurd h (by simp)⟩,(ho1.below (B:=bp) (by omega) (by simp)).trans (hb2.mono (by omega))⟩
theorem j4R (bp bt ct:Nat)(ts:List PTok)(d:Nat)(hd8:d<8)(w:World)(nx:Nat)(ns:List PNode)(dp:Int)(hd:dp+(d+1:Nat)=9)(hpn:PN w bp bt ct ts nx ns)(hbt:bt<bp)(hn:nx+q4Z (d+1)≤4000)(hm:ns.length+q3r (d+1)≤1000)(hcase:(q1c ts nx).1=true∧(q1c ts nx).2.2.kind=2) :
  Calls Tryz.prog 91 #[.pointer (some ⟨bp,0,none⟩),.int .i64 dp] w fun e w'=>e=.returned (.bool (q0i ts (d+1) nx ns.length).1)∧q9z w w' bp bt ct ts ns (q0i ts (d+1) nx ns.length):=by
 have HC:=zb hcase
 clear hcase
 have hdp1:1≤dp:=by omega
 have hdp8:dp≤8:=by omega
 have HD:Hid (dp+1+d=9):=zb (by omega)
 have hn6:nx≤4000:=by omega
 have HL:=zb (q8P ts nx)
 obtain⟨nv,hP,hown⟩:=hpn
 have HO:=zb hown
 have hh:=q9q bp bt ct ts nv nx w hP (by omega)
 generalize hr:q0i ts (d+1) nx ns.length=r
 have HT:=zb hr
 have HN:Hid (nx+9+2*q4Z d≤4000∧ns.length+1+2*q3r d≤1000):=zb (by simp only[q4Z,q3r]at hn hm;omega)
 clear hr hown hn hm hd
 generalize hhd:q1c ts nx=hr at *
 have HH:=zb hhd
 clear hhd
 obtain⟨ok,m,nd⟩:=hr
 obtain⟨V,hV⟩:∃V,V=q1C nd:=⟨_,rfl⟩
 rw[←hV]at hh
 have HV:=zb hV
 clear hV
 have H:=zb hP
 have hlt:=hP.lt.2
 clear hP
 go_enter Tryz.func91,Tryz.ntmps91
 go_wp2_with fail
 refine hh.mono ?_
 rintro e w1 ⟨rfl,hP1,ho1⟩
 have hown1:=q2w HO.out ho1 (by simp)
 obtain⟨ao,cap,rfl⟩:=qn hown1
 have hrow:=hown1.lt
 have hl1:=hP1.lt.2
 obtain⟨w2,hst2,hB2,hb2,hs2⟩:=q0m (P:=Tryz.prog) 166 w1 (zq q5h).toArray (zq nd).toArray (by kernel_rfl) rfl (by simp[zq,Value.oneCell'])
 rw[show Value.agg (zq nd).toArray=V from HV.out.symm]at hst2
 simp only[zq]at hst2
 have HP1:=zb hP1
 have HO1:=zb hown1
 have HB2:=zb hB2
 have HS2:=zb hs2
 clear hh hP1 hown1 hB2 hs2
 simp only[]at *
 have hok:ok=true:=by have:=HC.out.1;simpa using this
 subst hok
 have HK:Hid (nd.kind=2):=zb (by have:=HC.out.2;simpa using this)
 have hP2:=HP1.out.only (bl:=[]) (.of_below hb2) (by simp) (by simp)
 have c2:=hP2.nodes
 have f2:=hP2.free 2
 have hl2:=hP2.lt.2
 have HP2:=zb hP2
 clear hP2
 have q0:=zC w2 w1.heap.size 0 _ _ _ HB2.out
 simp only[zq,List.getElem?_toArray,List.getElem?_cons_zero]at q0
 have Q0:=zb q0
 clear q0
 have L5:=fun(W:World) (h:W.heap[w1.heap.size]?=w2.heap[w1.heap.size]?)=>(NodeAt.of_block (h.trans HB2.out)).load
 rw[show q1C nd=V from HV.out.symm]at L5
 have S6:=q9Z nd
 rw[show q1C nd=V from HV.out.symm]at S6
 have HL5:=zb L5
 have HS6:=zb S6
 clear L5 S6
 go_wp2_with (refine ze rfl 166 (.tmp 5) (.tmp 13) rfl ⟨w1.heap.size,0,none⟩ _ rfl rfl w2 hst2 ?_)
 have hown2:=zp HO1.out hb2
 have HOD:=fun o:Obj=>zb (hown2.drew.alloc o)
 have HRO:Hid (∀k,(Value.slice ao ns.length cap).ownBlock=some k→bp+1≤k):=zb (fun k e=>(hrow k e).1)
 have HRW:=zb hrow
 have hns:ns.length≤1000:=by have:=HN.out.2;omega
 clear hown2 hrow
 obtain⟨i0,hi0,hz0,hz1,hz2⟩:=info_parts q8t
 refine wp_region_any (by kernel_rfl) ?_
 change wpAny _ _ _ _ _ _ _ (World.drew _)
 refine wpAny_take (i:=0) (v:=.pointer (some ⟨bp,0,none⟩)) rfl (by kernel_rfl) (by kernel_rfl) (by kernel_rfl) (fun _ _ _ h=>h) (Or.inl ⟨by rfl,?_⟩) ?_
 ·intro w;go_simp
 simp only[Act.put,List.setIfInBounds_toArray]
 refine wpAny_take (i:=1) (v:=.pointer (some ⟨bp,0,none⟩)) rfl (by kernel_rfl) (by kernel_rfl) (by kernel_rfl) (fun _ _ _ h=>h) (Or.inl ⟨by rfl,?_⟩) ?_
 ·intro w;go_simp
 simp only[Act.put]
 refine wpAny_take (i:=2) (v:=.pointer (some ⟨bp,0,none⟩)) rfl (by kernel_rfl) (by kernel_rfl) (by kernel_rfl) (fun _ _ _ h=>h) (Or.inl ⟨by rfl,?_⟩) ?_
 ·intro w;go_simp
 simp only[Act.put]
 refine wpAny_take (i:=3) (v:=.pointer (some ⟨bp,2,none⟩)) rfl (by kernel_rfl) (by kernel_rfl) (by kernel_rfl) (fun _ _ _ h=>h) (Or.inl ⟨by rfl,?_⟩) ?_
 ·intro w;go_simp
 simp only[Act.put]
 refine wpAny_ready (rs:=[4,5]) (by kernel_rfl) (by simp) ?_
 refine AllReady.cons rfl (fun K hK=>?_) (AllReady.cons rfl (fun K hK=>?_) AllReady.nil)
 ·go_simp
  refine hK _ _ ?_
  clear hK K
  refine wpAny_ready (rs:=[5]) (by kernel_rfl) (by simp) ?_
  refine AllReady.cons rfl (fun K hK=>?_) AllReady.nil
  rw[if_pos (by rfl)]
  refine q0e 166 (.tmp 5) rfl ⟨w1.heap.size,0,none⟩ V rfl (HL5.out _ rfl) ?_
  refine hK _ _ ?_
  clear hK K
  simp only[Act.put,List.setIfInBounds_toArray]
  refine wpAny_ready (rs:=[6]) (by kernel_rfl) (by simp) ?_
  refine AllReady.cons rfl (fun K hK=>?_) AllReady.nil
  rw[if_pos (by rfl)]
  refine q1O 86 (.tmp 27) rfl V _ _ rfl (HS6.out _) ?_
  refine hK _ _ ?_
  clear hK K
  simp only[Act.put]
  refine wpAny_ready (rs:=[7]) (by kernel_rfl) (by simp) ?_
  refine AllReady.cons rfl (fun K hK=>?_) AllReady.nil
  refine q0F rfl (.tmp 26) (.tmp 28) 86 rfl (bp+1) 166 Tryz.underlying86 hi0 hz0 hz1 hz2 rfl (by decide) (.slice ao ns.length cap) ns.length (qw ns) rfl (HOD _).out ⟨w2.heap.size,0,none⟩ 1 1 (zq nd) rfl rfl (q4U w2.drew nd _) (q2v nd) (by unfold maxLen;omega) (by omega) (by simp;omega) ?_
  intro v' w' hown' hgrow'
  obtain⟨g',cap',rfl⟩:=zJ hown' (by omega)
  obtain⟨c2',f2'⟩:=q3P hgrow' HRO.out hl2 c2 f2
  refine hK _ _ ?_
  clear hK K
  simp only[Act.put]
  refine wpAny_take (i:=8) (v:=.pointer (some ⟨bp,0,none⟩)) rfl (by kernel_rfl) (by kernel_rfl) (by kernel_rfl) (fun _ _ _ h=>h) (Or.inl ⟨by rfl,?_⟩) ?_
  ·intro w;go_simp
  simp only[Act.put]
  refine wpAny_take (i:=9) (v:=.pointer (some ⟨bp,2,none⟩)) rfl (by kernel_rfl) (by kernel_rfl) (by kernel_rfl) (fun _ _ _ h=>h) (Or.inl ⟨by rfl,?_⟩) ?_
  ·intro w;go_simp
  simp only[Act.put]
  refine wpAny_ready (rs:=[10]) (by kernel_rfl) (by simp) ?_
  refine AllReady.cons rfl (fun K hK=>?_) AllReady.nil
  go_simp
  refine hK _ _ ?_
  clear hK K
  refine wpAny_done (by kernel_rfl) ?_ _
  obtain⟨hpn,hk0,hbl⟩:=q1K HP1.out hbt hb2 HRW.out Q0.out hgrow' hown'
  obtain⟨w5,hw5⟩:∃W:World,W=w'.setCell ⟨bp,2,none⟩ (.slice (some ⟨g',0,none⟩) (ns.length+1) cap'):=⟨_,rfl⟩
  rw[←hw5]at hpn hk0 hbl
  rw[←hw5]
  have B5:Below bp w w5:=(ho1.below (B:=bp) (by omega) (by simp)).trans hbl
  have HPN:=zb hpn
  have HB5:=zb B5
  clear hw5 hpn hbl B5 hown' hgrow' c2' f2' c2 f2 hst2 hi0 hz0 hz1 hz2
  have kk:=HK.out
  have er:=HT.out
  rw[q0i,HH.out]at er
  simp only[if_true]at er
  rw[if_pos (Or.inr HK.out)]at er
  subst er
  go_wp2_with fail
  go_ret
  obtain⟨nv',p5,w5o⟩:=HPN.out
  exact⟨rfl,⟨nv',p5,fun _=>w5o⟩,HB5.out⟩
 ·rw[if_pos (by rfl)]
  refine q0e 166 (.tmp 5) rfl ⟨w1.heap.size,0,none⟩ V rfl (HL5.out _ rfl) ?_
  refine hK _ _ ?_
  clear hK K
  simp only[Act.put]
  refine wpAny_ready (rs:=[4,6]) (by kernel_rfl) (by simp) ?_
  refine AllReady.cons rfl (fun K hK=>?_) (AllReady.cons rfl (fun K hK=>?_) AllReady.nil)
  ·go_simp
   refine hK _ _ ?_
   clear hK K
   refine wpAny_ready (rs:=[6]) (by kernel_rfl) (by simp) ?_
   refine AllReady.cons rfl (fun K hK=>?_) AllReady.nil
   rw[if_pos (by rfl)]
   refine q1O 86 (.tmp 27) rfl V _ _ rfl (HS6.out _) ?_
   refine hK _ _ ?_
   clear hK K
   simp only[Act.put,List.setIfInBounds_toArray]
   refine wpAny_ready (rs:=[7]) (by kernel_rfl) (by simp) ?_
   refine AllReady.cons rfl (fun K hK=>?_) AllReady.nil
   refine q0F rfl (.tmp 26) (.tmp 28) 86 rfl (bp+1) 166 Tryz.underlying86 hi0 hz0 hz1 hz2 rfl (by decide) (.slice ao ns.length cap) ns.length (qw ns) rfl (HOD _).out ⟨w2.heap.size,0,none⟩ 1 1 (zq nd) rfl rfl (q4U w2.drew nd _) (q2v nd) (by unfold maxLen;omega) (by omega) (by simp;omega) ?_
   intro v' w' hown' hgrow'
   obtain⟨g',cap',rfl⟩:=zJ hown' (by omega)
   obtain⟨c2',f2'⟩:=q3P hgrow' HRO.out hl2 c2 f2
   refine hK _ _ ?_
   clear hK K
   simp only[Act.put]
   refine wpAny_take (i:=8) (v:=.pointer (some ⟨bp,0,none⟩)) rfl (by kernel_rfl) (by kernel_rfl) (by kernel_rfl) (fun _ _ _ h=>h) (Or.inl ⟨by rfl,?_⟩) ?_
   ·intro w;go_simp
   simp only[Act.put]
   refine wpAny_take (i:=9) (v:=.pointer (some ⟨bp,2,none⟩)) rfl (by kernel_rfl) (by kernel_rfl) (by kernel_rfl) (fun _ _ _ h=>h) (Or.inl ⟨by rfl,?_⟩) ?_
   ·intro w;go_simp
   simp only[Act.put]
   refine wpAny_ready (rs:=[10]) (by kernel_rfl) (by simp) ?_
   refine AllReady.cons rfl (fun K hK=>?_) AllReady.nil
   go_simp
   refine hK _ _ ?_
   clear hK K
   refine wpAny_done (by kernel_rfl) ?_ _
   obtain⟨hpn,hk0,hbl⟩:=q1K HP1.out hbt hb2 HRW.out Q0.out hgrow' hown'
   obtain⟨w5,hw5⟩:∃W:World,W=w'.setCell ⟨bp,2,none⟩ (.slice (some ⟨g',0,none⟩) (ns.length+1) cap'):=⟨_,rfl⟩
   rw[←hw5]at hpn hk0 hbl
   rw[←hw5]
   have B5:Below bp w w5:=(ho1.below (B:=bp) (by omega) (by simp)).trans hbl
   have HPN:=zb hpn
   have HB5:=zb B5
   clear hw5 hpn hbl B5 hown' hgrow' c2' f2' c2 f2 hst2 hi0 hz0 hz1 hz2
   have kk:=HK.out
   have er:=HT.out
   rw[q0i,HH.out]at er
   simp only[if_true]at er
   rw[if_pos (Or.inr HK.out)]at er
   subst er
   go_wp2_with fail
   go_ret
   obtain⟨nv',p5,w5o⟩:=HPN.out
   exact⟨rfl,⟨nv',p5,fun _=>w5o⟩,HB5.out⟩
  ·rw[if_pos (by rfl)]
   refine q1O 86 (.tmp 27) rfl V _ _ rfl (HS6.out _) ?_
   refine hK _ _ ?_
   clear hK K
   simp only[Act.put]
   refine wpAny_ready (rs:=[4]) (by kernel_rfl) (by simp) ?_
   refine AllReady.cons rfl (fun K hK=>?_) AllReady.nil
   go_simp
   refine hK _ _ ?_
   clear hK K
   refine wpAny_ready (rs:=[7]) (by kernel_rfl) (by simp) ?_
   refine AllReady.cons rfl (fun K hK=>?_) AllReady.nil
   refine q0F rfl (.tmp 26) (.tmp 28) 86 rfl (bp+1) 166 Tryz.underlying86 hi0 hz0 hz1 hz2 rfl (by decide) (.slice ao ns.length cap) ns.length (qw ns) rfl (HOD _).out ⟨w2.heap.size,0,none⟩ 1 1 (zq nd) rfl rfl (q4U w2.drew nd _) (q2v nd) (by unfold maxLen;omega) (by omega) (by simp;omega) ?_
   intro v' w' hown' hgrow'
   obtain⟨g',cap',rfl⟩:=zJ hown' (by omega)
   obtain⟨c2',f2'⟩:=q3P hgrow' HRO.out hl2 c2 f2
   refine hK _ _ ?_
   clear hK K
   simp only[Act.put,List.setIfInBounds_toArray]
   refine wpAny_take (i:=8) (v:=.pointer (some ⟨bp,0,none⟩)) rfl (by kernel_rfl) (by kernel_rfl) (by kernel_rfl) (fun _ _ _ h=>h) (Or.inl ⟨by rfl,?_⟩) ?_
   ·intro w;go_simp
   simp only[Act.put]
   refine wpAny_take (i:=9) (v:=.pointer (some ⟨bp,2,none⟩)) rfl (by kernel_rfl) (by kernel_rfl) (by kernel_rfl) (fun _ _ _ h=>h) (Or.inl ⟨by rfl,?_⟩) ?_
   ·intro w;go_simp
   simp only[Act.put]
   refine wpAny_ready (rs:=[10]) (by kernel_rfl) (by simp) ?_
   refine AllReady.cons rfl (fun K hK=>?_) AllReady.nil
   go_simp
   refine hK _ _ ?_
   clear hK K
   refine wpAny_done (by kernel_rfl) ?_ _
   obtain⟨hpn,hk0,hbl⟩:=q1K HP1.out hbt hb2 HRW.out Q0.out hgrow' hown'
   obtain⟨w5,hw5⟩:∃W:World,W=w'.setCell ⟨bp,2,none⟩ (.slice (some ⟨g',0,none⟩) (ns.length+1) cap'):=⟨_,rfl⟩
   rw[←hw5]at hpn hk0 hbl
   rw[←hw5]
   have B5:Below bp w w5:=(ho1.below (B:=bp) (by omega) (by simp)).trans hbl
   have HPN:=zb hpn
   have HB5:=zb B5
   clear hw5 hpn hbl B5 hown' hgrow' c2' f2' c2 f2 hst2 hi0 hz0 hz1 hz2
   have kk:=HK.out
   have er:=HT.out
   rw[q0i,HH.out]at er
   simp only[if_true]at er
   rw[if_pos (Or.inr HK.out)]at er
   subst er
   go_wp2_with fail
   go_ret
   obtain⟨nv',p5,w5o⟩:=HPN.out
   exact⟨rfl,⟨nv',p5,fun _=>w5o⟩,HB5.out⟩
theorem j4S (bp bt ct:Nat)(ts:List PTok)(d:Nat)(hd8:d<8)(w:World)(nx:Nat)(ns:List PNode)(dp:Int)(hd:dp+(d+1:Nat)=9)(hpn:PN w bp bt ct ts nx ns)(hbt:bt<bp)(hn:nx+q4Z (d+1)≤4000)(hm:ns.length+q3r (d+1)≤1000)(hcase:(q1c ts nx).1=true∧(q1c ts nx).2.2.kind=5) :
  Calls Tryz.prog 91 #[.pointer (some ⟨bp,0,none⟩),.int .i64 dp] w fun e w'=>e=.returned (.bool (q0i ts (d+1) nx ns.length).1)∧q9z w w' bp bt ct ts ns (q0i ts (d+1) nx ns.length):=by
 have HC:=zb hcase
 clear hcase
 have hdp1:1≤dp:=by omega
 have hdp8:dp≤8:=by omega
 have HD:Hid (dp+1+d=9):=zb (by omega)
 have hn6:nx≤4000:=by omega
 have HL:=zb (q8P ts nx)
 obtain⟨nv,hP,hown⟩:=hpn
 have HO:=zb hown
 have hh:=q9q bp bt ct ts nv nx w hP (by omega)
 generalize hr:q0i ts (d+1) nx ns.length=r
 have HT:=zb hr
 have HN:Hid (nx+9+2*q4Z d≤4000∧ns.length+1+2*q3r d≤1000):=zb (by simp only[q4Z,q3r]at hn hm;omega)
 clear hr hown hn hm hd
 generalize hhd:q1c ts nx=hr at *
 have HH:=zb hhd
 clear hhd
 obtain⟨ok,m,nd⟩:=hr
 obtain⟨V,hV⟩:∃V,V=q1C nd:=⟨_,rfl⟩
 rw[←hV]at hh
 have HV:=zb hV
 clear hV
 have H:=zb hP
 have hlt:=hP.lt.2
 clear hP
 go_enter Tryz.func91,Tryz.ntmps91
 go_wp2_with fail
 refine hh.mono ?_
 rintro e w1 ⟨rfl,hP1,ho1⟩
 have hown1:=q2w HO.out ho1 (by simp)
 obtain⟨ao,cap,rfl⟩:=qn hown1
 have hrow:=hown1.lt
 have hl1:=hP1.lt.2
 obtain⟨w2,hst2,hB2,hb2,hs2⟩:=q0m (P:=Tryz.prog) 166 w1 (zq q5h).toArray (zq nd).toArray (by kernel_rfl) rfl (by simp[zq,Value.oneCell'])
 rw[show Value.agg (zq nd).toArray=V from HV.out.symm]at hst2
 simp only[zq]at hst2
 have HP1:=zb hP1
 have HO1:=zb hown1
 have HB2:=zb hB2
 have HS2:=zb hs2
 clear hh hP1 hown1 hB2 hs2
 simp only[]at *
 have hok:ok=true:=by have:=HC.out.1;simpa using this
 subst hok
 have HK:Hid (nd.kind=5):=zb (by have:=HC.out.2;simpa using this)
 have hP2:=HP1.out.only (bl:=[]) (.of_below hb2) (by simp) (by simp)
 have c2:=hP2.nodes
 have f2:=hP2.free 2
 have hl2:=hP2.lt.2
 have HP2:=zb hP2
 clear hP2
 have q0:=zC w2 w1.heap.size 0 _ _ _ HB2.out
 simp only[zq,List.getElem?_toArray,List.getElem?_cons_zero]at q0
 have Q0:=zb q0
 clear q0
 have L5:=fun(W:World) (h:W.heap[w1.heap.size]?=w2.heap[w1.heap.size]?)=>(NodeAt.of_block (h.trans HB2.out)).load
 rw[show q1C nd=V from HV.out.symm]at L5
 have S6:=q9Z nd
 rw[show q1C nd=V from HV.out.symm]at S6
 have HL5:=zb L5
 have HS6:=zb S6
 clear L5 S6
 go_wp2_with (refine ze rfl 166 (.tmp 5) (.tmp 13) rfl ⟨w1.heap.size,0,none⟩ _ rfl rfl w2 hst2 ?_)
 have hown2:=zp HO1.out hb2
 have HOD:=fun o:Obj=>zb (hown2.drew.alloc o)
 have HRO:Hid (∀k,(Value.slice ao ns.length cap).ownBlock=some k→bp+1≤k):=zb (fun k e=>(hrow k e).1)
 have HRW:=zb hrow
 have hns:ns.length≤1000:=by have:=HN.out.2;omega
 clear hown2 hrow
 obtain⟨i0,hi0,hz0,hz1,hz2⟩:=info_parts q8t
 refine wp_region_any (by kernel_rfl) ?_
 change wpAny _ _ _ _ _ _ _ (World.drew _)
 refine wpAny_take (i:=0) (v:=.pointer (some ⟨bp,0,none⟩)) rfl (by kernel_rfl) (by kernel_rfl) (by kernel_rfl) (fun _ _ _ h=>h) (Or.inl ⟨by rfl,?_⟩) ?_
 ·intro w;go_simp
 simp only[Act.put,List.setIfInBounds_toArray]
 refine wpAny_take (i:=1) (v:=.pointer (some ⟨bp,0,none⟩)) rfl (by kernel_rfl) (by kernel_rfl) (by kernel_rfl) (fun _ _ _ h=>h) (Or.inl ⟨by rfl,?_⟩) ?_
 ·intro w;go_simp
 simp only[Act.put]
 refine wpAny_take (i:=2) (v:=.pointer (some ⟨bp,0,none⟩)) rfl (by kernel_rfl) (by kernel_rfl) (by kernel_rfl) (fun _ _ _ h=>h) (Or.inl ⟨by rfl,?_⟩) ?_
 ·intro w;go_simp
 simp only[Act.put]
 refine wpAny_take (i:=3) (v:=.pointer (some ⟨bp,2,none⟩)) rfl (by kernel_rfl) (by kernel_rfl) (by kernel_rfl) (fun _ _ _ h=>h) (Or.inl ⟨by rfl,?_⟩) ?_
 ·intro w;go_simp
 simp only[Act.put]
 refine wpAny_ready (rs:=[4,5]) (by kernel_rfl) (by simp) ?_
 refine AllReady.cons rfl (fun K hK=>?_) (AllReady.cons rfl (fun K hK=>?_) AllReady.nil)
 ·go_simp
  refine hK _ _ ?_
  clear hK K
  refine wpAny_ready (rs:=[5]) (by kernel_rfl) (by simp) ?_
  refine AllReady.cons rfl (fun K hK=>?_) AllReady.nil
  rw[if_pos (by rfl)]
  refine q0e 166 (.tmp 5) rfl ⟨w1.heap.size,0,none⟩ V rfl (HL5.out _ rfl) ?_
  refine hK _ _ ?_
  clear hK K
  simp only[Act.put,List.setIfInBounds_toArray]
  refine wpAny_ready (rs:=[6]) (by kernel_rfl) (by simp) ?_
  refine AllReady.cons rfl (fun K hK=>?_) AllReady.nil
  rw[if_pos (by rfl)]
  refine q1O 86 (.tmp 27) rfl V _ _ rfl (HS6.out _) ?_
  refine hK _ _ ?_
  clear hK K
  simp only[Act.put]
  refine wpAny_ready (rs:=[7]) (by kernel_rfl) (by simp) ?_
  refine AllReady.cons rfl (fun K hK=>?_) AllReady.nil
  refine q0F rfl (.tmp 26) (.tmp 28) 86 rfl (bp+1) 166 Tryz.underlying86 hi0 hz0 hz1 hz2 rfl (by decide) (.slice ao ns.length cap) ns.length (qw ns) rfl (HOD _).out ⟨w2.heap.size,0,none⟩ 1 1 (zq nd) rfl rfl (q4U w2.drew nd _) (q2v nd) (by unfold maxLen;omega) (by omega) (by simp;omega) ?_
  intro v' w' hown' hgrow'
  obtain⟨g',cap',rfl⟩:=zJ hown' (by omega)
  obtain⟨c2',f2'⟩:=q3P hgrow' HRO.out hl2 c2 f2
  refine hK _ _ ?_
  clear hK K
  simp only[Act.put]
  refine wpAny_take (i:=8) (v:=.pointer (some ⟨bp,0,none⟩)) rfl (by kernel_rfl) (by kernel_rfl) (by kernel_rfl) (fun _ _ _ h=>h) (Or.inl ⟨by rfl,?_⟩) ?_
  ·intro w;go_simp
  simp only[Act.put]
  refine wpAny_take (i:=9) (v:=.pointer (some ⟨bp,2,none⟩)) rfl (by kernel_rfl) (by kernel_rfl) (by kernel_rfl) (fun _ _ _ h=>h) (Or.inl ⟨by rfl,?_⟩) ?_
  ·intro w;go_simp
  simp only[Act.put]
  refine wpAny_ready (rs:=[10]) (by kernel_rfl) (by simp) ?_
  refine AllReady.cons rfl (fun K hK=>?_) AllReady.nil
  go_simp
  refine hK _ _ ?_
  clear hK K
  refine wpAny_done (by kernel_rfl) ?_ _
  obtain⟨hpn,hk0,hbl⟩:=q1K HP1.out hbt hb2 HRW.out Q0.out hgrow' hown'
  obtain⟨w5,hw5⟩:∃W:World,W=w'.setCell ⟨bp,2,none⟩ (.slice (some ⟨g',0,none⟩) (ns.length+1) cap'):=⟨_,rfl⟩
  rw[←hw5]at hpn hk0 hbl
  rw[←hw5]
  have B5:Below bp w w5:=(ho1.below (B:=bp) (by omega) (by simp)).trans hbl
  have HPN:=zb hpn
  have HB5:=zb B5
  clear hw5 hpn hbl B5 hown' hgrow' c2' f2' c2 f2 hst2 hi0 hz0 hz1 hz2
  have kk:=HK.out
  have er:=HT.out
  rw[q0i,HH.out]at er
  simp only[if_true]at er
  rw[if_pos (Or.inl HK.out)]at er
  subst er
  go_wp2_with fail
  go_ret
  obtain⟨nv',p5,w5o⟩:=HPN.out
  exact⟨rfl,⟨nv',p5,fun _=>w5o⟩,HB5.out⟩
 ·rw[if_pos (by rfl)]
  refine q0e 166 (.tmp 5) rfl ⟨w1.heap.size,0,none⟩ V rfl (HL5.out _ rfl) ?_
  refine hK _ _ ?_
  clear hK K
  simp only[Act.put]
  refine wpAny_ready (rs:=[4,6]) (by kernel_rfl) (by simp) ?_
  refine AllReady.cons rfl (fun K hK=>?_) (AllReady.cons rfl (fun K hK=>?_) AllReady.nil)
  ·go_simp
   refine hK _ _ ?_
   clear hK K
   refine wpAny_ready (rs:=[6]) (by kernel_rfl) (by simp) ?_
   refine AllReady.cons rfl (fun K hK=>?_) AllReady.nil
   rw[if_pos (by rfl)]
   refine q1O 86 (.tmp 27) rfl V _ _ rfl (HS6.out _) ?_
   refine hK _ _ ?_
   clear hK K
   simp only[Act.put,List.setIfInBounds_toArray]
   refine wpAny_ready (rs:=[7]) (by kernel_rfl) (by simp) ?_
   refine AllReady.cons rfl (fun K hK=>?_) AllReady.nil
   refine q0F rfl (.tmp 26) (.tmp 28) 86 rfl (bp+1) 166 Tryz.underlying86 hi0 hz0 hz1 hz2 rfl (by decide) (.slice ao ns.length cap) ns.length (qw ns) rfl (HOD _).out ⟨w2.heap.size,0,none⟩ 1 1 (zq nd) rfl rfl (q4U w2.drew nd _) (q2v nd) (by unfold maxLen;omega) (by omega) (by simp;omega) ?_
   intro v' w' hown' hgrow'
   obtain⟨g',cap',rfl⟩:=zJ hown' (by omega)
   obtain⟨c2',f2'⟩:=q3P hgrow' HRO.out hl2 c2 f2
   refine hK _ _ ?_
   clear hK K
   simp only[Act.put]
   refine wpAny_take (i:=8) (v:=.pointer (some ⟨bp,0,none⟩)) rfl (by kernel_rfl) (by kernel_rfl) (by kernel_rfl) (fun _ _ _ h=>h) (Or.inl ⟨by rfl,?_⟩) ?_
   ·intro w;go_simp
   simp only[Act.put]
   refine wpAny_take (i:=9) (v:=.pointer (some ⟨bp,2,none⟩)) rfl (by kernel_rfl) (by kernel_rfl) (by kernel_rfl) (fun _ _ _ h=>h) (Or.inl ⟨by rfl,?_⟩) ?_
   ·intro w;go_simp
   simp only[Act.put]
   refine wpAny_ready (rs:=[10]) (by kernel_rfl) (by simp) ?_
   refine AllReady.cons rfl (fun K hK=>?_) AllReady.nil
   go_simp
   refine hK _ _ ?_
   clear hK K
   refine wpAny_done (by kernel_rfl) ?_ _
   obtain⟨hpn,hk0,hbl⟩:=q1K HP1.out hbt hb2 HRW.out Q0.out hgrow' hown'
   obtain⟨w5,hw5⟩:∃W:World,W=w'.setCell ⟨bp,2,none⟩ (.slice (some ⟨g',0,none⟩) (ns.length+1) cap'):=⟨_,rfl⟩
   rw[←hw5]at hpn hk0 hbl
   rw[←hw5]
   have B5:Below bp w w5:=(ho1.below (B:=bp) (by omega) (by simp)).trans hbl
   have HPN:=zb hpn
   have HB5:=zb B5
   clear hw5 hpn hbl B5 hown' hgrow' c2' f2' c2 f2 hst2 hi0 hz0 hz1 hz2
   have kk:=HK.out
   have er:=HT.out
   rw[q0i,HH.out]at er
   simp only[if_true]at er
   rw[if_pos (Or.inl HK.out)]at er
   subst er
   go_wp2_with fail
   go_ret
   obtain⟨nv',p5,w5o⟩:=HPN.out
   exact⟨rfl,⟨nv',p5,fun _=>w5o⟩,HB5.out⟩
  ·rw[if_pos (by rfl)]
   refine q1O 86 (.tmp 27) rfl V _ _ rfl (HS6.out _) ?_
   refine hK _ _ ?_
   clear hK K
   simp only[Act.put]
   refine wpAny_ready (rs:=[4]) (by kernel_rfl) (by simp) ?_
   refine AllReady.cons rfl (fun K hK=>?_) AllReady.nil
   go_simp
   refine hK _ _ ?_
   clear hK K
   refine wpAny_ready (rs:=[7]) (by kernel_rfl) (by simp) ?_
   refine AllReady.cons rfl (fun K hK=>?_) AllReady.nil
   refine q0F rfl (.tmp 26) (.tmp 28) 86 rfl (bp+1) 166 Tryz.underlying86 hi0 hz0 hz1 hz2 rfl (by decide) (.slice ao ns.length cap) ns.length (qw ns) rfl (HOD _).out ⟨w2.heap.size,0,none⟩ 1 1 (zq nd) rfl rfl (q4U w2.drew nd _) (q2v nd) (by unfold maxLen;omega) (by omega) (by simp;omega) ?_
   intro v' w' hown' hgrow'
   obtain⟨g',cap',rfl⟩:=zJ hown' (by omega)
   obtain⟨c2',f2'⟩:=q3P hgrow' HRO.out hl2 c2 f2
   refine hK _ _ ?_
   clear hK K
   simp only[Act.put,List.setIfInBounds_toArray]
   refine wpAny_take (i:=8) (v:=.pointer (some ⟨bp,0,none⟩)) rfl (by kernel_rfl) (by kernel_rfl) (by kernel_rfl) (fun _ _ _ h=>h) (Or.inl ⟨by rfl,?_⟩) ?_
   ·intro w;go_simp
   simp only[Act.put]
   refine wpAny_take (i:=9) (v:=.pointer (some ⟨bp,2,none⟩)) rfl (by kernel_rfl) (by kernel_rfl) (by kernel_rfl) (fun _ _ _ h=>h) (Or.inl ⟨by rfl,?_⟩) ?_
   ·intro w;go_simp
   simp only[Act.put]
   refine wpAny_ready (rs:=[10]) (by kernel_rfl) (by simp) ?_
   refine AllReady.cons rfl (fun K hK=>?_) AllReady.nil
   go_simp
   refine hK _ _ ?_
   clear hK K
   refine wpAny_done (by kernel_rfl) ?_ _
   obtain⟨hpn,hk0,hbl⟩:=q1K HP1.out hbt hb2 HRW.out Q0.out hgrow' hown'
   obtain⟨w5,hw5⟩:∃W:World,W=w'.setCell ⟨bp,2,none⟩ (.slice (some ⟨g',0,none⟩) (ns.length+1) cap'):=⟨_,rfl⟩
   rw[←hw5]at hpn hk0 hbl
   rw[←hw5]
   have B5:Below bp w w5:=(ho1.below (B:=bp) (by omega) (by simp)).trans hbl
   have HPN:=zb hpn
   have HB5:=zb B5
   clear hw5 hpn hbl B5 hown' hgrow' c2' f2' c2 f2 hst2 hi0 hz0 hz1 hz2
   have kk:=HK.out
   have er:=HT.out
   rw[q0i,HH.out]at er
   simp only[if_true]at er
   rw[if_pos (Or.inl HK.out)]at er
   subst er
   go_wp2_with fail
   go_ret
   obtain⟨nv',p5,w5o⟩:=HPN.out
   exact⟨rfl,⟨nv',p5,fun _=>w5o⟩,HB5.out⟩
end Go.Proofs.YtiamjjonoeaggabGreatDoor
