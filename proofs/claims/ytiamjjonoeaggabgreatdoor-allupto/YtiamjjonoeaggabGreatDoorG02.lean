import Derived.Test.YtiamjjonoeaggabGreatDoorGA
import Derived.WalkKit
import Derived.WalkSpells
import Derived.WalkSmall
import Derived.Below
import Derived.Deep.MidRow
import Derived.Laws.Tables
namespace Go.Proofs.YtiamjjonoeaggabGreatDoor
open Go.RowKit
theorem q2c {P:Program}{ops:Array Oper}{rest:List Oper}{o:Oper}{a:Act}{Q:Exit→Act→World→Prop}(hgd:o.guard=none)(x y:Operand)(t e:TypeId)
  (ho:o.op=.call {callee:=.builtin .append,args:=#[x,y],argTypes:=#[t,t]}){i:TypeInfo}{z:Value}{size bytes:Nat}(ht:P.underlying t=some (.slice e))(hi:P.info? e=some i)(hz:i.zero=some z)
  (hsize:i.size=size)(hby:i.bytes=bytes)(hzs:z.cells.size=size)(hsz:0<size)(w0:World)(base:Nat)(v:Value)(n:Nat)(xs news:List Value)(W:World)(hx:a.eval x=v)
  (hown:W.ownsRow base e size v n xs)(hy:a.eval y=.slice (some ⟨W.heap.size,0,none⟩) 1 1)(hl:news.length=size)(h1:∀u∈news,u.oneCell'=true)(hn:n≤100000)(hbb:bytes≤1000)
  (hbel:Below base w0 W)(hbase:base≤W.heap.size)
  (h:∀v' w',w'.ownsRow base e size v' (n+1) (xs++news)→Below base w0 w'→v'≠.slice none 0 0→wpList P ops Q rest (a.put o.dst v') w'):wpList P ops Q (o::rest) a (W.alloc (.cells news.toArray e)):=by
 refine wpList_append_own _ hgd x y t ho base e i z size bytes ht hi hz hsize hby hzs hsz v n xs hx (hown.alloc _) ⟨W.heap.size,0,none⟩ 1 1 news hy (by omega) ?_ h1 ?_ ?_ ?_ ?_
 ·intro j u hj
  have hlt:j<news.length:=by
   rcases Nat.lt_or_ge j news.length with g|g
   ·exact g
   ·rw[List.getElem?_eq_none g]at hj;exact absurd hj (by simp)
  have e:(⟨W.heap.size,0,none⟩:Addr).add j=⟨W.heap.size,j,none⟩:=by
   simp only[Addr.add]
   split
   ·rename_i h0;simp_all
   ·simp
  rw[e]
  simpa using hj
 ·unfold maxLen;omega
 ·have:(n+1)*bytes≤100001*1000:=Nat.mul_le_mul (by omega) hbb
  omega
 ·simp;omega
 ·intro v' w' ho' hg hnil
  refine h v' w' ho' ?_ (fun e=>?_)
  ·refine(hbel.alloc hbase _).grown hg (by simp;omega) ?_
   intro k hk
   exact(hown.lt k hk).1
  ·have:=hnil.1 e
   omega
theorem q2e (b o j:Nat):(⟨b,o,none⟩:Addr).add j=⟨b,o+j,none⟩:=by
 simp only[Addr.add]
 split
 ·rename_i h0;simp_all
 ·simp
theorem q2d {P:Program}{ops:Array Oper}{rest:List Oper}{o:Oper}{a:Act}{Q:Exit→Act→World→Prop}(hgd:o.guard=none)(x y:Operand)(t e:TypeId)
  (ho:o.op=.call {callee:=.builtin .append,args:=#[x,y],argTypes:=#[t,t]}){i:TypeInfo}{z:Value}{size bytes:Nat}(ht:P.underlying t=some (.slice e))(hi:P.info? e=some i)(hz:i.zero=some z)
  (hsize:i.size=size)(hby:i.bytes=bytes)(hzs:z.cells.size=size)(hsz:0<size)(w0:World)(base:Nat)(v:Value)(n:Nat)(xs news:List Value)(W:World)(hx:a.eval x=v)
  (hown:W.ownsRow base e size v n xs)(b off m c:Nat)(hy:a.eval y=.slice (some ⟨b,off,none⟩) m c)(hl:news.length=m*size)(hc:∀j u,news[j]?=some u→W.cell? ⟨b,off+j,none⟩=some u)(h1:∀u∈news,u.oneCell'=true)(hn:n+m≤100000)(hbb:bytes≤1000)
  (hbel:Below base w0 W)(hbase:base≤W.heap.size)
  (h:∀v' w',w'.ownsRow base e size v' (n+m) (xs++news)→Below base w0 w'→(v'=.slice none 0 0↔v=.slice none 0 0∧m=0)→wpList P ops Q rest (a.put o.dst v') w'):wpList P ops Q (o::rest) a W:=by
 refine wpList_append_own _ hgd x y t ho base e i z size bytes ht hi hz hsize hby hzs hsz v n xs hx hown ⟨b,off,none⟩ m c news hy hl ?_ h1 ?_ ?_ hbase ?_
 ·intro j u hj
  rw[q2e]
  exact hc j u hj
 ·unfold maxLen;omega
 ·have:(n+m)*bytes≤100000*1000:=Nat.mul_le_mul hn hbb
  omega
 ·intro v' w' ho' hg hnil
  refine h v' w' ho' ?_ hnil
  refine hbel.grown hg hbase ?_
  intro k hk
  exact(hown.lt k hk).1
theorem q8c (w:World)(g:Nat)(cs:Array Value)(k:Nat)(h:k≠g):(w.setRow g cs).heap[k]?=w.heap[k]?:=by
 unfold World.setRow
 simp only[Array.getElem?_modify]
 rw[if_neg (by omega)]
theorem qI {P:Program}(ty:TypeId)(W:World)(old cells:Array Value)(hi:(P.info? ty).map (·.size)=some cells.size)(ho:old.size=cells.size)(h1:cells.all (·.oneCell')=true) :
  ∃W',(Instr.storeAt ty (.pointer (some ⟨W.heap.size,0,none⟩)) (.agg cells)).run P (W.alloc (.cells old ty))=.ok () W'∧W'.heap[W.heap.size]?=some (.cells cells ty (0,0))∧Below W.heap.size W W'∧W'.heap.size=W.heap.size+1:=by
 have hg:(W.alloc (.cells old ty)).heap[W.heap.size]?=some (.cells old ty (0,0)):=zN W _
 refine⟨(W.alloc (.cells old ty)).setRow W.heap.size cells,?_,?_,?_,?_⟩
 ·simp only[Instr.storeAt,Instr.sureAddr,Sem.run_bind,Sem.run_pure,Result.andThen_ok,run_storeVar_row _ _ ty ty old cells hg hi ho h1]
 ·exact setRow_heap _ _ old cells ty _ hg
 ·refine⟨rfl,rfl,rfl,by simp,fun k hk=>?_⟩
  rw[q8c _ _ _ _ (by omega)]
  exact zO W _ hk
 ·simp
theorem q3b {P:Program}(ty t:TypeId)(W:World)(b:Nat)(old cells:Array Value)(hg:W.heap[b]?=some (.cells old t (0,0)))(hi:(P.info? ty).map (·.size)=some cells.size)(ho:old.size=cells.size)(h1:cells.all (·.oneCell')=true) :
  ∃W',(Instr.storeAt ty (.pointer (some ⟨b,0,none⟩)) (.agg cells)).run P W=.ok () W'∧W'.heap[b]?=some (.cells cells t (0,0))∧(∀k,k≠b→W'.heap[k]?=W.heap[k]?)∧W'.heap.size=W.heap.size∧W'.os=W.os∧W'.tape=W.tape∧W'.output=W.output:=by
 refine⟨W.setRow b cells,?_,setRow_heap _ _ old cells t _ hg,fun k hk=>q8c _ _ _ _ hk,by simp,rfl,rfl,rfl⟩
 simp only[Instr.storeAt,Instr.sureAddr,Sem.run_bind,Sem.run_pure,Result.andThen_ok,run_storeVar_row _ _ t ty old cells hg hi ho h1]
theorem q1s {P:Program}(ty t:TypeId)(W:World)(b:Nat)(cs:Array Value)(fr:Nat × Nat)(d:TypeDesc)(hg:W.heap[b]?=some (.cells cs t fr))(hu:P.underlying ty=some d)(hd:(match d with | .struct _ | .array _ _=>true|_=>false)=true)(hi:(P.info? ty).map (·.size)=some cs.size) :
  (Instr.loadAt ty (.pointer (some ⟨b,0,none⟩))).run P W=.ok (.agg cs) W:=by
 simp only[Instr.loadAt,Instr.sureAddr,Sem.run_bind,Sem.run_pure,Result.andThen_ok,run_loadVar_row W b t ty cs fr d hg hu hd hi]
theorem ze {P:Program}{ops:Array Oper}{rest:List Oper}{o:Oper}{a:Act}{W:World}{Q:Exit→Act→World→Prop}(hgd:o.guard=none)(ty:TypeId)(x y:Operand)(ho:o.op=.store ty x y)
  (ad:Addr)(v:Value)(hx:a.eval x=.pointer (some ad))(hy:a.eval y=v)(W':World)(hr:(Instr.storeAt ty (.pointer (some ad)) v).run P W=.ok () W')
  (h:wpList P ops Q rest (a.put o.dst undef) W'):wpList P ops Q (o::rest) a W:=by
 refine wpList_plain hgd fun _ hK=>?_
 unfold Oper.wp execOp
 simp only[ho,hx,hy,hr,Sem.run_bind,Sem.run_pure,Result.andThen_ok]
 exact hK _ _ h
theorem zg {P:Program}{ops:Array Oper}{rest:List Oper}{o:Oper}{a:Act}{W:World}{Q:Exit→Act→World→Prop}(hgd:o.guard=none)(ty:TypeId)(x:Operand)(ho:o.op=.load ty x)
  (ad:Addr)(v:Value)(hx:a.eval x=.pointer (some ad))(hr:(Instr.loadAt ty (.pointer (some ad))).run P W=.ok v W)
  (h:wpList P ops Q rest (a.put o.dst v) W):wpList P ops Q (o::rest) a W:=by
 refine wpList_plain hgd fun _ hK=>?_
 unfold Oper.wp execOp
 simp only[ho,hx,hr,Sem.run_bind,Sem.run_pure,Result.andThen_ok]
 exact hK _ _ h
theorem qi {P:Program}{fn:Func}{p q:Tmp}{ty:TypeId}(h:fn.results=#[.cell p ty,.tmp q])(tmps:Array Value)(w:World)(g:Nat)(v u:Value)(hp:tmps.getD p undef=.pointer (some ⟨g,0,none⟩))(hq:tmps.getD q undef=u)
  (hl:(loadVar ty ⟨g,0,none⟩).run P w=.ok v w):(results fn tmps).run P w=.ok (.tuple #[v,u]) w:=by
 have hp':tmps[p]?.getD undef=.pointer (some ⟨g,0,none⟩):=by simpa using hp
 have hq':tmps[q]?.getD undef=u:=by simpa using hq
 simp[results,h,hp',hq',asAddr,hl]
theorem qo {P:Program}{ops:Array Oper}{rest:List Oper}{o:Oper}{a:Act}{W:World}{Q:Exit→Act→World→Prop}(hgd:o.guard=none)(ty:TypeId)(x:Operand)(ho:o.op=.box ty x)
  (v:Value)(cells:Array Value)(hx:a.eval x=v)(hv:v=.agg cells)
  (h:∀W',W'.heap[W.heap.size]?=some (.cells cells ty (0,0))→Below W.heap.size W W'→W'.heap.size=W.heap.size+1→wpList P ops Q rest (a.put o.dst (.pointer (some ⟨W.heap.size,0,none⟩))) W'):wpList P ops Q (o::rest) a W:=by
 refine wpList_plain hgd fun _ hK=>?_
 have hk:=hK _ _ (h (W.alloc (.cells cells ty)) (zN W _) ((zB _ _).alloc (zL _) _) (by simp))
 unfold Oper.wp execOp
 simp only[ho,hx,hv,Sem.run_bind,Instr.box,newVar,newRow,run_newObj_alloc,Sem.run_pure,Result.andThen_ok,Value.cells]
 exact hk
end Go.Proofs.YtiamjjonoeaggabGreatDoor
