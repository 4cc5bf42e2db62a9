import Derived.Test.YtiamjjonoeaggabGreatDoorGA
import Derived.WalkKit
import Derived.WalkSpells
import Derived.WalkSmall
import Derived.Below
import Derived.Deep.MidRow
import Derived.Laws.Tables
import Derived.Shelf.Strconv.Itoa3
import Derived.Test.YtiamjjonoeaggabGreatDoorProg
namespace Go.Proofs.YtiamjjonoeaggabGreatDoor
open Go.RowKit
theorem q3k {P:Program}{ops:Array Oper}{rest:List Oper}{o:Oper}{a:Act}{Q:Exit→Act→World→Prop}(hgd:o.guard=none)(x y:Operand)(t e:TypeId)
  (ho:o.op=.call {callee:=.builtin .append,args:=#[x,y],argTypes:=#[t,t]}){i:TypeInfo}{z:Value}{size bytes:Nat}(ht:P.underlying t=some (.slice e))(hi:P.info? e=some i)(hz:i.zero=some z)
  (hsize:i.size=size)(hby:i.bytes=bytes)(hzs:z.cells.size=size)(hsz:0<size)(w0:World)(base:Nat)(v:Value)(n:Nat)(xs news:List Value)(W:World)(hx:a.eval x=v)
  (hown:W.ownsRow base e size v n xs)(hy:a.eval y=.slice (some ⟨W.heap.size,0,none⟩) 1 1)(hl:news.length=size)(h1:∀u∈news,u.oneCell'=true)(hn:n≤100000)(hbb:bytes≤1000)
  (hbel:Below base w0 W)(hbase:base≤W.heap.size)
  (h:∀v' w',w'.ownsRow base e size v' (n+1) (xs++news)→Below base w0 w'→v'≠.slice none 0 0→wpList P ops Q rest (a.put o.dst v') w'):wpList P ops Q (o::rest) a (W.alloc (.cells news.toArray e)):=by
 refine wpList_append_own _ hgd x y t ho base e i z size bytes ht hi hz hsize hby hzs hsz v n xs hx (hown.alloc _) ⟨W.heap.size,0,none⟩ 1 1 news hy (by omega) ?_ h1 ?_ ?_ ?_ ?_
 ·intro j u hj
  have hlt:j<news.length:=by
   rcases Nat.lt_or_ge j news.length with g|g
   ·exact g
   ·rw[List.getElem?_eq_none g]at hj;exact absurd hj (by simp)
  have e:(⟨W.heap.size,0,none⟩:Addr).add j=⟨W.heap.size,j,none⟩:=by
   simp only[Addr.add]
   split
   ·rename_i h0;simp_all
   ·simp
  rw[e]
  simpa using hj
 ·unfold maxLen;omega
 ·have:(n+1)*bytes≤100001*1000:=Nat.mul_le_mul (by omega) hbb
  omega
 ·simp;omega
 ·intro v' w' ho' hg hnil
  refine h v' w' ho' ?_ (fun e=>?_)
  ·refine(hbel.alloc hbase _).grown hg (by simp;omega) ?_
   intro k hk
   exact(hown.lt k hk).1
  ·have:=hnil.1 e
   omega
theorem q4x (b o j:Nat):(⟨b,o,none⟩:Addr).add j=⟨b,o+j,none⟩:=by
 simp only[Addr.add]
 split
 ·rename_i h0;simp_all
 ·simp
theorem q2P {P:Program}{ops:Array Oper}{rest:List Oper}{o:Oper}{a:Act}{Q:Exit→Act→World→Prop}(hgd:o.guard=none)(x y:Operand)(t e:TypeId)
  (ho:o.op=.call {callee:=.builtin .append,args:=#[x,y],argTypes:=#[t,t]}){i:TypeInfo}{z:Value}{size bytes:Nat}(ht:P.underlying t=some (.slice e))(hi:P.info? e=some i)(hz:i.zero=some z)
  (hsize:i.size=size)(hby:i.bytes=bytes)(hzs:z.cells.size=size)(hsz:0<size)(w0:World)(base:Nat)(v:Value)(n:Nat)(xs news:List Value)(W:World)(hx:a.eval x=v)
  (hown:W.ownsRow base e size v n xs)(b off m c:Nat)(hy:a.eval y=.slice (some ⟨b,off,none⟩) m c)(hl:news.length=m*size)(hc:∀j u,news[j]?=some u→W.cell? ⟨b,off+j,none⟩=some u)(h1:∀u∈news,u.oneCell'=true)(hn:n+m≤100000)(hbb:bytes≤1000)
  (hbel:Below base w0 W)(hbase:base≤W.heap.size)
  (h:∀v' w',w'.ownsRow base e size v' (n+m) (xs++news)→Below base w0 w'→(v'=.slice none 0 0↔v=.slice none 0 0∧m=0)→wpList P ops Q rest (a.put o.dst v') w'):wpList P ops Q (o::rest) a W:=by
 refine wpList_append_own _ hgd x y t ho base e i z size bytes ht hi hz hsize hby hzs hsz v n xs hx hown ⟨b,off,none⟩ m c news hy hl ?_ h1 ?_ ?_ hbase ?_
 ·intro j u hj
  rw[q4x]
  exact hc j u hj
 ·unfold maxLen;omega
 ·have:(n+m)*bytes≤100000*1000:=Nat.mul_le_mul hn hbb
  omega
 ·intro v' w' ho' hg hnil
  refine h v' w' ho' ?_ hnil
  refine hbel.grown hg hbase ?_
  intro k hk
  exact(hown.lt k hk).1
end Go.Proofs.YtiamjjonoeaggabGreatDoor
namespace Go.Proofs.YtiamjjonoeaggabGreatDoor
open Go.RowKit
theorem q9l (w:World)(g:Nat)(cs:Array Value)(k:Nat)(h:k≠g):(w.setRow g cs).heap[k]?=w.heap[k]?:=by
 unfold World.setRow
 simp only[Array.getElem?_modify]
 rw[if_neg (by omega)]
theorem q0m {P:Program}(ty:TypeId)(W:World)(old cells:Array Value)(hi:(P.info? ty).map (·.size)=some cells.size)(ho:old.size=cells.size)(h1:cells.all (·.oneCell')=true) :
  ∃W',(Instr.storeAt ty (.pointer (some ⟨W.heap.size,0,none⟩)) (.agg cells)).run P (W.alloc (.cells old ty))=.ok () W'∧W'.heap[W.heap.size]?=some (.cells cells ty (0,0))∧Below W.heap.size W W'∧W'.heap.size=W.heap.size+1:=by
 have hg:(W.alloc (.cells old ty)).heap[W.heap.size]?=some (.cells old ty (0,0)):=zN W _
 refine⟨(W.alloc (.cells old ty)).setRow W.heap.size cells,?_,?_,?_,?_⟩
 ·simp only[Instr.storeAt,Instr.sureAddr,Sem.run_bind,Sem.run_pure,Result.andThen_ok,run_storeVar_row _ _ ty ty old cells hg hi ho h1]
 ·exact setRow_heap _ _ old cells ty _ hg
 ·refine⟨rfl,rfl,rfl,by simp,fun k hk=>?_⟩
  rw[q9l _ _ _ _ (by omega)]
  exact zO W _ hk
 ·simp
theorem q0n {P:Program}(ty t:TypeId)(W:World)(b:Nat)(old cells:Array Value)(hg:W.heap[b]?=some (.cells old t (0,0)))(hi:(P.info? ty).map (·.size)=some cells.size)(ho:old.size=cells.size)(h1:cells.all (·.oneCell')=true) :
  ∃W',(Instr.storeAt ty (.pointer (some ⟨b,0,none⟩)) (.agg cells)).run P W=.ok () W'∧W'.heap[b]?=some (.cells cells t (0,0))∧(∀k,k≠b→W'.heap[k]?=W.heap[k]?)∧W'.heap.size=W.heap.size∧W'.os=W.os∧W'.tape=W.tape∧W'.output=W.output:=by
 refine⟨W.setRow b cells,?_,setRow_heap _ _ old cells t _ hg,fun k hk=>q9l _ _ _ _ hk,by simp,rfl,rfl,rfl⟩
 simp only[Instr.storeAt,Instr.sureAddr,Sem.run_bind,Sem.run_pure,Result.andThen_ok,run_storeVar_row _ _ t ty old cells hg hi ho h1]
theorem qH {P:Program}(ty t:TypeId)(W:World)(b:Nat)(cs:Array Value)(fr:Nat × Nat)(d:TypeDesc)(hg:W.heap[b]?=some (.cells cs t fr))(hu:P.underlying ty=some d)(hd:(match d with | .struct _ | .array _ _=>true|_=>false)=true)(hi:(P.info? ty).map (·.size)=some cs.size) :
  (Instr.loadAt ty (.pointer (some ⟨b,0,none⟩))).run P W=.ok (.agg cs) W:=by
 simp only[Instr.loadAt,Instr.sureAddr,Sem.run_bind,Sem.run_pure,Result.andThen_ok,run_loadVar_row W b t ty cs fr d hg hu hd hi]
theorem ze {P:Program}{ops:Array Oper}{rest:List Oper}{o:Oper}{a:Act}{W:World}{Q:Exit→Act→World→Prop}(hgd:o.guard=none)(ty:TypeId)(x y:Operand)(ho:o.op=.store ty x y)
  (ad:Addr)(v:Value)(hx:a.eval x=.pointer (some ad))(hy:a.eval y=v)(W':World)(hr:(Instr.storeAt ty (.pointer (some ad)) v).run P W=.ok () W')
  (h:wpList P ops Q rest (a.put o.dst undef) W'):wpList P ops Q (o::rest) a W:=by
 refine wpList_plain hgd fun _ hK=>?_
 unfold Oper.wp execOp
 simp only[ho,hx,hy,hr,Sem.run_bind,Sem.run_pure,Result.andThen_ok]
 exact hK _ _ h
theorem zj {P:Program}{ops:Array Oper}{rest:List Oper}{o:Oper}{a:Act}{W:World}{Q:Exit→Act→World→Prop}(hgd:o.guard=none)(ty:TypeId)(x:Operand)(ho:o.op=.load ty x)
  (ad:Addr)(v:Value)(hx:a.eval x=.pointer (some ad))(hr:(Instr.loadAt ty (.pointer (some ad))).run P W=.ok v W)
  (h:wpList P ops Q rest (a.put o.dst v) W):wpList P ops Q (o::rest) a W:=by
 refine wpList_plain hgd fun _ hK=>?_
 unfold Oper.wp execOp
 simp only[ho,hx,hr,Sem.run_bind,Sem.run_pure,Result.andThen_ok]
 exact hK _ _ h
theorem qi {P:Program}{fn:Func}{p q:Tmp}{ty:TypeId}(h:fn.results=#[.cell p ty,.tmp q])(tmps:Array Value)(w:World)(g:Nat)(v u:Value)(hp:tmps.getD p undef=.pointer (some ⟨g,0,none⟩))(hq:tmps.getD q undef=u)
  (hl:(loadVar ty ⟨g,0,none⟩).run P w=.ok v w):(results fn tmps).run P w=.ok (.tuple #[v,u]) w:=by
 have hp':tmps[p]?.getD undef=.pointer (some ⟨g,0,none⟩):=by simpa using hp
 have hq':tmps[q]?.getD undef=u:=by simpa using hq
 simp[results,h,hp',hq',asAddr,hl]
theorem qF {P:Program}{ops:Array Oper}{rest:List Oper}{o:Oper}{a:Act}{W:World}{Q:Exit→Act→World→Prop}(hgd:o.guard=none)(ty:TypeId)(x:Operand)(ho:o.op=.box ty x)
  (v:Value)(cells:Array Value)(hx:a.eval x=v)(hv:v=.agg cells)
  (h:∀W',W'.heap[W.heap.size]?=some (.cells cells ty (0,0))→Below W.heap.size W W'→W'.heap.size=W.heap.size+1→wpList P ops Q rest (a.put o.dst (.pointer (some ⟨W.heap.size,0,none⟩))) W'):wpList P ops Q (o::rest) a W:=by
 refine wpList_plain hgd fun _ hK=>?_
 have hk:=hK _ _ (h (W.alloc (.cells cells ty)) (zN W _) ((zB _ _).alloc (zL _) _) (by simp))
 unfold Oper.wp execOp
 simp only[ho,hx,hv,Sem.run_bind,Instr.box,newVar,newRow,run_newObj_alloc,Sem.run_pure,Result.andThen_ok,Value.cells]
 exact hk
end Go.Proofs.YtiamjjonoeaggabGreatDoor
namespace Go.Proofs.YtiamjjonoeaggabGreatDoor
open Go.Shelf Go.RowKit
def q8T:Go.Shelf.Ren:=⟨fun|171=>30|243=>47|246=>66|283=>98|284=>99|285=>100|286=>101|129=>128|317=>127|318=>129|319=>130|320=>131|337=>160|338=>161|n=>n,fun|3=>3|9=>9|2=>2|4=>4|171=>198|0=>0|53=>199|37=>101|5=>5|173=>202|212=>229|51=>230|20=>20|213=>231|46=>232|232=>265|233=>266|n=>n,fun|17=>0|18=>1|19=>2|n=>n⟩
theorem j5k:Go.Proofs.LaysM.n171 Tryz.prog q8T:={
 mixed:=by kernel_rfl
 f129:=Tryz.func128.trans (congrArg some (by kernel_rfl))
 f171:=Tryz.func30.trans (congrArg some (by kernel_rfl))
 f243:=Tryz.func47.trans (congrArg some (by kernel_rfl))
 f246:=Tryz.func66.trans (congrArg some (by kernel_rfl))
 f283:=Tryz.func98.trans (congrArg some (by kernel_rfl))
 f284:=Tryz.func99.trans (congrArg some (by kernel_rfl))
 f285:=Tryz.func100.trans (congrArg some (by kernel_rfl))
 f286:=Tryz.func101.trans (congrArg some (by kernel_rfl))
 f317:=Tryz.func127.trans (congrArg some (by kernel_rfl))
 f318:=Tryz.func129.trans (congrArg some (by kernel_rfl))
 f319:=Tryz.func130.trans (congrArg some (by kernel_rfl))
 f320:=Tryz.func131.trans (congrArg some (by kernel_rfl))
 f337:=Tryz.func160.trans (congrArg some (by kernel_rfl))
 f338:=Tryz.func161.trans (congrArg some (by kernel_rfl))
 t0:=Tryz.underlying0
 a0:=Tryz.isAgg0
 z0:=Tryz.sizeOf0
 v0:=Tryz.zeroValue0
 t2:=Tryz.underlying2
 a2:=Tryz.isAgg2
 z2:=Tryz.sizeOf2
 v2:=Tryz.zeroValue2
 t3:=Tryz.underlying3
 a3:=Tryz.isAgg3
 z3:=Tryz.sizeOf3
 v3:=Tryz.zeroValue3
 t4:=Tryz.underlying4
 a4:=Tryz.isAgg4
 z4:=Tryz.sizeOf4
 v4:=Tryz.zeroValue4
 t5:=Tryz.underlying5
 a5:=Tryz.isAgg5
 z5:=Tryz.sizeOf5
 v5:=Tryz.zeroValue5
 t9:=Tryz.underlying9
 a9:=Tryz.isAgg9
 z9:=Tryz.sizeOf9
 v9:=Tryz.zeroValue9
 t20:=Tryz.underlying20
 a20:=Tryz.isAgg20
 z20:=Tryz.sizeOf20
 v20:=Tryz.zeroValue20
 t37:=Tryz.underlying101
 a37:=Tryz.isAgg101
 z37:=Tryz.sizeOf101
 v37:=Tryz.zeroValue101
 t46:=Tryz.underlying232
 a46:=Tryz.isAgg232
 z46:=Tryz.sizeOf232
 v46:=Tryz.zeroValue232
 t51:=Tryz.underlying230
 a51:=Tryz.isAgg230
 z51:=Tryz.sizeOf230
 v51:=Tryz.zeroValue230
 t53:=Tryz.underlying199
 a53:=Tryz.isAgg199
 z53:=Tryz.sizeOf199
 v53:=Tryz.zeroValue199
 t171:=Tryz.underlying198
 a171:=Tryz.isAgg198
 z171:=Tryz.sizeOf198
 v171:=Tryz.zeroValue198
 t173:=Tryz.underlying202
 a173:=Tryz.isAgg202
 z173:=Tryz.sizeOf202
 v173:=Tryz.zeroValue202
 t212:=Tryz.underlying229
 a212:=Tryz.isAgg229
 z212:=Tryz.sizeOf229
 v212:=Tryz.zeroValue229
 t213:=Tryz.underlying231
 a213:=Tryz.isAgg231
 z213:=Tryz.sizeOf231
 t232:=Tryz.underlying265
 a232:=Tryz.isAgg265
 z232:=Tryz.sizeOf265
 v232:=Tryz.zeroValue265
 t233:=Tryz.underlying266
 a233:=Tryz.isAgg266
 z233:=Tryz.sizeOf266
 v233:=Tryz.zeroValue266
 g17:=by kernel_rfl
 g18:=by kernel_rfl
 g19:=by kernel_rfl
 i0:=by kernel_rfl
 i2:=by kernel_rfl
 i3:=by kernel_rfl
 i4:=by kernel_rfl
 i5:=by kernel_rfl
 i9:=by kernel_rfl
 i20:=by kernel_rfl
 i37:=by kernel_rfl
 i46:=by kernel_rfl
 i51:=by kernel_rfl
 i53:=by kernel_rfl
 i171:=by kernel_rfl
 i173:=by kernel_rfl
 i212:=by kernel_rfl
 i232:=by kernel_rfl
 i233:=by kernel_rfl
 m17:=by kernel_rfl
 m18:=by kernel_rfl
 m19:=by kernel_rfl}
def TabB (w:World):Prop:=∃t fr,w.heap[q8T.g 17]?=some (.cells (Lib.pow10Tab.map fun z=>Value.int .u64 z).toArray t fr)
theorem TabB.lt {w:World}(h:TabB w):q8T.g 17<w.heap.size:=by
 obtain⟨t,fr,h⟩:=h
 rcases Nat.lt_or_ge (q8T.g 17) w.heap.size with g|g
 ·exact g
 ·rw[Array.getElem?_eq_none g]at h;simp at h
theorem TabB.below {w w':World}{B:Nat}(h:TabB w)(hb:Below B w w')(hB:w.heap.size≤B):TabB w':=by
 have hl:=h.lt
 obtain⟨t,fr,h⟩:=h
 exact⟨t,fr,(hb.block _ (by omega)).trans h⟩
theorem j6Y (w:World)(k:Nat)(os:Array Obj):Below w.heap.size w (Sort.grow (w.drewN k) os):=by
 have hb:∀k,Below w.heap.size w (w.drewN k):=fun k=>by
  induction k with
  |zero=>exact zB _ _
  |succ k ih=>exact ih.drew
 refine(hb k).trans ⟨rfl,rfl,rfl,by simp[Sort.grow],fun q hq=>?_⟩
 have h1:=(hb k).size
 simp only[Sort.grow]
 rw[Array.getElem?_append_left (by omega)]
theorem q7P (x:Nat)(hx:x≤1000000)(w:World)(ht:TabB w):Calls Tryz.prog 30 #[.int .i64 x] w fun e w'=>e=.returned (.string ⟨(Lib.decDigits x).toArray⟩)∧Below w.heap.size w w':=by
 refine(Any.strconv_Itoa j5k x (by omega) (by omega) w ?_).mono ?_
 ·obtain⟨t,fr,h⟩:=ht
  unfold Lib.TabIs World.var?
  rw[j5k.m17]
  simp[h]
 ·rintro e w' ⟨rfl,k,os,rfl⟩
  refine⟨?_,j6Y w k os⟩
  unfold Lib.itoa
  rw[if_neg (by omega)]
  rfl
end Go.Proofs.YtiamjjonoeaggabGreatDoor
