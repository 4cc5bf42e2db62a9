import Derived.Test.YtiamjjonoeaggabGreatDoorGA
import Derived.Test.YtiamjjonoeaggabGreatDoorG01
import Derived.Test.YtiamjjonoeaggabGreatDoorG06
import Derived.Laws.OwnMore
import Derived.Deep.MidRow
import Derived.ArgAppend
namespace Go.Proofs.YtiamjjonoeaggabGreatDoor
open Go.RowKit
theorem j4e (g:Nat)(t:TypeId):∀(vs:List Value) (o:Nat) (W:World) (cs:Array Value),W.heap[g]?=some (.cells cs t (0,0)) →
  ∃cs',(W.setCells g o vs).heap[g]?=some (.cells cs' t (0,0))∧cs'.size=cs.size∧(∀p,p<cs.size→cs'[p]?=if o≤p∧p<o+vs.length then vs[p-o]? else cs[p]?)∧OnlyB [g] W (W.setCells g o vs)∧(W.setCells g o vs).heap.size=W.heap.size:=by
 intro vs
 induction vs with
 |nil =>
  intro o W cs h
  refine⟨cs,h,rfl,fun p _=>?_,OnlyB.refl _ _,rfl⟩
  rw[if_neg (by simp)]
 |cons v r ih =>
  intro o W cs h
  obtain⟨cs',h1,h2,h3,h4,h5⟩:=ih (o+1) (W.setCell ⟨g,o,none⟩ v) _ (zH W g o _ _ v h)
  refine⟨cs',h1,by simpa using h2,fun p hp=>?_,((OnlyB.refl _ _).setCell (by simp) v).trans h4,by rw[World.setCells,h5];simp⟩
  rw[h3 p (by simpa using hp)]
  by_cases hpo:p=o
  ·subst hpo
   rw[if_neg (by omega),if_pos (by simp),Nat.sub_self]
   simp[hp]
  ·by_cases hin:o+1≤p∧p<o+1+r.length
   ·rw[if_pos hin,if_pos (by simp;omega),show p-o=(p-(o+1))+1 by omega]
    rfl
   ·rw[if_neg hin,if_neg (by simp;omega),Array.getElem?_setIfInBounds_ne (by omega)]
theorem j7N {P:Program}(ty t:TypeId)(W:World)(g o:Nat)(cs cells:Array Value)(hg:W.heap[g]?=some (.cells cs t (0,0)))(hi:(P.info? ty).map (·.size)=some cells.size)(ho:o+cells.size≤cs.size)(h1:cells.all (·.oneCell')=true) :
  ∃W',(Instr.storeAt ty (.pointer (some ⟨g,o,none⟩)) (.agg cells)).run P W=.ok () W'∧(∃cs',W'.heap[g]?=some (.cells cs' t (0,0))∧cs'.size=cs.size∧(∀p,p<cs.size→cs'[p]?=if o≤p∧p<o+cells.size then cells[p-o]? else cs[p]?))∧OnlyB [g] W W'∧W'.heap.size=W.heap.size:=by
 obtain⟨cs',h2,h3,h4,h5,h6⟩:=j4e g t cells.toList o W cs hg
 refine⟨W.setCells g o cells.toList,run_storeAt_mid W g o ty cells ?_ hi h1,⟨cs',h2,h3,fun p hp=>?_⟩,h5,h6⟩
 ·intro j hj
  refine⟨?_,zF _ _ _ _ _ hg⟩
  rw[zC _ _ _ _ _ _ hg,Array.getElem?_eq_getElem (by omega)]
  rfl
 ·rw[h4 p hp]
  simp
theorem q6w {w:World}{base n g c:Nat}{e:TypeId}{size:Nat}{xs:List Value}(h:w.ownsRow base e size (.slice (some ⟨g,0,none⟩) n c) n xs):∃cs,w.heap[g]?=some (.cells cs e (0,0))∧n≤c∧c≤maxLen∧cs.size=c*size∧cs.toList.take (n*size)=xs∧base≤g:=by
 rcases h.2 with⟨h',_⟩|⟨g',cap,cur,h',h2,h3,h4,h5,h6,h7⟩
 ·simp at h'
 ·simp only[Value.slice.injEq,Option.some.injEq,Addr.mk.injEq,and_true,true_and]at h'
  obtain⟨rfl,rfl⟩:=h'
  exact⟨cur,h3,h4,h5,h6,h7,h2⟩
def j4x (w w':World)(v v':Value)(n m:Nat):Prop:=(∃g cap,v=.slice (some ⟨g,0,none⟩) n cap∧v'=.slice (some ⟨g,0,none⟩) (n+m) cap)∨(v'.ownBlock=some w.heap.size∧w.grownBy w' none)
theorem j4x.blk {w w':World}{v v':Value}{n m:Nat}(h:j4x w w' v v' n m):v'.ownBlock=v.ownBlock∨v'.ownBlock=some w.heap.size:=by
 rcases h with⟨g,cap,rfl,rfl⟩|⟨h,_⟩
 ·exact .inl rfl
 ·exact .inr h
theorem j4B {P:Program}(w:World)(base:Nat)(t ty e:TypeId)(i:TypeInfo)(z:Value)(size bytes:Nat)(ht:P.underlying t=some (.slice e))(hi:P.info? e=some i)(hz:i.zero=some z)
  (hsize:i.size=size)(hby:i.bytes=bytes)(hzs:z.cells.size=size)(hsz:0<size)
  (v:Value)(n:Nat)(xs:List Value)(hown:w.ownsRow base e size v n xs)
  (a:Addr)(m c:Nat)(news:List Value)(hl:news.length=m*size)(hnews:∀j u,news[j]?=some u→w.cell? (a.add j)=some u)(h1:∀u∈news,u.oneCell'=true)
  (h63:n+m≤maxLen)(hbytes:(n+m)*bytes≤140737488355328)(hbase:base≤w.heap.size)(hm:0<m) :
  ∃v' w',(Builtin.append_ #[t,t] ty #[v,.slice (some a) m c]).run P w=.ok v' w'∧w'.ownsRow base e size v' (n+m) (xs++news)∧w.grownBy w' v.ownBlock∧j4x w w' v v' n m:=by
 obtain⟨v',w',hr,h2,h3,_⟩:=run_append_own (P:=P) w base t ty e i z size bytes ht hi hz hsize hby hzs hsz v n xs hown a m c news hl hnews h1 h63 hbytes hbase
 refine⟨v',w',hr,h2,h3,?_⟩
 subst hsize
 subst hby
 have hsmall:n+m≤9223372036854775807:=by simp only[maxLen]at h63;omega
 rcases hown.2 with⟨rfl,rfl⟩|⟨g,cap,cur,rfl,hbg,hg,hnc,hcm,hcs,htake⟩
 ·have hr2:=run_append_nil (P:=P) w t ty e i z ht hi hz a m c news hl hnews (by omega) (by omega) (by have hb:=hbytes;simp only[Nat.zero_add]at hb;omega)
  rw[hr]at hr2
  injection hr2 with e1 _
  refine .inr ⟨?_,by simpa[Value.ownBlock]using h3⟩
  rw[e1]
  rfl
 ·by_cases hroom:n+m≤cap
  ·have hfit:n*i.size+news.length≤cur.size:=by rw[hl,hcs,←Nat.add_mul];exact zU _ hroom
   have hr2:=run_append_room (P:=P) w t ty e i ht hi g n cap cur hg a m c news hl hnews h1 hroom hfit
   rw[hr]at hr2
   injection hr2 with e1 _
   exact .inl ⟨g,cap,rfl,e1⟩
  ·have holds:∀j u,xs[j]?=some u→w.cell? ((⟨g,0,none⟩:Addr).add j)=some u:=hown.cells (g:=g) rfl
   have hr2:=run_append_grow (P:=P) w t ty e i z ht hi hz ⟨g,0,none⟩ n cap xs hown.1 holds a m c news hl hnews (by omega) (by omega) (growslice_fits (by omega) hbytes)
   obtain⟨v3,w3,hr3,_,hg3⟩:=run_append_arg_grows (P:=P) w t ty e i z i.size i.bytes ht hi hz rfl rfl hzs hsz ⟨g,0,none⟩ n cap xs hown.1 holds a m c news hl hnews (by omega) h63 hbytes
   rw[hr]at hr2 hr3
   injection hr2 with e1 _
   injection hr3 with _ e3
   refine .inr ⟨by rw[e1];rfl,?_⟩
   rw[e3]
   exact hg3
theorem wp_appK {P:Program}{ops:Array Oper}{rest:List Oper}{o:Oper}{a:Act}{Q:Exit→Act→World→Prop}(hgd:o.guard=none)(x y:Operand)(t e:TypeId)
  (ho:o.op=.call {callee:=.builtin .append,args:=#[x,y],argTypes:=#[t,t]}){i:TypeInfo}{z:Value}{size bytes:Nat}(ht:P.underlying t=some (.slice e))(hi:P.info? e=some i)(hz:i.zero=some z)
  (hsize:i.size=size)(hby:i.bytes=bytes)(hzs:z.cells.size=size)(hsz:0<size)(base:Nat)(v:Value)(n:Nat)(xs:List Value)(W:World)(hx:a.eval x=v)
  (hown:W.ownsRow base e size v n xs)(ad:Addr)(m c:Nat)(news:List Value)(hy:a.eval y=.slice (some ad) m c)(hl:news.length=m*size)(hnews:∀j u,news[j]?=some u→W.cell? (ad.add j)=some u)(h1:∀u∈news,u.oneCell'=true)
  (hn:n+m≤1000000000)(hbb:bytes≤1000)(hbase:base≤W.heap.size)(hm:0<m)
  (h:∀v' w',w'.ownsRow base e size v' (n+m) (xs++news)→W.grownBy w' v.ownBlock→j4x W w' v v' n m→wpList P ops Q rest (a.put o.dst v') w'):wpList P ops Q (o::rest) a W:=by
 refine wpList_plain hgd fun _ hK=>?_
 obtain⟨v',w',hr,h2,h3,h4⟩:=j4B (P:=P) W base t o.type e i z size bytes ht hi hz hsize hby hzs hsz v n xs hown ad m c news hl hnews h1 (by unfold maxLen;omega) (by have:(n+m)*bytes≤1000000000*1000:=Nat.mul_le_mul hn hbb;omega) hbase hm
 unfold Oper.wp execOp
 simp only[ho,resolve,invoke,builtin,Sem.run_bind,Sem.run_pure,Result.andThen_ok,List.map_toArray,List.map_cons,List.map_nil,hx,hy,hr]
 exact hK _ _ (h v' w' h2 h3 h4)
theorem grown_only {w w':World}{v:Value}(h:w.grownBy w' v.ownBlock):OnlyB v.ownBlock.toList w w':=⟨h.os,h.tape,h.output,h.size,fun k hk hn=>h.block k hk (fun e=>hn (by rw[←e];simp))⟩
end Go.Proofs.YtiamjjonoeaggabGreatDoor
