import Derived.Test.YtiamjjonoeaggabGreatDoorGA
import Derived.Test.YtiamjjonoeaggabGreatDoorG03
import Derived.Test.YtiamjjonoeaggabGreatDoorG07
import Derived.Laws.OwnMore
import Derived.Deep.MidRow
import Derived.ArgAppend
namespace Go.Proofs.YtiamjjonoeaggabGreatDoor
open Go.RowKit
def q7K (z:Int):List Value:=(q7j (wrap64 (-z)) (IntKind.u16.wrap z)).toList
theorem mrkL_len (z:Int):(q7K z).length=12:=rfl
def flR (f:Nat→Int)(n:Nat):List Value:=(List.range n).flatMap fun i=>q7K (f i)
theorem flR_zero (f:Nat→Int):flR f 0=[]:=rfl
theorem q7w (f:Nat→Int)(n:Nat):flR f (n+1)=flR f n++q7K (f n):=by simp[flR,List.range_succ]
theorem q2w (f:Nat→Int)(n:Nat):(flR f n).length=n*12:=by
 induction n with
 |zero=>rfl
 |succ n ih=>rw[q7w,List.length_append,ih,mrkL_len];omega
theorem q7f (f:Nat→Int):∀(n p:Nat),p<n*12→(flR f n)[p]?=(q7K (f (p / 12)))[p % 12]?:=by
 intro n
 induction n with
 |zero=>intro p h;omega
 |succ n ih =>
  intro p h
  rw[q7w]
  by_cases hp:p<n*12
  ·rw[List.getElem?_append_left (by rw[q2w];exact hp)]
   exact ih p hp
  ·rw[List.getElem?_append_right (by rw[q2w];omega),q2w,show p / 12=n by omega,show p-n*12=p % 12 by omega]
theorem flR_take (f:Nat→Int)(n k:Nat)(h:k≤n):(flR f n).take (k*12)=flR f k:=by
 refine List.ext_getElem? fun p=>?_
 rw[List.getElem?_take]
 by_cases hp:p<k*12
 ·rw[if_pos hp,q7f f n p (by omega),q7f f k p hp]
 ·rw[if_neg hp,List.getElem?_eq_none (by rw[q2w];omega)]
def q7n (f:Nat→Int)(i:Nat)(z:Int):Nat→Int:=fun j=>if j=i then z else f j
theorem j4y (f:Nat→Int)(i:Nat)(z:Int):q7n (q7n f i z) i z=q7n f i z:=by
 funext j
 unfold q7n
 split<;>rfl
theorem j6w (z:Int)(n m:Nat):flR (fun _=>z) n++flR (fun _=>z) m=flR (fun _=>z) (n+m):=by
 induction m with
 |zero=>simp[flR_zero]
 |succ m ih=>rw[q7w,←List.append_assoc,ih,←Nat.add_assoc,q7w]
theorem j3L (z:Int):∀u∈q7K z,u.oneCell'=true:=by
 intro u hu
 simp only[q7K,List.mem_cons,List.not_mem_nil,or_false]at hu
 rcases hu with rfl|rfl|rfl|rfl|rfl|rfl|rfl|rfl|rfl|rfl|rfl|rfl<;>rfl
theorem q5C (f:Nat→Int)(n:Nat):∀u∈flR f n,u.oneCell'=true:=by
 intro u hu
 simp only[flR,List.mem_flatMap]at hu
 obtain⟨i,_,h⟩:=hu
 exact j3L _ u h
theorem j2D (g:Nat)(t:TypeId):∀(vs:List Value) (o:Nat) (W:World) (cs:Array Value),W.heap[g]?=some (.cells cs t (0,0)) →
  ∃cs',(W.setCells g o vs).heap[g]?=some (.cells cs' t (0,0))∧cs'.size=cs.size∧(∀p,p<cs.size→cs'[p]?=if o≤p∧p<o+vs.length then vs[p-o]? else cs[p]?)∧OnlyB [g] W (W.setCells g o vs)∧(W.setCells g o vs).heap.size=W.heap.size:=by
 intro vs
 induction vs with
 |nil =>
  intro o W cs h
  refine⟨cs,h,rfl,fun p _=>?_,OnlyB.refl _ _,rfl⟩
  rw[if_neg (by simp)]
 |cons v r ih =>
  intro o W cs h
  obtain⟨cs',h1,h2,h3,h4,h5⟩:=ih (o+1) (W.setCell ⟨g,o,none⟩ v) _ (zH W g o _ _ v h)
  refine⟨cs',h1,by simpa using h2,fun p hp=>?_,((OnlyB.refl _ _).setCell (by simp) v).trans h4,by rw[World.setCells,h5];simp⟩
  rw[h3 p (by simpa using hp)]
  by_cases hpo:p=o
  ·subst hpo
   rw[if_neg (by omega),if_pos (by simp),Nat.sub_self]
   simp[hp]
  ·by_cases hin:o+1≤p∧p<o+1+r.length
   ·rw[if_pos hin,if_pos (by simp;omega),show p-o=(p-(o+1))+1 by omega]
    rfl
   ·rw[if_neg hin,if_neg (by simp;omega),Array.getElem?_setIfInBounds_ne (by omega)]
theorem j0Q {P:Program}(ty t:TypeId)(W:World)(g o:Nat)(cs cells:Array Value)(hg:W.heap[g]?=some (.cells cs t (0,0)))(hi:(P.info? ty).map (·.size)=some cells.size)(ho:o+cells.size≤cs.size)(h1:cells.all (·.oneCell')=true) :
  ∃W',(Instr.storeAt ty (.pointer (some ⟨g,o,none⟩)) (.agg cells)).run P W=.ok () W'∧(∃cs',W'.heap[g]?=some (.cells cs' t (0,0))∧cs'.size=cs.size∧(∀p,p<cs.size→cs'[p]?=if o≤p∧p<o+cells.size then cells[p-o]? else cs[p]?))∧OnlyB [g] W W'∧W'.heap.size=W.heap.size:=by
 obtain⟨cs',h2,h3,h4,h5,h6⟩:=j2D g t cells.toList o W cs hg
 refine⟨W.setCells g o cells.toList,run_storeAt_mid W g o ty cells ?_ hi h1,⟨cs',h2,h3,fun p hp=>?_⟩,h5,h6⟩
 ·intro j hj
  refine⟨?_,zF _ _ _ _ _ hg⟩
  rw[zC _ _ _ _ _ _ hg,Array.getElem?_eq_getElem (by omega)]
  rfl
 ·rw[h4 p hp]
  simp
theorem q1O {w:World}{base n g c:Nat}{e:TypeId}{size:Nat}{xs:List Value}(h:w.ownsRow base e size (.slice (some ⟨g,0,none⟩) n c) n xs):∃cs,w.heap[g]?=some (.cells cs e (0,0))∧n≤c∧c≤maxLen∧cs.size=c*size∧cs.toList.take (n*size)=xs∧base≤g:=by
 rcases h.2 with⟨h',_⟩|⟨g',cap,cur,h',h2,h3,h4,h5,h6,h7⟩
 ·simp at h'
 ·simp only[Value.slice.injEq,Option.some.injEq,Addr.mk.injEq,and_true,true_and]at h'
  obtain⟨rfl,rfl⟩:=h'
  exact⟨cur,h3,h4,h5,h6,h7,h2⟩
theorem row_put {w w':World}{base n g:Nat}{e t:TypeId}{v:Value}{f:Nat→Int}{i:Nat}{z:Int}{cs cs':Array Value}(h:w.ownsRow base e 12 v n (flR f n))(hv:v.ownBlock=some g)(hg:w.heap[g]?=some (.cells cs t (0,0)))(hg':w'.heap[g]?=some (.cells cs' t (0,0)))(hs:cs'.size=cs.size)
  (hp:∀p,p<cs.size→cs'[p]?=if i*12≤p∧p<i*12+12 then(q7K z)[p-i*12]? else cs[p]?):w'.ownsRow base e 12 v n (flR (q7n f i z) n):=by
 refine⟨q2w _ _,?_⟩
 rcases h.2 with⟨rfl,rfl⟩|⟨g1,cap,cur,rfl,h2,h3,h4,h5,h6,h7⟩
 ·exact .inl ⟨rfl,rfl⟩
 ·simp only[Value.ownBlock,Option.some.injEq]at hv
  subst hv
  rw[hg]at h3
  simp only[Option.some.injEq,Obj.cells.injEq,and_true]at h3
  obtain⟨rfl,rfl⟩:=h3
  refine .inr ⟨g1,cap,cs',rfl,h2,hg',h4,h5,by rw[hs,h6],?_⟩
  refine List.ext_getElem? fun p=>?_
  rw[List.getElem?_take]
  by_cases hpn:p<n*12
  ·have hpc:p<cs.size:=by rw[h6];have:=zU 12 h4;omega
   have h8:cs[p]?=(flR f n)[p]?:=by
    rw[←h7,List.getElem?_take,if_pos hpn]
    simp
   rw[if_pos hpn,Array.getElem?_toList,hp p hpc,h8,q7f _ n p hpn,q7f _ n p hpn]
   unfold q7n
   by_cases hi:i*12≤p∧p<i*12+12
   ·rw[if_pos hi,if_pos (by omega),show p-i*12=p % 12 by omega]
   ·rw[if_neg hi,if_neg (by omega)]
  ·rw[if_neg hpn,List.getElem?_eq_none (by rw[q2w];omega)]
def j1m (w w':World)(v v':Value)(n m:Nat):Prop:=(∃g cap,v=.slice (some ⟨g,0,none⟩) n cap∧v'=.slice (some ⟨g,0,none⟩) (n+m) cap)∨(v'.ownBlock=some w.heap.size∧w.grownBy w' none)
theorem j1m.blk {w w':World}{v v':Value}{n m:Nat}(h:j1m w w' v v' n m):v'.ownBlock=v.ownBlock∨v'.ownBlock=some w.heap.size:=by
 rcases h with⟨g,cap,rfl,rfl⟩|⟨h,_⟩
 ·exact .inl rfl
 ·exact .inr h
theorem j2T {P:Program}(w:World)(base:Nat)(t ty e:TypeId)(i:TypeInfo)(z:Value)(size bytes:Nat)(ht:P.underlying t=some (.slice e))(hi:P.info? e=some i)(hz:i.zero=some z)
  (hsize:i.size=size)(hby:i.bytes=bytes)(hzs:z.cells.size=size)(hsz:0<size)
  (v:Value)(n:Nat)(xs:List Value)(hown:w.ownsRow base e size v n xs)
  (a:Addr)(m c:Nat)(news:List Value)(hl:news.length=m*size)(hnews:∀j u,news[j]?=some u→w.cell? (a.add j)=some u)(h1:∀u∈news,u.oneCell'=true)
  (h63:n+m≤maxLen)(hbytes:(n+m)*bytes≤140737488355328)(hbase:base≤w.heap.size)(hm:0<m) :
  ∃v' w',(Builtin.append_ #[t,t] ty #[v,.slice (some a) m c]).run P w=.ok v' w'∧w'.ownsRow base e size v' (n+m) (xs++news)∧w.grownBy w' v.ownBlock∧j1m w w' v v' n m:=by
 obtain⟨v',w',hr,h2,h3,_⟩:=run_append_own (P:=P) w base t ty e i z size bytes ht hi hz hsize hby hzs hsz v n xs hown a m c news hl hnews h1 h63 hbytes hbase
 refine⟨v',w',hr,h2,h3,?_⟩
 subst hsize
 subst hby
 have hsmall:n+m≤9223372036854775807:=by simp only[maxLen]at h63;omega
 rcases hown.2 with⟨rfl,rfl⟩|⟨g,cap,cur,rfl,hbg,hg,hnc,hcm,hcs,htake⟩
 ·have hr2:=run_append_nil (P:=P) w t ty e i z ht hi hz a m c news hl hnews (by omega) (by omega) (by have hb:=hbytes;simp only[Nat.zero_add]at hb;omega)
  rw[hr]at hr2
  injection hr2 with e1 _
  refine .inr ⟨?_,by simpa[Value.ownBlock]using h3⟩
  rw[e1]
  rfl
 ·by_cases hroom:n+m≤cap
  ·have hfit:n*i.size+news.length≤cur.size:=by rw[hl,hcs,←Nat.add_mul];exact zU _ hroom
   have hr2:=run_append_room (P:=P) w t ty e i ht hi g n cap cur hg a m c news hl hnews h1 hroom hfit
   rw[hr]at hr2
   injection hr2 with e1 _
   exact .inl ⟨g,cap,rfl,e1⟩
  ·have holds:∀j u,xs[j]?=some u→w.cell? ((⟨g,0,none⟩:Addr).add j)=some u:=hown.cells (g:=g) rfl
   have hr2:=run_append_grow (P:=P) w t ty e i z ht hi hz ⟨g,0,none⟩ n cap xs hown.1 holds a m c news hl hnews (by omega) (by omega) (growslice_fits (by omega) hbytes)
   obtain⟨v3,w3,hr3,_,hg3⟩:=run_append_arg_grows (P:=P) w t ty e i z i.size i.bytes ht hi hz rfl rfl hzs hsz ⟨g,0,none⟩ n cap xs hown.1 holds a m c news hl hnews (by omega) h63 hbytes
   rw[hr]at hr2 hr3
   injection hr2 with e1 _
   injection hr3 with _ e3
   refine .inr ⟨by rw[e1];rfl,?_⟩
   rw[e3]
   exact hg3
theorem app_row {w w':World}{base base':Nat}{e:TypeId}{v v' u:Value}{n m k:Nat}{f:Nat→Int}(hv:w.ownsRow base e 12 v n (flR f n))(hv':w'.ownsRow base e 12 v' (n+m) (flR f (n+m)))(hg:w.grownBy w' v.ownBlock)(hat:j1m w w' v v' n m)(hu:w.ownsRow base' e 12 u k (flR f k))(hk:k≤n+m):w'.ownsRow base' e 12 u k (flR f k):=by
 refine⟨hu.1,?_⟩
 rcases hu.2 with h|⟨g,cap,cur,rfl,h2,h3,h4,h5,h6,h7⟩
 ·exact .inl h
 ·by_cases hb:w'.heap[g]?=w.heap[g]?
  ·exact .inr ⟨g,cap,cur,rfl,h2,hb.trans h3,h4,h5,h6,h7⟩
  ·have hgb:v.ownBlock=some g:=by
    by_cases hh:some g=v.ownBlock
    ·exact hh.symm
    ·exact absurd (hg.block g (Array.getElem?_eq_some_iff.1 h3).1 hh) hb
   rcases hat with⟨g0,c0,rfl,rfl⟩|⟨_,h⟩
   ·simp only[Value.ownBlock,Option.some.injEq]at hgb
    subst hgb
    obtain⟨cs,e1,e2,e3,e4,e5,_⟩:=q1O hv
    obtain⟨cs',d1,d2,d3,d4,d5,_⟩:=q1O hv'
    rw[h3]at e1
    simp only[Option.some.injEq,Obj.cells.injEq,and_true]at e1
    subst e1
    have hc:c0=cap:=by omega
    subst hc
    refine .inr ⟨g0,c0,cs',rfl,h2,d1,h4,h5,d4,?_⟩
    rw[←flR_take f (n+m) k hk,←d5,List.take_take,Nat.min_eq_left (zU _ hk)]
   ·exact absurd (h.block g (Array.getElem?_eq_some_iff.1 h3).1 (by simp)) hb
theorem q4Q {P:Program}{ops:Array Oper}{rest:List Oper}{o:Oper}{a:Act}{Q:Exit→Act→World→Prop}(hgd:o.guard=none)(x y:Operand)(t e:TypeId)
  (ho:o.op=.call {callee:=.builtin .append,args:=#[x,y],argTypes:=#[t,t]}){i:TypeInfo}{z:Value}{size bytes:Nat}(ht:P.underlying t=some (.slice e))(hi:P.info? e=some i)(hz:i.zero=some z)
  (hsize:i.size=size)(hby:i.bytes=bytes)(hzs:z.cells.size=size)(hsz:0<size)(base:Nat)(v:Value)(n:Nat)(xs:List Value)(W:World)(hx:a.eval x=v)
  (hown:W.ownsRow base e size v n xs)(ad:Addr)(m c:Nat)(news:List Value)(hy:a.eval y=.slice (some ad) m c)(hl:news.length=m*size)(hnews:∀j u,news[j]?=some u→W.cell? (ad.add j)=some u)(h1:∀u∈news,u.oneCell'=true)
  (hn:n+m≤1000000000)(hbb:bytes≤1000)(hbase:base≤W.heap.size)(hm:0<m)
  (h:∀v' w',w'.ownsRow base e size v' (n+m) (xs++news)→W.grownBy w' v.ownBlock→j1m W w' v v' n m→wpList P ops Q rest (a.put o.dst v') w'):wpList P ops Q (o::rest) a W:=by
 refine wpList_plain hgd fun _ hK=>?_
 obtain⟨v',w',hr,h2,h3,h4⟩:=j2T (P:=P) W base t o.type e i z size bytes ht hi hz hsize hby hzs hsz v n xs hown ad m c news hl hnews h1 (by unfold maxLen;omega) (by have:(n+m)*bytes≤1000000000*1000:=Nat.mul_le_mul hn hbb;omega) hbase hm
 unfold Oper.wp execOp
 simp only[ho,resolve,invoke,builtin,Sem.run_bind,Sem.run_pure,Result.andThen_ok,List.map_toArray,List.map_cons,List.map_nil,hx,hy,hr]
 exact hK _ _ (h v' w' h2 h3 h4)
theorem q2V {w w':World}{v:Value}(h:w.grownBy w' v.ownBlock):OnlyB v.ownBlock.toList w w':=⟨h.os,h.tape,h.output,h.size,fun k hk hn=>h.block k hk (fun e=>hn (by rw[←e];simp))⟩
theorem j3k {w w':World}(h:w.grownBy w' none):Below w.heap.size w w':=⟨h.os,h.tape,h.output,h.size,fun k hk=>h.block k hk (by simp)⟩
end Go.Proofs.YtiamjjonoeaggabGreatDoor
