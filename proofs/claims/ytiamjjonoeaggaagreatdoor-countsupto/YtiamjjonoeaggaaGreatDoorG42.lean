import Derived.Test.YtiamjjonoeaggaaGreatDoorGA
import Derived.Test.YtiamjjonoeaggaaGreatDoorG03
import Derived.Test.YtiamjjonoeaggaaGreatDoorG08
import Derived.Test.YtiamjjonoeaggaaGreatDoorG19
import Derived.Test.YtiamjjonoeaggaaGreatDoorG20
import Derived.Test.YtiamjjonoeaggaaGreatDoorG41
import Derived.Laws.OwnMore
import Derived.Deep.MidRow
import Derived.ArgAppend
set_option maxRecDepth 100000
set_option maxHeartbeats 16000000
namespace Go.Proofs.YtiamjjonoeaggaaGreatDoor
open Go.RowKit
def q7K (z:Int):List Value:=(q7j (wrap64 (-z)) (IntKind.u16.wrap z)).toList
theorem mrkL_len (z:Int):(q7K z).length=12:=rfl
def flR (f:Nat→Int)(n:Nat):List Value:=(List.range n).flatMap fun i=>q7K (f i)
theorem flR_zero (f:Nat→Int):flR f 0=[]:=rfl
theorem q7w (f:Nat→Int)(n:Nat):flR f (n+1)=flR f n++q7K (f n):=by simp[flR,List.range_succ]
theorem q2w (f:Nat→Int)(n:Nat):(flR f n).length=n*12:=by
 induction n with
 |zero=>rfl
 |succ n ih=>rw[q7w,List.length_append,ih,mrkL_len];omega
theorem q7f (f:Nat→Int):∀(n p:Nat),p<n*12→(flR f n)[p]?=(q7K (f (p / 12)))[p % 12]?:=by
 intro n
 induction n with
 |zero=>intro p h;omega
 |succ n ih =>
  intro p h
  rw[q7w]
  by_cases hp:p<n*12
  ·rw[List.getElem?_append_left (by rw[q2w];exact hp)]
   exact ih p hp
  ·rw[List.getElem?_append_right (by rw[q2w];omega),q2w,show p / 12=n by omega,show p-n*12=p % 12 by omega]
theorem flR_take (f:Nat→Int)(n k:Nat)(h:k≤n):(flR f n).take (k*12)=flR f k:=by
 refine List.ext_getElem? fun p=>?_
 rw[List.getElem?_take]
 by_cases hp:p<k*12
 ·rw[if_pos hp,q7f f n p (by omega),q7f f k p hp]
 ·rw[if_neg hp,List.getElem?_eq_none (by rw[q2w];omega)]
def q7n (f:Nat→Int)(i:Nat)(z:Int):Nat→Int:=fun j=>if j=i then z else f j
theorem j4A (f:Nat→Int)(i:Nat)(z:Int):q7n (q7n f i z) i z=q7n f i z:=by
 funext j
 unfold q7n
 split<;>rfl
theorem j6y (z:Int)(n m:Nat):flR (fun _=>z) n++flR (fun _=>z) m=flR (fun _=>z) (n+m):=by
 induction m with
 |zero=>simp[flR_zero]
 |succ m ih=>rw[q7w,←List.append_assoc,ih,←Nat.add_assoc,q7w]
theorem j3N (z:Int):∀u∈q7K z,u.oneCell'=true:=by
 intro u hu
 simp only[q7K,List.mem_cons,List.not_mem_nil,or_false]at hu
 rcases hu with rfl|rfl|rfl|rfl|rfl|rfl|rfl|rfl|rfl|rfl|rfl|rfl<;>rfl
theorem q5C (f:Nat→Int)(n:Nat):∀u∈flR f n,u.oneCell'=true:=by
 intro u hu
 simp only[flR,List.mem_flatMap]at hu
 obtain⟨i,_,h⟩:=hu
 exact j3N _ u h
theorem j2E (g:Nat)(t:TypeId):∀(vs:List Value) (o:Nat) (W:World) (cs:Array Value),W.heap[g]?=some (.cells cs t (0,0)) →
  ∃cs',(W.setCells g o vs).heap[g]?=some (.cells cs' t (0,0))∧cs'.size=cs.size∧(∀p,p<cs.size→cs'[p]?=if o≤p∧p<o+vs.length then vs[p-o]? else cs[p]?)∧OnlyB [g] W (W.setCells g o vs)∧(W.setCells g o vs).heap.size=W.heap.size:=by
 intro vs
 induction vs with
 |nil =>
  intro o W cs h
  refine⟨cs,h,rfl,fun p _=>?_,OnlyB.refl _ _,rfl⟩
  rw[if_neg (by simp)]
 |cons v r ih =>
  intro o W cs h
  obtain⟨cs',h1,h2,h3,h4,h5⟩:=ih (o+1) (W.setCell ⟨g,o,none⟩ v) _ (zH W g o _ _ v h)
  refine⟨cs',h1,by simpa using h2,fun p hp=>?_,((OnlyB.refl _ _).setCell (by simp) v).trans h4,by rw[World.setCells,h5];simp⟩
  rw[h3 p (by simpa using hp)]
  by_cases hpo:p=o
  ·subst hpo
   rw[if_neg (by omega),if_pos (by simp),Nat.sub_self]
   simp[hp]
  ·by_cases hin:o+1≤p∧p<o+1+r.length
   ·rw[if_pos hin,if_pos (by simp;omega),show p-o=(p-(o+1))+1 by omega]
    rfl
   ·rw[if_neg hin,if_neg (by simp;omega),Array.getElem?_setIfInBounds_ne (by omega)]
theorem j0Q {P:Program}(ty t:TypeId)(W:World)(g o:Nat)(cs cells:Array Value)(hg:W.heap[g]?=some (.cells cs t (0,0)))(hi:(P.info? ty).map (·.size)=some cells.size)(ho:o+cells.size≤cs.size)(h1:cells.all (·.oneCell')=true) :
  ∃W',(Instr.storeAt ty (.pointer (some ⟨g,o,none⟩)) (.agg cells)).run P W=.ok () W'∧(∃cs',W'.heap[g]?=some (.cells cs' t (0,0))∧cs'.size=cs.size∧(∀p,p<cs.size→cs'[p]?=if o≤p∧p<o+cells.size then cells[p-o]? else cs[p]?))∧OnlyB [g] W W'∧W'.heap.size=W.heap.size:=by
 obtain⟨cs',h2,h3,h4,h5,h6⟩:=j2E g t cells.toList o W cs hg
 refine⟨W.setCells g o cells.toList,run_storeAt_mid W g o ty cells ?_ hi h1,⟨cs',h2,h3,fun p hp=>?_⟩,h5,h6⟩
 ·intro j hj
  refine⟨?_,zF _ _ _ _ _ hg⟩
  rw[zC _ _ _ _ _ _ hg,Array.getElem?_eq_getElem (by omega)]
  rfl
 ·rw[h4 p hp]
  simp
theorem q1O {w:World}{base n g c:Nat}{e:TypeId}{size:Nat}{xs:List Value}(h:w.ownsRow base e size (.slice (some ⟨g,0,none⟩) n c) n xs):∃cs,w.heap[g]?=some (.cells cs e (0,0))∧n≤c∧c≤maxLen∧cs.size=c*size∧cs.toList.take (n*size)=xs∧base≤g:=by
 rcases h.2 with⟨h',_⟩|⟨g',cap,cur,h',h2,h3,h4,h5,h6,h7⟩
 ·simp at h'
 ·simp only[Value.slice.injEq,Option.some.injEq,Addr.mk.injEq,and_true,true_and]at h'
  obtain⟨rfl,rfl⟩:=h'
  exact⟨cur,h3,h4,h5,h6,h7,h2⟩
theorem row_put {w w':World}{base n g:Nat}{e t:TypeId}{v:Value}{f:Nat→Int}{i:Nat}{z:Int}{cs cs':Array Value}(h:w.ownsRow base e 12 v n (flR f n))(hv:v.ownBlock=some g)(hg:w.heap[g]?=some (.cells cs t (0,0)))(hg':w'.heap[g]?=some (.cells cs' t (0,0)))(hs:cs'.size=cs.size)
  (hp:∀p,p<cs.size→cs'[p]?=if i*12≤p∧p<i*12+12 then(q7K z)[p-i*12]? else cs[p]?):w'.ownsRow base e 12 v n (flR (q7n f i z) n):=by
 refine⟨q2w _ _,?_⟩
 rcases h.2 with⟨rfl,rfl⟩|⟨g1,cap,cur,rfl,h2,h3,h4,h5,h6,h7⟩
 ·exact .inl ⟨rfl,rfl⟩
 ·simp only[Value.ownBlock,Option.some.injEq]at hv
  subst hv
  rw[hg]at h3
  simp only[Option.some.injEq,Obj.cells.injEq,and_true]at h3
  obtain⟨rfl,rfl⟩:=h3
  refine .inr ⟨g1,cap,cs',rfl,h2,hg',h4,h5,by rw[hs,h6],?_⟩
  refine List.ext_getElem? fun p=>?_
  rw[List.getElem?_take]
  by_cases hpn:p<n*12
  ·have hpc:p<cs.size:=by rw[h6];have:=zU 12 h4;omega
   have h8:cs[p]?=(flR f n)[p]?:=by
    rw[←h7,List.getElem?_take,if_pos hpn]
    simp
   rw[if_pos hpn,Array.getElem?_toList,hp p hpc,h8,q7f _ n p hpn,q7f _ n p hpn]
   unfold q7n
   by_cases hi:i*12≤p∧p<i*12+12
   ·rw[if_pos hi,if_pos (by omega),show p-i*12=p % 12 by omega]
   ·rw[if_neg hi,if_neg (by omega)]
  ·rw[if_neg hpn,List.getElem?_eq_none (by rw[q2w];omega)]
def j1m (w w':World)(v v':Value)(n m:Nat):Prop:=(∃g cap,v=.slice (some ⟨g,0,none⟩) n cap∧v'=.slice (some ⟨g,0,none⟩) (n+m) cap)∨(v'.ownBlock=some w.heap.size∧w.grownBy w' none)
theorem j1m.blk {w w':World}{v v':Value}{n m:Nat}(h:j1m w w' v v' n m):v'.ownBlock=v.ownBlock∨v'.ownBlock=some w.heap.size:=by
 rcases h with⟨g,cap,rfl,rfl⟩|⟨h,_⟩
 ·exact .inl rfl
 ·exact .inr h
theorem j2U {P:Program}(w:World)(base:Nat)(t ty e:TypeId)(i:TypeInfo)(z:Value)(size bytes:Nat)(ht:P.underlying t=some (.slice e))(hi:P.info? e=some i)(hz:i.zero=some z)
  (hsize:i.size=size)(hby:i.bytes=bytes)(hzs:z.cells.size=size)(hsz:0<size)
  (v:Value)(n:Nat)(xs:List Value)(hown:w.ownsRow base e size v n xs)
  (a:Addr)(m c:Nat)(news:List Value)(hl:news.length=m*size)(hnews:∀j u,news[j]?=some u→w.cell? (a.add j)=some u)(h1:∀u∈news,u.oneCell'=true)
  (h63:n+m≤maxLen)(hbytes:(n+m)*bytes≤140737488355328)(hbase:base≤w.heap.size)(hm:0<m) :
  ∃v' w',(Builtin.append_ #[t,t] ty #[v,.slice (some a) m c]).run P w=.ok v' w'∧w'.ownsRow base e size v' (n+m) (xs++news)∧w.grownBy w' v.ownBlock∧j1m w w' v v' n m:=by
 obtain⟨v',w',hr,h2,h3,_⟩:=run_append_own (P:=P) w base t ty e i z size bytes ht hi hz hsize hby hzs hsz v n xs hown a m c news hl hnews h1 h63 hbytes hbase
 refine⟨v',w',hr,h2,h3,?_⟩
 subst hsize
 subst hby
 have hsmall:n+m≤9223372036854775807:=by simp only[maxLen]at h63;omega
 rcases hown.2 with⟨rfl,rfl⟩|⟨g,cap,cur,rfl,hbg,hg,hnc,hcm,hcs,htake⟩
 ·have hr2:=run_append_nil (P:=P) w t ty e i z ht hi hz a m c news hl hnews (by omega) (by omega) (by have hb:=hbytes;simp only[Nat.zero_add]at hb;omega)
  rw[hr]at hr2
  injection hr2 with e1 _
  refine .inr ⟨?_,by simpa[Value.ownBlock]using h3⟩
  rw[e1]
  rfl
 ·by_cases hroom:n+m≤cap
  ·have hfit:n*i.size+news.length≤cur.size:=by rw[hl,hcs,←Nat.add_mul];exact zU _ hroom
   have hr2:=run_append_room (P:=P) w t ty e i ht hi g n cap cur hg a m c news hl hnews h1 hroom hfit
   rw[hr]at hr2
   injection hr2 with e1 _
   exact .inl ⟨g,cap,rfl,e1⟩
  ·have holds:∀j u,xs[j]?=some u→w.cell? ((⟨g,0,none⟩:Addr).add j)=some u:=hown.cells (g:=g) rfl
   have hr2:=run_append_grow (P:=P) w t ty e i z ht hi hz ⟨g,0,none⟩ n cap xs hown.1 holds a m c news hl hnews (by omega) (by omega) (growslice_fits (by omega) hbytes)
   obtain⟨v3,w3,hr3,_,hg3⟩:=run_append_arg_grows (P:=P) w t ty e i z i.size i.bytes ht hi hz rfl rfl hzs hsz ⟨g,0,none⟩ n cap xs hown.1 holds a m c news hl hnews (by omega) h63 hbytes
   rw[hr]at hr2 hr3
   injection hr2 with e1 _
   injection hr3 with _ e3
   refine .inr ⟨by rw[e1];rfl,?_⟩
   rw[e3]
   exact hg3
theorem app_row {w w':World}{base base':Nat}{e:TypeId}{v v' u:Value}{n m k:Nat}{f:Nat→Int}(hv:w.ownsRow base e 12 v n (flR f n))(hv':w'.ownsRow base e 12 v' (n+m) (flR f (n+m)))(hg:w.grownBy w' v.ownBlock)(hat:j1m w w' v v' n m)(hu:w.ownsRow base' e 12 u k (flR f k))(hk:k≤n+m):w'.ownsRow base' e 12 u k (flR f k):=by
 refine⟨hu.1,?_⟩
 rcases hu.2 with h|⟨g,cap,cur,rfl,h2,h3,h4,h5,h6,h7⟩
 ·exact .inl h
 ·by_cases hb:w'.heap[g]?=w.heap[g]?
  ·exact .inr ⟨g,cap,cur,rfl,h2,hb.trans h3,h4,h5,h6,h7⟩
  ·have hgb:v.ownBlock=some g:=by
    by_cases hh:some g=v.ownBlock
    ·exact hh.symm
    ·exact absurd (hg.block g (Array.getElem?_eq_some_iff.1 h3).1 hh) hb
   rcases hat with⟨g0,c0,rfl,rfl⟩|⟨_,h⟩
   ·simp only[Value.ownBlock,Option.some.injEq]at hgb
    subst hgb
    obtain⟨cs,e1,e2,e3,e4,e5,_⟩:=q1O hv
    obtain⟨cs',d1,d2,d3,d4,d5,_⟩:=q1O hv'
    rw[h3]at e1
    simp only[Option.some.injEq,Obj.cells.injEq,and_true]at e1
    subst e1
    have hc:c0=cap:=by omega
    subst hc
    refine .inr ⟨g0,c0,cs',rfl,h2,d1,h4,h5,d4,?_⟩
    rw[←flR_take f (n+m) k hk,←d5,List.take_take,Nat.min_eq_left (zU _ hk)]
   ·exact absurd (h.block g (Array.getElem?_eq_some_iff.1 h3).1 (by simp)) hb
theorem q4Q {P:Program}{ops:Array Oper}{rest:List Oper}{o:Oper}{a:Act}{Q:Exit→Act→World→Prop}(hgd:o.guard=none)(x y:Operand)(t e:TypeId)
  (ho:o.op=.call {callee:=.builtin .append,args:=#[x,y],argTypes:=#[t,t]}){i:TypeInfo}{z:Value}{size bytes:Nat}(ht:P.underlying t=some (.slice e))(hi:P.info? e=some i)(hz:i.zero=some z)
  (hsize:i.size=size)(hby:i.bytes=bytes)(hzs:z.cells.size=size)(hsz:0<size)(base:Nat)(v:Value)(n:Nat)(xs:List Value)(W:World)(hx:a.eval x=v)
  (hown:W.ownsRow base e size v n xs)(ad:Addr)(m c:Nat)(news:List Value)(hy:a.eval y=.slice (some ad) m c)(hl:news.length=m*size)(hnews:∀j u,news[j]?=some u→W.cell? (ad.add j)=some u)(h1:∀u∈news,u.oneCell'=true)
  (hn:n+m≤1000000000)(hbb:bytes≤1000)(hbase:base≤W.heap.size)(hm:0<m)
  (h:∀v' w',w'.ownsRow base e size v' (n+m) (xs++news)→W.grownBy w' v.ownBlock→j1m W w' v v' n m→wpList P ops Q rest (a.put o.dst v') w'):wpList P ops Q (o::rest) a W:=by
 refine wpList_plain hgd fun _ hK=>?_
 obtain⟨v',w',hr,h2,h3,h4⟩:=j2U (P:=P) W base t o.type e i z size bytes ht hi hz hsize hby hzs hsz v n xs hown ad m c news hl hnews h1 (by unfold maxLen;omega) (by have:(n+m)*bytes≤1000000000*1000:=Nat.mul_le_mul hn hbb;omega) hbase hm
 unfold Oper.wp execOp
 simp only[ho,resolve,invoke,builtin,Sem.run_bind,Sem.run_pure,Result.andThen_ok,List.map_toArray,List.map_cons,List.map_nil,hx,hy,hr]
 exact hK _ _ (h v' w' h2 h3 h4)
theorem q2V {w w':World}{v:Value}(h:w.grownBy w' v.ownBlock):OnlyB v.ownBlock.toList w w':=⟨h.os,h.tape,h.output,h.size,fun k hk hn=>h.block k hk (fun e=>hn (by rw[←e];simp))⟩
theorem j3l {w w':World}(h:w.grownBy w' none):Below w.heap.size w w':=⟨h.os,h.tape,h.output,h.size,fun k hk=>h.block k hk (by simp)⟩
structure Lst where
 v:Value
 cv:Value
 n:Nat
 f:Nat→Int
 cf:Nat→Int
structure St where
 vx:Value
 vy:Value
 vl:Value
 vw:Value
 MS:List Mo
 LS:List Lst
 mc:Nat
def obl (v:Value):List Nat:=v.ownBlock.toList
theorem q1w {v:Value}{k:Nat}:k∈obl v↔v.ownBlock=some k:=by simp[obl]
def q1D (bw:Nat)(s:St):List Nat:=bw::(obl s.vx++(obl s.vy++(obl s.vl++obl s.vw)))
def q3h (s:St):List Nat:=s.LS.flatMap fun e=>obl e.v++obl e.cv
structure Wld (w:World)(bw:Nat)(s:St):Prop where
 blk:w.heap[bw]?=some (.cells #[s.vx,s.vy,s.vl,s.vw,.int .i64 s.mc] 108 (0,0))
 xs:w.ownsRow (bw+1) 33 1 s.vx s.MS.length (s.MS.map fun m=>.pointer (some ⟨m.b,0,none⟩))
 ys:w.ownsRow (bw+1) 142 1 s.vy s.MS.length (s.MS.map fun m=>.pointer (some ⟨m.d,0,none⟩))
 ls:w.ownsRow (bw+1) 38 1 s.vl s.LS.length (s.LS.map fun e=>e.v)
 lw:w.ownsRow (bw+1) 38 1 s.vw s.LS.length (s.LS.map fun e=>e.cv)
 two:∀k∈obl s.vl,k∉obl s.vw
 mons:∀m∈s.MS,MoAt w m
 row:∀e∈s.LS,w.ownsRow (bw+1) 49 12 e.v e.n (flR e.f e.n)
 cop:∀e∈s.LS,w.ownsRow (bw+1) 49 12 e.cv e.n (flR e.cf e.n)
 hi:∀m∈s.MS,∀k∈q1d m,bw<k
 fro:∀m∈s.MS,∀k∈q3S m,k∉q1D bw s∧k∉q3h s
 sep:∀m∈s.MS,∀m'∈s.MS,∀k∈q1d m,k∉q3S m'
 apart:∀i j:Nat,∀m m',s.MS[i]?=some m→s.MS[j]?=some m'→i≠j→∀k∈q1d m,k∉q1d m'
theorem Wld.lt {w:World}{bw:Nat}{s:St}(h:Wld w bw s):bw<w.heap.size:=zd h.blk
theorem Wld.kinds {w:World}{bw:Nat}{s:St}(h:Wld w bw s):∀k,k∈q1D bw s∨k∈q3h s→bw≤k∧∃cs t,w.heap[k]?=some (.cells cs t (0,0))∧(t=108∨t=33∨t=142∨t=38∨t=49):=by
 intro k hk
 rcases hk with hk|hk
 ·simp only[q1D,List.mem_cons,List.mem_append]at hk
  rcases hk with rfl|hk|hk|hk|hk
  ·exact⟨zL _,_,_,h.blk,.inl rfl⟩
  ·obtain⟨h1,cs,h2⟩:=zw h.xs k hk;exact⟨by omega,cs,_,h2,.inr (.inl rfl)⟩
  ·obtain⟨h1,cs,h2⟩:=zw h.ys k hk;exact⟨by omega,cs,_,h2,.inr (.inr (.inl rfl))⟩
  ·obtain⟨h1,cs,h2⟩:=zw h.ls k hk;exact⟨by omega,cs,_,h2,.inr (.inr (.inr (.inl rfl)))⟩
  ·obtain⟨h1,cs,h2⟩:=zw h.lw k hk;exact⟨by omega,cs,_,h2,.inr (.inr (.inr (.inl rfl)))⟩
 ·simp only[q3h,List.mem_flatMap,List.mem_append]at hk
  obtain⟨e,he,hk|hk⟩:=hk
  ·obtain⟨h1,cs,h2⟩:=zw (h.row e he) k hk;exact⟨by omega,cs,_,h2,.inr (.inr (.inr (.inr rfl)))⟩
  ·obtain⟨h1,cs,h2⟩:=zw (h.cop e he) k hk;exact⟨by omega,cs,_,h2,.inr (.inr (.inr (.inr rfl)))⟩
theorem Wld.mut {w:World}{bw:Nat}{s:St}(h:Wld w bw s):∀m∈s.MS,∀k∈q1d m,k∉q1D bw s∧k∉q3h s:=by
 intro m hm k hk
 obtain⟨cs,t,e,ht⟩:=(h.mons m hm).mut k hk
 have hno:¬(k∈q1D bw s∨k∈q3h s):=by
  intro hh
  obtain⟨_,cs',t',e',ht'⟩:=h.kinds k hh
  rw[e]at e'
  simp only[Option.some.injEq,Obj.cells.injEq,and_true]at e'
  obtain⟨_,rfl⟩:=e'
  rcases ht with rfl|rfl|rfl|rfl<;>revert ht'<;>decide
 exact⟨fun hh=>hno (.inl hh),fun hh=>hno (.inr hh)⟩
theorem Wld.kindsG {w:World}{bw:Nat}{s:St}(h:Wld w bw s){bl:List Nat}(hs:∀k∈bl,k∈q1D bw s∨k∈q3h s):q4R bl w:=fun k hk=>by
 obtain⟨_,cs,t,e,ht⟩:=h.kinds k (hs k hk)
 refine⟨cs,t,e,?_⟩
 rcases ht with rfl|rfl|rfl|rfl|rfl<;>exact⟨by decide,by decide⟩
theorem qn {w w':World}{bl:List Nat}{base:Nat}{e:TypeId}{size:Nat}{v:Value}{n:Nat}{xs:List Value}(h:w.ownsRow base e size v n xs)(ho:OnlyB bl w w')(hb:∀k∈obl v,k∉bl):w'.ownsRow base e size v n xs:=q5n h ho (fun k hv=>hb k (q1w.2 hv))
theorem Wld.all {w:World}{bw:Nat}{s:St}(_h:Wld w bw s):(∀k∈obl s.vx,k∈q1D bw s)∧(∀k∈obl s.vy,k∈q1D bw s)∧(∀k∈obl s.vl,k∈q1D bw s)∧(∀k∈obl s.vw,k∈q1D bw s)∧(∀e∈s.LS,∀k∈obl e.v,k∈q3h s)∧(∀e∈s.LS,∀k∈obl e.cv,k∈q3h s):=by
 refine⟨fun k hk=>?_,fun k hk=>?_,fun k hk=>?_,fun k hk=>?_,fun e he k hk=>?_,fun e he k hk=>?_⟩
 ·simp[q1D,hk]
 ·simp[q1D,hk]
 ·simp[q1D,hk]
 ·simp[q1D,hk]
 ·exact List.mem_flatMap.2 ⟨e,he,List.mem_append_left _ hk⟩
 ·exact List.mem_flatMap.2 ⟨e,he,List.mem_append_right _ hk⟩
theorem Wld.keep {w w':World}{bw:Nat}{s:St}{bl:List Nat}(h:Wld w bw s)(ho:OnlyB bl w w')(hk:q4R bl w)(h1:∀k∈bl,k∉q1D bw s∧k∉q3h s)(h2:∀m∈s.MS,(∀k∈q1d m,k∉bl)∧∀k∈q3S m,k∉bl):Wld w' bw s:=by
 obtain⟨a1,a2,a3,a4,a5,a6⟩:=h.all
 have n1:∀k∈q1D bw s,k∉bl:=fun k hk hb=>(h1 k hb).1 hk
 have n2:∀k∈q3h s,k∉bl:=fun k hk hb=>(h1 k hb).2 hk
 exact⟨(ho.block bw h.lt (n1 bw (by simp[q1D]))).trans h.blk,qn h.xs ho (fun k hk=>n1 k (a1 k hk)),qn h.ys ho (fun k hk=>n1 k (a2 k hk)),qn h.ls ho (fun k hk=>n1 k (a3 k hk)),qn h.lw ho (fun k hk=>n1 k (a4 k hk)),h.two,
  fun m hm=>(h.mons m hm).keep ho hk (h2 m hm).1 (h2 m hm).2,fun e he=>qn (h.row e he) ho (fun k hk=>n2 k (a5 e he k hk)),fun e he=>qn (h.cop e he) ho (fun k hk=>n2 k (a6 e he k hk)),h.hi,h.fro,h.sep,h.apart⟩
theorem Wld.below {w w':World}{bw:Nat}{s:St}(h:Wld w bw s)(hb:Below w.heap.size w w'):Wld w' bw s:=
 h.keep (bl:=[]) (.of_below hb) (fun k hk=>by simp at hk) (by simp) (by simp)
theorem Wld.ownLt {w:World}{bw:Nat}{s:St}(h:Wld w bw s):∀k,k∈q1D bw s∨k∈q3h s→k<w.heap.size:=fun k hk=>by obtain⟨_,cs,t,e,_⟩:=h.kinds k hk;exact zd e
theorem Wld.turned {w w':World}{bw:Nat}{s:St}(h:Wld w bw s){i:Nat}{m m':Mo}(hm:s.MS[i]?=some m)(t:MoTo w w' m m'):Wld w' bw {s with MS:=s.MS.set i m'}:=by
 have hmem:m∈s.MS:=zI hm
 have hlt:i<s.MS.length:=(List.getElem?_eq_some_iff.1 hm).1
 obtain⟨a1,a2,a3,a4,a5,a6⟩:=h.all
 have n1:∀k∈q1D bw s,k∉q1d m:=fun k hk hb=>(h.mut m hmem k hb).1 hk
 have n2:∀k∈q3h s,k∉q1d m:=fun k hk hb=>(h.mut m hmem k hb).2 hk
 have ho:=t.only
 have hset:∀x∈s.MS.set i m',x=m'∨∃j:Nat,s.MS[j]?=some x∧j≠i:=by
  intro x hx
  obtain⟨j,hj⟩:=List.getElem?_of_mem hx
  rw[List.getElem?_set]at hj
  split at hj
  ·left;first|(simp only[if_pos hlt]at hj;simpa using hj.symm)|simpa using hj.symm
  ·rename_i hne;exact .inr ⟨j,hj,fun e=>hne e.symm⟩
 have hold:∀j x,s.MS[j]?=some x→j≠i→MoAt w' x:=fun j x hj hne=>by
  have hx:x∈s.MS:=zI hj
  exact(h.mons x hx).keep ho ((h.mons m hmem).mutKinds (fun _ hk=>hk)) (fun k hk=>h.apart j i x m hj hm hne k hk) (fun k hk hb=>h.sep m hmem x hx k hb hk)
 refine⟨(ho.block bw h.lt (n1 bw (by simp[q1D]))).trans h.blk,?_,?_,qn h.ls ho (fun k hk=>n1 k (a3 k hk)),qn h.lw ho (fun k hk=>n1 k (a4 k hk)),h.two,fun x hx=>?_,fun e he=>qn (h.row e he) ho (fun k hk=>n2 k (a5 e he k hk)),fun e he=>qn (h.cop e he) ho (fun k hk=>n2 k (a6 e he k hk)),fun x hx k hk=>?_,fun x hx k hk=>?_,fun x hx y hy k hk=>?_,fun a b x y hx hy hab k hk=>?_⟩
 ·have e:=qn h.xs ho (fun k hk=>n1 k (a1 k hk))
  have e2:(s.MS.set i m').map (fun m=>Value.pointer (some ⟨m.b,0,none⟩))=s.MS.map (fun m=>Value.pointer (some ⟨m.b,0,none⟩)):=by
   rw[List.map_set,t.b]
   refine List.ext_getElem? fun j=>?_
   rw[List.getElem?_set]
   split
   ·rename_i e;subst e;rw[List.getElem?_map,hm];simp[hlt]
   ·rfl
  show w'.ownsRow _ _ _ _ (s.MS.set i m').length ((s.MS.set i m').map _)
  rw[e2,List.length_set]
  exact e
 ·have e:=qn h.ys ho (fun k hk=>n1 k (a2 k hk))
  have e2:(s.MS.set i m').map (fun m=>Value.pointer (some ⟨m.d,0,none⟩))=s.MS.map (fun m=>Value.pointer (some ⟨m.d,0,none⟩)):=by
   rw[List.map_set,t.d]
   refine List.ext_getElem? fun j=>?_
   rw[List.getElem?_set]
   split
   ·rename_i e;subst e;rw[List.getElem?_map,hm];simp[hlt]
   ·rfl
  show w'.ownsRow _ _ _ _ (s.MS.set i m').length ((s.MS.set i m').map _)
  rw[e2,List.length_set]
  exact e
 ·rcases hset x hx with rfl|⟨j,hj,hne⟩
  ·exact t.mo
  ·exact hold j x hj hne
 ·rcases hset x hx with rfl|⟨j,hj,hne⟩
  ·rcases t.muts k hk with hk|hk
   ·exact h.hi m hmem k hk
   ·have:=h.lt;omega
  ·exact h.hi x (zI hj) k hk
 ·rcases hset x hx with rfl|⟨j,hj,hne⟩
  ·rcases t.fros k hk with hk|hk
   ·exact h.fro m hmem k hk
   ·exact⟨fun hh=>by have:=h.ownLt k (.inl hh);omega,fun hh=>by have:=h.ownLt k (.inr hh);omega⟩
  ·exact h.fro x (zI hj) k hk
 ·rcases hset x hx with rfl|⟨j,hj,hne⟩
  ·rcases hset y hy with rfl|⟨j2,hj2,hne2⟩
   ·exact fun hf=>t.sep k hf hk
   ·have hym:y∈s.MS:=zI hj2
    rcases t.muts k hk with hk|hk
    ·exact h.sep m hmem y hym k hk
    ·intro hf;have:=(h.mons y hym).froLt k hf;omega
  ·have hxm:x∈s.MS:=zI hj
   rcases hset y hy with rfl|⟨j2,hj2,hne2⟩
   ·intro hf
    rcases t.fros k hf with hf|hf
    ·exact h.sep x hxm m hmem k hk hf
    ·have:=(h.mons x hxm).mutLt k hk;omega
   ·exact h.sep x hxm y (zI hj2) k hk
 ·simp only[]at hx hy
  rw[List.getElem?_set]at hx hy
  by_cases hai:i=a
  ·subst hai
   rw[if_pos rfl,if_pos hlt]at hx
   rw[if_neg hab]at hy
   obtain rfl:m'=x:=by simpa using hx
   rcases t.muts k hk with hk|hk
   ·exact h.apart i b m y hm hy hab k hk
   ·intro hf;have:=(h.mons y (zI hy)).mutLt k hf;omega
  ·rw[if_neg hai]at hx
   by_cases hbi:i=b
   ·subst hbi
    rw[if_pos rfl,if_pos hlt]at hy
    obtain rfl:m'=y:=by simpa using hy
    intro hf
    rcases t.muts k hf with hf|hf
    ·exact h.apart a i x m hx hm hab k hk hf
    ·have:=(h.mons x (zI hx)).mutLt k hk;omega
   ·rw[if_neg hbi]at hy
    exact h.apart a b x y hx hy hab k hk
theorem MoAt.dis {w:World}{m:Mo}(h:MoAt w m):∀k∈m.d::zQ m.la,k<w.heap.size∧k∉m.b::zQ m.ao:=fun k hk=>by
 obtain⟨⟨c1,k1⟩,k2,⟨c3,k3⟩,k4⟩:=h.kinds
 have e1:∃cs t,w.heap[k]?=some (.cells cs t (0,0))∧(t=152∨t=222):=by
  rcases List.mem_cons.1 hk with rfl|hk
  ·exact⟨_,_,k3,.inl rfl⟩
  ·obtain⟨cs,e⟩:=k4 k hk;exact⟨cs,_,e,.inr rfl⟩
 obtain⟨cs,t,e,ht⟩:=e1
 refine⟨zd e,fun hh=>?_⟩
 have e2:∃cs t,w.heap[k]?=some (.cells cs t (0,0))∧(t=89∨t=137):=by
  rcases List.mem_cons.1 hh with rfl|hh
  ·exact⟨_,_,k1,.inl rfl⟩
  ·obtain⟨cs,e⟩:=k2 k hh;exact⟨cs,_,e,.inr rfl⟩
 obtain⟨cs',t',e',ht'⟩:=e2
 rw[e]at e'
 simp only[Option.some.injEq,Obj.cells.injEq,and_true]at e'
 obtain⟨_,rfl⟩:=e'
 rcases ht with rfl|rfl<;>revert ht'<;>decide
theorem MoAt.doc1 {w w1:World}{m:Mo}(h:MoAt w m)(hs:∀k∈q3S m,k∉q1d m)(ho:OnlyB (m.b::zQ m.ao) w w1):DMonAt w1 m.d m.fv m.u m.F (.slice m.la m.DL.length m.lc) m.DL m.told m.ended:=by
 refine h.doc.keep ho (fun k hk=>?_)
 simp only[blkD,List.mem_cons,List.mem_append]at hk
 rcases hk with rfl|hk|hk
 ·exact(h.dis _ (by simp)).2
 ·exact(h.dis k (by simp[hk])).2
 ·intro hh
  refine hs k hk ?_
  rcases List.mem_cons.1 hh with rfl|hh
  ·simp[q1d]
  ·simp[q1d,hh]
theorem mo_both {w w1 w2:World}{m:Mo}{L:List LPt}{told:Nat}{ended:Bool}(h:MoAt w m)(hs:∀k∈q3S m,k∉q1d m)(h1:q4E w w1 m.b m.gn m.cn m.ao m.F L told ended)(h2:q4f w1 w2 m.d m.fv m.u m.F m.la m.DL L told ended):∃m',MoTo w w2 m m'∧∀k∈q3S m',k∈q3S m∨w1.heap.size≤k:=by
 obtain⟨ao',cap',PL',q1,q2,q3,q4⟩:=h1
 obtain⟨la',lc',DL',p1,p2,p3,p4,p5,p6⟩:=h2
 have hm1:=h.dis
 have hb1:=zd h.mon.blk
 have hao:∀k∈zQ m.ao,k<w.heap.size:=fun k hk=>h.mutLt k (by simp[q1d,hk])
 have hw1:w.heap.size≤w1.heap.size:=q3.size
 have hw2:w1.heap.size≤w2.heap.size:=p4.size
 have hbN:∀k∈m.b::zQ ao',k∉m.d::zQ m.la:=fun k hk hh=>by
  obtain⟨l1,l2⟩:=hm1 k hh
  rcases List.mem_cons.1 hk with rfl|hk
  ·exact l2 (by simp)
  ·rcases q4 k hk with hk|hk
   ·exact l2 (by simp[hk])
   ·omega
 have hao':∀k∈zQ ao',k<w1.heap.size:=fun k hk=>by
  rcases(List.mem_cons.1 (show k∈m.b::zQ ao' by simp[hk]))with rfl|_
  ·omega
  ·have:=q1.kinds k (by simp[hk])
   obtain⟨cs,t,e,_⟩:=this
   exact zd e
 have hfl:=h.froLt
 have kg:q4R (m.d::zQ m.la) w1:=fun k hk=>by
  obtain⟨l1,l2⟩:=hm1 k hk
  obtain⟨cs,t,e,r⟩:=(h.mutKinds (bl:=m.d::zQ m.la) (fun k hk=>by
   rcases List.mem_cons.1 hk with rfl|hk
   ·simp[q1d]
   ·simp[q1d,hk])) k hk
  exact⟨cs,t,by rw[q3.block k l1 l2];exact e,r⟩
 refine⟨{m with ao:=ao',cap:=cap',PL:=PL',told:=told,ended:=ended,la:=la',lc:=lc',DL:=DL'},⟨⟨h.good,q1.keepG p4 kg (hbN _ (by simp)) (fun k hk=>hbN k (by simp[hk])),p1,p2,by show zA PL'=zs DL';rw[q2,p3]⟩,⟨p4.os.trans q3.os,p4.tape.trans q3.tape,p4.output.trans q3.output,zM hw1 hw2,fun k hk hn=>?_⟩,fun k hk=>?_,fun k hk=>?_,rfl,rfl,fun k hk hm=>?_⟩,p6⟩
 ·rw[p4.block k (by omega) (fun hh=>hn (by
   rcases List.mem_cons.1 hh with rfl|hh
   ·simp[q1d]
   ·simp[q1d,hh])),q3.block k hk (fun hh=>hn (by
   rcases List.mem_cons.1 hh with rfl|hh
   ·simp[q1d]
   ·simp[q1d,hh]))]
 ·simp only[q1d,List.mem_cons,List.mem_append]at hk ⊢
  rcases hk with rfl|hk|rfl|hk
  ·simp
  ·rcases q4 k hk with hk|hk
   ·simp[hk]
   ·exact .inr hk
  ·simp
  ·rcases p5 k hk with hk|hk
   ·simp[hk]
   ·exact .inr (by omega)
 ·rcases p6 k hk with hk|hk
  ·exact .inl hk
  ·exact .inr (by omega)
 ·have hd:=p2 k hk
  simp only[q1d,List.mem_cons,List.mem_append]at hm
  have hno:k=m.b∨k∈zQ ao':=by
   rcases hm with hm|hm|hm|hm
   ·exact .inl hm
   ·exact .inr hm
   ·exact absurd (by simp[hm]) hd
   ·exact absurd (by simp[hm]) hd
  rcases p6 k hk with hf|hf
  ·have hsk:=hs k hf
   simp only[q1d,List.mem_cons,List.mem_append,not_or]at hsk
   have:=hfl k hf
   rcases hno with hno|hno
   ·exact hsk.1 hno
   ·rcases q4 k hno with hq|hq
    ·exact hsk.2.1 hq
    ·omega
  ·rcases hno with hno|hno
   ·omega
   ·have:=hao' k hno;omega
def lst0:Lst:=⟨.slice none 0 0,.slice none 0 0,0,fun _=>0,fun _=>0⟩
def lg (LS:List Lst)(i:Nat):Lst:=LS.getD i lst0
theorem q8y {LS:List Lst}{i:Nat}(h:i<LS.length):lg LS i∈LS:=by
 unfold lg
 rw[List.getD_eq_getElem?_getD,zG h]
 exact List.getElem_mem h
theorem j2r {LS:List Lst}{i:Nat}(h:i<LS.length):LS[i]?=some (lg LS i):=by
 unfold lg
 rw[List.getD_eq_getElem?_getD,zG h]
 rfl
def q2M (LS:List Lst)(gs:List Nat)(i:Nat)(z:Int):List Lst:=LS.map fun e=>{e with f:=if gs.any (fun k=>e.v.ownBlock==some k)=true then q7n e.f i z else e.f,cf:=if gs.any (fun k=>e.cv.ownBlock==some k)=true then q7n e.cf i z else e.cf}
theorem q2p (LS:List Lst)(gs:List Nat)(i:Nat)(z:Int):(q2M LS gs i z).length=LS.length:=by simp[q2M]
theorem putL_v (LS:List Lst)(gs:List Nat)(i:Nat)(z:Int):(q2M LS gs i z).map (fun e=>e.v)=LS.map (fun e=>e.v):=by simp[q2M]
theorem putL_cv (LS:List Lst)(gs:List Nat)(i:Nat)(z:Int):(q2M LS gs i z).map (fun e=>e.cv)=LS.map (fun e=>e.cv):=by simp[q2M]
theorem putL_nil (LS:List Lst)(i:Nat)(z:Int):q2M LS [] i z=LS:=by simp[q2M]
theorem j3V (LS:List Lst)(gs:List Nat)(g i:Nat)(z:Int):q2M (q2M LS gs i z) [g] i z=q2M LS (gs++[g]) i z:=by
 unfold q2M
 rw[List.map_map]
 refine List.map_congr_left fun e _=>?_
 simp only[Function.comp,List.any_append,List.any_cons,List.any_nil,Bool.or_false,Bool.or_eq_true]
 congr 1
 ·by_cases h1:(gs.any fun k=>e.v.ownBlock==some k)=true
  ·rw[if_pos h1,if_pos (show _∨_ from .inl h1)]
   by_cases h2:(e.v.ownBlock==some g)=true
   ·rw[if_pos h2]
    exact j4A _ _ _
   ·rw[if_neg h2]
  ·rw[if_neg h1]
   by_cases h2:(e.v.ownBlock==some g)=true
   ·rw[if_pos h2,if_pos (show _∨_ from .inr h2)]
   ·rw[if_neg h2,if_neg (fun hh:_∨_=>hh.elim h1 h2)]
 ·by_cases h1:(gs.any fun k=>e.cv.ownBlock==some k)=true
  ·rw[if_pos h1,if_pos (show _∨_ from .inl h1)]
   by_cases h2:(e.cv.ownBlock==some g)=true
   ·rw[if_pos h2]
    exact j4A _ _ _
   ·rw[if_neg h2]
  ·rw[if_neg h1]
   by_cases h2:(e.cv.ownBlock==some g)=true
   ·rw[if_pos h2,if_pos (show _∨_ from .inr h2)]
   ·rw[if_neg h2,if_neg (fun hh:_∨_=>hh.elim h1 h2)]
theorem q2b (LS:List Lst)(gs:List Nat)(i:Nat)(z:Int){t:Nat}(h:t<LS.length):lg (q2M LS gs i z) t={lg LS t with f:=if gs.any (fun k=>(lg LS t).v.ownBlock==some k)=true then q7n (lg LS t).f i z else(lg LS t).f,cf:=if gs.any (fun k=>(lg LS t).cv.ownBlock==some k)=true then q7n (lg LS t).cf i z else(lg LS t).cf}:=by
 have h1:lg (q2M LS gs i z) t=(q2M LS gs i z)[t]'(by rw[q2p];exact h):=by
  unfold lg
  rw[List.getD_eq_getElem?_getD,zG (by rw[q2p];exact h)]
  rfl
 have h2:lg LS t=LS[t]:=by
  unfold lg
  rw[List.getD_eq_getElem?_getD,zG h]
  rfl
 rw[h1,h2]
 simp[q2M]
theorem Wld.put {w w':World}{bw:Nat}{s:St}{g i:Nat}{z:Int}{cs cs':Array Value}(h:Wld w bw s)(hgl:g∈q3h s)(ho:OnlyB [g] w w')(hg:w.heap[g]?=some (.cells cs 49 (0,0)))(hg':w'.heap[g]?=some (.cells cs' 49 (0,0)))(hs:cs'.size=cs.size)
  (hp:∀p,p<cs.size→cs'[p]?=if i*12≤p∧p<i*12+12 then(q7K z)[p-i*12]? else cs[p]?):Wld w' bw {s with LS:=q2M s.LS [g] i z}:=by
 obtain⟨a1,a2,a3,a4,a5,a6⟩:=h.all
 have hno:∀k∈q1D bw s,k∉[g]:=by
  intro k hk hh
  have hkg:k=g:=by simpa using hh
  subst hkg
  simp only[q1D,List.mem_cons,List.mem_append]at hk
  have no:∀{base e size v n xs},w.ownsRow base e size v n xs→e≠49→k∈obl v→False:=fun hr he hv=>by
   obtain⟨_,cs2,e2⟩:=zw hr k hv
   rw[hg]at e2
   simp only[Option.some.injEq,Obj.cells.injEq,and_true]at e2
   exact he e2.2.symm
  rcases hk with rfl|hk|hk|hk|hk
  ·have:=h.blk;rw[hg]at this;simp at this
  ·exact no h.xs (by decide) hk
  ·exact no h.ys (by decide) hk
  ·exact no h.ls (by decide) hk
  ·exact no h.lw (by decide) hk
 have hrow:∀{v n f},w.ownsRow (bw+1) 49 12 v n (flR f n)→w'.ownsRow (bw+1) 49 12 v n (flR (if [g].any (fun k=>v.ownBlock==some k)=true then q7n f i z else f) n):=by
  intro v n f hr
  by_cases hv:v.ownBlock=some g
  ·rw[if_pos (by simp[hv])]
   exact row_put hr hv hg hg' hs hp
  ·rw[if_neg (by simpa using hv)]
   exact qn hr ho (fun k hk hh=>hv (by have:k=g:=(by simpa using hh);rw[←this];exact q1w.1 hk))
 have hlst:∀k,k∈q3h {s with LS:=q2M s.LS [g] i z}↔k∈q3h s:=by
  intro k
  simp only[q3h,q2M,List.mem_flatMap,List.mem_map,List.mem_append]
  constructor
  ·rintro⟨e,⟨e',he',rfl⟩,hk⟩;exact⟨e',he',hk⟩
  ·rintro⟨e,he,hk⟩;exact⟨_,⟨e,he,rfl⟩,hk⟩
 have hkm:∀m∈s.MS,(∀k∈q1d m,k∉[g])∧∀k∈q3S m,k∉[g]:=fun m hm=>⟨fun k hk hh=>(h.mut m hm k hk).2 (by have:k=g:=(by simpa using hh);rw[this];exact hgl),fun k hk hh=>(h.fro m hm k hk).2 (by have:k=g:=(by simpa using hh);rw[this];exact hgl)⟩
 have hkg:q4R [g] w:=h.kindsG (fun k hk=>.inr (by have:k=g:=(by simpa using hk);rw[this];exact hgl))
 refine⟨(ho.block bw h.lt (hno bw (by simp[q1D]))).trans h.blk,qn h.xs ho (fun k hk=>hno k (a1 k hk)),qn h.ys ho (fun k hk=>hno k (a2 k hk)),?_,?_,h.two,fun m hm=>(h.mons m hm).keep ho hkg (hkm m hm).1 (hkm m hm).2,fun e he=>?_,fun e he=>?_,h.hi,fun m hm k hk=>⟨(h.fro m hm k hk).1,fun hh=>(h.fro m hm k hk).2 ((hlst k).1 hh)⟩,h.sep,h.apart⟩
 ·show w'.ownsRow _ _ _ _ (q2M s.LS [g] i z).length ((q2M s.LS [g] i z).map (fun e=>e.v))
  rw[q2p,putL_v]
  exact qn h.ls ho (fun k hk=>hno k (a3 k hk))
 ·show w'.ownsRow _ _ _ _ (q2M s.LS [g] i z).length ((q2M s.LS [g] i z).map (fun e=>e.cv))
  rw[q2p,putL_cv]
  exact qn h.lw ho (fun k hk=>hno k (a4 k hk))
 ·simp only[q2M,List.mem_map]at he
  obtain⟨e',he',rfl⟩:=he
  exact hrow (h.row e' he')
 ·simp only[q2M,List.mem_map]at he
  obtain⟨e',he',rfl⟩:=he
  exact hrow (h.cop e' he')
structure Grp (LS:List Lst):Prop where
 four:LS.length % 4=0
 lens:∀i,i<LS.length→(lg LS i).n=(lg LS (i / 4*4)).n+i % 4
 same:∀i,i<LS.length→(lg LS i).f=(lg LS (i / 4*4)).f∧(lg LS i).cf=(lg LS (i / 4*4)).f
 rows:∀i j,i<LS.length→j<LS.length→i / 4≠j / 4→∀k∈obl (lg LS i).v,k∉obl (lg LS j).v
 cops:∀i j,i<LS.length→j<LS.length→∀k∈obl (lg LS i).cv,k∉obl (lg LS j).v
 copd:∀i j,i<LS.length→j<LS.length→i≠j→∀k∈obl (lg LS i).cv,k∉obl (lg LS j).cv
theorem Grp.nil:Grp []:=⟨rfl,fun i h=>absurd h (by simp),fun i h=>absurd h (by simp),fun i j h=>absurd h (by simp),fun i j h=>absurd h (by simp),fun i j h=>absurd h (by simp)⟩
theorem Grp.put {LS:List Lst}(h:Grp LS){q i:Nat}{z:Int}{gs:List Nat}(hq:q*4+3<LS.length)(h1:∀t,t<4→(∃k∈gs,(lg LS (q*4+t)).v.ownBlock=some k)∧∃k∈gs,(lg LS (q*4+t)).cv.ownBlock=some k)
  (h2:∀g∈gs,∃t,t<4∧(g∈obl (lg LS (q*4+t)).v∨g∈obl (lg LS (q*4+t)).cv)):Grp (q2M LS gs i z):=by
 have hv:∀t,t<LS.length→(gs.any (fun k=>(lg LS t).v.ownBlock==some k)=true↔t / 4=q):=by
  intro t ht
  constructor
  ·intro hh
   obtain⟨k,hk,he⟩:=List.any_eq_true.1 hh
   have he':k∈obl (lg LS t).v:=q1w.2 (by simpa using he)
   obtain⟨u,hu,hg|hg⟩:=h2 k hk
   ·rcases Nat.decEq (t / 4) q with hne|heq
    ·exact absurd hg (h.rows t (q*4+u) ht (by omega) (by omega) k he')
    ·exact heq
   ·exact absurd he' (h.cops (q*4+u) t (by omega) ht k hg)
  ·intro hh
   obtain⟨⟨k,hk,he⟩,_⟩:=h1 (t % 4) (by omega)
   rw[show q*4+t % 4=t by omega]at he
   exact List.any_eq_true.2 ⟨k,hk,by simp[he]⟩
 have hc:∀t,t<LS.length→(gs.any (fun k=>(lg LS t).cv.ownBlock==some k)=true↔t / 4=q):=by
  intro t ht
  constructor
  ·intro hh
   obtain⟨k,hk,he⟩:=List.any_eq_true.1 hh
   have he':k∈obl (lg LS t).cv:=q1w.2 (by simpa using he)
   obtain⟨u,hu,hg|hg⟩:=h2 k hk
   ·exact absurd hg (h.cops t (q*4+u) ht (by omega) k he')
   ·rcases Nat.decEq (q*4+u) t with hne|heq
    ·exact absurd he' (h.copd (q*4+u) t (by omega) ht hne k hg)
    ·omega
  ·intro hh
   obtain⟨_,⟨k,hk,he⟩⟩:=h1 (t % 4) (by omega)
   rw[show q*4+t % 4=t by omega]at he
   exact List.any_eq_true.2 ⟨k,hk,by simp[he]⟩
 refine⟨by rw[q2p];exact h.four,?_,?_,?_,?_,?_⟩
 all_goals rw[q2p]
 ·intro t ht
  rw[q2b _ _ _ _ ht,q2b _ _ _ _ (show t / 4*4<LS.length by omega)]
  exact h.lens t ht
 ·intro t ht
  have ht4:t / 4*4<LS.length:=by omega
  obtain⟨s1,s2⟩:=h.same t ht
  rw[q2b _ _ _ _ ht,q2b _ _ _ _ ht4]
  show(if gs.any (fun k=>(lg LS t).v.ownBlock==some k)=true then q7n (lg LS t).f i z else(lg LS t).f)=(if gs.any (fun k=>(lg LS (t / 4*4)).v.ownBlock==some k)=true then q7n (lg LS (t / 4*4)).f i z else(lg LS (t / 4*4)).f)∧(if gs.any (fun k=>(lg LS t).cv.ownBlock==some k)=true then q7n (lg LS t).cf i z else(lg LS t).cf)=(if gs.any (fun k=>(lg LS (t / 4*4)).v.ownBlock==some k)=true then q7n (lg LS (t / 4*4)).f i z else(lg LS (t / 4*4)).f)
  by_cases hh:t / 4=q
  ·rw[if_pos ((hv t ht).2 hh),if_pos ((hv _ ht4).2 (by omega)),if_pos ((hc t ht).2 hh),s1,s2]
   exact⟨rfl,rfl⟩
  ·rw[if_neg (fun e=>hh ((hv t ht).1 e)),if_neg (fun e=>hh (by have:=(hv _ ht4).1 e;omega)),if_neg (fun e=>hh ((hc t ht).1 e))]
   exact⟨s1,s2⟩
 ·intro a b ha hb hab
  rw[q2b _ _ _ _ ha,q2b _ _ _ _ hb]
  exact h.rows a b ha hb hab
 ·intro a b ha hb
  rw[q2b _ _ _ _ ha,q2b _ _ _ _ hb]
  exact h.cops a b ha hb
 ·intro a b ha hb hab
  rw[q2b _ _ _ _ ha,q2b _ _ _ _ hb]
  exact h.copd a b ha hb hab
theorem j2s {LS R:List Lst}{i:Nat}(h:i<LS.length):lg (LS++R) i=lg LS i:=by
 unfold lg
 rw[List.getD_eq_getElem?_getD,List.getD_eq_getElem?_getD,List.getElem?_append_left h]
theorem j0a {LS R:List Lst}(t:Nat):lg (LS++R) (LS.length+t)=lg R t:=by
 unfold lg
 rw[List.getD_eq_getElem?_getD,List.getD_eq_getElem?_getD,List.getElem?_append_right (by omega),Nat.add_sub_cancel_left]
theorem Grp.more {LS R:List Lst}(h:Grp LS)(hR:R.length=4){n B:Nat}{f:Nat→Int}(h1:∀t,t<4→(lg R t).n=n+t∧(lg R t).f=f∧(lg R t).cf=f)(hold:∀i,i<LS.length→(∀k∈obl (lg LS i).v,k<B)∧∀k∈obl (lg LS i).cv,k<B)
  (hnew:∀t,t<4→(∀k∈obl (lg R t).v,∀i,i<LS.length→k∉obl (lg LS i).v∧k∉obl (lg LS i).cv)∧∀k∈obl (lg R t).cv,B≤k)(hc:∀t u,t<4→u<4→∀k∈obl (lg R t).cv,k∉obl (lg R u).v∧(t≠u→k∉obl (lg R u).cv)):Grp (LS++R):=by
 have h4:=h.four
 have key:∀i,i<(LS++R).length→(i<LS.length∧lg (LS++R) i=lg LS i)∨∃t,t<4∧i=LS.length+t∧lg (LS++R) i=lg R t:=by
  intro i hi
  rw[List.length_append,hR]at hi
  rcases Nat.lt_or_ge i LS.length with hh|hh
  ·exact .inl ⟨hh,j2s hh⟩
  ·exact .inr ⟨i-LS.length,by omega,by omega,by rw[←j0a (LS:=LS) (i-LS.length)];congr 1;omega⟩
 refine⟨by rw[List.length_append,hR];omega,fun i hi=>?_,fun i hi=>?_,fun i j hi hj hij k hk hk2=>?_,fun i j hi hj k hk hk2=>?_,fun i j hi hj hij k hk hk2=>?_⟩
 ·rcases key i hi with⟨hl,e⟩|⟨t,ht,rfl,e⟩
  ·rw[e,j2s (by omega)]
   exact h.lens i hl
  ·rw[e,show(LS.length+t) / 4*4=LS.length+0 by omega,j0a,(h1 t ht).1,(h1 0 (by omega)).1]
   omega
 ·rcases key i hi with⟨hl,e⟩|⟨t,ht,rfl,e⟩
  ·rw[e,j2s (by omega)]
   exact h.same i hl
  ·rw[e,show(LS.length+t) / 4*4=LS.length+0 by omega,j0a,(h1 t ht).2.1,(h1 t ht).2.2,(h1 0 (by omega)).2.1]
   exact⟨rfl,rfl⟩
 ·rcases key i hi with⟨hl,e⟩|⟨t,ht,rfl,e⟩<;>rcases key j hj with⟨hl2,e2⟩|⟨t2,ht2,rfl,e2⟩<;>rw[e]at hk<;>rw[e2]at hk2
  ·exact h.rows i j hl hl2 hij k hk hk2
  ·exact((hnew t2 ht2).1 k hk2 i hl).1 hk
  ·exact((hnew t ht).1 k hk j hl2).1 hk2
  ·omega
 ·rcases key i hi with⟨hl,e⟩|⟨t,ht,rfl,e⟩<;>rcases key j hj with⟨hl2,e2⟩|⟨t2,ht2,rfl,e2⟩<;>rw[e]at hk<;>rw[e2]at hk2
  ·exact h.cops i j hl hl2 k hk hk2
  ·exact((hnew t2 ht2).1 k hk2 i hl).2 hk
  ·have:=(hnew t ht).2 k hk;have:=(hold j hl2).1 k hk2;omega
  ·exact(hc t t2 ht ht2 k hk).1 hk2
 ·rcases key i hi with⟨hl,e⟩|⟨t,ht,rfl,e⟩<;>rcases key j hj with⟨hl2,e2⟩|⟨t2,ht2,rfl,e2⟩<;>rw[e]at hk<;>rw[e2]at hk2
  ·exact h.copd i j hl hl2 hij k hk hk2
  ·have:=(hnew t2 ht2).2 k hk2;have:=(hold i hl).2 k hk;omega
  ·have:=(hnew t ht).2 k hk;have:=(hold j hl2).2 k hk2;omega
  ·exact(hc t t2 ht ht2 k hk).2 (by omega) hk2
theorem u16_part (xs:Array Value)(j:Nat)(v:Value)(h:xs[j]?=some v)(w:World):(part 41 xs j).run Tryz.prog w=.ok v w:=by
 simp[part,go_sem,h]
theorem q3E (xs:Array Value)(w:World)(j:Nat)(is:List Nat)(a:Int)(h1:xs[j]?=some (.int .u16 a))(hr:(Op.eqItems 9999 41 1 xs xs is).run Tryz.prog w=.ok true w):(Op.eqItems 9999 41 1 xs xs (j::is)).run Tryz.prog w=.ok true w:=by
 have he:(Op.equalIn 9999 41 (.int .u16 a) (.int .u16 a)).run Tryz.prog w=.ok (a==a) w:=run_equalIn_int w 9998 41 .u16 .u16 a a Tryz.underlying41
 simp only[Op.eqItems,Sem.run_bind,Nat.mul_one,u16_part _ _ _ h1,Result.andThen_ok,he]
 simpa using hr
theorem rel_self (r:Nat→Int)(w:World):(Op.equalIn 10000 47 (zn r) (zn r)).run Tryz.prog w=.ok true w:=by
 obtain⟨i,hi⟩:∃i,Tryz.prog.info? 41=some i:=⟨Tryz.t41,by kernel_rfl⟩
 rw[show(10000:Nat)=9999+1 from rfl,run_equalIn_array w 9999 _ _ Tryz.underlying47 hi,show Tryz.prog.cellsOf 41=1 by kernel_rfl,show List.range 10=[0,1,2,3,4,5,6,7,8,9] from rfl]
 refine q3E _ w 0 _ _ rfl (q3E _ w 1 _ _ rfl (q3E _ w 2 _ _ rfl (q3E _ w 3 _ _ rfl (q3E _ w 4 _ _ rfl (q3E _ w 5 _ _ rfl (q3E _ w 6 _ _ rfl (q3E _ w 7 _ _ rfl (q3E _ w 8 _ _ rfl (q3E _ w 9 _ _ rfl ?_)))))))))
 rfl
theorem j5E {ops:Array Oper}{rest:List Oper}{o:Oper}{a:Act}{W:World}{Q:Exit→Act→World→Prop}(hw:Region.wanted o (yielded ops a.tmps)=true)(x y:Operand)(z:TypeId)(ho:o.op=.binOp .eql 47 x y z)(V:Value)(r:Nat→Int)(hV:V=zn r)(hx:a.eval x=V)(hy:a.eval y=V)
  (h:wpList Tryz.prog ops Q rest (a.put o.dst (.bool true)) W):wpList Tryz.prog ops Q (o::rest) a W:=
 wpList_step fun K hK=>by
  subst hV
  rw[if_pos hw]
  unfold Oper.wp execOp
  simp only[ho,hx,hy,Sem.run_bind,run_eqGuard_agg W _ _ _ _ _ _ (show Tryz.prog.eqGuardType Tryz.prog.depth 47=false by kernel_rfl),Result.andThen_ok,run_eql_struct,rel_self,Sem.run_pure]
  exact hK _ _ h
theorem j1Z {P:Program}{ops:Array Oper}{rest:List Oper}{o:Oper}{a:Act}{W:World}{Q:Exit→Act→World→Prop}(hw:Region.wanted o (yielded ops a.tmps)=true)(ty:TypeId)(x:Operand)(ho:o.op=.load ty x)
  (ad:Addr)(v:Value)(hx:a.eval x=.pointer (some ad))(hr:(Instr.loadAt ty (.pointer (some ad))).run P W=.ok v W)
  (h:wpList P ops Q rest (a.put o.dst v) W):wpList P ops Q (o::rest) a W:=
 wpList_step fun K hK=>by
  rw[if_pos hw]
  unfold Oper.wp execOp
  simp only[ho,hx,hr,Sem.run_bind,Sem.run_pure,Result.andThen_ok]
  exact hK _ _ h
abbrev vcA (p st:Int)(r:Nat→Int):Array Value:=#[.int .i64 p,.int .u16 st,.int .u16 (r 0),.int .u16 (r 1),.int .u16 (r 2),.int .u16 (r 3),.int .u16 (r 4),.int .u16 (r 5),.int .u16 (r 6),.int .u16 (r 7),.int .u16 (r 8),.int .u16 (r 9)]
theorem j6k {W:World}{b:Nat}{p st:Int}{r:Nat→Int}{t:TypeId}(h:W.heap[b]?=some (.cells (vcA p st r) t (0,0))):(Instr.loadAt 47 (.pointer (some ⟨b,2,none⟩))).run Tryz.prog W=.ok (zn r) W:=by
 refine run_loadAt_mid W b 2 47 [.int .u16 (r 0),.int .u16 (r 1),.int .u16 (r 2),.int .u16 (r 3),.int .u16 (r 4),.int .u16 (r 5),.int .u16 (r 6),.int .u16 (r 7),.int .u16 (r 8),.int .u16 (r 9)] _ (fun j v hv=>?_) Tryz.underlying47 rfl (by kernel_rfl)
 rw[zC _ _ _ _ _ _ h,show(2+j)=j+2 by omega]
 simpa[vcA]using hv
theorem j6S (p st:Int)(r:Nat→Int)(w:World):Calls Tryz.prog 126 #[.agg (vcA p st r),.agg (vcA p st r)] w fun e w'=>e=.returned (.bool true)∧Below w.heap.size w w':=by
 obtain⟨V,hV⟩:∃V,V=Value.agg (vcA p st r):=⟨_,rfl⟩
 obtain⟨R,hR⟩:∃R,R=zn r:=⟨_,rfl⟩
 have HV:=zb hV
 have HR:=zb hR
 rw[←hV]
 clear hV hR
 go_enter Tryz.func126,Tryz.ntmps126
 go_wp2_with (first
  |(refine qo rfl 49 (.tmp 0) rfl V (vcA p st r) rfl HV.out ?_;intro W1 g1 b1 s1;have HG1:=zb g1;have HB1:=zb b1;clear g1 b1)
  |(refine qo rfl 49 (.tmp 1) rfl V (vcA p st r) rfl HV.out ?_;intro W2 g2 b2 s2;have HG2:=zb g2;have HB2:=zb b2;clear g2 b2;rw[s1]at HG2 s2;have HG3:=zb ((HB2.out.block w.heap.size (by omega)).trans HG1.out);have LA:=j6k HG3.out;have LB:=j6k HG2.out;rw[←HR.out]at LA LB;have c0:=zC _ _ 0 _ _ _ HG3.out;have c1:=zC _ _ 1 _ _ _ HG3.out;have d0:=zC _ _ 0 _ _ _ HG2.out;have d1:=zC _ _ 1 _ _ _ HG2.out;simp only[vcA,List.getElem?_toArray,List.getElem?_cons_zero,List.getElem?_cons_succ]at c0 c1 d0 d1)
  |(refine j1Z (by rfl) 47 (.tmp 18) rfl ⟨w.heap.size,2,none⟩ R rfl LA ?_)
  |(refine j1Z (by rfl) 47 (.tmp 20) rfl ⟨w.heap.size+1,2,none⟩ R rfl LB ?_)
  |(refine j5E (by rfl) (.tmp 19) (.tmp 21) _ rfl R r HR.out rfl rfl ?_))
 go_ret
 exact⟨rfl,HB1.out.trans (HB2.out.mono (by omega))⟩
end Go.Proofs.YtiamjjonoeaggaaGreatDoor
