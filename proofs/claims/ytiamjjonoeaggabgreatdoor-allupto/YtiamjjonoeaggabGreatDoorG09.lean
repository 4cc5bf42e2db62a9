import Derived.Test.YtiamjjonoeaggabGreatDoorGA
import Derived.Test.YtiamjjonoeaggabGreatDoorG05
import Derived.Deep.LoopGhost
import Derived.Deep.CutRange
import Derived.Deep.RegionHeld
import Derived.Deep.QuietTactic
import Derived.BigQuiet
set_option maxRecDepth 100000
set_option maxHeartbeats 16000000
namespace Go.Proofs.YtiamjjonoeaggabGreatDoor
open Go.RowKit
def zu:zl→List zl
 | .nil=>[]
 | .node p sp y l r=>.node p sp y l r::(zu l++zu r)
theorem j7A {p sp:Nat}{y:Pay}{l r:zl}{u:List Tok}(h:qz (.node p sp y l r) u):zu (.node p sp y l r)=.node p sp y l r::(q1g (.node p sp y l r)).flatMap zu:=by
 have e:zu (.node p sp y l r)=.node p sp y l r::(zu l++zu r):=rfl
 rw[e]
 rcases h with⟨hn,_,_,rfl,rfl,_⟩|⟨hn,hw,_,_,rfl,v,q1,q2,q3,ul,hv,_,hl,rfl⟩|⟨hn,hw,_,_,_,q1,q2,q3,ul,ur,hl,hr,rfl⟩|⟨hn,hw,_,rfl,hlo,hhi,q1,q2,q3,q4,q5,q6,ul,hl,rfl⟩|⟨hn,hw,_,hlo,hhi,q1,q2,q3,q4,q5,q6,q7,ul,ur,hl,hr,rfl⟩|⟨_,hw,_,_,_,rfl,rfl,rfl⟩
 ·rfl
 ·rw[q2l hl];simp[zu]
 ·rw[q3J hl hr];simp
 ·rw[q2l hl];simp[zu]
 ·rw[q3J hl hr];simp
 ·rfl
theorem j0S:∀(F:zl) (u:List Tok),qz F u→(zu F).length≤u.length:=by
 intro F
 induction F with
 |nil=>intro u h;exact h.elim
 |node p sp y l r ihl ihr =>
  intro u h
  have e:(zu (.node p sp y l r)).length=(zu l).length+(zu r).length+1:=by simp[zu]
  have hR:=h
  rw[e]
  have hnil:(zu (.nil:zl)).length=0:=rfl
  rcases h with⟨hn,_,_,rfl,rfl,_⟩|⟨hn,hw,_,_,rfl,v,q1,q2,q3,ul,hv,_,hl,rfl⟩|⟨hn,hw,_,_,_,q1,q2,q3,ul,ur,hl,hr,rfl⟩|⟨hn,hw,_,rfl,hlo,hhi,q1,q2,q3,q4,q5,q6,ul,hl,rfl⟩|⟨hn,hw,_,hlo,hhi,q1,q2,q3,q4,q5,q6,q7,ul,ur,hl,hr,rfl⟩|⟨_,hw,_,_,_,rfl,rfl,rfl⟩
  ·have:=q1W hR;rw[hnil];omega
  ·have:=ihl ul hl;rw[hnil];simp;omega
  ·have:=ihl ul hl;have:=ihr ur hr;simp;omega
  ·have:=ihl ul hl;rw[hnil];simp;omega
  ·have:=ihl ul hl;have:=ihr ur hr;simp;omega
  ·rw[hnil];simp
def q3G (b:Nat)(w:World)(v:Value)(u:List Tok):Prop:=∃o cap,v=.agg #[.slice (some ⟨b,o,none⟩) u.length cap]∧q3Y w (.slice (some ⟨b,o,none⟩) u.length cap) u∧0<u.length∧u.length≤1000
theorem q3G.frm {b:Nat}{w:World}{v:Value}{u:List Tok}(h:q3G b w v u):qB w v u:=by
 obtain⟨o,cap,h⟩:=h
 exact⟨b,o,cap,h⟩
theorem q3G.keep {b B:Nat}{w w':World}{v:Value}{u:List Tok}(h:q3G b w v u)(hb:Below B w w')(hB:b<B):q3G b w' v u:=by
 obtain⟨o,cap,e,ht,h0,h1⟩:=h
 refine⟨o,cap,e,?_,h0,h1⟩
 rcases ht with⟨e,_⟩|⟨b',o',cap',e,c1,c2,c3,c4⟩
 ·simp at e
 ·simp at e
  obtain⟨⟨rfl,rfl⟩,rfl⟩:=e
  refine .inr ⟨b,o,cap,rfl,c1,c2,zT c3 hb.size,fun i hi=>?_⟩
  rw[zo hb b _ hB,zo hb b _ hB]
  exact c4 i hi
def KidB (b:Nat)(w:World)(v:Value)(us:List (List Tok)):Prop:=
 (v=.slice none 0 0∧us=[])∨∃g o cap,v=.slice (some ⟨g,o,none⟩) us.length cap∧us.length≤cap∧cap≤maxLen∧g<w.heap.size∧∀j (h:j<us.length),∃x,w.cell? ⟨g,o+j,none⟩=some x∧q3G b w (.agg #[x]) us[j]
theorem KidB.sl {b:Nat}{w:World}{v:Value}{us:List (List Tok)}(h:KidB b w v us):q5V w v us:=by
 rcases h with h|⟨g,o,cap,e,h1,h2,h3,h4⟩
 ·exact .inl h
 ·refine .inr ⟨g,o,cap,e,h1,h2,h3,fun j hj=>?_⟩
  obtain⟨x,hx,hf⟩:=h4 j hj
  exact⟨x,hx,hf.frm⟩
theorem KidB.keep {b B:Nat}{w w':World}{v:Value}{us:List (List Tok)}(h:KidB b w v us)(hb:Below B w w')(hB:b<B)(hB2:w.heap.size≤B):KidB b w' v us:=by
 rcases h with h|⟨g,o,cap,e,h1,h2,h3,h4⟩
 ·exact .inl h
 ·refine .inr ⟨g,o,cap,e,h1,h2,zT h3 hb.size,fun j hj=>?_⟩
  obtain⟨x,hx,hf⟩:=h4 j hj
  exact⟨x,by rw[zo hb g _ (by omega)];exact hx,hf.keep hb hB⟩
theorem j0R {w:World}{b o cap:Nat}{u ul:List Tok}{a:Nat}(h:qB w (.agg #[.slice (some ⟨b,o,none⟩) u.length cap]) u)(hs:(u.drop a).take ul.length=ul)(ha:a+ul.length<u.length)(h0:0<ul.length):q3G b w (.agg #[q6a b o cap (a,a+ul.length)]) ul:=by
 have hv:q6a b o cap (a,a+ul.length)=.slice (some ⟨b,o+a*2,none⟩) ul.length (cap-a):=by simp[q6a]
 obtain⟨b',o',cap',e,h⟩:=q9E h hs ha h0
 rw[hv]at e
 simp at e
 obtain⟨⟨rfl,rfl⟩,rfl⟩:=e
 exact⟨_,_,by rw[hv],h⟩
theorem j4b (F:zl)(u:List Tok)(v:Value)(w:World)(b:Nat)(hR:qz F u)(hB:q3G b w v u)(_hbl:b<w.heap.size) :
  Calls Tryz.prog 107 #[v] w fun e w'=>∃(v':Value) (ks:List (zl × List Tok)),e=.returned v'∧ks.map Prod.fst=q1g F∧(∀k∈ks,qz k.1 k.2∧∀t∈k.2,t∈u)∧KidB b w' v' (ks.map Prod.snd)∧Below w.heap.size w w':=by
 have hF:=hB.frm
 cases hlf:q3Z (hd u)with
 |true =>
  refine(q6n v u w hF hlf).mono ?_
  rintro e w' ⟨rfl,hb⟩
  exact⟨_,[],rfl,(q6z hR hlf).symm,by simp,.inl ⟨rfl,rfl⟩,hb⟩
 |false =>
  obtain⟨o,cap,rfl,_⟩:=hB
  refine(q6m b o cap u w hF hlf (j5Z hR hlf)).mono ?_
  rintro e w' ⟨v',rfl,hown,hb⟩
  have hF':=hF.below hb
  rcases q5F hR hlf with⟨l,ul,a,hk,hr,hc,hs,h1,_⟩|⟨l,r,ul,ur,a,a',hk,hr,hr',hc,hs,hs',h1,h2,_⟩
  ·rw[hc]at hown
   refine⟨v',[(l,ul)],rfl,hk.symm,by simp only[List.mem_singleton];rintro k rfl;exact⟨hr,q6A hs⟩,?_,hb⟩
   obtain⟨_,h⟩:=id hown
   rcases h with⟨_,hn⟩|⟨g,cp,cur,rfl,e2,e3,e4,e5,e6,e7⟩
   ·simp at hn
   ·have hlt:g<w'.heap.size:=by
     rcases Nat.lt_or_ge g w'.heap.size with h'|h'
     ·exact h'
     ·simp[Array.getElem?_eq_none h']at e3
    refine .inr ⟨g,0,cp,rfl,e4,e5,hlt,fun j hj=>?_⟩
    simp at hj
    subst hj
    exact⟨_,hown.cellAt 0 (by simp),j0R hF' hs h1 (q1W hr)⟩
  ·rw[hc]at hown
   refine⟨v',[(l,ul),(r,ur)],rfl,hk.symm,by simp only[List.mem_cons,List.not_mem_nil,or_false];rintro k (rfl|rfl)<;>first|exact⟨hr,q6A hs⟩|exact⟨hr',q6A hs'⟩,?_,hb⟩
   obtain⟨_,h⟩:=id hown
   rcases h with⟨_,hn⟩|⟨g,cp,cur,rfl,e2,e3,e4,e5,e6,e7⟩
   ·simp at hn
   ·have hlt:g<w'.heap.size:=by
     rcases Nat.lt_or_ge g w'.heap.size with h'|h'
     ·exact h'
     ·simp[Array.getElem?_eq_none h']at e3
    refine .inr ⟨g,0,cp,rfl,e4,e5,hlt,fun j hj=>?_⟩
    simp at hj
    rcases(by omega:j=0∨j=1)with rfl|rfl
    ·exact⟨_,hown.cellAt 0 (by simp),j0R hF' hs (by omega) (q1W hr)⟩
    ·exact⟨_,hown.cellAt 1 (by simp),j0R hF' hs' h2 (q1W hr')⟩
theorem q7D {b:Nat}{w:World}{a:OA}{n c:Nat}{ks:List (zl × List Tok)}{k:Nat}(h:KidB b w (.slice a n c) (ks.map Prod.snd))(hk:k<ks.length):∃g o x,a=some ⟨g,o,none⟩∧w.cell? ⟨g,o+k,none⟩=some x∧q3G b w (.agg #[x]) (ks[k]).2:=by
 rcases h with⟨_,h⟩|⟨g,o,c',e,h1,h2,h3,h4⟩
 ·simp at h
  subst h
  simp at hk
 ·simp at e
  obtain⟨rfl,rfl,rfl⟩:=e
  obtain⟨x,hx,hf⟩:=h4 k (by simpa using hk)
  refine⟨g,o,x,rfl,hx,?_⟩
  rw[List.getElem_map]at hf
  exact hf
def q2S (b:Nat)(w:World)(base:Nat)(v:Value)(ks:List (zl × List Tok)):Prop:=∃xs:List Value,xs.length=ks.length∧w.ownsRow base 112 1 v ks.length xs∧∀j (h:j<ks.length) (h':j<xs.length),q3G b w (.agg #[xs[j]]) (ks[j]).2
theorem j5N {w:World}{x:Value}{u:List Tok}(h:qB w (.agg #[x]) u):x.oneCell'=true:=by
 obtain⟨b,o,cap,e,_⟩:=h
 simp at e
 rw[e]
 rfl
theorem j6O {b:Nat}{w:World}{base:Nat}{v:Value}{ks:List (zl × List Tok)}(h:q2S b w base v ks):q5V w v (ks.map Prod.snd):=by
 obtain⟨xs,hl,hown,hf⟩:=h
 obtain⟨h1,h2⟩:=id hown
 rcases h2 with⟨e,hn⟩|⟨g,cap,cur,rfl,e2,e3,e4,e5,e6,e7⟩
 ·exact .inl ⟨e,by rw[List.length_eq_zero_iff.1 hn];rfl⟩
 ·have hlt:g<w.heap.size:=by
   rcases Nat.lt_or_ge g w.heap.size with h'|h'
   ·exact h'
   ·simp[Array.getElem?_eq_none h']at e3
  refine .inr ⟨g,0,cap,by simp,by simpa using e4,e5,hlt,fun j hj=>?_⟩
  simp at hj
  refine⟨xs[j]'(by omega),?_,?_⟩
  ·rw[Nat.zero_add,hown.cellAt j (by omega),zG (by omega)]
  ·rw[List.getElem_map];exact(hf j hj (by omega)).frm
theorem q2S.below {b:Nat}{w w':World}{base:Nat}{v:Value}{ks:List (zl × List Tok)}(h:q2S b w base v ks)(hb:Below w.heap.size w w')(hB:b<w.heap.size):q2S b w' base v ks:=by
 obtain⟨xs,hl,hown,hf⟩:=h
 exact⟨xs,hl,zh hown hb,fun j h h'=>(hf j h h').keep hb hB⟩
theorem q9e {b:Nat}{w:World}{B B':Nat}{v:Value}{ks:List (zl × List Tok)}(h:q2S b w B v ks)(hB:B'≤B):q2S b w B' v ks:=by
 obtain⟨xs,hl,⟨h1,h2⟩,hf⟩:=h
 refine⟨xs,hl,⟨h1,?_⟩,hf⟩
 rcases h2 with h2|⟨g,cap,cur,e1,e2,e3⟩
 ·exact .inl h2
 ·exact .inr ⟨g,cap,cur,e1,by omega,e3⟩
theorem j0j {w:World}{B n:Nat}{v:Value}{xs:List Value}(h:w.ownsRow B 112 1 v n xs)(hn:0<n):∃g c,v=.slice (some ⟨g,0,none⟩) n c∧∀j u,xs[j]?=some u→w.cell? ⟨g,0+j,none⟩=some u:=by
 obtain⟨h1,h2⟩:=id h
 rcases h2 with⟨_,h2⟩|⟨g,cap,cur,rfl,e2,e3,e4,e5,e6,e7⟩
 ·omega
 ·refine⟨g,cap,rfl,fun j u hj=>?_⟩
  have hlt:j<xs.length:=by
   rcases Nat.lt_or_ge j xs.length with g|g
   ·exact g
   ·rw[List.getElem?_eq_none g]at hj;exact absurd hj (by simp)
  rw[Nat.zero_add,h.cellAt j (by omega)]
  exact hj
theorem j4r {F:zl}{u:List Tok}(h:qz F u):0<(zu F).length:=by
 cases F with
 |nil=>exact h.elim
 |node=>simp[zu]
def ARel (b:Nat)(w1:World)(vlit:Value)(u:List Tok)(F:zl)(ps:List (zl × List Tok))(vo vi:Value)(wr:World):Prop:=
 ∃(k:Nat) (acc:List (zl × List Tok)),k≤ps.length∧vi=.int .i64 k∧acc.map Prod.fst=F::((ps.take k).map Prod.fst).flatMap zu∧(∀a∈acc,qz a.1 a.2∧∀t∈a.2,t∈u)∧((k=0∧acc=[(F,u)]∧vo=vlit)∨q2S b wr w1.heap.size vo acc)∧Below w1.heap.size w1 wr
theorem j6q {b:Nat}{w1 w3:World}{vlit:Value}{u:List Tok}{F:zl}{ps acc ms:List (zl × List Tok)}{k:Nat}{v3:Value}{xs ys:List Value}(hk:k<ps.length)(hacc:acc.map Prod.fst=F::((ps.take k).map Prod.fst).flatMap zu)(ha:∀a∈acc,qz a.1 a.2∧∀t∈a.2,t∈u)
  (hm:ms.map Prod.fst=zu (ps[k]).1)(hma:∀a∈ms,qz a.1 a.2∧∀t∈a.2,t∈u)(hxl:xs.length=acc.length)(hyl:ys.length=ms.length)(hown:w3.ownsRow w1.heap.size 112 1 v3 (acc.length+ms.length) (xs++ys))(hx:∀j (h:j<acc.length) (h':j<xs.length),q3G b w3 (.agg #[xs[j]]) (acc[j]).2)(hy:∀j (h:j<ms.length) (h':j<ys.length),q3G b w3 (.agg #[ys[j]]) (ms[j]).2)(hb:Below w1.heap.size w1 w3) :
  ARel b w1 vlit u F ps v3 (.int .i64 ((k:Int)+1)) w3:=by
 refine⟨k+1,acc++ms,hk,by simp,?_,?_,(.inr ⟨xs++ys,by simp[hxl,hyl],by rw[List.length_append];exact hown,?_⟩),hb⟩
 ·rw[List.map_append,hacc,hm,List.take_succ_eq_append_getElem hk,List.map_append,List.flatMap_append]
  simp only[List.map_cons,List.map_nil,List.flatMap_cons,List.flatMap_nil,List.append_nil,List.cons_append]
 ·intro a hm'
  rcases List.mem_append.1 hm' with h|h
  ·exact ha a h
  ·exact hma a h
 ·intro j h h'
  rcases Nat.lt_or_ge j acc.length with g|g
  ·rw[List.getElem_append_left (by omega),List.getElem_append_left g]
   exact hx j g (by omega)
  ·rw[List.getElem_append_right (by omega),List.getElem_append_right g]
   simp only[List.length_append]at h
   have:=hy (j-acc.length) (by omega) (by omega)
   simpa[hxl]using this
theorem j2S {b:Nat}{w1 w3 w4:World}{vlit v4:Value}{u:List Tok}{F:zl}{ps acc ms:List (zl × List Tok)}{k:Nat}{xs ys:List Value}(hk:Hid (k<ps.length))(hacc:Hid (acc.map Prod.fst=F::((ps.take k).map Prod.fst).flatMap zu))(ha:Hid (∀a∈acc,qz a.1 a.2∧∀t∈a.2,t∈u))
  (hm:Hid (ms.map Prod.fst=zu (ps[k]'hk.out).1))(hma:Hid (∀a∈ms,qz a.1 a.2∧∀t∈a.2,t∈(ps[k]'hk.out).2))(hyl:ys.length=ms.length)(hxl:xs.length=acc.length)(hown:w4.ownsRow w1.heap.size 112 1 v4 (acc.length+ms.length) (xs++ys))(hx:Hid (∀j (h:j<acc.length) (h':j<xs.length),q3G b w3 (.agg #[xs[j]]) (acc[j]).2))(hy:Hid (∀j (h:j<ms.length) (h':j<ys.length),q3G b w3 (.agg #[ys[j]]) (ms[j]).2))
  (hsub:Hid (∀t∈(ps[k]'hk.out).2,t∈u))(h13:Below w1.heap.size w1 w3)(hb4:Below w1.heap.size w1 w4)(hb:b<w1.heap.size):ARel b w1 vlit u F ps v4 (.int .i64 ((k:Int)+1)) w4:=by
 have h34:∀{v:Value} {u:List Tok},q3G b w3 v u→q3G b w4 v u:=by
  intro v u h
  obtain⟨o,cap,e,ht,h0,h1⟩:=h
  refine⟨o,cap,e,?_,h0,h1⟩
  rcases ht with⟨e,_⟩|⟨b',o',cap',e,c1,c2,c3,c4⟩
  ·simp at e
  ·simp at e
   obtain⟨⟨rfl,rfl⟩,rfl⟩:=e
   refine .inr ⟨b,o,cap,rfl,c1,c2,zT hb hb4.size,fun i hi=>?_⟩
   rw[zo hb4 b _ hb,zo hb4 b _ hb,←zo h13 b _ hb,←zo h13 b _ hb]
   exact c4 i hi
 exact j6q hk.out hacc.out ha.out hm.out (fun a h=>⟨(hma.out a h).1,fun t ht=>hsub.out t ((hma.out a h).2 t ht)⟩) hxl hyl hown (fun j h h'=>h34 (hx.out j h h')) (fun j h h'=>h34 (hy.out j h h')) hb4
theorem j6n {b:Nat}{w1 w3 w4:World}{vlit v4:Value}{u:List Tok}{F:zl}{ps acc ms:List (zl × List Tok)}{k:Nat}{xs ys:List Value}(ha0:Hid (acc=[(F,u)]))(hk:Hid (k<ps.length))(hacc:Hid (acc.map Prod.fst=F::((ps.take k).map Prod.fst).flatMap zu))(ha:Hid (∀a∈acc,qz a.1 a.2∧∀t∈a.2,t∈u))
  (hm:Hid (ms.map Prod.fst=zu (ps[k]'hk.out).1))(hma:Hid (∀a∈ms,qz a.1 a.2∧∀t∈a.2,t∈(ps[k]'hk.out).2))(hyl:ys.length=ms.length)(hxl:xs.length=[(F,u)].length)(hown:w4.ownsRow w3.heap.size 112 1 v4 (1+ms.length) (xs++ys))(hx:Hid (∀j (h:j<[(F,u)].length) (h':j<xs.length),q3G b w3 (.agg #[xs[j]]) ([(F,u)][j]).2))(hy:Hid (∀j (h:j<ms.length) (h':j<ys.length),q3G b w3 (.agg #[ys[j]]) (ms[j]).2))
  (hsub:Hid (∀t∈(ps[k]'hk.out).2,t∈u))(h34:Below w3.heap.size w3 w4)(h13:Below w1.heap.size w1 w3)(hb:b<w1.heap.size):ARel b w1 vlit u F ps v4 (.int .i64 ((k:Int)+1)) w4:=by
 have:=ha0.out
 subst this
 have hb4:=h13.trans (h34.mono h13.size)
 refine j2S hk hacc ha hm hma hyl hxl ?_ hx hy hsub h13 hb4 hb
 obtain⟨g1,g2⟩:=hown
 refine⟨g1,?_⟩
 rcases g2 with g2|⟨g,cap,cur,e1,e2,e3⟩
 ·exact .inl g2
 ·exact .inr ⟨g,cap,cur,e1,zM h13.size e2,e3⟩
theorem all_end {b:Nat}{w w1 wr:World}{v vlit:Value}{u:List Tok}{F:zl}{acc:List (zl × List Tok)}{k:Nat}(h:Hid ((k=0∧acc=[(F,u)]∧v=vlit)∨q2S b wr w1.heap.size v acc))(h0:Hid (q2S b w1 (w.heap.size+1) vlit [(F,u)]))(hb:Below w1.heap.size w1 wr)(hs:w.heap.size≤w1.heap.size)(hbl:b<w1.heap.size):q2S b wr w.heap.size v acc:=by
 rcases h.out with⟨_,rfl,rfl⟩|h
 ·exact q9e (h0.out.below hb hbl) (by omega)
 ·exact q9e h hs
theorem ref_all (b:Nat):∀(F:zl) (u:List Tok) (v:Value) (w:World),qz F u→q3G b w v u→b<w.heap.size →
  Calls Tryz.prog 76 #[v] w fun e w'=>∃(v':Value) (ks:List (zl × List Tok)),e=.returned v'∧ks.map Prod.fst=zu F∧(∀k∈ks,qz k.1 k.2∧∀t∈k.2,t∈u)∧q2S b w' w.heap.size v' ks∧Below w.heap.size w w':=by
 intro F
 induction F with
 |nil=>intro u v w h;exact h.elim
 |node p sp y l r ihl ihr =>
  intro u v w hR hF hbl
  have HP:=zb (fun w1 (hb:Below w.heap.size w w1)=>j4b _ u v w1 b hR (hF.keep hb hbl) (zT hbl hb.size))
  have HI:Hid (∀k∈q1g (.node p sp y l r),∀(u':List Tok) (v':Value) (w':World),qz k u'→q3G b w' v' u'→b<w'.heap.size→Calls Tryz.prog 76 #[v'] w' fun e w''=>∃(v'':Value) (ks:List (zl × List Tok)),e=.returned v''∧ks.map Prod.fst=zu k∧(∀k∈ks,qz k.1 k.2∧∀t∈k.2,t∈u')∧q2S b w'' w'.heap.size v'' ks∧Below w'.heap.size w' w''):=by
   intro k hk u' v' w' h1 h2 h3
   rcases q7F hk with rfl|rfl
   ·exact ihl u' v' w' h1 h2 h3
   ·exact ihr u' v' w' h1 h2 h3
  clear ihl ihr
  have HS:=zb (j7A hR)
  have HLn:=zb (j0S _ u hR)
  have HRd:=zb hR
  have HFm:=zb hF
  clear hR
  generalize hFF:(Go.Deep.BT.node p sp y l r:zl)=F at *
  clear hFF
  obtain⟨o,cap,rfl,_,h4,h5⟩:=hF
  obtain⟨i0,hi0,hz0,hz1,hz2⟩:=info_parts j3s
  go_enter Tryz.func76,Tryz.ntmps76
  go_wp2_with fail
  have q0:=((zB w.heap.size w).alloc (zL _) (.cells #[.slice (some ⟨b,o,none⟩) u.length cap] 112)).alloc (by simp) (.cells #[.slice (some ⟨b,o,none⟩) u.length cap] 112)
  refine(HP.out _ q0).mono ?_
  rintro e w1 ⟨vk,ks,rfl,hk1,hk2,hk3,hb1⟩
  have r1:=hb1.mono (B':=w.heap.size+2) (by simp)
  have q1:=q0.trans (hb1.mono (by simp;omega))
  have hs1:=r1.size
  simp at hs1
  have hown0:q2S b w1 (w.heap.size+1) (.slice (some ⟨w.heap.size+1,0,none⟩) 1 1) [(F,u)]:=by
   refine⟨[.slice (some ⟨b,o,none⟩) u.length cap],rfl,?_,?_⟩
   ·refine⟨rfl,.inr ⟨w.heap.size+1,1,#[.slice (some ⟨b,o,none⟩) u.length cap],rfl,zL _,?_,zL _,by unfold maxLen;omega,rfl,rfl⟩⟩
    rw[r1.block _ (by omega)]
    have:=zN (w.alloc (.cells #[.slice (some ⟨b,o,none⟩) u.length cap] 112)) (.cells #[.slice (some ⟨b,o,none⟩) u.length cap] 112)
    simpa using this
   ·intro j hj hj'
    simp at hj
    subst hj
    exact HFm.out.keep q1 hbl
  have HO0:=zb hown0
  have hbw:Below (w.heap.size+1) (w.alloc (.cells #[.slice (some ⟨b,o,none⟩) u.length cap] 112)) w1:=((zB _ _).alloc (by simp) _).trans (r1.mono (by omega))
  clear hb1 hown0 r1
  obtain⟨av,nv,cv,rfl,hnv,hcv⟩:=q5g hk3.sl
  have hnv':ks.length=nv:=by simpa using hnv.symm
  have HK2:=zb hk2
  have HK1:=zb hk1
  have HK3:=zb hk3
  have HNV:=zb hnv'
  unfold maxLen at hcv
  clear hk1 hk2 hk3 hnv hnv'
  go_wp2_with fail
  go_loopw [3,5] (fun vo vi wr=>ARel b w1 (.slice (some ⟨w.heap.size+1,0,none⟩) 1 1) u F ks vo vi wr) (fun _ vi _=>nv-(intOf vi).toNat)
  case atStart=>exact⟨0,[(F,u)],by omega,rfl,rfl,by simp only[List.mem_singleton];rintro a rfl;exact⟨HRd.out,fun t ht=>ht⟩,.inl ⟨rfl,rfl,rfl⟩,zB _ _⟩
  case round =>
   obtain⟨k,acc,hk,rfl,hacc,haa,hown,hb1r⟩:=hrel
   have hbt:=q1.trans (hb1r.mono q1.size)
   have HAc:=zb hacc
   have HAa:=zb haa
   have HOw:=zb hown
   clear hacc haa hown
   by_cases hlt:k<nv
   ·have hlt':k<ks.length:=by rw[HNV.out];exact hlt
    obtain⟨gk,ok,xk,rfl,hxk,hfk⟩:=q7D (HK3.out.keep hb1r (by omega) (zL _)) hlt'
    have hmem:ks[k]∈ks:=List.getElem_mem hlt'
    have hC:=HI.out _ (by rw[←HK1.out];exact List.mem_map_of_mem hmem) _ _ _ (HK2.out _ hmem).1 hfk (by have:=hb1r.size;omega)
    have HSub:=zb (HK2.out _ hmem).2
    have HKl:=zb hlt'
    have HCn:Hid (acc.length+(zu (ks[k]).1).length≤1000):=by
     have e1:=congrArg List.length HAc.out
     have e2:(F::((ks.take (k+1)).map Prod.fst).flatMap zu).length≤(zu F).length:=by
      rw[HS.out,←HK1.out]
      simp only[List.length_cons]
      refine Nat.succ_le_succ ?_
      conv=>rhs;rw[←List.take_append_drop (k+1) ks]
      rw[List.map_append,List.flatMap_append,List.length_append]
      omega
     rw[List.take_succ_eq_append_getElem hlt',List.map_append,List.flatMap_append]at e2
     simp only[List.length_map,List.length_cons,List.length_append,List.map_cons,List.map_nil,List.flatMap_cons,List.flatMap_nil,List.append_nil]at e1 e2
     have:=HLn.out
     unfold Hid
     omega
    clear hmem hfk
    rcases HOw.out with⟨hk0,hac0,rfl⟩|hown
    ·have HK0:=zb hk0
     have HA0:=zb hac0
     clear hk0 hac0
     go_wp2_with fail
     refine hC.mono ?_
     rintro e w3 ⟨vm,ms,rfl,hm1,hm2,hm3,hb3⟩
     obtain⟨ys,hyl,hyo,hyf⟩:=hm3
     have hml:acc.length+ms.length≤1000:=by
      have:=HCn.out
      have e:=congrArg List.length hm1
      rw[List.length_map]at e
      omega
     have hb13:=hb1r.trans (hb3.mono hb1r.size)
     have hy1:∀u∈ys,u.oneCell'=true:=by
      intro x hx
      obtain⟨j,hj,rfl⟩:=List.mem_iff_getElem.1 hx
      exact j5N (hyf j (by omega) hj).frm
     have hyne:0<ms.length:=by
      have e:=congrArg List.length hm1
      rw[List.length_map]at e
      have:=j4r (HK2.out _ (List.getElem_mem HKl.out)).1
      omega
     obtain⟨gy,cy,hve,hcy⟩:=j0j hyo hyne
     subst hve
     obtain⟨xs0,hx0l,hx0o,hx0f⟩:=HO0.out.below hb13 (by omega)
     obtain⟨g0,c0,hg0,hcx0⟩:=j0j hx0o (by simp)
     simp at hg0
     obtain⟨rfl,rfl⟩:=hg0
     have HM1:=zb hm1
     have HM2:=zb hm2
     have HYF:=zb hyf
     have HY1:=zb hy1
     have HX0:=zb hcx0
     have HXF:=zb hx0f
     clear hm1 hm2 hyf hy1 hcx0 hx0f
     go_wp2_with (at_builtin;refine wpList_append_grows w3 rfl (.tmp 22) (.tmp 23) 174 rfl 112 i0 _ 1 24 Tryz.underlying174 hi0 hz0 hz1 hz2 rfl (by decide) (some ⟨w.heap.size+1,0,none⟩) 1 1 xs0 rfl (by simp) (by simpa using hx0l) (by intro bb hbb j u hj;simp at hbb;subst hbb;rw[q2e];exact HX0.out j u hj) ⟨gy,0,none⟩ ms.length cy ys rfl (by omega) (by intro j u hj;rw[q2e];exact hcy j u hj) HY1.out (by omega) (by unfold maxLen;omega) (by omega) ?_;intro v4 w4 hown4 hg4)
     have b34:Below w3.heap.size w3 w4:=(zB _ _).grown hg4 (zL _) (by intro k hk;simp at hk)
     go_roundw
     case rel=>exact j6n HA0 HKl HAc HAa HM1 HM2 hyl hx0l hown4 HXF HYF HSub b34 hb13 (by omega)
     case measure=>simp[intOf];omega
    ·go_wp2_with fail
     refine hC.mono ?_
     rintro e w3 ⟨vm,ms,rfl,hm1,hm2,hm3,hb3⟩
     obtain⟨xs,hxl,hxo,hxf⟩:=hown.below hb3 (by have:=hb1r.size;omega)
     obtain⟨ys,hyl,hyo,hyf⟩:=hm3
     have hml:acc.length+ms.length≤1000:=by
      have:=HCn.out
      have e:=congrArg List.length hm1
      rw[List.length_map]at e
      omega
     have hb13:=hb1r.trans (hb3.mono hb1r.size)
     have hy1:∀u∈ys,u.oneCell'=true:=by
      intro x hx
      obtain⟨j,hj,rfl⟩:=List.mem_iff_getElem.1 hx
      exact j5N (hyf j (by omega) hj).frm
     have hyne:0<ms.length:=by
      have e:=congrArg List.length hm1
      rw[List.length_map]at e
      have:=j4r (HK2.out _ (List.getElem_mem HKl.out)).1
      omega
     obtain⟨gy,cy,hve,hcy⟩:=j0j hyo hyne
     subst hve
     have HM1:=zb hm1
     have HM2:=zb hm2
     have HXF:=zb hxf
     have HYF:=zb hyf
     have HY1:=zb hy1
     clear hm1 hm2 hxf hyf hy1
     go_wp2_with (at_builtin;refine q2d rfl (.tmp 22) (.tmp 23) 174 112 rfl Tryz.underlying174 hi0 hz0 hz1 hz2 rfl (by decide) w1 w1.heap.size _ _ xs ys w3 rfl hxo gy 0 ms.length cy rfl (by omega) hcy HY1.out (by omega) (by decide) hb13 hb13.size ?_;intro v4 w4 hown4 hb4 _)
     go_roundw
     case rel=>exact j2S HKl HAc HAa HM1 HM2 hyl hxl hown4 HXF HYF HSub hb13 hb4 (by omega)
     case measure=>simp[intOf];omega
   ·have hkn:k=ks.length:=by have:=HNV.out;omega
    have HFin:Hid (acc.map Prod.fst=zu F):=by unfold Hid;rw[HAc.out,hkn,List.take_length,HK1.out,HS.out]
    clear hkn HAc
    go_wp2_with fail
    go_ret
    exact⟨_,acc,rfl,HFin.out,HAa.out,all_end HOw HO0 hb1r q1.size (by omega),hbt⟩
def q6X:zl→Pay
 | .nil=>j1B []
 | .node _ _ y _ _=>y
def j1G:zl→Nat
 | .nil=>0
 | .node p _ _ _ _=>p
def q4t:zl→Nat
 | .nil=>0
 | .node _ s _ _ _=>s
def q0p (F:zl):Bool:=(q0Q (q4A F) || q0J (q4A F))&&!((q6X F).hi==[42])&&decide (q0n (q6X F).hi<q0n (q6X F).lo)
def q0v (F:zl):Bool:=q2f (q4A F)&&((q6X F).hi==[42])
def q0x (F:zl):Int × Int:=match (zu F).find? q0p with
 |some k=>(4,(q4t k:Int))
 |none=>match (zu F).find? q0v with
  |some k=>(5,(q4t k:Int))
  |none=>match (zu F).find? q2t with
   |some k=>(6,(j1G k:Int))
   |none=>(0,0)
def q0a (s:By):zl:=match q0R 8 (q0u s).1 with
 | .inl _=>.nil
 | .inr (F,_)=>F
def qh (s:By):Int × Int:=if (q0W s).1≠0 then q0W s else q0x (q0a s)
theorem q6G {s:By}(h:(q0W s).1=0):qz (q0a s) (q0u s).1:=by
 unfold q0W at h
 by_cases h1:240<s.length
 ·rw[if_pos h1]at h;simp at h
 ·rw[if_neg h1]at h
  by_cases h2:0≤(q0u s).2
  ·rw[if_pos h2]at h;simp at h
  ·rw[if_neg h2]at h
   unfold q6h at h
   unfold q0a
   cases hp:q0R 8 (q0u s).1 with
   |inl r=>rw[hp]at h;simp[outR]at h
   |inr p =>
    obtain⟨F,r⟩:=p
    rw[hp]at h
    cases r with
    |nil =>
     obtain⟨u,e,hr⟩:=q4L _ _ _ _ hp
     rw[List.append_nil]at e
     rw[e]
     exact hr
    |cons t r=>simp[outR]at h
theorem lexF_len (s:By):∀(f i:Nat) (acc:List Tok),acc.length≤i→i≤s.length→(q2m s f i acc).1.length≤s.length:=by
 intro f
 induction f with
 |zero=>intro i acc h h';rw[q2m];simp;omega
 |succ f ih =>
  intro i acc h h'
  rw[q2m]
  by_cases h1:s.length≤i
  ·rw[if_pos h1];simp;omega
  ·rw[if_neg h1]
   by_cases h2:q2z (s.getD i 0)=true
   ·rw[if_pos h2];exact ih _ _ (by omega) (by omega)
   ·rw[if_neg h2]
    by_cases h3:q3p (s.getD i 0) (cut s i (qA s i))=true
    ·rw[if_pos h3]
     have hl:=q8T s i (by omega)
     have:i+1≤qA s i:=by unfold qA;omega
     exact ih _ _ (by simp;omega) hl
    ·rw[if_neg h3];simp
theorem j2p (s:By):(q0u s).1.length≤s.length:=lexF_len s _ _ _ (by simp) (by omega)
theorem j5o {s:By}(h:(q0W s).1=0):s.length≤240:=by
 rcases Nat.lt_or_ge 240 s.length with g|g
 ·unfold q0W at h;rw[if_pos g]at h;simp at h
 ·exact g
theorem j7B {w:World}{v:Value}{u:List Tok}(h:q3Y w v u)(h0:0<u.length)(h1:u.length≤1000):∃b o cap,v=.slice (some ⟨b,o,none⟩) u.length cap∧q3G b w (.agg #[.slice (some ⟨b,o,none⟩) u.length cap]) u∧b<w.heap.size:=by
 have hh:=h
 rcases h with⟨_,rfl⟩|⟨b,o,cap,rfl,c1,c2,c3,c4⟩
 ·simp at h0
 ·exact⟨b,o,cap,rfl,⟨o,cap,rfl,hh,h0,h1⟩,c3⟩
structure SetF (w W2:World)(b:Nat)(x:Value)(u:List Tok):Prop where
 below:Below w.heap.size w W2
 size:w.heap.size+2≤W2.heap.size
 res:W2.cell? ⟨w.heap.size,0,none⟩=some (.slice none 0 0)
 resf:W2.frozen? ⟨w.heap.size,0,none⟩=false
 var:W2.cell? ⟨w.heap.size+1,0,none⟩=some x
 frm:q3G b W2 (.agg #[x]) u
 lt:b<W2.heap.size
 ne0:b≠w.heap.size
theorem j5u {w w1:World}{b:Nat}{x:Value}{u:List Tok}{T:TypeId}(hf:q3G b w1 (.agg #[x]) u)(hb:b<w1.heap.size)(r1:Below (w.heap.size+2) ((w.alloc (.cells #[.slice none 0 0] T)).alloc (.cells #[.slice none 0 0] T)) w1)(q1:Below w.heap.size w w1)(hs1:w.heap.size+1+1≤w1.heap.size):SetF w (w1.setCell ⟨w.heap.size+1,0,none⟩ x) b x u:=by
 have hc0:=zo r1 w.heap.size 0 (by omega)
 have hc1:=zo r1 (w.heap.size+1) 0 (by omega)
 have hf0:=r1.frozen (p:=⟨w.heap.size,0,none⟩) (by simp)
 have hne0:b≠w.heap.size:=by
  intro e
  subst e
  obtain⟨o,cap,_,ht,h0,_⟩:=hf
  rcases ht with⟨e,_⟩|⟨b',o',cap',e,c1,c2,c3,c4⟩
  ·simp at e
  ·simp at e
   obtain⟨⟨rfl,rfl⟩,rfl⟩:=e
   have:=(c4 0 h0).1
   rw[zo r1 w.heap.size _ (by omega),World.cell?_alloc_lt _ _ _ (by simp),World.cell?_alloc_at _ _ _ _ rfl]at this
   cases o with
   |zero=>simp at this
   |succ o=>simp at this
 have hne:b≠w.heap.size+1:=by
  intro e
  subst e
  obtain⟨o,cap,_,ht,h0,_⟩:=hf
  rcases ht with⟨e,_⟩|⟨b',o',cap',e,c1,c2,c3,c4⟩
  ·simp at e
  ·simp at e
   obtain⟨⟨rfl,rfl⟩,rfl⟩:=e
   have:=(c4 0 h0).1
   rw[zo r1 (w.heap.size+1) _ (by omega)]at this
   have e2:w.heap.size+1=(w.alloc (.cells #[.slice none 0 0] T)).heap.size:=by simp
   rw[e2,World.cell?_alloc_at _ _ _ _ rfl]at this
   cases o with
   |zero=>simp at this
   |succ o=>simp at this
 have hfar:∀o,(w1.setCell ⟨w.heap.size+1,0,none⟩ x).cell? ⟨b,o,none⟩=w1.cell? ⟨b,o,none⟩:=fun o=>zX w1 _ _ _ (by intro e;injection e with e1;exact hne e1.symm)
 refine⟨q1.setCell (by simp) _,by simp;omega,?_,?_,?_,?_,by simpa using hb,hne0⟩
 ·rw[zX w1 _ _ _ (by intro e;simp at e),hc0];simp
 ·rw[World.frozen?_setCell,hf0];simp
 ·exact zS w1 _ _ (u:=.slice none 0 0) (by rw[hc1];simp)
 ·obtain⟨o,cap,e,ht,h0,h1⟩:=hf
  refine⟨o,cap,e,?_,h0,h1⟩
  rcases ht with⟨e,_⟩|⟨b',o',cap',e,c1,c2,c3,c4⟩
  ·simp at e
  ·simp at e
   obtain⟨⟨rfl,rfl⟩,rfl⟩:=e
   refine .inr ⟨b,o,cap,rfl,c1,c2,by simpa using c3,fun i hi=>?_⟩
   rw[hfar,hfar]
   exact c4 i hi
theorem j0O {F:zl}{u:List Tok}(h:qz F u)(hs:(q0Q (q4A F) || q0J (q4A F))=true):∃(h4:4<u.length),(u[4]).text=(q6X F).hi∧(u[2]).text=(q6X F).lo∧(u[1]).pos=q4t F∧q4o (q6X F).lo=true∧q4B (q6X F).hi=true:=by
 cases F with
 |nil=>exact h.elim
 |node p sp y l r =>
  obtain⟨g1,g2,g3,g4⟩:=q5o hs
  exact j1S h hs g1 g2 g3 g4
theorem q7e {ks:List (zl × List Tok)}{f:zl→Bool}{k:Nat}(hk:k<ks.length)(hno:q1y ks (fun x=>f x.1) 0 k)(hf:f (ks[k]).1=true):(ks.map Prod.fst).find? f=some (ks[k]).1:=by
 rw[List.find?_eq_some_iff_getElem]
 refine⟨hf,k,by simpa using hk,by simp,fun j hj=>?_⟩
 have:=hno j (by omega) (zZ _) hj
 simp[this]
theorem q8s {ks:List (zl × List Tok)}{f:zl→Bool}{k:Nat}(hk:ks.length≤k)(hno:q1y ks (fun x=>f x.1) 0 k):(ks.map Prod.fst).find? f=none:=by
 rw[List.find?_eq_none]
 intro x hx
 obtain⟨a,ha,rfl⟩:=List.mem_map.1 hx
 obtain⟨j,hj,rfl⟩:=List.mem_iff_getElem.1 ha
 have:=hno j hj (zZ _) (by omega)
 simp[this]
theorem j7g {F:zl}{u:List Tok}(h:qz F u):∃(h0:0<u.length),(u[0]).pos=j1G F:=by
 refine⟨q1W h,?_⟩
 cases F with
 |nil=>exact h.elim
 |node p sp y l r =>
  rcases h with⟨_,_,_,_,_,q1,q2,q3,x,hx,hb⟩|⟨_,hw,_,_,_,v,q1,q2,q3,ul,hv,_,hl,rfl⟩|⟨_,hw,_,_,_,q1,q2,q3,ul,ur,hl,hr,rfl⟩|⟨_,hw,_,_,hlo,hhi,q1,q2,q3,q4,q5,q6,ul,hl,rfl⟩|⟨_,hw,_,hlo,hhi,q1,q2,q3,q4,q5,q6,q7,ul,ur,hl,hr,rfl⟩|⟨_,hw,_,_,_,_,_,rfl⟩
  ·rcases hb with⟨_,rfl⟩|⟨z,q4,q5,hz,_,rfl⟩<;>rfl
  all_goals rfl
theorem bel_held {wr wc w':World}{A:Prop}(h1:Below wc.heap.size wc w')(h2:A∧Below wr.heap.size wr wc):Below wr.heap.size wr w':=h2.2.trans (h1.mono h2.2.size)
theorem q8u {b:Nat}{w:World}{x:Value}{u:List Tok}(h:q3G b w (.agg #[x]) u):∃o cap,x=.slice (some ⟨b,o,none⟩) u.length cap∧u.length≤cap∧cap≤maxLen∧b<w.heap.size∧0<u.length∧u.length≤1000∧∀i (h:i<u.length),w.cell? ⟨b,o+i*2,none⟩=some (bs (u[i]).text)∧w.cell? ⟨b,o+i*2+1,none⟩=some (.int .i64 (u[i]).pos):=by
 obtain⟨o,cap,e,ht,h0,h1⟩:=h
 simp at e
 rcases ht with⟨e,_⟩|⟨b',o',cap',e',c1,c2,c3,c4⟩
 ·simp at e
 ·simp at e'
  obtain⟨⟨rfl,rfl⟩,rfl⟩:=e'
  exact⟨_,_,e,c1,c2,c3,h0,h1,c4⟩
theorem kidOwn_b {b:Nat}{w:World}{base:Nat}{v:Value}{ks:List (zl × List Tok)}(h:q2S b w base v ks):KidB b w v (ks.map Prod.snd):=by
 obtain⟨xs,hl,hown,hf⟩:=h
 obtain⟨h1,h2⟩:=id hown
 rcases h2 with⟨e,hn⟩|⟨g,cap,cur,rfl,e2,e3,e4,e5,e6,e7⟩
 ·exact .inl ⟨e,by rw[List.length_eq_zero_iff.1 hn];rfl⟩
 ·have hlt:g<w.heap.size:=by
   rcases Nat.lt_or_ge g w.heap.size with h'|h'
   ·exact h'
   ·simp[Array.getElem?_eq_none h']at e3
  refine .inr ⟨g,0,cap,by simp,by simpa using e4,e5,hlt,fun j hj=>?_⟩
  simp at hj
  refine⟨xs[j]'(by omega),?_,?_⟩
  ·rw[Nat.zero_add,hown.cellAt j (by omega),zG (by omega)]
  ·rw[List.getElem_map];exact hf j hj (by omega)
theorem j6N {b:Nat}{w:World}{base:Nat}{v:Value}{ks:List (zl × List Tok)}(h:q2S b w base v ks){g o n c:Nat}(e:v=.slice (some ⟨g,o,none⟩) n c):base≤g:=by
 obtain⟨xs,hl,⟨h1,h2⟩,hf⟩:=h
 rcases h2 with⟨e',hn⟩|⟨g',cap,cur,e',e2,_⟩
 ·rw[e]at e';simp at e'
 ·rw[e]at e'
  simp at e'
  rw[e'.1.1]
  exact e2
theorem j5s (F:zl)(u:List Tok)(v:Value)(w:World)(hR:qz F u)(hF:qB w v u) :
  Calls Tryz.prog 80 #[v] w fun e w'=>e=.returned (.bool (q2t F))∧Below w.heap.size w w':=by
 cases F with
 |nil=>exact hR.elim
 |node p sp y l r=>exact j7m p sp y l r u v w hR hF
theorem frm_set {b N:Nat}{w:World}{v:Value}{u:List Tok}(h:q3G b w v u)(hne:b≠N)(x:Value):qB (w.setCell ⟨N,0,none⟩ x) v u:=by
 obtain⟨o,cap,e,ht,h0,h1⟩:=h
 refine⟨b,o,cap,e,?_,h0,h1⟩
 rcases ht with⟨e,_⟩|⟨b',o',cap',e,c1,c2,c3,c4⟩
 ·simp at e
 ·simp at e
  obtain⟨⟨rfl,rfl⟩,rfl⟩:=e
  refine .inr ⟨b,o,cap,rfl,c1,c2,by simpa using c3,fun i hi=>?_⟩
  rw[zX w _ _ _ (by intro e;injection e with e1;exact hne e1.symm),zX w _ _ _ (by intro e;injection e with e1;exact hne e1.symm)]
  exact c4 i hi
def CRel (w3:World)(ks:List (zl × List Tok))(f:zl→Bool)(g:Nat)(vi:Value)(wr:World):Prop:=∃k:Nat,k≤ks.length∧g+k=ks.length∧vi=.int .i64 k∧q1y ks (fun x=>f x.1) 0 k∧Below w3.heap.size w3 wr
theorem j1I (s:By)(hs64:s.length≤maxLen)(w:World) :
  Calls Tryz.prog 56 #[bs s] w fun e w'=>∃a n c,e=.returned (.tuple #[.agg #[.slice a n c],.int .i64 (qh s).1,.int .i64 (qh s).2])∧((qh s).1=0→qB w' (.agg #[.slice a n c]) (q0u s).1∧∀k∈(Value.slice a n c).ownBlock.toList,w.heap.size≤k)∧Below w.heap.size w w':=by
 have hRd:=ref_Read s hs64
 by_cases hr:(q0W s).1=0
 ·have hc:qh s=q0x (q0a s):=by unfold qh;rw[if_neg (by simp[hr])]
  rw[hc]
  have HRe:=zb (q6G hr)
  have hlen:=zM (j2p s) (j5o hr)
  have HGo:Hid (q3t (q0u s).1):=q4m s
  generalize hrr:q0W s=rr at *
  obtain⟨re,rp⟩:=rr
  simp only[]at hr hRd
  subst hr
  generalize (q0u s).1=toks at *
  generalize q0a s=F at *
  clear hc hrr
  go_enter Tryz.func56,Tryz.ntmps56
  go_wp2_with fail
  have q0:=((zB w.heap.size w).alloc (zL _) (.cells #[.slice none 0 0] 112)).alloc (by simp) (.cells #[.slice none 0 0] 112)
  refine(hRd _).mono ?_
  rintro e w1 ⟨v,rfl,hsl,_,hb1⟩
  have hsl2:=hsl trivial
  have hsl:q3Y w1 v toks:=hsl2.1
  have hfr0:=hsl2.2
  have hpos:=q1W HRe.out
  obtain⟨b,o,cap,rfl,hfb,hbl⟩:=j7B hsl hpos (by omega)
  have HFRB:Hid (w.heap.size≤b):=zb (by have:=hfr0 b (by simp[Value.ownBlock]);simp at this;omega)
  clear hsl hsl2 hfr0
  have r1:=hb1.mono (B':=w.heap.size+2) (by simp)
  have q1:=q0.trans (hb1.mono (by simp;omega))
  have hs1:=r1.size
  simp at hs1
  have hc0:=zo r1 w.heap.size 0 (by omega)
  have hc1:=zo r1 (w.heap.size+1) 0 (by omega)
  have hf0:=r1.frozen (p:=⟨w.heap.size,0,none⟩) (by simp)
  have hf1:=r1.frozen (p:=⟨w.heap.size+1,0,none⟩) (by simp)
  clear hb1 hRd
  go_wp2_with fail
  have hW:=j5u hfb hbl r1 q1 hs1
  generalize (w1.setCell ⟨w.heap.size+1,0,none⟩ (.slice (some ⟨b,o,none⟩) toks.length cap))=W2 at *
  clear r1 q1 hs1 hc0 hc1 hf0 hf1 hfb hbl
  have hq2:=hW.below
  have hs2:=hW.size
  have hv2:=hW.var
  have HW2:=zb hW
  refine(ref_all b F toks _ _ HRe.out hW.frm hW.lt).mono ?_
  rintro e w3 ⟨vm,ks,rfl,hk1,hk2,hk3,hb3⟩
  have hbl3:b<w3.heap.size:=zT hW.lt hb3.size
  have hv3:=(zo hb3 (w.heap.size+1) 0 (by omega)).trans hW.var
  have hq3:=hq2.trans (hb3.mono hq2.size)
  have hs3:=zM hs2 hb3.size
  have HR3:=zb ((zo hb3 w.heap.size 0 (by omega)).trans hW.res)
  have HF3:=zb ((hb3.frozen (p:=⟨w.heap.size,0,none⟩) (by simp;omega)).trans hW.resf)
  have HFr3:=zb (hW.frm.keep hb3 hW.lt)
  have hbne:¬w.heap.size=b:=fun e=>hW.ne0 e.symm
  have hs20:=hs2
  clear hW hv2 hs2 hq2 HW2
  have hksl:=j6O hk3
  have hkb:=kidOwn_b hk3
  have HGX:Hid (∀g o n c,vm=.slice (some ⟨g,o,none⟩) n c→W2.heap.size≤g):=fun g o n c e=>j6N hk3 e
  obtain⟨av,nv,cv,rfl,hnv,hcv⟩:=q5g hksl
  have hnv':ks.length=nv:=by simpa using hnv.symm
  have HK2:=zb hk2
  have HK1:=zb hk1
  have HK3:=zb hksl
  have HKB:=zb hkb
  have HNV:=zb hnv'
  unfold maxLen at hcv
  clear hk1 hk2 hk3 hnv hnv' hksl hb3 hkb
  go_wp2_with fail
  go_loopg [10] (nv) (fun g vi wr=>CRel w3 ks q0p g vi wr)
  case atStart=>exact⟨0,by omega,by have:=HNV.out;omega,rfl,(fun j hj h1 h2=>absurd h2 (by omega)),zB _ _⟩
  case round =>
   obtain⟨k,hk,hgk,rfl,hno,hbel⟩:=hrel
   have HN:=zb hno
   have HG:=zb hgk
   clear hno hgk
   by_cases hlt:k<nv
   ·have hlt':k<ks.length:=by rw[HNV.out];exact hlt
    obtain⟨gx,ok,xk,rfl,hxk,hfk⟩:=q7D (HKB.out.keep hbel hbl3 (zL _)) hlt'
    have hgx2:=HGX.out _ _ _ _ rfl
    have hgxn:¬w.heap.size=gx:=by omega
    have hmem:ks[k]∈ks:=List.getElem_mem hlt'
    have hRk:=(HK2.out _ hmem).1
    have hGk:q3t (ks[k]).2:=q0t HGo.out (HK2.out _ hmem).2
    have hsp:=j4c _ _ wr hfk.frm
    rw[q3z hRk]at hsp
    obtain⟨okk,ck,rfl,f1,f2,f3,f4,f5,f6⟩:=q8u hfk
    have HF6:=zb f6
    have HRk:=zb hRk
    have HGk:=zb hGk
    have hgx:gx<w3.heap.size:=j2o HK3.out
    clear hmem hfk hRk hGk f6
    unfold maxLen at f2
    cases hsx:(q0Q (q4A (ks[k]).1) || q0J (q4A (ks[k]).1))with
    |false =>
     have HB:Hid (q0p (ks[k]).1=false):=by unfold Hid q0p;rw[hsx];rfl
     rw[hsx]at hsp
     go_wp2_with fail
     refine hsp.mono ?_
     rintro e w4 ⟨rfl,hb4⟩
     go_wp2_with fail
     go_region
     go_wp2_with fail
     have hg1:0<gk:=by have:=HG.out;omega
     go_roundg (gk-1)
     case measure=>omega
     case rel=>exact⟨k+1,by omega,by have:=HG.out;omega,by go_num,q1U HN.out hlt' HB.out,(hbel.trans (hb4.mono hbel.size)).drew⟩
    |true =>
     obtain⟨h4k,e4,e2,e1,hnum,hend⟩:=j0O HRk.out hsx
     rw[hsx]at hsp
     have HRB:Hid (q0p (ks[k]).1=(!((ks[k]).2[4].text==[42])&&decide (q0n (ks[k]).2[4].text<q0n (ks[k]).2[2].text))):=by unfold Hid q0p;rw[hsx,e4,e2,Bool.true_and]
     have HE1:=zb e1
     have hg2:=q2N (HGk.out _ (List.getElem_mem (show 2<(ks[k]).2.length by omega))) (by rw[e2];exact hnum)
     have HN2:=zb (fun w'=>q4r (ks[k]).2[2].text ((ks[k]).2[2].pos:Int) hg2.2.1 hg2.2.2 hg2.1 w')
     have HN4:Hid (((ks[k]).2[4].text==[42])=false→∀w',Calls Tryz.prog 78 #[.agg #[bs (ks[k]).2[4].text,.int .i64 (ks[k]).2[4].pos]] w' fun e w''=>e=.returned (.int .i64 (q0n (ks[k]).2[4].text))∧Below w'.heap.size w' w''):=by
      intro hns w'
      have hg4:=q2N (HGk.out _ (List.getElem_mem h4k)) (by rw[e4];exact q9w hend (by rw[←e4];exact hns))
      exact q4r (ks[k]).2[4].text ((ks[k]).2[4].pos:Int) hg4.2.1 hg4.2.2 hg4.1 w'
     have c4:=HF6.out 4 h4k
     have c2:=HF6.out 2 (by omega)
     have c1:=HF6.out 1 (by omega)
     clear e4 e2 e1 hnum hend hg2 HF6
     generalize (ks[k]).2[4].text=t4 at *
     generalize (ks[k]).2[4].pos=p4 at *
     generalize (ks[k]).2[2].text=t2 at *
     generalize (ks[k]).2[2].pos=p2 at *
     generalize (ks[k]).2[1].text=t1 at *
     generalize (ks[k]).2[1].pos=p1 at *
     obtain⟨c4a,c4b⟩:=c4
     obtain⟨c2a,c2b⟩:=c2
     obtain⟨_,c1b⟩:=c1
     go_wp2_with fail
     refine hsp.mono ?_
     rintro e w4 ⟨rfl,hb4⟩
     have hx4:=(zo hb4 gx (ok+k) (by have:=hbel.size;omega)).trans hxk
     have d4a:=(zo hb4 b _ f3).trans c4a
     have d4b:=(zo hb4 b _ f3).trans c4b
     have d2a:=(zo hb4 b _ f3).trans c2a
     have d2b:=(zo hb4 b _ f3).trans c2b
     simp only[Nat.reduceMul,Nat.add_assoc,Nat.reduceAdd]at d4a d4b d2a d2b
     go_wp2_with fail
     cases hst:(t4==[42])with
     |true =>
      have HB:Hid (q0p (ks[k]).1=false):=by unfold Hid;rw[HRB.out,hst];rfl
      go_region
      go_wp2_with fail
      have hg1:0<gk:=by have:=HG.out;omega
      go_roundg (gk-1)
      case measure=>omega
      case rel=>exact⟨k+1,by omega,by have:=HG.out;omega,by go_num,q1U HN.out hlt' HB.out,(hbel.trans (hb4.mono hbel.size)).drew⟩
     |false =>
      have HN4:=zb (HN4.out hst)
      have hRB:q0p (ks[k]).1=decide (q0n t4<q0n t2):=by
       rw[HRB.out,hst]
       simp
      have HRB:=zb hRB
      clear hRB
      generalize q0n t4=n4 at *
      generalize q0n t2=n2 at *
      go_cut [72] from 31 to 81 (fun c wx=>c=.bool (decide (n4<n2))∧Below wr.heap.size wr wx)
      case first =>
       have b4:=hb4
       have SR:∀w',Below wr.heap.size wr w'→(w'.cell? ⟨gx,ok+k,none⟩=some (.slice (some ⟨b,okk,none⟩) (ks[k]).2.length ck)∧w'.cell? ⟨b,okk+8,none⟩=some (bs t4)∧w'.cell? ⟨b,okk+9,none⟩=some (.int .i64 p4)∧w'.cell? ⟨b,okk+4,none⟩=some (bs t2)∧w'.cell? ⟨b,okk+5,none⟩=some (.int .i64 p2))∧Below wr.heap.size wr w':=fun w' h =>
        ⟨⟨(zo h gx (ok+k) (by have:=hbel.size;omega)).trans hxk,(zo h b _ f3).trans c4a,(zo h b _ f3).trans c4b,(zo h b _ f3).trans c2a,(zo h b _ f3).trans c2b⟩,h⟩
       have HSR:=zb SR
       clear SR hx4 d4a d4b d2a d2b
       go_region_held (fun w'=>(w'.cell? ⟨gx,ok+k,none⟩=some (.slice (some ⟨b,okk,none⟩) (ks[k]).2.length ck)∧w'.cell? ⟨b,okk+8,none⟩=some (bs t4)∧w'.cell? ⟨b,okk+9,none⟩=some (.int .i64 p4)∧w'.cell? ⟨b,okk+4,none⟩=some (bs t2)∧w'.cell? ⟨b,okk+5,none⟩=some (.int .i64 p2))∧Below wr.heap.size wr w') (first|exact HSR.out _ b4.drew|exact HSR.out _ (bel_held (by assumption) (by assumption))) (first|(go_at_call_of 78 (bs t2);refine(HN2.out _).mono ?_;rintro e w5 ⟨rfl,hb5⟩)|(go_at_call_of 78 (bs t4);refine(HN4.out _).mono ?_;rintro e w6 ⟨rfl,hb6⟩))
       all_goals
        go_wp2_with fail
        go_meet
        case rel=>exact⟨rfl,(by assumption:_∧Below wr.heap.size wr _).2⟩
      case rest =>
       obtain⟨rfl,b5⟩:=hcut
       have d5:=hbel.trans (b5.mono hbel.size)
       clear hx4 d4a d4b d2a d2b hb4
       cases hd42:decide (n4<n2)with
       |false =>
        have HB:Hid (q0p (ks[k]).1=false):=by unfold Hid;rw[HRB.out,hd42]
        go_wp2_with fail
        have hg1:0<gk:=by have:=HG.out;omega
        go_roundg (gk-1)
        case measure=>omega
        case rel=>exact⟨k+1,by omega,by have:=HG.out;omega,by go_num,q1U HN.out hlt' HB.out,d5⟩
       |true =>
        have HFd:Hid (q0x F=(4,(p1:Int))):=by
         have:=q7e hlt' HN.out (HRB.out.trans hd42)
         rw[HK1.out]at this
         unfold Hid q0x
         rw[this,HE1.out]
        have hx5:=(zo b5 gx (ok+k) (by have:=hbel.size;omega)).trans hxk
        have e1b:=(zo b5 b _ f3).trans c1b
        have hv5:=(zo d5 (w.heap.size+1) 0 (by omega)).trans hv3
        have hr5:=(zo d5 w.heap.size 0 (by omega)).trans HR3.out
        have hz5:=(d5.frozen (p:=⟨w.heap.size,0,none⟩) (by simp;omega)).trans HF3.out
        simp only[Nat.one_mul,Nat.add_assoc,Nat.reduceAdd]at e1b
        go_wp2_with fail
        go_region
        go_wp2_with fail
        exact zP (v:=.tuple #[.agg #[.slice (some ⟨b,o,none⟩) toks.length cap],.int .i64 4,.int .i64 p1]) (by simp[results,Tryz.results56,go_sem,hr5]) rfl ⟨_,_,_,by rw[HFd.out],by rw[HFd.out];simp,((hq3.trans (d5.mono hq3.size)).setCell (by simp) _).drew⟩
   ·have HF1:Hid ((zu F).find? q0p=none):=by
     have:=q8s (show ks.length≤k by have:=HNV.out;omega) HN.out
     rw[HK1.out]at this
     exact this
    clear HN HG
    go_wp2_with fail
    go_loopg [12] (nv) (fun g vi wr=>CRel w3 ks q0v g vi wr)
    case atStart=>exact⟨0,by omega,by have:=HNV.out;omega,rfl,(fun j hj h1 h2=>absurd h2 (by omega)),hbel⟩
    case round =>
     clear hbel
     obtain⟨k,hk,hgk,rfl,hno,hbel⟩:=hrel
     have HN:=zb hno
     have HG:=zb hgk
     clear hno hgk
     by_cases hlt:k<nv
     ·have hlt':k<ks.length:=by rw[HNV.out];exact hlt
      obtain⟨gx,ok,xk,rfl,hxk,hfk⟩:=q7D (HKB.out.keep hbel hbl3 (zL _)) hlt'
      have hgx2:=HGX.out _ _ _ _ rfl
      have hgxn:¬w.heap.size=gx:=by omega
      have hmem:ks[k]∈ks:=List.getElem_mem hlt'
      have hRk:=(HK2.out _ hmem).1
      have hsp:=j1J _ _ wr hfk.frm
      rw[q3z hRk]at hsp
      obtain⟨okk,ck,rfl,f1,f2,f3,f4,f5,f6⟩:=q8u hfk
      have HF6:=zb f6
      have HRk:=zb hRk
      have hgx:gx<w3.heap.size:=j2o HK3.out
      clear hmem hfk hRk f6
      unfold maxLen at f2
      cases hsx:q2f (q4A (ks[k]).1)with
      |false =>
       have HB:Hid (q0v (ks[k]).1=false):=by unfold Hid q0v;rw[hsx];rfl
       rw[hsx]at hsp
       go_wp2_with fail
       refine hsp.mono ?_
       rintro e w4 ⟨rfl,hb4⟩
       go_wp2_with fail
       have hg1:0<gk:=by have:=HG.out;omega
       go_roundg (gk-1)
       case measure=>omega
       case rel=>exact⟨k+1,by omega,by have:=HG.out;omega,by go_num,q1U HN.out hlt' HB.out,hbel.trans (hb4.mono hbel.size)⟩
      |true =>
       obtain⟨h4k,e4,e2,e1,hnum,hend⟩:=j0O HRk.out (q3u hsx)
       rw[hsx]at hsp
       have HRB:Hid (q0v (ks[k]).1=((ks[k]).2[4].text==[42])):=by unfold Hid q0v;rw[hsx,e4,Bool.true_and]
       have HE1:=zb e1
       have c4:=HF6.out 4 h4k
       have c1:=HF6.out 1 (by omega)
       clear e4 e2 e1 hnum hend HF6
       generalize (ks[k]).2[4].text=t4 at *
       generalize (ks[k]).2[4].pos=p4 at *
       generalize (ks[k]).2[1].text=t1 at *
       generalize (ks[k]).2[1].pos=p1 at *
       obtain⟨c4a,c4b⟩:=c4
       obtain⟨_,c1b⟩:=c1
       go_wp2_with fail
       refine hsp.mono ?_
       rintro e w4 ⟨rfl,b5⟩
       have d5:=hbel.trans (b5.mono hbel.size)
       have hx5:=(zo b5 gx (ok+k) (by have:=hbel.size;omega)).trans hxk
       have d4a:=(zo b5 b _ f3).trans c4a
       have e1b:=(zo b5 b _ f3).trans c1b
       simp only[Nat.one_mul,Nat.reduceMul,Nat.add_assoc,Nat.reduceAdd]at d4a e1b
       cases hst:(t4==[42])with
       |false =>
        have HB:Hid (q0v (ks[k]).1=false):=by unfold Hid;rw[HRB.out,hst]
        go_wp2_with fail
        have hg1:0<gk:=by have:=HG.out;omega
        go_roundg (gk-1)
        case measure=>omega
        case rel=>exact⟨k+1,by omega,by have:=HG.out;omega,by go_num,q1U HN.out hlt' HB.out,d5⟩
       |true =>
        have HFd:Hid (q0x F=(5,(p1:Int))):=by
         have:=q7e hlt' HN.out (HRB.out.trans hst)
         rw[HK1.out]at this
         unfold Hid q0x
         rw[HF1.out,this,HE1.out]
        have hv5:=(zo d5 (w.heap.size+1) 0 (by omega)).trans hv3
        have hr5:=(zo d5 w.heap.size 0 (by omega)).trans HR3.out
        have hz5:=(d5.frozen (p:=⟨w.heap.size,0,none⟩) (by simp;omega)).trans HF3.out
        go_wp2_with fail
        go_region
        go_wp2_with fail
        exact zP (v:=.tuple #[.agg #[.slice (some ⟨b,o,none⟩) toks.length cap],.int .i64 5,.int .i64 p1]) (by simp[results,Tryz.results56,go_sem,hr5]) rfl ⟨_,_,_,by rw[HFd.out],by rw[HFd.out];simp,((hq3.trans (d5.mono hq3.size)).setCell (by simp) _).drew⟩
     ·have HF2:Hid ((zu F).find? q0v=none):=by
       have:=q8s (show ks.length≤k by have:=HNV.out;omega) HN.out
       rw[HK1.out]at this
       exact this
      clear HN HG
      go_wp2_with fail
      go_loopg [14] (nv) (fun g vi wr=>CRel w3 ks q2t g vi wr)
      case atStart=>exact⟨0,by omega,by have:=HNV.out;omega,rfl,(fun j hj h1 h2=>absurd h2 (by omega)),hbel⟩
      case round =>
       clear hbel
       obtain⟨k,hk,hgk,rfl,hno,hbel⟩:=hrel
       have HN:=zb hno
       have HG:=zb hgk
       clear hno hgk
       by_cases hlt:k<nv
       ·have hlt':k<ks.length:=by rw[HNV.out];exact hlt
        obtain⟨gx,ok,xk,rfl,hxk,hfk⟩:=q7D (HKB.out.keep hbel hbl3 (zL _)) hlt'
        have hgx2:=HGX.out _ _ _ _ rfl
        have hgxn:¬w.heap.size=gx:=by omega
        have hmem:ks[k]∈ks:=List.getElem_mem hlt'
        have hRk:=(HK2.out _ hmem).1
        have hsp:=j5s _ _ _ wr hRk hfk.frm
        obtain⟨okk,ck,rfl,f1,f2,f3,f4,f5,f6⟩:=q8u hfk
        obtain⟨h0k,e0⟩:=j7g hRk
        have c0:=f6 0 h0k
        have HE0:=zb e0
        have hgx:gx<w3.heap.size:=j2o HK3.out
        clear hmem hfk hRk f6 e0
        unfold maxLen at f2
        generalize (ks[k]).2[0].text=t0 at *
        generalize (ks[k]).2[0].pos=p0 at *
        obtain⟨_,c0b⟩:=c0
        cases hsx:q2t (ks[k]).1 with
        |false =>
         have HB:=zb hsx
         rw[hsx]at hsp
         clear hsx
         go_wp2_with fail
         refine hsp.mono ?_
         rintro e w4 ⟨rfl,hb4⟩
         go_wp2_with fail
         have hg1:0<gk:=by have:=HG.out;omega
         go_roundg (gk-1)
         case measure=>omega
         case rel=>exact⟨k+1,by omega,by have:=HG.out;omega,by go_num,q1U HN.out hlt' HB.out,hbel.trans (hb4.mono hbel.size)⟩
        |true =>
         have HFd:Hid (q0x F=(6,(p0:Int))):=by
          have:=q7e hlt' HN.out hsx
          rw[HK1.out]at this
          unfold Hid q0x
          rw[HF1.out,HF2.out,this,HE0.out]
         rw[hsx]at hsp
         clear hsx
         go_wp2_with fail
         refine hsp.mono ?_
         rintro e w4 ⟨rfl,b5⟩
         have d5:=hbel.trans (b5.mono hbel.size)
         have hx5:=(zo b5 gx (ok+k) (by have:=hbel.size;omega)).trans hxk
         have e0b:=(zo b5 b _ f3).trans c0b
         simp only[Nat.zero_mul,Nat.add_zero]at e0b
         have hv5:=(zo d5 (w.heap.size+1) 0 (by omega)).trans hv3
         have hr5:=(zo d5 w.heap.size 0 (by omega)).trans HR3.out
         have hz5:=(d5.frozen (p:=⟨w.heap.size,0,none⟩) (by simp;omega)).trans HF3.out
         go_wp2_with fail
         go_region
         go_wp2_with fail
         exact zP (v:=.tuple #[.agg #[.slice (some ⟨b,o,none⟩) toks.length cap],.int .i64 6,.int .i64 p0]) (by simp[results,Tryz.results56,go_sem,hr5]) rfl ⟨_,_,_,by rw[HFd.out],by rw[HFd.out];simp,((hq3.trans (d5.mono hq3.size)).setCell (by simp) _).drew⟩
       ·have HFd:Hid (q0x F=(0,0)):=by
         have:=q8s (show ks.length≤k by have:=HNV.out;omega) HN.out
         rw[HK1.out]at this
         unfold Hid q0x
         rw[HF1.out,HF2.out,this]
        have hv5:=(zo hbel (w.heap.size+1) 0 (by omega)).trans hv3
        have hr5:=(zo hbel w.heap.size 0 (by omega)).trans HR3.out
        have hz5:=(hbel.frozen (p:=⟨w.heap.size,0,none⟩) (by simp;omega)).trans HF3.out
        have HFin:=zb (frm_set (HFr3.out.keep hbel hbl3) (show b≠w.heap.size from fun e=>hbne e.symm))
        go_wp2_with fail
        exact zP (v:=.tuple #[.agg #[.slice (some ⟨b,o,none⟩) toks.length cap],.int .i64 0,.int .i64 0]) (by simp[results,Tryz.results56,go_sem,hr5]) rfl ⟨_,_,_,by rw[HFd.out],fun _=>⟨HFin.out _,fun k hk=>by simp[Value.ownBlock]at hk;rw[hk];exact HFRB.out⟩,((hq3.trans (hbel.mono hq3.size)).setCell (by simp) _)⟩
 ·have hc:qh s=q0W s:=by unfold qh;rw[if_pos hr]
  rw[hc]
  generalize q0W s=rr at *
  obtain⟨re,rp⟩:=rr
  simp only[]at hr hRd
  have hre:(re != 0)=true:=by simp[hr]
  go_enter Tryz.func56,Tryz.ntmps56
  go_wp2_with fail
  have q0:=((zB w.heap.size w).alloc (zL _) (.cells #[.slice none 0 0] 112)).alloc (by simp) (.cells #[.slice none 0 0] 112)
  refine(hRd _).mono ?_
  rintro e w1 ⟨v,rfl,_,hv0,hb1⟩
  have hv1:=hv0 hr
  subst hv1
  have r1:=hb1.mono (B':=w.heap.size+2) (by simp)
  have q1:=q0.trans (hb1.mono (by simp;omega))
  have hs1:=r1.size
  simp at hs1
  have hc0:=zo r1 w.heap.size 0 (by omega)
  have hc1:=zo r1 (w.heap.size+1) 0 (by omega)
  have hf0:=r1.frozen (p:=⟨w.heap.size,0,none⟩) (by simp)
  clear hb1 hRd hv0
  go_wp2_with fail
  exact zP (v:=.tuple #[.agg #[.slice none 0 0],.int .i64 re,.int .i64 rp]) (by simp[results,Tryz.results56,go_sem,hc0]) rfl ⟨_,_,_,rfl,fun h=>absurd h hr,q1.setCell (by simp) _⟩
end Go.Proofs.YtiamjjonoeaggabGreatDoor
