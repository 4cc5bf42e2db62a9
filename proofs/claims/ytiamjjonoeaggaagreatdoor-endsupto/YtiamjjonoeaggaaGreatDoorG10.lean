import Derived.Test.YtiamjjonoeaggaaGreatDoorGA
import Derived.Test.YtiamjjonoeaggaaGreatDoorG06
set_option maxRecDepth 100000
set_option maxHeartbeats 16000000
namespace Go.Proofs.YtiamjjonoeaggaaGreatDoor
open Go.RowKit
def zu:zl→List zl
 | .nil=>[]
 | .node p sp y l r=>.node p sp y l r::(zu l++zu r)
theorem j7B {p sp:Nat}{y:Pay}{l r:zl}{u:List Tok}(h:qz (.node p sp y l r) u):zu (.node p sp y l r)=.node p sp y l r::(q1g (.node p sp y l r)).flatMap zu:=by
 have e:zu (.node p sp y l r)=.node p sp y l r::(zu l++zu r):=rfl
 rw[e]
 rcases h with⟨hn,_,_,rfl,rfl,_⟩|⟨hn,hw,_,_,rfl,v,q1,q2,q3,ul,hv,_,hl,rfl⟩|⟨hn,hw,_,_,_,q1,q2,q3,ul,ur,hl,hr,rfl⟩|⟨hn,hw,_,rfl,hlo,hhi,q1,q2,q3,q4,q5,q6,ul,hl,rfl⟩|⟨hn,hw,_,hlo,hhi,q1,q2,q3,q4,q5,q6,q7,ul,ur,hl,hr,rfl⟩|⟨_,hw,_,_,_,rfl,rfl,rfl⟩
 ·rfl
 ·rw[q2l hl];simp[zu]
 ·rw[q3J hl hr];simp
 ·rw[q2l hl];simp[zu]
 ·rw[q3J hl hr];simp
 ·rfl
theorem j0S:∀(F:zl) (u:List Tok),qz F u→(zu F).length≤u.length:=by
 intro F
 induction F with
 |nil=>intro u h;exact h.elim
 |node p sp y l r ihl ihr =>
  intro u h
  have e:(zu (.node p sp y l r)).length=(zu l).length+(zu r).length+1:=by simp[zu]
  have hR:=h
  rw[e]
  have hnil:(zu (.nil:zl)).length=0:=rfl
  rcases h with⟨hn,_,_,rfl,rfl,_⟩|⟨hn,hw,_,_,rfl,v,q1,q2,q3,ul,hv,_,hl,rfl⟩|⟨hn,hw,_,_,_,q1,q2,q3,ul,ur,hl,hr,rfl⟩|⟨hn,hw,_,rfl,hlo,hhi,q1,q2,q3,q4,q5,q6,ul,hl,rfl⟩|⟨hn,hw,_,hlo,hhi,q1,q2,q3,q4,q5,q6,q7,ul,ur,hl,hr,rfl⟩|⟨_,hw,_,_,_,rfl,rfl,rfl⟩
  ·have:=q1W hR;rw[hnil];omega
  ·have:=ihl ul hl;rw[hnil];simp;omega
  ·have:=ihl ul hl;have:=ihr ur hr;simp;omega
  ·have:=ihl ul hl;rw[hnil];simp;omega
  ·have:=ihl ul hl;have:=ihr ur hr;simp;omega
  ·rw[hnil];simp
def q3G (b:Nat)(w:World)(v:Value)(u:List Tok):Prop:=∃o cap,v=.agg #[.slice (some ⟨b,o,none⟩) u.length cap]∧q3Y w (.slice (some ⟨b,o,none⟩) u.length cap) u∧0<u.length∧u.length≤1000
theorem q3G.frm {b:Nat}{w:World}{v:Value}{u:List Tok}(h:q3G b w v u):qB w v u:=by
 obtain⟨o,cap,h⟩:=h
 exact⟨b,o,cap,h⟩
theorem q3G.keep {b B:Nat}{w w':World}{v:Value}{u:List Tok}(h:q3G b w v u)(hb:Below B w w')(hB:b<B):q3G b w' v u:=by
 obtain⟨o,cap,e,ht,h0,h1⟩:=h
 refine⟨o,cap,e,?_,h0,h1⟩
 rcases ht with⟨e,_⟩|⟨b',o',cap',e,c1,c2,c3,c4⟩
 ·simp at e
 ·simp at e
  obtain⟨⟨rfl,rfl⟩,rfl⟩:=e
  refine .inr ⟨b,o,cap,rfl,c1,c2,zT c3 hb.size,fun i hi=>?_⟩
  rw[zo hb b _ hB,zo hb b _ hB]
  exact c4 i hi
def KidB (b:Nat)(w:World)(v:Value)(us:List (List Tok)):Prop:=
 (v=.slice none 0 0∧us=[])∨∃g o cap,v=.slice (some ⟨g,o,none⟩) us.length cap∧us.length≤cap∧cap≤maxLen∧g<w.heap.size∧∀j (h:j<us.length),∃x,w.cell? ⟨g,o+j,none⟩=some x∧q3G b w (.agg #[x]) us[j]
theorem KidB.sl {b:Nat}{w:World}{v:Value}{us:List (List Tok)}(h:KidB b w v us):q5V w v us:=by
 rcases h with h|⟨g,o,cap,e,h1,h2,h3,h4⟩
 ·exact .inl h
 ·refine .inr ⟨g,o,cap,e,h1,h2,h3,fun j hj=>?_⟩
  obtain⟨x,hx,hf⟩:=h4 j hj
  exact⟨x,hx,hf.frm⟩
theorem KidB.keep {b B:Nat}{w w':World}{v:Value}{us:List (List Tok)}(h:KidB b w v us)(hb:Below B w w')(hB:b<B)(hB2:w.heap.size≤B):KidB b w' v us:=by
 rcases h with h|⟨g,o,cap,e,h1,h2,h3,h4⟩
 ·exact .inl h
 ·refine .inr ⟨g,o,cap,e,h1,h2,zT h3 hb.size,fun j hj=>?_⟩
  obtain⟨x,hx,hf⟩:=h4 j hj
  exact⟨x,by rw[zo hb g _ (by omega)];exact hx,hf.keep hb hB⟩
theorem j0R {w:World}{b o cap:Nat}{u ul:List Tok}{a:Nat}(h:qB w (.agg #[.slice (some ⟨b,o,none⟩) u.length cap]) u)(hs:(u.drop a).take ul.length=ul)(ha:a+ul.length<u.length)(h0:0<ul.length):q3G b w (.agg #[q6a b o cap (a,a+ul.length)]) ul:=by
 have hv:q6a b o cap (a,a+ul.length)=.slice (some ⟨b,o+a*2,none⟩) ul.length (cap-a):=by simp[q6a]
 obtain⟨b',o',cap',e,h⟩:=q9E h hs ha h0
 rw[hv]at e
 simp at e
 obtain⟨⟨rfl,rfl⟩,rfl⟩:=e
 exact⟨_,_,by rw[hv],h⟩
theorem j4d (F:zl)(u:List Tok)(v:Value)(w:World)(b:Nat)(hR:qz F u)(hB:q3G b w v u)(_hbl:b<w.heap.size) :
  Calls Tryz.prog 151 #[v] w fun e w'=>∃(v':Value) (ks:List (zl × List Tok)),e=.returned v'∧ks.map Prod.fst=q1g F∧(∀k∈ks,qz k.1 k.2∧∀t∈k.2,t∈u)∧KidB b w' v' (ks.map Prod.snd)∧Below w.heap.size w w':=by
 have hF:=hB.frm
 cases hlf:q3Z (hd u)with
 |true =>
  refine(q6n v u w hF hlf).mono ?_
  rintro e w' ⟨rfl,hb⟩
  exact⟨_,[],rfl,(q6z hR hlf).symm,by simp,.inl ⟨rfl,rfl⟩,hb⟩
 |false =>
  obtain⟨o,cap,rfl,_⟩:=hB
  refine(q6m b o cap u w hF hlf (j6b hR hlf)).mono ?_
  rintro e w' ⟨v',rfl,hown,hb⟩
  have hF':=hF.below hb
  rcases q5F hR hlf with⟨l,ul,a,hk,hr,hc,hs,h1,_⟩|⟨l,r,ul,ur,a,a',hk,hr,hr',hc,hs,hs',h1,h2,_⟩
  ·rw[hc]at hown
   refine⟨v',[(l,ul)],rfl,hk.symm,by simp only[List.mem_singleton];rintro k rfl;exact⟨hr,q6A hs⟩,?_,hb⟩
   obtain⟨_,h⟩:=id hown
   rcases h with⟨_,hn⟩|⟨g,cp,cur,rfl,e2,e3,e4,e5,e6,e7⟩
   ·simp at hn
   ·have hlt:g<w'.heap.size:=by
     rcases Nat.lt_or_ge g w'.heap.size with h'|h'
     ·exact h'
     ·simp[Array.getElem?_eq_none h']at e3
    refine .inr ⟨g,0,cp,rfl,e4,e5,hlt,fun j hj=>?_⟩
    simp at hj
    subst hj
    exact⟨_,hown.cellAt 0 (by simp),j0R hF' hs h1 (q1W hr)⟩
  ·rw[hc]at hown
   refine⟨v',[(l,ul),(r,ur)],rfl,hk.symm,by simp only[List.mem_cons,List.not_mem_nil,or_false];rintro k (rfl|rfl)<;>first|exact⟨hr,q6A hs⟩|exact⟨hr',q6A hs'⟩,?_,hb⟩
   obtain⟨_,h⟩:=id hown
   rcases h with⟨_,hn⟩|⟨g,cp,cur,rfl,e2,e3,e4,e5,e6,e7⟩
   ·simp at hn
   ·have hlt:g<w'.heap.size:=by
     rcases Nat.lt_or_ge g w'.heap.size with h'|h'
     ·exact h'
     ·simp[Array.getElem?_eq_none h']at e3
    refine .inr ⟨g,0,cp,rfl,e4,e5,hlt,fun j hj=>?_⟩
    simp at hj
    rcases(by omega:j=0∨j=1)with rfl|rfl
    ·exact⟨_,hown.cellAt 0 (by simp),j0R hF' hs (by omega) (q1W hr)⟩
    ·exact⟨_,hown.cellAt 1 (by simp),j0R hF' hs' h2 (q1W hr')⟩
theorem q7D {b:Nat}{w:World}{a:OA}{n c:Nat}{ks:List (zl × List Tok)}{k:Nat}(h:KidB b w (.slice a n c) (ks.map Prod.snd))(hk:k<ks.length):∃g o x,a=some ⟨g,o,none⟩∧w.cell? ⟨g,o+k,none⟩=some x∧q3G b w (.agg #[x]) (ks[k]).2:=by
 rcases h with⟨_,h⟩|⟨g,o,c',e,h1,h2,h3,h4⟩
 ·simp at h
  subst h
  simp at hk
 ·simp at e
  obtain⟨rfl,rfl,rfl⟩:=e
  obtain⟨x,hx,hf⟩:=h4 k (by simpa using hk)
  refine⟨g,o,x,rfl,hx,?_⟩
  rw[List.getElem_map]at hf
  exact hf
def q2S (b:Nat)(w:World)(base:Nat)(v:Value)(ks:List (zl × List Tok)):Prop:=∃xs:List Value,xs.length=ks.length∧w.ownsRow base 149 1 v ks.length xs∧∀j (h:j<ks.length) (h':j<xs.length),q3G b w (.agg #[xs[j]]) (ks[j]).2
theorem j5P {w:World}{x:Value}{u:List Tok}(h:qB w (.agg #[x]) u):x.oneCell'=true:=by
 obtain⟨b,o,cap,e,_⟩:=h
 simp at e
 rw[e]
 rfl
theorem j6Q {b:Nat}{w:World}{base:Nat}{v:Value}{ks:List (zl × List Tok)}(h:q2S b w base v ks):q5V w v (ks.map Prod.snd):=by
 obtain⟨xs,hl,hown,hf⟩:=h
 obtain⟨h1,h2⟩:=id hown
 rcases h2 with⟨e,hn⟩|⟨g,cap,cur,rfl,e2,e3,e4,e5,e6,e7⟩
 ·exact .inl ⟨e,by rw[List.length_eq_zero_iff.1 hn];rfl⟩
 ·have hlt:g<w.heap.size:=by
   rcases Nat.lt_or_ge g w.heap.size with h'|h'
   ·exact h'
   ·simp[Array.getElem?_eq_none h']at e3
  refine .inr ⟨g,0,cap,by simp,by simpa using e4,e5,hlt,fun j hj=>?_⟩
  simp at hj
  refine⟨xs[j]'(by omega),?_,?_⟩
  ·rw[Nat.zero_add,hown.cellAt j (by omega),zG (by omega)]
  ·rw[List.getElem_map];exact(hf j hj (by omega)).frm
theorem q2S.below {b:Nat}{w w':World}{base:Nat}{v:Value}{ks:List (zl × List Tok)}(h:q2S b w base v ks)(hb:Below w.heap.size w w')(hB:b<w.heap.size):q2S b w' base v ks:=by
 obtain⟨xs,hl,hown,hf⟩:=h
 exact⟨xs,hl,zh hown hb,fun j h h'=>(hf j h h').keep hb hB⟩
theorem q9e {b:Nat}{w:World}{B B':Nat}{v:Value}{ks:List (zl × List Tok)}(h:q2S b w B v ks)(hB:B'≤B):q2S b w B' v ks:=by
 obtain⟨xs,hl,⟨h1,h2⟩,hf⟩:=h
 refine⟨xs,hl,⟨h1,?_⟩,hf⟩
 rcases h2 with h2|⟨g,cap,cur,e1,e2,e3⟩
 ·exact .inl h2
 ·exact .inr ⟨g,cap,cur,e1,by omega,e3⟩
theorem j0j {w:World}{B n:Nat}{v:Value}{xs:List Value}(h:w.ownsRow B 149 1 v n xs)(hn:0<n):∃g c,v=.slice (some ⟨g,0,none⟩) n c∧∀j u,xs[j]?=some u→w.cell? ⟨g,0+j,none⟩=some u:=by
 obtain⟨h1,h2⟩:=id h
 rcases h2 with⟨_,h2⟩|⟨g,cap,cur,rfl,e2,e3,e4,e5,e6,e7⟩
 ·omega
 ·refine⟨g,cap,rfl,fun j u hj=>?_⟩
  have hlt:j<xs.length:=by
   rcases Nat.lt_or_ge j xs.length with g|g
   ·exact g
   ·rw[List.getElem?_eq_none g]at hj;exact absurd hj (by simp)
  rw[Nat.zero_add,h.cellAt j (by omega)]
  exact hj
theorem j4t {F:zl}{u:List Tok}(h:qz F u):0<(zu F).length:=by
 cases F with
 |nil=>exact h.elim
 |node=>simp[zu]
def ARel (b:Nat)(w1:World)(vlit:Value)(u:List Tok)(F:zl)(ps:List (zl × List Tok))(vo vi:Value)(wr:World):Prop:=
 ∃(k:Nat) (acc:List (zl × List Tok)),k≤ps.length∧vi=.int .i64 k∧acc.map Prod.fst=F::((ps.take k).map Prod.fst).flatMap zu∧(∀a∈acc,qz a.1 a.2∧∀t∈a.2,t∈u)∧((k=0∧acc=[(F,u)]∧vo=vlit)∨q2S b wr w1.heap.size vo acc)∧Below w1.heap.size w1 wr
theorem j6s {b:Nat}{w1 w3:World}{vlit:Value}{u:List Tok}{F:zl}{ps acc ms:List (zl × List Tok)}{k:Nat}{v3:Value}{xs ys:List Value}(hk:k<ps.length)(hacc:acc.map Prod.fst=F::((ps.take k).map Prod.fst).flatMap zu)(ha:∀a∈acc,qz a.1 a.2∧∀t∈a.2,t∈u)
  (hm:ms.map Prod.fst=zu (ps[k]).1)(hma:∀a∈ms,qz a.1 a.2∧∀t∈a.2,t∈u)(hxl:xs.length=acc.length)(hyl:ys.length=ms.length)(hown:w3.ownsRow w1.heap.size 149 1 v3 (acc.length+ms.length) (xs++ys))(hx:∀j (h:j<acc.length) (h':j<xs.length),q3G b w3 (.agg #[xs[j]]) (acc[j]).2)(hy:∀j (h:j<ms.length) (h':j<ys.length),q3G b w3 (.agg #[ys[j]]) (ms[j]).2)(hb:Below w1.heap.size w1 w3) :
  ARel b w1 vlit u F ps v3 (.int .i64 ((k:Int)+1)) w3:=by
 refine⟨k+1,acc++ms,hk,by simp,?_,?_,(.inr ⟨xs++ys,by simp[hxl,hyl],by rw[List.length_append];exact hown,?_⟩),hb⟩
 ·rw[List.map_append,hacc,hm,List.take_succ_eq_append_getElem hk,List.map_append,List.flatMap_append]
  simp only[List.map_cons,List.map_nil,List.flatMap_cons,List.flatMap_nil,List.append_nil,List.cons_append]
 ·intro a hm'
  rcases List.mem_append.1 hm' with h|h
  ·exact ha a h
  ·exact hma a h
 ·intro j h h'
  rcases Nat.lt_or_ge j acc.length with g|g
  ·rw[List.getElem_append_left (by omega),List.getElem_append_left g]
   exact hx j g (by omega)
  ·rw[List.getElem_append_right (by omega),List.getElem_append_right g]
   simp only[List.length_append]at h
   have:=hy (j-acc.length) (by omega) (by omega)
   simpa[hxl]using this
theorem j2T {b:Nat}{w1 w3 w4:World}{vlit v4:Value}{u:List Tok}{F:zl}{ps acc ms:List (zl × List Tok)}{k:Nat}{xs ys:List Value}(hk:Hid (k<ps.length))(hacc:Hid (acc.map Prod.fst=F::((ps.take k).map Prod.fst).flatMap zu))(ha:Hid (∀a∈acc,qz a.1 a.2∧∀t∈a.2,t∈u))
  (hm:Hid (ms.map Prod.fst=zu (ps[k]'hk.out).1))(hma:Hid (∀a∈ms,qz a.1 a.2∧∀t∈a.2,t∈(ps[k]'hk.out).2))(hyl:ys.length=ms.length)(hxl:xs.length=acc.length)(hown:w4.ownsRow w1.heap.size 149 1 v4 (acc.length+ms.length) (xs++ys))(hx:Hid (∀j (h:j<acc.length) (h':j<xs.length),q3G b w3 (.agg #[xs[j]]) (acc[j]).2))(hy:Hid (∀j (h:j<ms.length) (h':j<ys.length),q3G b w3 (.agg #[ys[j]]) (ms[j]).2))
  (hsub:Hid (∀t∈(ps[k]'hk.out).2,t∈u))(h13:Below w1.heap.size w1 w3)(hb4:Below w1.heap.size w1 w4)(hb:b<w1.heap.size):ARel b w1 vlit u F ps v4 (.int .i64 ((k:Int)+1)) w4:=by
 have h34:∀{v:Value} {u:List Tok},q3G b w3 v u→q3G b w4 v u:=by
  intro v u h
  obtain⟨o,cap,e,ht,h0,h1⟩:=h
  refine⟨o,cap,e,?_,h0,h1⟩
  rcases ht with⟨e,_⟩|⟨b',o',cap',e,c1,c2,c3,c4⟩
  ·simp at e
  ·simp at e
   obtain⟨⟨rfl,rfl⟩,rfl⟩:=e
   refine .inr ⟨b,o,cap,rfl,c1,c2,zT hb hb4.size,fun i hi=>?_⟩
   rw[zo hb4 b _ hb,zo hb4 b _ hb,←zo h13 b _ hb,←zo h13 b _ hb]
   exact c4 i hi
 exact j6s hk.out hacc.out ha.out hm.out (fun a h=>⟨(hma.out a h).1,fun t ht=>hsub.out t ((hma.out a h).2 t ht)⟩) hxl hyl hown (fun j h h'=>h34 (hx.out j h h')) (fun j h h'=>h34 (hy.out j h h')) hb4
theorem j6p {b:Nat}{w1 w3 w4:World}{vlit v4:Value}{u:List Tok}{F:zl}{ps acc ms:List (zl × List Tok)}{k:Nat}{xs ys:List Value}(ha0:Hid (acc=[(F,u)]))(hk:Hid (k<ps.length))(hacc:Hid (acc.map Prod.fst=F::((ps.take k).map Prod.fst).flatMap zu))(ha:Hid (∀a∈acc,qz a.1 a.2∧∀t∈a.2,t∈u))
  (hm:Hid (ms.map Prod.fst=zu (ps[k]'hk.out).1))(hma:Hid (∀a∈ms,qz a.1 a.2∧∀t∈a.2,t∈(ps[k]'hk.out).2))(hyl:ys.length=ms.length)(hxl:xs.length=[(F,u)].length)(hown:w4.ownsRow w3.heap.size 149 1 v4 (1+ms.length) (xs++ys))(hx:Hid (∀j (h:j<[(F,u)].length) (h':j<xs.length),q3G b w3 (.agg #[xs[j]]) ([(F,u)][j]).2))(hy:Hid (∀j (h:j<ms.length) (h':j<ys.length),q3G b w3 (.agg #[ys[j]]) (ms[j]).2))
  (hsub:Hid (∀t∈(ps[k]'hk.out).2,t∈u))(h34:Below w3.heap.size w3 w4)(h13:Below w1.heap.size w1 w3)(hb:b<w1.heap.size):ARel b w1 vlit u F ps v4 (.int .i64 ((k:Int)+1)) w4:=by
 have:=ha0.out
 subst this
 have hb4:=h13.trans (h34.mono h13.size)
 refine j2T hk hacc ha hm hma hyl hxl ?_ hx hy hsub h13 hb4 hb
 obtain⟨g1,g2⟩:=hown
 refine⟨g1,?_⟩
 rcases g2 with g2|⟨g,cap,cur,e1,e2,e3⟩
 ·exact .inl g2
 ·exact .inr ⟨g,cap,cur,e1,zM h13.size e2,e3⟩
theorem all_end {b:Nat}{w w1 wr:World}{v vlit:Value}{u:List Tok}{F:zl}{acc:List (zl × List Tok)}{k:Nat}(h:Hid ((k=0∧acc=[(F,u)]∧v=vlit)∨q2S b wr w1.heap.size v acc))(h0:Hid (q2S b w1 (w.heap.size+1) vlit [(F,u)]))(hb:Below w1.heap.size w1 wr)(hs:w.heap.size≤w1.heap.size)(hbl:b<w1.heap.size):q2S b wr w.heap.size v acc:=by
 rcases h.out with⟨_,rfl,rfl⟩|h
 ·exact q9e (h0.out.below hb hbl) (by omega)
 ·exact q9e h hs
theorem ref_all (b:Nat):∀(F:zl) (u:List Tok) (v:Value) (w:World),qz F u→q3G b w v u→b<w.heap.size →
  Calls Tryz.prog 115 #[v] w fun e w'=>∃(v':Value) (ks:List (zl × List Tok)),e=.returned v'∧ks.map Prod.fst=zu F∧(∀k∈ks,qz k.1 k.2∧∀t∈k.2,t∈u)∧q2S b w' w.heap.size v' ks∧Below w.heap.size w w':=by
 intro F
 induction F with
 |nil=>intro u v w h;exact h.elim
 |node p sp y l r ihl ihr =>
  intro u v w hR hF hbl
  have HP:=zb (fun w1 (hb:Below w.heap.size w w1)=>j4d _ u v w1 b hR (hF.keep hb hbl) (zT hbl hb.size))
  have HI:Hid (∀k∈q1g (.node p sp y l r),∀(u':List Tok) (v':Value) (w':World),qz k u'→q3G b w' v' u'→b<w'.heap.size→Calls Tryz.prog 115 #[v'] w' fun e w''=>∃(v'':Value) (ks:List (zl × List Tok)),e=.returned v''∧ks.map Prod.fst=zu k∧(∀k∈ks,qz k.1 k.2∧∀t∈k.2,t∈u')∧q2S b w'' w'.heap.size v'' ks∧Below w'.heap.size w' w''):=by
   intro k hk u' v' w' h1 h2 h3
   rcases q7F hk with rfl|rfl
   ·exact ihl u' v' w' h1 h2 h3
   ·exact ihr u' v' w' h1 h2 h3
  clear ihl ihr
  have HS:=zb (j7B hR)
  have HLn:=zb (j0S _ u hR)
  have HRd:=zb hR
  have HFm:=zb hF
  clear hR
  generalize hFF:(Go.Deep.BT.node p sp y l r:zl)=F at *
  clear hFF
  obtain⟨o,cap,rfl,_,h4,h5⟩:=hF
  obtain⟨i0,hi0,hz0,hz1,hz2⟩:=info_parts j3t
  go_enter Tryz.func115,Tryz.ntmps115
  go_wp2_with fail
  have q0:=((zB w.heap.size w).alloc (zL _) (.cells #[.slice (some ⟨b,o,none⟩) u.length cap] 149)).alloc (by simp) (.cells #[.slice (some ⟨b,o,none⟩) u.length cap] 149)
  refine(HP.out _ q0).mono ?_
  rintro e w1 ⟨vk,ks,rfl,hk1,hk2,hk3,hb1⟩
  have r1:=hb1.mono (B':=w.heap.size+2) (by simp)
  have q1:=q0.trans (hb1.mono (by simp;omega))
  have hs1:=r1.size
  simp at hs1
  have hown0:q2S b w1 (w.heap.size+1) (.slice (some ⟨w.heap.size+1,0,none⟩) 1 1) [(F,u)]:=by
   refine⟨[.slice (some ⟨b,o,none⟩) u.length cap],rfl,?_,?_⟩
   ·refine⟨rfl,.inr ⟨w.heap.size+1,1,#[.slice (some ⟨b,o,none⟩) u.length cap],rfl,zL _,?_,zL _,by unfold maxLen;omega,rfl,rfl⟩⟩
    rw[r1.block _ (by omega)]
    have:=zN (w.alloc (.cells #[.slice (some ⟨b,o,none⟩) u.length cap] 149)) (.cells #[.slice (some ⟨b,o,none⟩) u.length cap] 149)
    simpa using this
   ·intro j hj hj'
    simp at hj
    subst hj
    exact HFm.out.keep q1 hbl
  have HO0:=zb hown0
  have hbw:Below (w.heap.size+1) (w.alloc (.cells #[.slice (some ⟨b,o,none⟩) u.length cap] 149)) w1:=((zB _ _).alloc (by simp) _).trans (r1.mono (by omega))
  clear hb1 hown0 r1
  obtain⟨av,nv,cv,rfl,hnv,hcv⟩:=q5g hk3.sl
  have hnv':ks.length=nv:=by simpa using hnv.symm
  have HK2:=zb hk2
  have HK1:=zb hk1
  have HK3:=zb hk3
  have HNV:=zb hnv'
  unfold maxLen at hcv
  clear hk1 hk2 hk3 hnv hnv'
  go_wp2_with fail
  go_loopw [3,5] (fun vo vi wr=>ARel b w1 (.slice (some ⟨w.heap.size+1,0,none⟩) 1 1) u F ks vo vi wr) (fun _ vi _=>nv-(intOf vi).toNat)
  case atStart=>exact⟨0,[(F,u)],by omega,rfl,rfl,by simp only[List.mem_singleton];rintro a rfl;exact⟨HRd.out,fun t ht=>ht⟩,.inl ⟨rfl,rfl,rfl⟩,zB _ _⟩
  case round =>
   obtain⟨k,acc,hk,rfl,hacc,haa,hown,hb1r⟩:=hrel
   have hbt:=q1.trans (hb1r.mono q1.size)
   have HAc:=zb hacc
   have HAa:=zb haa
   have HOw:=zb hown
   clear hacc haa hown
   by_cases hlt:k<nv
   ·have hlt':k<ks.length:=by rw[HNV.out];exact hlt
    obtain⟨gk,ok,xk,rfl,hxk,hfk⟩:=q7D (HK3.out.keep hb1r (by omega) (zL _)) hlt'
    have hmem:ks[k]∈ks:=List.getElem_mem hlt'
    have hC:=HI.out _ (by rw[←HK1.out];exact List.mem_map_of_mem hmem) _ _ _ (HK2.out _ hmem).1 hfk (by have:=hb1r.size;omega)
    have HSub:=zb (HK2.out _ hmem).2
    have HKl:=zb hlt'
    have HCn:Hid (acc.length+(zu (ks[k]).1).length≤1000):=by
     have e1:=congrArg List.length HAc.out
     have e2:(F::((ks.take (k+1)).map Prod.fst).flatMap zu).length≤(zu F).length:=by
      rw[HS.out,←HK1.out]
      simp only[List.length_cons]
      refine Nat.succ_le_succ ?_
      conv=>rhs;rw[←List.take_append_drop (k+1) ks]
      rw[List.map_append,List.flatMap_append,List.length_append]
      omega
     rw[List.take_succ_eq_append_getElem hlt',List.map_append,List.flatMap_append]at e2
     simp only[List.length_map,List.length_cons,List.length_append,List.map_cons,List.map_nil,List.flatMap_cons,List.flatMap_nil,List.append_nil]at e1 e2
     have:=HLn.out
     unfold Hid
     omega
    clear hmem hfk
    rcases HOw.out with⟨hk0,hac0,rfl⟩|hown
    ·have HK0:=zb hk0
     have HA0:=zb hac0
     clear hk0 hac0
     go_wp2_with fail
     refine hC.mono ?_
     rintro e w3 ⟨vm,ms,rfl,hm1,hm2,hm3,hb3⟩
     obtain⟨ys,hyl,hyo,hyf⟩:=hm3
     have hml:acc.length+ms.length≤1000:=by
      have:=HCn.out
      have e:=congrArg List.length hm1
      rw[List.length_map]at e
      omega
     have hb13:=hb1r.trans (hb3.mono hb1r.size)
     have hy1:∀u∈ys,u.oneCell'=true:=by
      intro x hx
      obtain⟨j,hj,rfl⟩:=List.mem_iff_getElem.1 hx
      exact j5P (hyf j (by omega) hj).frm
     have hyne:0<ms.length:=by
      have e:=congrArg List.length hm1
      rw[List.length_map]at e
      have:=j4t (HK2.out _ (List.getElem_mem HKl.out)).1
      omega
     obtain⟨gy,cy,hve,hcy⟩:=j0j hyo hyne
     subst hve
     obtain⟨xs0,hx0l,hx0o,hx0f⟩:=HO0.out.below hb13 (by omega)
     obtain⟨g0,c0,hg0,hcx0⟩:=j0j hx0o (by simp)
     simp at hg0
     obtain⟨rfl,rfl⟩:=hg0
     have HM1:=zb hm1
     have HM2:=zb hm2
     have HYF:=zb hyf
     have HY1:=zb hy1
     have HX0:=zb hcx0
     have HXF:=zb hx0f
     clear hm1 hm2 hyf hy1 hcx0 hx0f
     go_wp2_with (at_builtin;refine wpList_append_grows w3 rfl (.tmp 22) (.tmp 23) 215 rfl 149 i0 _ 1 24 Tryz.underlying215 hi0 hz0 hz1 hz2 rfl (by decide) (some ⟨w.heap.size+1,0,none⟩) 1 1 xs0 rfl (by simp) (by simpa using hx0l) (by intro bb hbb j u hj;simp at hbb;subst hbb;rw[q2e];exact HX0.out j u hj) ⟨gy,0,none⟩ ms.length cy ys rfl (by omega) (by intro j u hj;rw[q2e];exact hcy j u hj) HY1.out (by omega) (by unfold maxLen;omega) (by omega) ?_;intro v4 w4 hown4 hg4)
     have b34:Below w3.heap.size w3 w4:=(zB _ _).grown hg4 (zL _) (by intro k hk;simp at hk)
     go_roundw
     case rel=>exact j6p HA0 HKl HAc HAa HM1 HM2 hyl hx0l hown4 HXF HYF HSub b34 hb13 (by omega)
     case measure=>simp[intOf];omega
    ·go_wp2_with fail
     refine hC.mono ?_
     rintro e w3 ⟨vm,ms,rfl,hm1,hm2,hm3,hb3⟩
     obtain⟨xs,hxl,hxo,hxf⟩:=hown.below hb3 (by have:=hb1r.size;omega)
     obtain⟨ys,hyl,hyo,hyf⟩:=hm3
     have hml:acc.length+ms.length≤1000:=by
      have:=HCn.out
      have e:=congrArg List.length hm1
      rw[List.length_map]at e
      omega
     have hb13:=hb1r.trans (hb3.mono hb1r.size)
     have hy1:∀u∈ys,u.oneCell'=true:=by
      intro x hx
      obtain⟨j,hj,rfl⟩:=List.mem_iff_getElem.1 hx
      exact j5P (hyf j (by omega) hj).frm
     have hyne:0<ms.length:=by
      have e:=congrArg List.length hm1
      rw[List.length_map]at e
      have:=j4t (HK2.out _ (List.getElem_mem HKl.out)).1
      omega
     obtain⟨gy,cy,hve,hcy⟩:=j0j hyo hyne
     subst hve
     have HM1:=zb hm1
     have HM2:=zb hm2
     have HXF:=zb hxf
     have HYF:=zb hyf
     have HY1:=zb hy1
     clear hm1 hm2 hxf hyf hy1
     go_wp2_with (at_builtin;refine q2d rfl (.tmp 22) (.tmp 23) 215 149 rfl Tryz.underlying215 hi0 hz0 hz1 hz2 rfl (by decide) w1 w1.heap.size _ _ xs ys w3 rfl hxo gy 0 ms.length cy rfl (by omega) hcy HY1.out (by omega) (by decide) hb13 hb13.size ?_;intro v4 w4 hown4 hb4 _)
     go_roundw
     case rel=>exact j2T HKl HAc HAa HM1 HM2 hyl hxl hown4 HXF HYF HSub hb13 hb4 (by omega)
     case measure=>simp[intOf];omega
   ·have hkn:k=ks.length:=by have:=HNV.out;omega
    have HFin:Hid (acc.map Prod.fst=zu F):=by unfold Hid;rw[HAc.out,hkn,List.take_length,HK1.out,HS.out]
    clear hkn HAc
    go_wp2_with fail
    go_ret
    exact⟨_,acc,rfl,HFin.out,HAa.out,all_end HOw HO0 hb1r q1.size (by omega),hbt⟩
end Go.Proofs.YtiamjjonoeaggaaGreatDoor
