import Derived.Test.YtiamjjonoeaggabGreatDoorGA
import Derived.Test.YtiamjjonoeaggabGreatDoorGB
import Derived.Test.YtiamjjonoeaggabGreatDoorG17
import Derived.Test.YtiamjjonoeaggabGreatDoorG39
import Derived.Test.YtiamjjonoeaggabGreatDoorG40
import Derived.Test.YtiamjjonoeaggabGreatDoorG42
set_option maxRecDepth 100000
set_option maxHeartbeats 16000000
namespace Go.Proofs.YtiamjjonoeaggabGreatDoor
open Go.RowKit
theorem j6D {w w1 w3 w4:World}{bw g3 k3 g4 k4:Nat}{s:St}{v cv:Value}{n:Nat}{f:Nat→Int}{ob ob':Obj}(h0:Wld w bw s)(hb:Below w.heap.size w w1)(hv:w.ownsRow (bw+1) 45 12 v n (flR f n))(hcv:w1.ownsRow (bw+1) 45 12 cv n (flR f n))(hcf:∀k∈obl cv,w.heap.size≤k)(hfr:∀m∈s.MS,∀k∈obl v,k∉q3S m)
  (own3:w3.ownsRow (bw+1) 33 1 (.slice (some ⟨g3,0,none⟩) (s.LS.length+1) k3) (s.LS.length+1) (s.LS.map (fun e=>e.v)++[v]))(gr3:(w1.alloc ob).grownBy w3 s.vl.ownBlock)(at3:some g3=s.vl.ownBlock∨some g3=some (w1.alloc ob).heap.size)
  (own4:w4.ownsRow (bw+1) 33 1 (.slice (some ⟨g4,0,none⟩) (s.LS.length+1) k4) (s.LS.length+1) (s.LS.map (fun e=>e.cv)++[cv]))(gr4:((w3.setCell ⟨bw,2,none⟩ (.slice (some ⟨g3,0,none⟩) (s.LS.length+1) k3)).alloc ob').grownBy w4 s.vw.ownBlock)(at4:some g4=s.vw.ownBlock∨some g4=some ((w3.setCell ⟨bw,2,none⟩ (.slice (some ⟨g3,0,none⟩) (s.LS.length+1) k3)).alloc ob').heap.size) :
  Wld (w4.setCell ⟨bw,3,none⟩ (.slice (some ⟨g4,0,none⟩) (s.LS.length+1) k4)) bw {s with vl:=.slice (some ⟨g3,0,none⟩) (s.LS.length+1) k3,vw:=.slice (some ⟨g4,0,none⟩) (s.LS.length+1) k4,LS:=s.LS++[⟨v,cv,n,f,f⟩]}∧OnlyB (bw::(obl s.vl++obl s.vw)) w (w4.setCell ⟨bw,3,none⟩ (.slice (some ⟨g4,0,none⟩) (s.LS.length+1) k4))∧(g3∈obl s.vl∨w.heap.size≤g3)∧(g4∈obl s.vw∨w.heap.size≤g4)∧w4.cell? ⟨bw,3,none⟩=some s.vw∧w4.frozen? ⟨bw,3,none⟩=false:=by
 have h:=h0.below hb
 obtain⟨a1,a2,a3,a4,a5,a6⟩:=h.all
 have hl:=h.lt
 have hl0:=h0.lt
 have hw:=hb.size
 have kx:∀k∈obl s.vl,bw<k∧k<w.heap.size∧∃cs,w1.heap[k]?=some (.cells cs 33 (0,0)):=fun k hk=>by obtain⟨q1,q2⟩:=zw h.ls k hk;exact⟨by omega,h0.ownLt k (.inl (a3 k hk)),q2⟩
 have ky:∀k∈obl s.vw,bw<k∧k<w.heap.size∧∃cs,w1.heap[k]?=some (.cells cs 33 (0,0)):=fun k hk=>by obtain⟨q1,q2⟩:=zw h.lw k hk;exact⟨by omega,h0.ownLt k (.inl (a4 k hk)),q2⟩
 obtain⟨W3,hW3⟩:∃W3,W3=w3.setCell ⟨bw,2,none⟩ (.slice (some ⟨g3,0,none⟩) (s.LS.length+1) k3):=⟨_,rfl⟩
 rw[←hW3]at gr4 at4
 have o3:OnlyB (obl s.vl) w1 w3:=(OnlyB.nw _ w1 ob).trans (q2V gr3)
 have e3:=(o3.block bw hl (fun hh=>by have:=(kx bw hh).1;omega)).trans h.blk
 have E3:=zH w3 bw 2 _ _ (.slice (some ⟨g3,0,none⟩) (s.LS.length+1) k3) e3
 rw[←hW3]at E3
 have O3:OnlyB (bw::(obl s.vl++obl s.vw)) w1 W3:=by rw[hW3];exact(o3.wide (fun k hk=>by simp[hk])).setCell (by simp) _
 have o4:OnlyB (obl s.vw) W3 w4:=(OnlyB.nw _ W3 ob').trans (q2V gr4)
 have hl3:bw<W3.heap.size:=zd E3
 have e4:=(o4.block bw hl3 (fun hh=>by have:=(ky bw hh).1;omega)).trans E3
 have E4:=zH w4 bw 3 _ _ (.slice (some ⟨g4,0,none⟩) (s.LS.length+1) k4) e4
 have O4:OnlyB (bw::(obl s.vl++obl s.vw)) w1 w4:=O3.trans (o4.wide (fun k hk=>by simp[hk]))
 obtain⟨W5,hW5⟩:∃W5,W5=w4.setCell ⟨bw,3,none⟩ (.slice (some ⟨g4,0,none⟩) (s.LS.length+1) k4):=⟨_,rfl⟩
 rw[←hW5]at E4 ⊢
 have O5:OnlyB (bw::(obl s.vl++obl s.vw)) w1 W5:=by rw[hW5];exact O4.setCell (by simp) _
 have hin:∀k∈bw::(obl s.vl++obl s.vw),k∈q1D bw s:=fun k hk=>by
  simp only[List.mem_cons,List.mem_append]at hk
  rcases hk with rfl|hk|hk
  ·simp[q1D]
  ·exact a3 k hk
  ·exact a4 k hk
 have kb:∀k∈bw::(obl s.vl++obl s.vw),k<w.heap.size:=fun k hk=>h0.ownLt k (.inl (hin k hk))
 have kg:q4R (bw::(obl s.vl++obl s.vw)) w1:=h.kindsG (fun k hk=>.inl (hin k hk))
 have noR:∀{base e size v n xs},w1.ownsRow base e size v n xs→e≠64→e≠33→∀k∈obl v,k∉bw::(obl s.vl++obl s.vw):=by
  intro base e size v n xs hr n1 n2 k hk hh
  obtain⟨_,cs,q⟩:=zw hr k hk
  have fin:∀{cs' t'},w1.heap[k]?=some (.cells cs' t' (0,0))→e=t':=fun q'=>by
   rw[q]at q'
   simp only[Option.some.injEq,Obj.cells.injEq,and_true]at q'
   exact q'.2
  simp only[List.mem_cons,List.mem_append]at hh
  rcases hh with rfl|hh|hh
  ·exact n1 (fin h.blk)
  ·obtain⟨_,_,cs',q'⟩:=kx k hh;exact n2 (fin q')
  ·obtain⟨_,_,cs',q'⟩:=ky k hh;exact n2 (fin q')
 have p3:g3∈obl s.vl∨w1.heap.size<g3:=by
  rcases at3 with e|e
  ·exact .inl (q1w.2 e.symm)
  ·right;simp at e;omega
 have hsz3:w1.heap.size≤W3.heap.size:=O3.size
 have ox3:W3.ownsRow (bw+1) 33 1 (.slice (some ⟨g3,0,none⟩) (s.LS.length+1) k3) (s.LS.length+1) (s.LS.map (fun e=>e.v)++[v]):=by rw[hW3];exact ownsRow_setCell_below own3 (by simp) _
 have hg3:g3<W3.heap.size:=(ox3.lt g3 rfl).2
 have p4:g4∈obl s.vw∨(w1.heap.size<g4∧g3<g4):=by
  rcases at4 with e|e
  ·exact .inl (q1w.2 e.symm)
  ·right;simp at e;omega
 have g34:g3≠g4:=by
  intro e
  subst e
  rcases p4 with p4|p4
  ·rcases p3 with p3|p3
   ·exact h.two g3 p3 p4
   ·have:=(ky g3 p4).2.1;omega
  ·omega
 have g3w:∀k∈obl s.vw,k≠g3:=by
  intro k hk e
  subst e
  rcases p3 with p3|p3
  ·exact h.two k p3 hk
  ·have:=(ky k hk).2.1;omega
 have hown:∀k,k∈q1D bw {s with vl:=.slice (some ⟨g3,0,none⟩) (s.LS.length+1) k3,vw:=.slice (some ⟨g4,0,none⟩) (s.LS.length+1) k4,LS:=s.LS++[⟨v,cv,n,f,f⟩]}→k∈q1D bw s∨w1.heap.size<k:=by
  intro k hk
  simp only[q1D,List.mem_cons,List.mem_append]at hk
  rcases hk with rfl|hk|hk|hk|hk
  ·exact .inl (by simp[q1D])
  ·exact .inl (a1 _ hk)
  ·exact .inl (a2 _ hk)
  ·have:k=g3:=by simpa[obl,Value.ownBlock]using hk
   subst this
   rcases p3 with p3|p3
   ·exact .inl (a3 _ p3)
   ·exact .inr p3
  ·have:k=g4:=by simpa[obl,Value.ownBlock]using hk
   subst this
   rcases p4 with p4|p4
   ·exact .inl (a4 _ p4)
   ·exact .inr p4.1
 have hlst:∀k,k∈q3h {s with vl:=.slice (some ⟨g3,0,none⟩) (s.LS.length+1) k3,vw:=.slice (some ⟨g4,0,none⟩) (s.LS.length+1) k4,LS:=s.LS++[⟨v,cv,n,f,f⟩]}→k∈q3h s∨k∈obl v∨k∈obl cv:=by
  intro k hk
  simp only[q3h,List.mem_flatMap,List.mem_append,List.mem_singleton]at hk
  obtain⟨e,he|rfl,hk⟩:=hk
  ·left;exact List.mem_flatMap.2 ⟨e,he,List.mem_append.2 hk⟩
  ·right;exact hk
 have ox4:w4.ownsRow (bw+1) 33 1 (.slice (some ⟨g3,0,none⟩) (s.LS.length+1) k3) (s.LS.length+1) (s.LS.map (fun e=>e.v)++[v]):=qn ox3 o4 (fun k hk hh=>by
  have:k=g3:=by simpa[obl,Value.ownBlock]using hk
  exact g3w k hh this)
 have hv1:=zh hv hb
 have hls:∀x∈s.LS++[(⟨v,cv,n,f,f⟩:Lst)],x∈s.LS∨x=⟨v,cv,n,f,f⟩:=fun x hx=>by simpa using hx
 refine⟨⟨E4,qn h.xs O5 (noR h.xs (by decide) (by decide)),qn h.ys O5 (noR h.ys (by decide) (by decide)),?_,?_,?_,fun x hx=>(h.mons x hx).keep O5 kg (fun k hk hh=>(h.mut x hx k hk).1 (hin k hh)) (fun k hk hh=>(h.fro x hx k hk).1 (hin k hh)),fun e he=>?_,fun e he=>?_,h.hi,fun x hx k hk=>⟨fun hh=>?_,fun hh=>?_⟩,h.sep,h.apart⟩,?_,?_,?_,?_,?_⟩
 ·show W5.ownsRow _ _ _ _ (s.LS++[_]).length ((s.LS++[_]).map _)
  rw[List.map_append,List.length_append,hW5]
  exact ownsRow_setCell_below ox4 (by simp) _
 ·show W5.ownsRow _ _ _ _ (s.LS++[_]).length ((s.LS++[_]).map _)
  rw[List.map_append,List.length_append,hW5]
  exact ownsRow_setCell_below own4 (by simp) _
 ·intro k hk hh
  have e1:k=g3:=by simpa[obl,Value.ownBlock]using hk
  have e2:k=g4:=by simpa[obl,Value.ownBlock]using hh
  exact g34 (e1.symm.trans e2)
 ·rcases hls e he with he|rfl
  ·exact qn (h.row e he) O5 (noR (h.row e he) (by decide) (by decide))
  ·exact qn hv1 O5 (noR hv1 (by decide) (by decide))
 ·rcases hls e he with he|rfl
  ·exact qn (h.cop e he) O5 (noR (h.cop e he) (by decide) (by decide))
  ·exact qn hcv O5 (noR hcv (by decide) (by decide))
 ·rcases hown k hh with hh|hh
  ·exact(h.fro x hx k hk).1 hh
  ·have:=(h.mons x hx).froLt k hk;omega
 ·rcases hlst k hh with hh|hh|hh
  ·exact(h.fro x hx k hk).2 hh
  ·exact hfr x hx k hh hk
  ·have:=hcf k hh;have:=(h0.mons x hx).froLt k hk;omega
 ·exact(OnlyB.of_below hb).trans O5
 ·rcases p3 with p3|p3
  ·exact .inl p3
  ·exact .inr (by omega)
 ·rcases p4 with p4|p4
  ·exact .inl p4
  ·exact .inr (by omega)
 ·rw[zC _ _ 3 _ _ _ e4]
  rfl
 ·exact zF _ _ _ _ _ e4
theorem info_sl:(Tryz.prog.info? 33).map (fun i=>(i.zero,i.size,i.bytes))=some (some (.slice none 0 0),1,24):=by kernel_rfl
theorem j5U:(Tryz.prog.info? 45).map (fun i=>(i.zero,i.size,i.bytes))=some (some (.agg (q7j 0 0)),12,32):=by kernel_rfl
theorem app_nil0 (va:OA)(vc:Nat)(ty:TypeId)(w:World):(Builtin.append_ #[33,33] ty #[.slice none 0 0,.slice va 0 vc]).run Tryz.prog w=.ok (.slice none 0 0) w:=by
 cases va<;>kernel_rfl
theorem wp_copy {ops:Array Oper}{rest:List Oper}{o:Oper}{a:Act}{Q:Exit→Act→World→Prop}(hgd:o.guard=none)(x y:Operand)
  (ho:o.op=.call {callee:=.builtin .append,args:=#[x,y],argTypes:=#[33,33]})(W:World)(hx:a.eval x=.slice none 0 0)(va:OA)(n vc:Nat)(hy:a.eval y=.slice va n vc)(base base':Nat)(f:Nat→Int)
  (hv:W.ownsRow base 45 12 (.slice va n vc) n (flR f n))(hn:n≤1000000)(hb:base'≤W.heap.size)
  (h:∀cv w1,w1.ownsRow base' 45 12 cv n (flR f n)→Below W.heap.size W w1→(∀k∈obl cv,W.heap.size≤k)→wpList Tryz.prog ops Q rest (a.put o.dst cv) w1):wpList Tryz.prog ops Q (o::rest) a W:=by
 by_cases h0:n=0
 ·subst h0
  exact j0Z hgd x y _ ho _ _ _ _ hx hy (app_nil0 va vc _ W) (h _ W (zW _ _ _ _) (zB _ _) (by simp[obl,Value.ownBlock]))
 ·obtain⟨i,hi,hz0,hz1,hz2⟩:=info_parts j5U
  obtain⟨g,c,e⟩:=zJ hv (by omega)
  have ea:va=some ⟨g,0,none⟩:=by simp only[Value.slice.injEq]at e;exact e.1
  subst ea
  refine q4Q hgd x y 33 45 ho Tryz.underlying33 hi hz0 hz1 hz2 rfl (by decide) base' (.slice none 0 0) 0 [] W hx (zW _ _ _ _) ⟨g,0,none⟩ n vc (flR f n) hy (q2w f n) (hv.cells (g:=g) rfl) (q5C f n) (by omega) (by decide) hb (by omega) ?_
  intro v' w' own gr hat
  rw[Nat.zero_add,List.nil_append]at own
  refine h v' w' own (j3k gr) (fun k hk=>?_)
  have hk:=q1w.1 hk
  rcases hat.blk with e|e
  ·rw[hk]at e;simp[Value.ownBlock]at e
  ·rw[hk]at e;simp at e;omega
def q8o (w w':World)(bw:Nat)(s:St)(v:Value)(n:Nat)(f:Nat→Int):Prop:=
 ∃cv vl vw,Wld w' bw {s with vl:=vl,vw:=vw,LS:=s.LS++[⟨v,cv,n,f,f⟩]}∧(∀k∈obl cv,w.heap.size≤k)∧OnlyB (bw::(obl s.vl++obl s.vw)) w w'∧(∀k∈obl vl,k∈obl s.vl∨w.heap.size≤k)∧∀k∈obl vw,k∈obl s.vw∨w.heap.size≤k
theorem q7P {w1:World}{u:Value}{e:TypeId}:∀(j:Nat) (v:Value),[u][j]?=some v→(w1.alloc (.cells #[u] e)).cell? ((⟨w1.heap.size,0,none⟩:Addr).add j)=some v:=by
 intro j v hj
 rw[q2e,Nat.zero_add,zC _ _ j _ _ _ (zN w1 _)]
 simpa using hj
theorem q7G (bw:Nat)(s:St)(v:Value)(n:Nat)(f:Nat→Int)(w:World)(h:Wld w bw s)(hv:w.ownsRow (bw+1) 45 12 v n (flR f n))(hn:n≤1000000)(hl:s.LS.length≤100000000)(hfr:∀m∈s.MS,∀k∈obl v,k∉q3S m) :
  Calls Tryz.prog 87 #[.pointer (some ⟨bw,0,none⟩),v] w fun e w'=>e=.returned (.tuple #[])∧q8o w w' bw s v n f:=by
 obtain⟨vx,vy,vl,vw,MS,LS,mk⟩:=s
 obtain⟨va,vc,rfl⟩:=qv hv
 have ols:w.ownsRow (bw+1) 33 1 vl LS.length (LS.map fun e=>e.v):=h.ls
 have olw:w.ownsRow (bw+1) 33 1 vw LS.length (LS.map fun e=>e.cv):=h.lw
 obtain⟨la,lc,rfl⟩:=qv ols
 obtain⟨ra,rc,rfl⟩:=qv olw
 have hlen:LS.length+1≤1000000000:=by have:LS.length≤100000000:=hl;omega
 have hlt:=h.lt
 have H:=zb h
 have HV:=zb hv
 have HFR:=zb hfr
 have OLS:=zb ols
 have OLW:=zb olw
 clear h hv hfr hl ols olw
 obtain⟨i0,hi0,hz0,hz1,hz2⟩:=info_parts info_sl
 have HNB:Hid (∀(ao:OA) (c:Nat) (xs:List Value) (W:World),W.ownsRow (bw+1) 33 1 (.slice ao LS.length c) LS.length xs→bw∉(Value.slice ao LS.length c).ownBlock.toList):=zb (fun ao c xs W hr hh=>by have:=(zw hr bw hh).1;omega)
 go_enter Tryz.func87,Tryz.ntmps87
 go_wp2_with (first
  |(at_builtin;refine wp_copy rfl (.tmp 5) (.tmp 6) rfl w rfl va n vc rfl (bw+1) (bw+1) f HV.out hn (by omega) ?_;intro cv w1 o1 b1 f1;obtain⟨ca,cc,rfl⟩:=qv o1;have HW1:=zb (H.out.below b1);have c2:=zC _ _ 2 _ _ _ HW1.out.blk;have c3:=zC _ _ 3 _ _ _ HW1.out.blk;have z2:=zF _ _ 2 _ _ HW1.out.blk;have z3:=zF _ _ 3 _ _ HW1.out.blk;simp only[gz]at c2 c3;have hl1:=HW1.out.lt;have HO1:=zb o1;have HB1:=zb b1;have HF1:=zb f1;have OL1:=zb (zh OLS.out b1);have OW1:=zb (zh OLW.out b1);clear o1 b1 f1)
  |(at_builtin;refine q4Q rfl (.tmp 12) (.tmp 14) 62 33 rfl Tryz.underlying62 hi0 hz0 hz1 hz2 rfl (by decide) (bw+1) (.slice la LS.length lc) LS.length (LS.map fun e=>e.v) (w1.alloc (.cells #[.slice va n vc] 33)) rfl (OL1.out.alloc _) ⟨w1.heap.size,0,none⟩ 1 1 [.slice va n vc] (by simp[Act.eval]) rfl q7P (by simp[Value.oneCell']) hlen (by decide) (by simp;omega) (by decide) ?_;intro v3 w3 own3 gr3 at3;obtain⟨g3,k3,rfl⟩:=zJ own3 (by omega);have O3:=zb own3;have G3:=zb gr3;have A3:=zb at3.blk;have e3:w3.heap[bw]?=w1.heap[bw]?:=((q2V gr3).block bw (by simp;omega) (HNB.out _ _ _ _ OL1.out)).trans (zO w1 _ hl1);have d2:=(zK (a:=⟨bw,2,none⟩) e3).trans c2;have d3:=(zK (a:=⟨bw,3,none⟩) e3).trans c3;have y2:=(World.frozen?_of_block (a:=⟨bw,2,none⟩) e3).trans z2;have y3:=(World.frozen?_of_block (a:=⟨bw,3,none⟩) e3).trans z3;have hl3:bw<w3.heap.size:=(by have:=gr3.size;simp at this;omega);have OW3:=zb (ownsRow_setCell_below (a:=⟨bw,2,none⟩) (qn OW1.out ((OnlyB.nw _ w1 _).trans (q2V gr3)) (fun k hk hh=>HW1.out.two k hh hk)) (by simp) (.slice (some ⟨g3,0,none⟩) (LS.length+1) k3));clear own3 gr3 at3 c2 c3 z2 z3 e3)
  |(at_builtin;refine q4Q rfl (.tmp 22) (.tmp 24) 62 33 rfl Tryz.underlying62 hi0 hz0 hz1 hz2 rfl (by decide) (bw+1) (.slice ra LS.length rc) LS.length (LS.map fun e=>e.cv) ((w3.setCell ⟨bw,2,none⟩ (.slice (some ⟨g3,0,none⟩) (LS.length+1) k3)).alloc (.cells #[.slice ca n cc] 33)) rfl (OW3.out.alloc _) ⟨(w3.setCell ⟨bw,2,none⟩ (.slice (some ⟨g3,0,none⟩) (LS.length+1) k3)).heap.size,0,none⟩ 1 1 [.slice ca n cc] (by simp[Act.eval]) rfl q7P (by simp[Value.oneCell']) hlen (by decide) (by simp;omega) (by decide) ?_;intro v4 w4 own4 gr4 at4;obtain⟨g4,k4,rfl⟩:=zJ own4 (by omega);obtain⟨T1,T2,T3,T4,T5,T6⟩:=j6D H.out HB1.out HV.out HO1.out HF1.out HFR.out O3.out G3.out A3.out own4 gr4 at4.blk;have HT1:=zb T1;have HT2:=zb T2;have HT3:=zb T3;have HT4:=zb T4;have hl4:bw<w4.heap.size:=(by have:=gr4.size;simp at this;omega);clear own4 gr4 at4 T1 T2 T3 T4 d2 d3 y2 y3))
 have fin:q8o w (w4.setCell ⟨bw,3,none⟩ (.slice (some ⟨g4,0,none⟩) (LS.length+1) k4)) bw ⟨vx,vy,.slice la LS.length lc,.slice ra LS.length rc,MS,LS,mk⟩ (.slice va n vc) n f:=
  ⟨_,_,_,HT1.out,HF1.out,HT2.out,fun k hk=>by have e:k=g3:=(by simpa[obl,Value.ownBlock]using hk);rw[e];exact HT3.out,fun k hk=>by have e:k=g4:=(by simpa[obl,Value.ownBlock]using hk);rw[e];exact HT4.out⟩
 go_end0
 exact⟨rfl,fin⟩
theorem ver_vc:∀l:List Ver,∃P S R,zy l=vcR P S R l.length:=by
 intro l
 have key:∀(l:List Ver) (d:Ver),zy l=vcR (fun i=>((l.getD i d).1:Int)) (fun i=>((l.getD i d).2.1:Int)) (fun i=>zf (l.getD i d).2.2) l.length:=by
  intro l d
  refine List.ext_getElem? fun p=>?_
  have hlen:(zy l).length=l.length*12:=by
   unfold zy
   induction l with
   |nil=>rfl
   |cons a r ih=>rw[List.flatMap_cons,List.length_append,ih];simp[q5t];omega
  by_cases hp:p<l.length*12
  ·have e:=vcR_at (fun i=>((l.getD i d).1:Int)) (fun i=>((l.getD i d).2.1:Int)) (fun i=>zf (l.getD i d).2.2) l.length (p / 12) (p % 12) (by omega) (by omega)
   rw[show p / 12*12+p % 12=p by omega]at e
   rw[e]
   have e2:∀(l:List Ver) (i j:Nat),i<l.length→j<12→(zy l)[i*12+j]?=(q5t (l.getD i d))[j]?:=by
    intro l
    induction l with
    |nil=>intro i j h;simp at h
    |cons a r ih =>
     intro i j h hj
     have e3:zy (a::r)=q5t a++zy r:=by simp[zy]
     have e4:(q5t a).length=12:=rfl
     rw[e3]
     cases i with
     |zero=>rw[List.getElem?_append_left (by omega)];simp
     |succ i =>
      rw[List.getElem?_append_right (by omega),e4,show(i+1)*12+j-12=i*12+j by omega,ih i j (by simpa using h) hj]
      simp
   have e5:=e2 l (p / 12) (p % 12) (by omega) (by omega)
   rw[show p / 12*12+p % 12=p by omega]at e5
   rw[e5]
  ·rw[List.getElem?_eq_none (by omega),List.getElem?_eq_none (by rw[q9G];omega)]
 exact⟨_,_,_,key l (0,0,fun _ _=>false)⟩
theorem q5Q {P:Program}{ops:Array Oper}{rest:List Oper}{o:Oper}{a:Act}{W:World}{Q:Exit→Act→World→Prop}(hgd:o.guard=none)(ty:TypeId)(n:Nat)(parts:Array (Nat × Operand))(ho:o.op=.buildSlice ty n parts)
  (xs:Array (Nat × Value))(hx:(parts.map fun(i,x)=>(i,a.eval x))=xs)(v:Value)(W':World)(hr:(Instr.buildSlice ty n xs).run P W=.ok v W')
  (h:wpList P ops Q rest (a.put o.dst v) W'):wpList P ops Q (o::rest) a W:=by
 refine wpList_plain hgd fun _ hK=>?_
 unfold Oper.wp execOp
 simp only[ho,hx,hr,Sem.run_bind,Sem.run_pure,Result.andThen_ok]
 exact hK _ _ h
abbrev mkA (z:Int):Array Value:=q7j (wrap64 (-z)) (IntKind.u16.wrap z)
theorem q9A (z:Int):(mkA z).all (·.oneCell')=true:=by simp[Value.oneCell']
theorem bld1 (z:Int)(W:World):(Instr.buildSlice 33 1 #[(0,.agg (mkA z))]).run Tryz.prog W=.ok (.slice (some ⟨W.heap.size,0,none⟩) 1 1) (W.alloc (.cells (flR (fun _=>z) 1).toArray 45)):=by kernel_rfl
theorem bld2 (z:Int)(W:World):(Instr.buildSlice 33 2 #[(0,.agg (mkA z)),(1,.agg (mkA z))]).run Tryz.prog W=.ok (.slice (some ⟨W.heap.size,0,none⟩) 2 2) (W.alloc (.cells (flR (fun _=>z) 2).toArray 45)):=by kernel_rfl
theorem bld3 (z:Int)(W:World):(Instr.buildSlice 33 3 #[(0,.agg (mkA z)),(1,.agg (mkA z)),(2,.agg (mkA z))]).run Tryz.prog W=.ok (.slice (some ⟨W.heap.size,0,none⟩) 3 3) (W.alloc (.cells (flR (fun _=>z) 3).toArray 45)):=by kernel_rfl
theorem mk_if {z:Int}{k p:Nat}{x:Option Value}:(if k*12≤p∧p<k*12+(mkA z).size then(mkA z)[p-k*12]? else x)=if k*12≤p∧p<k*12+12 then(q7K z)[p-k*12]? else x:=by simp[q7K]
theorem Wld.mark {w:World}{bw:Nat}{s:St}(h:Wld w bw s):Wld (w.setCell ⟨bw,4,none⟩ (.int .i64 ((s.mc:Int)+1))) bw {s with mc:=s.mc+1}:=by
 have ho:OnlyB [bw] w (w.setCell ⟨bw,4,none⟩ (.int .i64 ((s.mc:Int)+1))):=OnlyB.one _ _ _ _
 have hb:∀{base e size v n xs},w.ownsRow base e size v n xs→bw<base→(w.setCell ⟨bw,4,none⟩ (.int .i64 ((s.mc:Int)+1))).ownsRow base e size v n xs:=fun hr hlt=>ownsRow_setCell_below hr (by simpa using hlt) _
 refine⟨?_,hb h.xs (by omega),hb h.ys (by omega),hb h.ls (by omega),hb h.lw (by omega),h.two,fun m hm=>(h.mons m hm).keep ho (h.kindsG (fun k hk=>.inl (by have:k=bw:=(by simpa using hk);simp[q1D,this]))) (fun k hk hh=>?_) (fun k hk hh=>?_),fun e he=>hb (h.row e he) (by omega),fun e he=>hb (h.cop e he) (by omega),h.hi,h.fro,h.sep,h.apart⟩
 ·have:=zH w bw 4 _ _ (.int .i64 ((s.mc:Int)+1)) h.blk
  rw[this]
  simp
 ·have:=h.hi m hm k hk
  have:k=bw:=by simpa using hh
  omega
 ·have:k=bw:=by simpa using hh
  exact(h.fro m hm k hk).1 (by simp[q1D,this])
theorem row_putX {w w':World}{base n g c:Nat}{e:TypeId}{xs:List Value}{i:Nat}{z:Int}{cs cs':Array Value}(h:w.ownsRow base e 12 (.slice (some ⟨g,0,none⟩) n c) n xs)(hg:w.heap[g]?=some (.cells cs e (0,0)))(hg':w'.heap[g]?=some (.cells cs' e (0,0)))(hs:cs'.size=cs.size)
  (hp:∀p,p<cs.size→cs'[p]?=if i*12≤p∧p<i*12+12 then(q7K z)[p-i*12]? else cs[p]?):∃xs',w'.ownsRow base e 12 (.slice (some ⟨g,0,none⟩) n c) n xs'∧∀p,p<n*12→xs'[p]?=if i*12≤p∧p<i*12+12 then(q7K z)[p-i*12]? else xs[p]?:=by
 obtain⟨cs0,e1,e2,e3,e4,e5,e6⟩:=q1O h
 rw[hg]at e1
 simp only[Option.some.injEq,Obj.cells.injEq,and_true]at e1
 subst e1
 have hle:n*12≤cs.size:=by rw[e4];exact zU 12 e2
 refine⟨cs'.toList.take (n*12),⟨?_,.inr ⟨g,c,cs',rfl,e6,hg',e2,e3,by rw[hs,e4],rfl⟩⟩,fun p hpn=>?_⟩
 ·rw[List.length_take,Array.length_toList,hs]
  exact Nat.min_eq_left hle
 ·rw[List.getElem?_take,if_pos hpn,Array.getElem?_toList,hp p (by omega),←e5,List.getElem?_take,if_pos hpn]
  simp only[Array.getElem?_toList]
def FreeL (bw:Nat)(s:St)(bl:List Nat):Prop:=∀k∈bl,k∉q1D bw s∧k∉q3h s∧∀m∈s.MS,k∉q1d m∧k∉q3S m
theorem Wld.free {w w':World}{bw:Nat}{s:St}{bl:List Nat}(h:Wld w bw s)(ho:OnlyB bl w w')(hf:FreeL bw s bl)(hk:∀k∈bl,∃cs,w.heap[k]?=some (.cells cs 45 (0,0))):Wld w' bw s:=
 h.keep ho (fun k hb=>by obtain⟨cs,e⟩:=hk k hb;exact⟨cs,_,e,by decide,by decide⟩) (fun k hb=>⟨(hf k hb).1,(hf k hb).2.1⟩) (fun m hm=>⟨fun k hk hb=>((hf k hb).2.2 m hm).1 hk,fun k hk hb=>((hf k hb).2.2 m hm).2 hk⟩)
theorem q9I {W w':World}{bw:Nat}{s:St}{l v':Value}{n j:Nat}{z:Int}{ob:Obj}(h:Wld W bw s)(hf:FreeL bw s (obl l))(hl:W.ownsRow (bw+1) 45 12 l n (flR (fun _=>z) n))(own:w'.ownsRow (bw+1) 45 12 v' (n+j) (flR (fun _=>z) n++flR (fun _=>z) j))(gr:(W.alloc ob).grownBy w' l.ownBlock)(hat:j1m (W.alloc ob) w' l v' n j) :
  Wld w' bw s∧OnlyB (obl l) W w'∧w'.ownsRow (bw+1) 45 12 v' (n+j) (flR (fun _=>z) (n+j))∧(∀u k,W.ownsRow (bw+1) 45 12 u k (flR (fun _=>z) k)→k≤n+j→w'.ownsRow (bw+1) 45 12 u k (flR (fun _=>z) k))∧(∀k∈obl v',k∈obl l∨W.heap.size<k):=by
 rw[j6w]at own
 have ho:OnlyB (obl l) W w':=(OnlyB.nw _ W ob).trans (q2V gr)
 refine⟨h.free ho hf (fun k hk=>(zw hl k hk).2),ho,own,fun u k hu hk=>app_row (hl.alloc ob) own gr hat (hu.alloc ob) hk,fun k hk=>?_⟩
 have hk:=q1w.1 hk
 rcases hat.blk with e|e
 ·exact .inl (q1w.2 (e.symm.trans hk))
 ·rw[hk]at e
  simp at e
  exact .inr (by omega)
theorem q8o.keepRow {w w':World}{bw:Nat}{s:St}{v:Value}{n:Nat}{f:Nat→Int}(h:Wld w bw s)(ht:q8o w w' bw s v n f){base k:Nat}{u:Value}{xs:List Value}(hu:w.ownsRow base 45 12 u k xs):w'.ownsRow base 45 12 u k xs:=by
 obtain⟨cv,vl,vw,_,_,ho,_⟩:=ht
 refine qn hu ho (fun q hq hh=>?_)
 obtain⟨_,cs,e⟩:=zw hu q hq
 have fin:∀{cs' t'},w.heap[q]?=some (.cells cs' t' (0,0))→45=t':=fun q'=>by
  rw[e]at q'
  simp only[Option.some.injEq,Obj.cells.injEq,and_true]at q'
  exact q'.2
 simp only[List.mem_cons,List.mem_append]at hh
 rcases hh with rfl|hh|hh
 ·exact absurd (fin h.blk) (by decide)
 ·obtain⟨_,cs',q'⟩:=zw h.ls q hh;exact absurd (fin q') (by decide)
 ·obtain⟨_,cs',q'⟩:=zw h.lw q hh;exact absurd (fin q') (by decide)
theorem q8o.below {w w':World}{bw:Nat}{s:St}{v:Value}{n:Nat}{f:Nat→Int}(h:Wld w bw s)(ht:q8o w w' bw s v n f):Below bw w w':=by
 obtain⟨cv,vl,vw,_,_,ho,_⟩:=ht
 have hl:=h.lt
 obtain⟨a1,a2,a3,a4,_,_⟩:=h.all
 refine ho.below (by omega) (fun k hk=>(h.kinds k (.inl ?_)).1)
 simp only[List.mem_cons,List.mem_append]at hk
 rcases hk with rfl|hk|hk
 ·simp[q1D]
 ·exact a3 k hk
 ·exact a4 k hk
def KpRel (bw n:Nat)(l:Value)(z:Int)(W3:World)(g:Nat)(vi:Value)(wr:World):Prop:=
 ∃k:Nat,k≤n∧n-k≤g∧vi=.int .i64 k∧(∃xs,wr.ownsRow (bw+1) 45 12 l n xs∧∀p,p<k*12→xs[p]?=(q7K z)[p % 12]?)∧OnlyB (obl l) W3 wr
theorem j6o {n:Nat}{xs:List Value}{z:Int}(hl:xs.length=n*12)(h:∀p,p<n*12→xs[p]?=(q7K z)[p % 12]?):xs=flR (fun _=>z) n:=by
 refine List.ext_getElem? fun p=>?_
 by_cases hp:p<n*12
 ·rw[h p hp,q7f _ _ _ hp]
 ·rw[List.getElem?_eq_none (by omega),List.getElem?_eq_none (by rw[q2w];omega)]
theorem keep_grp {LS:List Lst}{l v1 v2 v3 c0 c1 c2 c3:Value}{n:Nat}{f:Nat→Int}{A w6 w7 w8 w9:Nat}(hG:Grp LS)(hold:∀i,i<LS.length→(∀k∈obl (lg LS i).v,k<A)∧∀k∈obl (lg LS i).cv,k<A)(hl:∀k∈obl l,∀i,i<LS.length→k∉obl (lg LS i).v∧k∉obl (lg LS i).cv)
  (h1:∀k∈obl v1,k∈obl l∨A≤k)(h2:∀k∈obl v2,k∈obl l∨A≤k)(h3:∀k∈obl v3,k∈obl l∨A≤k)(u0:∀k∈obl l,k<w6)(u1:∀k∈obl v1,k<w6)(u2:∀k∈obl v2,k<w6)(u3:∀k∈obl v3,k<w6)(a6:A≤w6)(a7:w6≤w7)(a8:w7≤w8)(a9:w8≤w9)
  (i0:∀k∈obl c0,w6≤k∧k<w7)(i1:∀k∈obl c1,w7≤k∧k<w8)(i2:∀k∈obl c2,w8≤k∧k<w9)(i3:∀k∈obl c3,w9≤k):Grp (LS++[⟨l,c0,n,f,f⟩,⟨v1,c1,n+1,f,f⟩,⟨v2,c2,n+2,f,f⟩,⟨v3,c3,n+3,f,f⟩]):=by
 have hv:∀k,k∈obl l∨A≤k→∀i,i<LS.length→k∉obl (lg LS i).v∧k∉obl (lg LS i).cv:=by
  intro k hk i hi
  rcases hk with hk|hk
  ·exact hl k hk i hi
  ·exact⟨fun hh=>by have:=(hold i hi).1 k hh;omega,fun hh=>by have:=(hold i hi).2 k hh;omega⟩
 refine hG.more rfl (n:=n) (B:=A) (f:=f) ?_ hold ?_ ?_
 ·intro t ht
  rcases(by omega:t=0∨t=1∨t=2∨t=3)with rfl|rfl|rfl|rfl<;>exact⟨rfl,rfl,rfl⟩
 ·intro t ht
  rcases(by omega:t=0∨t=1∨t=2∨t=3)with rfl|rfl|rfl|rfl
  ·exact⟨fun k hk=>hv k (.inl hk),fun k hk=>by have:=(i0 k hk).1;omega⟩
  ·exact⟨fun k hk=>hv k (h1 k hk),fun k hk=>by have:=(i1 k hk).1;omega⟩
  ·exact⟨fun k hk=>hv k (h2 k hk),fun k hk=>by have:=(i2 k hk).1;omega⟩
  ·exact⟨fun k hk=>hv k (h3 k hk),fun k hk=>by have:=i3 k hk;omega⟩
 ·have up:∀u,u<4→∀k∈obl (lg [⟨l,c0,n,f,f⟩,⟨v1,c1,n+1,f,f⟩,⟨v2,c2,n+2,f,f⟩,⟨v3,c3,n+3,f,f⟩] u).v,k<w6:=by
   intro u hu
   rcases(by omega:u=0∨u=1∨u=2∨u=3)with rfl|rfl|rfl|rfl
   ·exact u0
   ·exact u1
   ·exact u2
   ·exact u3
  have iv:∀t,t<4→∃a b,w6≤a∧(∀k∈obl (lg [⟨l,c0,n,f,f⟩,⟨v1,c1,n+1,f,f⟩,⟨v2,c2,n+2,f,f⟩,⟨v3,c3,n+3,f,f⟩] t).cv,a≤k∧(t<3→k<b))∧(t=0→a=w6∧b=w7)∧(t=1→a=w7∧b=w8)∧(t=2→a=w8∧b=w9)∧(t=3→a=w9):=by
   intro t ht
   rcases(by omega:t=0∨t=1∨t=2∨t=3)with rfl|rfl|rfl|rfl
   ·exact⟨w6,w7,by omega,fun k hk=>⟨(i0 k hk).1,fun _=>(i0 k hk).2⟩,by omega,by omega,by omega,by omega⟩
   ·exact⟨w7,w8,by omega,fun k hk=>⟨(i1 k hk).1,fun _=>(i1 k hk).2⟩,by omega,by omega,by omega,by omega⟩
   ·exact⟨w8,w9,by omega,fun k hk=>⟨(i2 k hk).1,fun _=>(i2 k hk).2⟩,by omega,by omega,by omega,by omega⟩
   ·exact⟨w9,0,by omega,fun k hk=>⟨i3 k hk,by omega⟩,by omega,by omega,by omega,by omega⟩
  intro t u ht hu k hk
  obtain⟨a,b,q1,q2,q3,q4,q5,q6⟩:=iv t ht
  obtain⟨a',b',p1,p2,p3,p4,p5,p6⟩:=iv u hu
  refine⟨fun hh=>?_,fun hne hh=>?_⟩
  ·have:=up u hu k hh
   have:=(q2 k hk).1
   omega
  ·have x1:=q2 k hk
   have x2:=p2 k hh
   omega
theorem j3E (bw:Nat)(s:St)(l:Value)(n:Nat)(xs:List Value)(w:World)(h:Wld w bw s)(hg:Grp s.LS)(hl:w.ownsRow (bw+1) 45 12 l n xs)(hf:FreeL bw s (obl l))(hn:n≤1000)(hL:s.LS.length≤10000000)(hmk:s.mc≤10000000) :
  Calls Tryz.prog 60 #[.pointer (some ⟨bw,0,none⟩),l] w fun e w'=>e=.returned (.tuple #[])∧∃s',Wld w' bw s'∧Grp s'.LS∧s'.MS=s.MS∧s'.LS.length=s.LS.length+4∧s'.mc=s.mc+1∧Below bw w w':=by
 obtain⟨la,lc,rfl⟩:=qv hl
 have c4:w.cell? ⟨bw,4,none⟩=some (.int .i64 s.mc):=zC _ _ 4 _ _ _ h.blk
 have z4:=zF _ _ 4 _ _ h.blk
 have hlt:=h.lt
 have HM1:=h.mark
 obtain⟨mz,hmz⟩:∃mz:Int,mz=(s.mc:Int):=⟨_,rfl⟩
 have hm0:0≤mz∧mz≤10000000:=by omega
 rw[←hmz]at c4 HM1
 obtain⟨z,hz⟩:∃z:Int,z=mz+1:=⟨_,rfl⟩
 have hwr:IntKind.i64.wrap (mz+1)=z:=by rw[IntKind.wrap_i64];omega
 rw[←hz]at HM1
 obtain⟨VM,hVM⟩:∃VM,VM=Value.agg (mkA z):=⟨_,rfl⟩
 have HVM:=zb hVM
 have HMK:Hid (∀W,Calls Tryz.prog 58 #[.int .i64 z] W fun e w'=>e=.returned VM∧Below W.heap.size W w'):=zb (fun W=>by rw[hVM];exact j3F z W)
 obtain⟨i0,hi0,hz0,hz1,hz2⟩:=info_parts j5U
 have HF:=zb hf
 have HW1:=zb HM1
 have HB1:Hid (Below bw w (w.setCell ⟨bw,4,none⟩ (.int .i64 z))):=zb ((OnlyB.one w bw 4 (.int .i64 z)).below (by omega) (by simp))
 have HO1:=zb (ownsRow_setCell_below (a:=⟨bw,4,none⟩) hl (by simp) (.int .i64 z))
 have HLK:Hid (∀k∈obl (.slice la n lc),k<w.heap.size):=zb (fun k hk=>by obtain⟨_,cs,e⟩:=zw hl k hk;exact zd e)
 have HG:=zb hg
 clear h hl hf HM1 hVM hmz hg hz
 generalize hlz:s.LS.length=ll at *
 have HLL:=zb hlz
 clear hlz
 obtain⟨W1,hW1⟩:∃W1,W1=w.setCell ⟨bw,4,none⟩ (.int .i64 z):=⟨_,rfl⟩
 have hs1:W1.heap.size=w.heap.size:=by rw[hW1];simp
 have d4:W1.cell? ⟨bw,4,none⟩=some (.int .i64 z):=by rw[hW1];exact zS w _ _ c4
 go_enter Tryz.func60,Tryz.ntmps60
 go_wp2_with fail
 rw[←hW1]at HW1 HB1 HO1 ⊢
 clear hW1 c4
 refine(HMK.out _).mono ?_
 rintro e w2 ⟨rfl,b2⟩
 have hs2:=b2.size
 obtain⟨W3,S3,g3,b3,hs3⟩:=qI (P:=Tryz.prog) 45 w2 (q7j 0 0) (mkA z) (by kernel_rfl) rfl (q9A z)
 rw[←HVM.out]at S3
 have B3:Below W1.heap.size W1 W3:=b2.trans (b3.mono b2.size)
 have HW3:=zb (HW1.out.below B3)
 have HO3:=zb (zh HO1.out B3)
 have HB3:Hid (Below bw w W3):=zb (HB1.out.trans (B3.mono (by omega)))
 have HM3:=zb g3
 have hsB:w2.heap.size+1=W3.heap.size:=hs3.symm
 clear b2 b3 g3 B3 HMK d4 z4
 go_wp2_with (refine ze rfl 45 (.tmp 4) (.tmp 20) rfl ⟨w2.heap.size,0,none⟩ VM rfl rfl W3 S3 ?_)
 clear S3
 have HLV:Hid (∀wr,OnlyB (obl (.slice la n lc)) W3 wr→(Instr.loadAt 45 (.pointer (some ⟨w2.heap.size,0,none⟩))).run Tryz.prog wr=.ok VM wr):=zb (fun wr ho=>by
  rw[HVM.out]
  exact q1s 45 45 wr w2.heap.size (mkA z) (0,0) _ ((ho.block _ (by omega) (fun hh=>by have:=HLK.out _ hh;omega)).trans HM3.out) Tryz.underlying45 rfl (by kernel_rfl))
 go_loopg [5] n (fun g vi wr=>KpRel bw n (.slice la n lc) z W3 g vi wr)
 case atStart=>exact⟨0,zZ _,by omega,rfl,⟨xs,HO3.out,fun p hp=>by omega⟩,OnlyB.refl _ _⟩
 case round =>
  obtain⟨k,hk,hgk,rfl,⟨ys,hys,hym⟩,ho⟩:=hrel
  have HGK:=zb hgk
  have HYS:=zb hys
  have HYM:=zb hym
  have HO:=zb ho
  have LV:=HLV.out _ ho
  clear hgk hym ho hys
  by_cases hkn:k<n
  ·obtain⟨g,c',e⟩:=zJ HYS.out (by omega)
   have ea:la=some ⟨g,0,none⟩:=by simp only[Value.slice.injEq]at e;exact e.1
   subst ea
   clear e
   obtain⟨cs,q1,q2,q3,q4,q5,q6⟩:=q1O HYS.out
   have hcap:n≤lc∧lc≤9223372036854775807:=⟨q2,q3U (zL _) q3⟩
   have hgl:g<wr.heap.size:=zd q1
   obtain⟨W4,S4,⟨cs',r1,r2,r3⟩,r4,r5⟩:=j0Q (P:=Tryz.prog) 45 45 wr g (k*12) cs (mkA z) q1 (by kernel_rfl) (by rw[q4];show k*12+12≤lc*12;omega) (q9A z)
   rw[←HVM.out]at S4
   obtain⟨ys',t1,t2⟩:=row_putX (i:=k) (z:=z) HYS.out q1 r1 r2 (fun p hp=>by rw[r3 p hp];exact mk_if)
   have HT1:=zb t1
   have HT2:=zb t2
   have HR4:=zb r4
   clear t1 t2 r1 r2 r3 r4 r5 q1 q2 q3 q4 q5 q6
   go_wp2_with (first|(refine zg rfl 45 (.tmp 4) rfl ⟨w2.heap.size,0,none⟩ VM rfl LV ?_)|(refine ze rfl 45 (.tmp 30) (.tmp 29) rfl ⟨g,k*12,none⟩ VM rfl rfl W4 S4 ?_))
   have hg1:0<gk:=by have:=HGK.out;omega
   go_roundg (gk-1)
   case measure=>omega
   case rel =>
    refine⟨k+1,by omega,by have:=HGK.out;omega,by go_num,⟨ys',HT1.out,fun p hp=>?_⟩,HO.out.trans (HR4.out.wide (fun q hq=>by have:q=g:=(by simpa using hq);subst this;exact q1w.2 rfl))⟩
    rw[HT2.out p (by have:=zU 12 (show k+1≤n by omega);omega)]
    by_cases hin:k*12≤p∧p<k*12+12
    ·rw[if_pos hin,show p-k*12=p % 12 by omega]
    ·rw[if_neg hin]
     exact HYM.out p (by omega)
  ·obtain rfl:k=n:=by omega
   have hxs:=j6o HYS.out.1 HYM.out
   subst hxs
   have HWr:=zb (HW3.out.free HO.out HF.out (fun q hq=>(zw HO3.out q hq).2))
   have HBr:Hid (Below bw w wr):=zb (HB3.out.trans (HO.out.below (by omega) (fun q hq=>by have:=(zw HO3.out q hq).1;omega)))
   have hrs:W3.heap.size≤wr.heap.size:=HO.out.size
   clear HYM HW3 HO3 HGK hkn
   have HN1:Hid (bw+1≤wr.heap.size):=zb (by omega)
   have BL1:(Instr.buildSlice 33 1 #[(0,VM)]).run Tryz.prog wr=.ok (.slice (some ⟨wr.heap.size,0,none⟩) 1 1) (wr.alloc (.cells (flR (fun _=>z) 1).toArray 45)):=by rw[HVM.out];exact bld1 z wr
   go_wp2_with (first
    |(refine zg rfl 45 (.tmp 4) rfl ⟨w2.heap.size,0,none⟩ VM rfl LV ?_)
    |(refine q5Q rfl 33 1 #[(0,.tmp 32)] rfl #[(0,VM)] (by simp[Act.eval,Act.put]) _ _ BL1 ?_)
    |(at_builtin;refine q4Q rfl (.tmp 31) (.tmp 33) 33 45 rfl Tryz.underlying33 hi0 hz0 hz1 hz2 rfl (by decide) (bw+1) _ k _ (wr.alloc (.cells (flR (fun _=>z) 1).toArray 45)) rfl (HYS.out.alloc _) ⟨wr.heap.size,0,none⟩ 1 1 (flR (fun _=>z) 1) rfl (q2w _ _) (q4z _ _ _) (q5C _ _) (by omega) (by decide) (by have:=HN1.out;simp;omega) (by decide) ?_;intro v1 w4 own4 gr4 at4;obtain⟨t1,t2,t3,t4,t5⟩:=q9I HWr.out HF.out HYS.out own4 gr4 at4;obtain⟨a1,c1,rfl⟩:=qv t3;have HW4:=zb t1;have HO4:=zb (HO.out.trans t2);have V14:=zb t3;have L4:=zb (t4 _ k HYS.out (by omega));have P1:=zb t5;have LV4:=HLV.out _ HO4.out;have hs4:wr.heap.size≤w4.heap.size:=t2.size;have BL2:(Instr.buildSlice 33 2 #[(0,VM),(1,VM)]).run Tryz.prog w4=.ok (.slice (some ⟨w4.heap.size,0,none⟩) 2 2) (w4.alloc (.cells (flR (fun _=>z) 2).toArray 45)):=(by rw[HVM.out];exact bld2 z w4);clear t1 t2 t3 t4 t5 own4 gr4 at4 LV BL1)
    |(refine zg rfl 45 (.tmp 4) rfl ⟨w2.heap.size,0,none⟩ VM rfl LV4 ?_)
    |(refine q5Q rfl 33 2 #[(0,.tmp 36),(1,.tmp 37)] rfl #[(0,VM),(1,VM)] (by simp[Act.eval,Act.put]) _ _ BL2 ?_)
    |(at_builtin;refine q4Q rfl (.tmp 35) (.tmp 38) 33 45 rfl Tryz.underlying33 hi0 hz0 hz1 hz2 rfl (by decide) (bw+1) _ k _ (w4.alloc (.cells (flR (fun _=>z) 2).toArray 45)) rfl (L4.out.alloc _) ⟨w4.heap.size,0,none⟩ 2 2 (flR (fun _=>z) 2) rfl (q2w _ _) (q4z _ _ _) (q5C _ _) (by omega) (by decide) (by have:=HN1.out;simp;omega) (by decide) ?_;intro v2 w5 own5 gr5 at5;obtain⟨t1,t2,t3,t4,t5⟩:=q9I HW4.out HF.out L4.out own5 gr5 at5;obtain⟨a2,c2,rfl⟩:=qv t3;have HW5:=zb t1;have HO5:=zb (HO4.out.trans t2);have V25:=zb t3;have L5:=zb (t4 _ k L4.out (by omega));have V15:=zb (t4 _ (k+1) V14.out (by omega));have P2:=zb t5;have LV5:=HLV.out _ HO5.out;have hs5:w4.heap.size≤w5.heap.size:=t2.size;have BL3:(Instr.buildSlice 33 3 #[(0,VM),(1,VM),(2,VM)]).run Tryz.prog w5=.ok (.slice (some ⟨w5.heap.size,0,none⟩) 3 3) (w5.alloc (.cells (flR (fun _=>z) 3).toArray 45)):=(by rw[HVM.out];exact bld3 z w5);clear t1 t2 t3 t4 t5 own5 gr5 at5 LV4 BL2)
    |(refine zg rfl 45 (.tmp 4) rfl ⟨w2.heap.size,0,none⟩ VM rfl LV5 ?_)
    |(refine q5Q rfl 33 3 #[(0,.tmp 41),(1,.tmp 42),(2,.tmp 43)] rfl #[(0,VM),(1,VM),(2,VM)] (by simp[Act.eval,Act.put]) _ _ BL3 ?_)
    |(at_builtin;refine q4Q rfl (.tmp 40) (.tmp 44) 33 45 rfl Tryz.underlying33 hi0 hz0 hz1 hz2 rfl (by decide) (bw+1) _ k _ (w5.alloc (.cells (flR (fun _=>z) 3).toArray 45)) rfl (L5.out.alloc _) ⟨w5.heap.size,0,none⟩ 3 3 (flR (fun _=>z) 3) rfl (q2w _ _) (q4z _ _ _) (q5C _ _) (by omega) (by decide) (by have:=HN1.out;simp;omega) (by decide) ?_;intro v3 w6 own6 gr6 at6;obtain⟨t1,t2,t3,t4,t5⟩:=q9I HW5.out HF.out L5.out own6 gr6 at6;obtain⟨a3,c3,rfl⟩:=qv t3;have HW6:=zb t1;have HO6:=zb (HO5.out.trans t2);have V36:=zb t3;have L6:=zb (t4 _ k L5.out (by omega));have V16:=zb (t4 _ (k+1) V15.out (by omega));have V26:=zb (t4 _ (k+2) V25.out (by omega));have P3:=zb t5;have hs6:w5.heap.size≤w6.heap.size:=t2.size;clear t1 t2 t3 t4 t5 own6 gr6 at6 LV5 BL3))
   have FR:Hid (∀u:Value,(∀q∈obl u,q∈obl (.slice la k lc)∨wr.heap.size<q)→∀m∈s.MS,∀q∈obl u,q∉q3S m):=zb (fun u hu m hm q hq hfr=>by
    rcases hu q hq with hh|hh
    ·exact((HF.out q hh).2.2 m hm).2 hfr
    ·have:=(HWr.out.mons m hm).froLt q hfr
     omega)
   have PL:Hid (∀q∈obl (.slice la k lc),q∈obl (.slice la k lc)∨wr.heap.size<q):=zb (fun q hq=>.inl hq)
   have P2':Hid (∀q∈obl (.slice a2 (k+2) c2),q∈obl (.slice la k lc)∨wr.heap.size<q):=zb (fun q hq=>(P2.out q hq).elim .inl (fun hh=>.inr (by omega)))
   have P3':Hid (∀q∈obl (.slice a3 (k+3) c3),q∈obl (.slice la k lc)∨wr.heap.size<q):=zb (fun q hq=>(P3.out q hq).elim .inl (fun hh=>.inr (by omega)))
   have H7:=q7G bw _ _ k (fun _=>z) w6 HW6.out L6.out (by omega) (by show s.LS.length≤_;rw[HLL.out];omega) (FR.out _ PL.out)
   refine H7.mono ?_
   rintro e w7 ⟨rfl,T7⟩
   have R17:=zb (T7.keepRow HW6.out V16.out)
   have R27:=zb (T7.keepRow HW6.out V26.out)
   have R37:=zb (T7.keepRow HW6.out V36.out)
   have B7:=zb (T7.below HW6.out)
   obtain⟨cv0,vl0,vw0,K7,f7,o7,_,_⟩:=T7
   have HK7:=zb K7
   have HF7:=zb f7
   have hs7:w6.heap.size≤w7.heap.size:=o7.size
   clear K7 f7 o7 H7
   go_wp2_with fail
   have H8:=q7G bw _ _ (k+1) (fun _=>z) w7 HK7.out R17.out (by omega) (by simp only[List.length_append,List.length_cons,List.length_nil,HLL.out];omega) (FR.out _ P1.out)
   refine H8.mono ?_
   rintro e w8 ⟨rfl,T8⟩
   have R28:=zb (T8.keepRow HK7.out R27.out)
   have R38:=zb (T8.keepRow HK7.out R37.out)
   have B8:=zb (T8.below HK7.out)
   obtain⟨cv1,vl1,vw1,K8,f8,o8,_,_⟩:=T8
   have HK8:=zb K8
   have HF8:=zb f8
   have hs8:w7.heap.size≤w8.heap.size:=o8.size
   clear K8 f8 o8 H8
   go_wp2_with fail
   have H9:=q7G bw _ _ (k+2) (fun _=>z) w8 HK8.out R28.out (by omega) (by simp only[List.length_append,List.length_cons,List.length_nil,HLL.out];omega) (FR.out _ P2'.out)
   refine H9.mono ?_
   rintro e w9 ⟨rfl,T9⟩
   have R39:=zb (T9.keepRow HK8.out R38.out)
   have B9:=zb (T9.below HK8.out)
   obtain⟨cv2,vl2,vw2,K9,f9,o9,_,_⟩:=T9
   have HK9:=zb K9
   have HF9:=zb f9
   have hs9:w8.heap.size≤w9.heap.size:=o9.size
   clear K9 f9 o9 H9
   go_wp2_with fail
   have H10:=q7G bw _ _ (k+3) (fun _=>z) w9 HK9.out R39.out (by omega) (by simp only[List.length_append,List.length_cons,List.length_nil,HLL.out];omega) (FR.out _ P3'.out)
   refine H10.mono ?_
   rintro e w10 ⟨rfl,T10⟩
   have B10:=zb (T10.below HK9.out)
   obtain⟨cv3,vl3,vw3,K10,f10,o10,_,_⟩:=T10
   have HK10:=zb K10
   have HF10:=zb f10
   clear K10 f10 o10 H10
   go_wp2_with fail
   have LE:Hid (∀i,i<s.LS.length→(∀q∈obl (lg s.LS i).v,q∈q3h s)∧∀q∈obl (lg s.LS i).cv,q∈q3h s):=zb (fun i hi=>⟨fun q hq=>HW1.out.all.2.2.2.2.1 _ (q8y hi) q hq,fun q hq=>HW1.out.all.2.2.2.2.2 _ (q8y hi) q hq⟩)
   have OLD:Hid (∀q∈q3h s,q<wr.heap.size):=zb (fun q hq=>by have:=HW1.out.ownLt q (.inr hq);omega)
   have B6:Below bw w w6:=HB3.out.trans (HO6.out.below (by omega) (fun q hq=>by have:=(zw HYS.out q hq).1;omega))
   have GR:=keep_grp (n:=k) (f:=fun _=>z) (c0:=cv0) (c1:=cv1) (c2:=cv2) (c3:=cv3) (A:=wr.heap.size) (w6:=w6.heap.size) (w7:=w7.heap.size) (w8:=w8.heap.size) (w9:=w9.heap.size) HG.out (fun i hi=>⟨fun q hq=>OLD.out q ((LE.out i hi).1 q hq),fun q hq=>OLD.out q ((LE.out i hi).2 q hq)⟩) (l:=.slice la k lc) (fun q hq i hi=>⟨fun hh=>(HF.out q hq).2.1 ((LE.out i hi).1 q hh),fun hh=>(HF.out q hq).2.1 ((LE.out i hi).2 q hh)⟩)
    (v1:=.slice a1 (k+1) c1) (v2:=.slice a2 (k+2) c2) (v3:=.slice a3 (k+3) c3) (fun q hq=>(P1.out q hq).elim .inl (fun hh=>.inr (by omega))) (fun q hq=>(P2'.out q hq).elim .inl (fun hh=>.inr (by omega))) (fun q hq=>(P3'.out q hq).elim .inl (fun hh=>.inr (by omega)))
    (fun q hq=>(by obtain⟨_,cs,e⟩:=zw L6.out q hq;exact zd e)) (fun q hq=>(by obtain⟨_,cs,e⟩:=zw V16.out q hq;exact zd e)) (fun q hq=>(by obtain⟨_,cs,e⟩:=zw V26.out q hq;exact zd e)) (fun q hq=>(by obtain⟨_,cs,e⟩:=zw V36.out q hq;exact zd e)) (by omega) hs7 hs8 hs9
    (fun q hq=>⟨HF7.out q hq,(by obtain⟨_,cs,e⟩:=zw (HK7.out.cop _ (List.mem_append_right _ (List.mem_singleton.2 rfl))) q hq;exact zd e)⟩) (fun q hq=>⟨HF8.out q hq,(by obtain⟨_,cs,e⟩:=zw (HK8.out.cop _ (List.mem_append_right _ (List.mem_singleton.2 rfl))) q hq;exact zd e)⟩) (fun q hq=>⟨HF9.out q hq,(by obtain⟨_,cs,e⟩:=zw (HK9.out.cop _ (List.mem_append_right _ (List.mem_singleton.2 rfl))) q hq;exact zd e)⟩) (fun q hq=>HF10.out q hq)
   go_end0
   refine⟨rfl,_,HK10.out,?_,rfl,?_,rfl,B6.trans (B7.out.trans (B8.out.trans (B9.out.trans B10.out)))⟩
   ·simp only[List.append_assoc,List.cons_append,List.nil_append]
    exact GR
   ·simp only[List.length_append,List.length_cons,List.length_nil,HLL.out]
def q1M (w w':World)(bw:Nat)(s:St):Prop:=∃s',Wld w' bw s'∧Grp s'.LS∧s'.MS.length≤s.MS.length+1∧s.MS.length≤s'.MS.length∧s'.LS.length≤s.LS.length+4∧s'.mc≤s.mc+1∧Below bw w w'
theorem q1M.same {w w':World}{bw:Nat}{s:St}(h:Wld w bw s)(hg:Grp s.LS)(hb:Below w.heap.size w w'):q1M w w' bw s:=
 ⟨s,h.below hb,hg,by omega,by omega,by omega,by omega,hb.mono (by have:=h.lt;omega)⟩
theorem Wld.mon {w:World}{bw:Nat}{s:St}(h:Wld w bw s){i:Nat}(hi:i<s.MS.length):∃m gx kx gy ky,s.MS[i]?=some m∧s.vx=.slice (some ⟨gx,0,none⟩) s.MS.length kx∧s.vy=.slice (some ⟨gy,0,none⟩) s.MS.length ky∧w.cell? ⟨gx,i,none⟩=some (.pointer (some ⟨m.b,0,none⟩))∧w.cell? ⟨gy,i,none⟩=some (.pointer (some ⟨m.d,0,none⟩))∧gx<w.heap.size∧gy<w.heap.size∧s.MS.length≤kx∧kx≤maxLen∧s.MS.length≤ky∧ky≤maxLen:=by
 obtain⟨gx,kx,ex⟩:=zJ h.xs (by omega)
 obtain⟨gy,ky,ey⟩:=zJ h.ys (by omega)
 have hx:=h.xs
 have hy:=h.ys
 rw[ex]at hx
 rw[ey]at hy
 obtain⟨_,ax,bx,cx,_⟩:=q1O hx
 obtain⟨_,ay,by',cy,_⟩:=q1O hy
 refine⟨s.MS[i],gx,kx,gy,ky,zG hi,ex,ey,?_,?_,zd ax,zd ay,bx,cx,by',cy⟩
 ·rw[hx.cellAt i (by omega)]
  simp[hi]
 ·rw[hy.cellAt i (by omega)]
  simp[hi]
theorem j6u {w w':World}{b gn cn:Nat}{ao:OA}{F:zl}{L:List LPt}{told:Nat}{ended:Bool}{s:By}{t':Nat}{e':Bool}(h:q4E w w' b gn cn ao F (q3g L ended s) t' e'):(q5a F L told ended s).length≤1000:=by
 obtain⟨ao',cap',PL',q1,q2,_⟩:=h
 have h40:=q1.log.small
 have hl:(q3g L ended s).length=PL'.length:=by rw[←q2];simp
 unfold q5a
 split
 ·rw[q1R]
  have:=q8d (q3g L ended s) (qj F).reach
  omega
 ·simp
theorem endV_len {w w':World}{b gn cn:Nat}{ao:OA}{F:zl}{L:List LPt}{told:Nat}{ended:Bool}{t':Nat}{e':Bool}(h:q4E w w' b gn cn ao F L t' e'):(endV F L told ended).length≤1000:=by
 obtain⟨ao',cap',PL',q1,q2,_⟩:=h
 have h40:=q1.log.small
 have hl:L.length=PL'.length:=by rw[←q2];simp
 unfold endV
 split
 ·simp
 ·rw[q1R]
  omega
theorem j1n {w w1 w2:World}{bw:Nat}{s:St}{i:Nat}{m:Mo}{L:List LPt}{told:Nat}{ended:Bool}{l:Value}{n:Nat}{xs:List Value}(h:Wld w bw s)(hm:s.MS[i]?=some m)(h1:q4E w w1 m.b m.gn m.cn m.ao m.F L told ended)(h2:q4f w1 w2 m.d m.fv m.u m.F m.la m.DL L told ended)(hl:w1.ownsRow w.heap.size 45 12 l n xs) :
  ∃m',Wld w2 bw {s with MS:=s.MS.set i m'}∧w2.ownsRow (bw+1) 45 12 l n xs∧FreeL bw {s with MS:=s.MS.set i m'} (obl l)∧Below bw w w2:=by
 have hmem:m∈s.MS:=zI hm
 have hmo:=h.mons m hmem
 obtain⟨m',t,tf⟩:=mo_both hmo (fun k hk hh=>h.sep m hmem m hmem k hh hk) h1 h2
 have hW:=h.turned hm t
 have hlt:=h.lt
 have hl2:w2.ownsRow (bw+1) 45 12 l n xs:=by
  obtain⟨_,_,_,_,_,_,ho,_⟩:=h2
  refine j0k (show bw+1≤w.heap.size by omega) (qn hl ho (fun k hk hh=>?_))
  have:=(hmo.dis k hh).1
  have:=(zw hl k hk).1
  omega
 have hl1:∀k∈obl l,w.heap.size≤k∧k<w1.heap.size:=fun k hk=>by
  obtain⟨q1,cs,q2⟩:=zw hl k hk
  exact⟨q1,zd q2⟩
 have hlen:i<s.MS.length:=(List.getElem?_eq_some_iff.1 hm).1
 refine⟨m',hW,hl2,fun k hk=>⟨fun hh=>?_,fun hh=>?_,fun x hx=>⟨fun hh=>?_,fun hh=>?_⟩⟩,?_⟩
 ·have:=h.ownLt k (.inl hh);have:=(hl1 k hk).1;omega
 ·have:=h.ownLt k (.inr hh);have:=(hl1 k hk).1;omega
 ·obtain⟨cs,ty,e,ht⟩:=(hW.mons x hx).mut k hh
  obtain⟨_,cs',e'⟩:=zw hl2 k hk
  rw[e]at e'
  simp only[Option.some.injEq,Obj.cells.injEq,and_true]at e'
  obtain⟨_,rfl⟩:=e'
  revert ht
  decide
 ·have hx':x=m'∨x∈s.MS:=by
   obtain⟨j,hj⟩:=List.getElem?_of_mem hx
   simp only[]at hj
   rw[List.getElem?_set]at hj
   split at hj
   ·first|(rw[if_pos hlen]at hj;exact .inl (by simpa using hj.symm))|exact .inl (by simpa using hj.symm)
   ·exact .inr (zI hj)
  have hk1:=hl1 k hk
  rcases hx' with rfl|hx'
  ·rcases tf k hh with hf|hf
   ·have:=hmo.froLt k hf;omega
   ·omega
  ·have:=(h.mons x hx').froLt k hh;omega
 ·exact t.only.below (by omega) (fun k hk=>by have:=h.hi m hmem k hk;omega)
theorem q9Y (va vb:Value)(n base base':Nat)(xs:List Value)(hxs:∃P S R,xs=vcR P S R n)(w:World)(ha:w.ownsRow base 45 12 va n xs)(hb:w.ownsRow base' 45 12 vb n xs) :
  Calls Tryz.prog 44 #[va,vb] w fun e w'=>e=.returned (.bool true)∧Below w.heap.size w w':=by
 obtain⟨P,S,R,rfl⟩:=hxs
 by_cases h0:n=0
 ·subst h0
  obtain⟨a,c,rfl⟩:=qv ha
  obtain⟨a',c',rfl⟩:=qv hb
  exact j3G a a' c c' w
 ·obtain⟨g,c,rfl⟩:=zJ ha (by omega)
  obtain⟨g',c',rfl⟩:=zJ hb (by omega)
  exact j3H g g' c c' n base base' P S R w ha hb
theorem law_fed (bw:Nat)(s:St)(i:Nat)(hi:i<s.MS.length)(line:By)(hs64:line.length≤maxLen)(w:World)(h:Wld w bw s)(hg:Grp s.LS)(hL:s.LS.length≤10000000)(hmk:s.mc≤10000000) :
  Calls Tryz.prog 42 #[.pointer (some ⟨bw,0,none⟩),.int .i64 i,bs line] w fun e w'=>e=.returned (.bool true)∧q1M w w' bw s:=by
 obtain⟨m,gx,kx,gy,ky,hm,ex,ey,cx,cy,lx,ly,x1,x2,y1,y2⟩:=h.mon hi
 have hmem:m∈s.MS:=zI hm
 have hmo:=h.mons m hmem
 have hsep:=fun k hk hh=>h.sep m hmem m hmem k hh hk
 have c0:w.cell? ⟨bw,0,none⟩=some s.vx:=zC _ _ 0 _ _ _ h.blk
 have c1:w.cell? ⟨bw,1,none⟩=some s.vy:=zC _ _ 1 _ _ _ h.blk
 rw[ex]at c0
 rw[ey]at c1
 obtain⟨fe,hfe⟩:∃fe,fe=q1a (zA m.PL) m.ended line:=⟨_,rfl⟩
 obtain⟨VV,hVV⟩:∃VV,VV=q5a m.F (zA m.PL) m.told m.ended line:=⟨_,rfl⟩
 obtain⟨FL,hFL⟩:∃FL,FL=q3g (zA m.PL) m.ended line:=⟨_,rfl⟩
 obtain⟨FN,hFN⟩:∃FN,FN=q7u m.F (zA m.PL) m.told m.ended line:=⟨_,rfl⟩
 have HF1:Hid (Calls Tryz.prog 10 #[.pointer (some ⟨m.b,0,none⟩),bs line] w fun e w'=>∃v,e=.returned (.tuple #[v,.int .i64 fe.1,.int .i64 fe.2])∧w'.ownsRow w.heap.size 45 12 v VV.length (zy VV)∧q4E w w' m.b m.gn m.cn m.ao m.F FL FN m.ended):=zb (by subst hfe hVV hFL hFN;exact vig_Feed m.b m.gn m.cn m.ao m.cap m.F hmo.good m.PL m.told m.ended line hs64 w hmo.mon)
 have HF2:Hid (∀w1,OnlyB (m.b::zQ m.ao) w w1→Calls Tryz.prog 59 #[.pointer (some ⟨m.d,0,none⟩),bs line] w1 fun e w'=>∃v,e=.returned (.tuple #[v,.int .i64 fe.1,.int .i64 fe.2])∧w'.ownsRow w1.heap.size 45 12 v VV.length (zy VV)∧q4f w1 w' m.d m.fv m.u m.F m.la m.DL FL FN m.ended):=zb (fun w1 ho=>by rw[hmo.same]at hfe hVV hFL hFN;subst hfe hVV hFL hFN;exact ref_Feed m.d m.fv m.u m.F m.la m.lc m.DL m.told m.ended line hs64 w1 (hmo.doc1 hsep ho) hmo.sep)
 have HLN:Hid (∀w',q4E w w' m.b m.gn m.cn m.ao m.F FL FN m.ended→VV.length≤1000):=zb (fun w' ht=>by subst hVV hFL;exact j6u ht)
 have hin:∀k∈m.b::zQ m.ao,k∈q1d m:=fun k hk=>by
  rcases List.mem_cons.1 hk with rfl|hk
  ·simp[q1d]
  ·simp[q1d,hk]
 have nb:bw∉m.b::zQ m.ao:=fun hh=>(h.mut m hmem bw (hin _ hh)).1 (by simp[q1D])
 have ngy:gy∉m.b::zQ m.ao:=fun hh=>(h.mut m hmem gy (hin _ hh)).1 (h.all.2.1 gy (by rw[ey];simp[obl,Value.ownBlock]))
 have hlt:=h.lt
 have hbw:=q3U x1 x2
 have hby:=q3U y1 y2
 have H:=zb h
 have HG:=zb hg
 have HM:=zb hm
 have HNB:=zb nb
 have HNG:=zb ngy
 have HLL:=zb hL
 have HMK:=zb hmk
 have hiz:i<s.MS.length:=hi
 generalize hml:s.MS.length=ml at *
 have HML:=zb hml
 clear h hg hm hmo hsep hin nb ngy hL hmk ex ey x2 y2 hfe hVV hFL hFN hml hmem hi
 go_enter Tryz.func42,Tryz.ntmps42
 go_wp2_with fail
 refine HF1.out.mono ?_
 rintro e w1 ⟨v,rfl,hown,hto⟩
 have ho:OnlyB (m.b::zQ m.ao) w w1:=by obtain⟨_,_,_,_,_,q,_⟩:=hto;exact q
 have d1:=(ho.cell hlt HNB.out).trans c1
 have dy:=(ho.cell ly HNG.out).trans cy
 have hs1:=ho.size
 obtain⟨va,vc,rfl⟩:=qv hown
 have HR2:=zb (HF2.out _ ho)
 have HO1:=zb hown
 have HT1:=zb hto
 clear ho hown hto c0 c1 cx cy HF1 HF2
 go_wp2_with fail
 refine HR2.out.mono ?_
 rintro e w2 ⟨v2,rfl,hown2,hto2⟩
 obtain⟨m',KW,hl2,hfree,hbel⟩:=j1n H.out HM.out HT1.out hto2 HO1.out
 obtain⟨va2,vc2,rfl⟩:=qv hown2
 have hlen:=HLN.out _ HT1.out
 have SV:=zb (q9Y _ _ VV.length _ _ (zy VV) (ver_vc VV) w2 hl2 hown2)
 have HKW:=zb KW
 have HL2:=zb hl2
 have HFR:=zb hfree
 have HBE:=zb hbel
 clear KW hl2 hfree hbel hown2 hto2 d1 dy HR2 HLN
 generalize hvl:VV.length=vl at *
 go_wp2_with fail
 refine SV.out.mono ?_
 rintro e w3 ⟨rfl,b3⟩
 have KP:=zb (j3E bw _ _ vl (zy VV) w3 (HKW.out.below b3) HG.out (zh HL2.out b3) HFR.out hlen HLL.out HMK.out)
 have HB3:=zb b3
 clear b3 SV
 go_wp2_with fail
 refine KP.out.mono ?_
 rintro e w4 ⟨rfl,s',k1,k2,k3,k4,k5,k6⟩
 have HK1:=zb k1
 clear k1 KP
 go_wp2_with fail
 go_ret
 have hs2:=HKW.out.lt
 refine⟨rfl,s',HK1.out,k2,?_,?_,by rw[k4];exact zL _,by rw[k5];exact zL _,HBE.out.trans ((HB3.out.mono (by omega)).trans k6)⟩
 ·rw[k3];simp
 ·rw[k3];simp
end Go.Proofs.YtiamjjonoeaggabGreatDoor
