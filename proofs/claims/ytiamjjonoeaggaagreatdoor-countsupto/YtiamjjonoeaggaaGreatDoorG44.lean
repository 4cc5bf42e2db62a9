import Derived.Test.YtiamjjonoeaggaaGreatDoorGA
import Derived.Test.YtiamjjonoeaggaaGreatDoorGB
import Derived.Test.YtiamjjonoeaggaaGreatDoorG27
import Derived.Test.YtiamjjonoeaggaaGreatDoorG33
import Derived.Test.YtiamjjonoeaggaaGreatDoorG42
import Derived.Test.YtiamjjonoeaggaaGreatDoorG43
set_option maxRecDepth 100000
set_option maxHeartbeats 16000000
namespace Go.Proofs.YtiamjjonoeaggaaGreatDoor
open Go.RowKit
theorem j2Z {s:By}(h:(qh s).1=0):FormGood (q0a s)∧qz (q0a s) (q0u s).1∧q3d (q0a s)=true∧q2G s=qj (q0a s):=by
 obtain⟨h0,ha⟩:=q9M h
 have hrd:=q6G h0
 have hg:q3t (q0u s).1:=q4m s
 have h240:¬240<s.length:=by
  intro hl
  unfold q0W at h0
  rw[if_pos hl]at h0
  simp at h0
 have hll:=j2q s
 have hsz:=j0S _ _ hrd
 rw[qN]at hsz
 refine⟨⟨j0t _ _ hrd hg,q1z hrd,by omega⟩,hrd,ha,?_⟩
 have hgd:=q9L h0
 have e1:q2G s=(q3l (q0a s)).1:=by rw[hgd]
 have e2:(q3l (q0a s)).2.1=0:=by rw[hgd];exact h
 rw[e1]
 unfold q3l at e2 ⊢
 by_cases hf:(q0x (q0a s)).1=0
 ·rw[if_pos hf]
 ·rw[if_neg hf]at e2
  exact absurd e2 hf
theorem mo_new {w w1 w2:World}{s:By}{b d:Nat}{nv:Value}{a:OA}{n c:Nat}(h:(qh s).1=0)(hw1:Below w.heap.size w w1)(hw2:Below w1.heap.size w1 w2)(hb:w.heap.size≤b)
  (e1:w1.heap[b]?=some (.cells (j0b nv (q2G s).x (q2G s).y (q2G s).reach (.slice none 0 0) 0 false) 89 (0,0)))(e2:w1.ownsRow w.heap.size 168 22 nv (zq (q0a s)) (qw (qK (q0a s) 0)))
  (hd:w1.heap.size≤d)(e3:w2.heap[d]?=some (.cells #[.slice a n c,.slice none 0 0,.int .i64 0,.bool false] 152 (0,0)))(e4:qB w2 (.agg #[.slice a n c]) (q0u s).1)(e5:∀k∈(Value.slice a n c).ownBlock.toList,w1.heap.size≤k∧k≠d) :
  ∃m:Mo,MoAt w2 m∧m.b=b∧m.d=d∧(∀k∈q1d m,w.heap.size≤k∧k<w2.heap.size)∧(∀k∈q3S m,w.heap.size≤k∧k<w2.heap.size)∧∀k∈q1d m,k∉q3S m:=by
 obtain⟨g1,g2,g3,g4⟩:=j2Z h
 have hpos:0<zq (q0a s):=(q3c g1.nn).2
 obtain⟨gn,cn,rfl⟩:=zJ e2 hpos
 have hbl:b<w1.heap.size:=zd e1
 have e1':=(hw2.block b hbl).trans e1
 rw[g4]at e1'
 have hm:MoAt w2 ⟨b,gn,cn,none,0,q0a s,[],0,false,d,.slice a n c,(q0u s).1,none,0,[]⟩:=by
  refine⟨g1,⟨e1',j0k (zZ _) (zh e2 hw2),?_,fun p hp=>by simp at hp,zL _⟩,⟨e3,e4,g2,q4m s,lex_lets s,g3,⟨zW _ _ _ _,by simp,by intro i hi;simp at hi⟩,fun i hi=>by simp at hi,?_,zL _⟩,?_,rfl⟩
  ·refine⟨?_,zd e1',zW _ _ _ _,by simp,by intro p hp;simp at hp⟩
   rw[zC _ _ 4 _ _ _ e1']
   rfl
  ·exact LogOk.nil
  ·intro k hk
   simp only[q5c,List.flatMap_nil,List.append_nil]at hk
   have:=e5 k hk
   simp[zQ]
   exact this.2
 refine⟨_,hm,rfl,rfl,fun k hk=>⟨?_,hm.mutLt k hk⟩,fun k hk=>⟨?_,hm.froLt k hk⟩,fun k hk hf=>?_⟩
 ·simp[q1d,zQ]at hk
  have:=hw1.size
  rcases hk with rfl|rfl<;>omega
 ·simp only[q3S,q5c,List.flatMap_nil,List.append_nil]at hk
  have:=(e5 k hk).1
  have:=hw1.size
  omega
 ·simp only[q3S,q5c,List.flatMap_nil,List.append_nil]at hf
  have:=(e5 k hf)
  simp[q1d,zQ]at hk
  rcases hk with rfl|rfl
  ·omega
  ·exact this.2 rfl
theorem j5d {w w2 w3 w4:World}{bw g3 k3 g4 k4:Nat}{s:St}{m:Mo}{ob ob':Obj}(h0:Wld w bw s)(hb:Below w.heap.size w w2)(hm:MoAt w2 m)(hf1:∀k∈q1d m,w.heap.size≤k∧k<w2.heap.size)(hf2:∀k∈q3S m,w.heap.size≤k∧k<w2.heap.size)(hf3:∀k∈q1d m,k∉q3S m)
  (own3:w3.ownsRow (bw+1) 33 1 (.slice (some ⟨g3,0,none⟩) (s.MS.length+1) k3) (s.MS.length+1) (s.MS.map (fun m=>Value.pointer (some ⟨m.b,0,none⟩))++[.pointer (some ⟨m.b,0,none⟩)]))(gr3:(w2.alloc ob).grownBy w3 s.vx.ownBlock)(at3:some g3=s.vx.ownBlock∨some g3=some (w2.alloc ob).heap.size)
  (own4:w4.ownsRow (bw+1) 142 1 (.slice (some ⟨g4,0,none⟩) (s.MS.length+1) k4) (s.MS.length+1) (s.MS.map (fun m=>Value.pointer (some ⟨m.d,0,none⟩))++[.pointer (some ⟨m.d,0,none⟩)]))(gr4:((w3.setCell ⟨bw,0,none⟩ (.slice (some ⟨g3,0,none⟩) (s.MS.length+1) k3)).alloc ob').grownBy w4 s.vy.ownBlock)(at4:some g4=s.vy.ownBlock∨some g4=some ((w3.setCell ⟨bw,0,none⟩ (.slice (some ⟨g3,0,none⟩) (s.MS.length+1) k3)).alloc ob').heap.size) :
  Wld (w4.setCell ⟨bw,1,none⟩ (.slice (some ⟨g4,0,none⟩) (s.MS.length+1) k4)) bw {s with vx:=.slice (some ⟨g3,0,none⟩) (s.MS.length+1) k3,vy:=.slice (some ⟨g4,0,none⟩) (s.MS.length+1) k4,MS:=s.MS++[m]}∧Below bw w2 (w4.setCell ⟨bw,1,none⟩ (.slice (some ⟨g4,0,none⟩) (s.MS.length+1) k4))∧w4.cell? ⟨bw,1,none⟩=some s.vy∧w4.frozen? ⟨bw,1,none⟩=false:=by
 have h:=h0.below hb
 obtain⟨a1,a2,a3,a4,a5,a6⟩:=h.all
 have hl:=h.lt
 have hl0:=h0.lt
 have hw:=hb.size
 have kx:∀k∈obl s.vx,bw<k∧∃cs,w2.heap[k]?=some (.cells cs 33 (0,0)):=fun k hk=>by obtain⟨q1,q2⟩:=zw h.xs k hk;exact⟨by omega,q2⟩
 have ky:∀k∈obl s.vy,bw<k∧∃cs,w2.heap[k]?=some (.cells cs 142 (0,0)):=fun k hk=>by obtain⟨q1,q2⟩:=zw h.ys k hk;exact⟨by omega,q2⟩
 obtain⟨W3,hW3⟩:∃W3,W3=w3.setCell ⟨bw,0,none⟩ (.slice (some ⟨g3,0,none⟩) (s.MS.length+1) k3):=⟨_,rfl⟩
 rw[←hW3]at gr4 at4
 have o3:OnlyB (obl s.vx) w2 w3:=(OnlyB.nw _ w2 ob).trans (q2V gr3)
 have e3:=(o3.block bw hl (fun hh=>by have:=(kx bw hh).1;omega)).trans h.blk
 have E3:=zH w3 bw 0 _ _ (.slice (some ⟨g3,0,none⟩) (s.MS.length+1) k3) e3
 rw[←hW3]at E3
 have O3:OnlyB (bw::(obl s.vx++obl s.vy)) w2 W3:=by rw[hW3];exact(o3.wide (fun k hk=>by simp[hk])).setCell (by simp) _
 have o4:OnlyB (obl s.vy) W3 w4:=(OnlyB.nw _ W3 ob').trans (q2V gr4)
 have hl3:bw<W3.heap.size:=zd E3
 have e4:=(o4.block bw hl3 (fun hh=>by have:=(ky bw hh).1;omega)).trans E3
 have E4:=zH w4 bw 1 _ _ (.slice (some ⟨g4,0,none⟩) (s.MS.length+1) k4) e4
 have O4:OnlyB (bw::(obl s.vx++obl s.vy)) w2 w4:=O3.trans (o4.wide (fun k hk=>by simp[hk]))
 obtain⟨W5,hW5⟩:∃W5,W5=w4.setCell ⟨bw,1,none⟩ (.slice (some ⟨g4,0,none⟩) (s.MS.length+1) k4):=⟨_,rfl⟩
 rw[←hW5]at E4 ⊢
 have O5:OnlyB (bw::(obl s.vx++obl s.vy)) w2 W5:=by rw[hW5];exact O4.setCell (by simp) _
 have hin:∀k∈bw::(obl s.vx++obl s.vy),k∈q1D bw s:=fun k hk=>by
  simp only[List.mem_cons,List.mem_append]at hk
  rcases hk with rfl|hk|hk
  ·simp[q1D]
  ·exact a1 k hk
  ·exact a2 k hk
 have kb:∀k∈bw::(obl s.vx++obl s.vy),k<w.heap.size:=fun k hk=>h0.ownLt k (.inl (hin k hk))
 have kg:q4R (bw::(obl s.vx++obl s.vy)) w2:=h.kindsG (fun k hk=>.inl (hin k hk))
 have noR:∀{base e size v n xs},w2.ownsRow base e size v n xs→e≠108→e≠33→e≠142→∀k∈obl v,k∉bw::(obl s.vx++obl s.vy):=by
  intro base e size v n xs hr n1 n2 n3 k hk hh
  obtain⟨_,cs,q⟩:=zw hr k hk
  have fin:∀{cs' t'},w2.heap[k]?=some (.cells cs' t' (0,0))→e=t':=fun q'=>by
   rw[q]at q'
   simp only[Option.some.injEq,Obj.cells.injEq,and_true]at q'
   exact q'.2
  simp only[List.mem_cons,List.mem_append]at hh
  rcases hh with rfl|hh|hh
  ·exact n1 (fin h.blk)
  ·obtain⟨_,cs',q'⟩:=kx k hh;exact n2 (fin q')
  ·obtain⟨_,cs',q'⟩:=ky k hh;exact n3 (fin q')
 have p3:g3∈obl s.vx∨w2.heap.size<g3:=by
  rcases at3 with e|e
  ·exact .inl (q1w.2 e.symm)
  ·right;simp at e;omega
 have hsz3:w2.heap.size≤W3.heap.size:=O3.size
 have p4:g4∈obl s.vy∨w2.heap.size<g4:=by
  rcases at4 with e|e
  ·exact .inl (q1w.2 e.symm)
  ·right;simp at e;omega
 have hown:∀k,k∈q1D bw {s with vx:=.slice (some ⟨g3,0,none⟩) (s.MS.length+1) k3,vy:=.slice (some ⟨g4,0,none⟩) (s.MS.length+1) k4,MS:=s.MS++[m]}→k∈q1D bw s∨w2.heap.size<k:=by
  intro k hk
  simp only[q1D,List.mem_cons,List.mem_append]at hk
  rcases hk with rfl|hk|hk|hk|hk
  ·exact .inl (by simp[q1D])
  ·have:k=g3:=by simpa[obl,Value.ownBlock]using hk
   subst this
   rcases p3 with p3|p3
   ·exact .inl (a1 _ p3)
   ·exact .inr p3
  ·have:k=g4:=by simpa[obl,Value.ownBlock]using hk
   subst this
   rcases p4 with p4|p4
   ·exact .inl (a2 _ p4)
   ·exact .inr p4
  ·exact .inl (a3 _ hk)
  ·exact .inl (a4 _ hk)
 have ox3:W3.ownsRow (bw+1) 33 1 (.slice (some ⟨g3,0,none⟩) (s.MS.length+1) k3) (s.MS.length+1) (s.MS.map (fun m=>Value.pointer (some ⟨m.b,0,none⟩))++[.pointer (some ⟨m.b,0,none⟩)]):=by rw[hW3];exact ownsRow_setCell_below own3 (by simp) _
 have oyW:W3.ownsRow (bw+1) 142 1 s.vy s.MS.length (s.MS.map fun m=>.pointer (some ⟨m.d,0,none⟩)):=qn h.ys (bl:=bw::obl s.vx) (by rw[hW3];exact(o3.wide (fun k hk=>by simp[hk])).setCell (by simp) _) (fun k hk hh=>by
  obtain⟨hk1,cs,q⟩:=ky k hk
  rcases List.mem_cons.1 hh with rfl|hh
  ·omega
  ·obtain⟨_,cs',q'⟩:=kx k hh
   rw[q]at q'
   simp at q')
 have ox4:w4.ownsRow (bw+1) 33 1 (.slice (some ⟨g3,0,none⟩) (s.MS.length+1) k3) (s.MS.length+1) (s.MS.map (fun m=>Value.pointer (some ⟨m.b,0,none⟩))++[.pointer (some ⟨m.b,0,none⟩)]):=qn ox3 o4 (fun k hk hh=>by
  obtain⟨_,cs,q⟩:=zw ox3 k hk
  obtain⟨_,cs',q'⟩:=zw oyW k hh
  rw[q]at q'
  simp at q')
 have hms:∀x∈s.MS++[m],x∈s.MS∨x=m:=fun x hx=>by simpa using hx
 refine⟨⟨E4,?_,?_,qn h.ls O5 (noR h.ls (by decide) (by decide) (by decide)),qn h.lw O5 (noR h.lw (by decide) (by decide) (by decide)),h.two,fun x hx=>?_,fun e he=>qn (h.row e he) O5 (noR (h.row e he) (by decide) (by decide) (by decide)),fun e he=>qn (h.cop e he) O5 (noR (h.cop e he) (by decide) (by decide) (by decide)),fun x hx k hk=>?_,fun x hx k hk=>?_,fun x hx y hy k hk hk2=>?_,fun i j x y hx hy hij k hk hk2=>?_⟩,?_,?_,?_⟩
 ·show W5.ownsRow _ _ _ _ (s.MS++[m]).length ((s.MS++[m]).map _)
  rw[List.map_append,List.length_append,hW5]
  exact ownsRow_setCell_below ox4 (by simp) _
 ·show W5.ownsRow _ _ _ _ (s.MS++[m]).length ((s.MS++[m]).map _)
  rw[List.map_append,List.length_append,hW5]
  exact ownsRow_setCell_below own4 (by simp) _
 ·rcases hms x hx with hx|rfl
  ·exact(h.mons x hx).keep O5 kg (fun k hk hh=>(h.mut x hx k hk).1 (hin k hh)) (fun k hk hh=>(h.fro x hx k hk).1 (hin k hh))
  ·exact hm.keep O5 kg (fun k hk hh=>by have:=kb k hh;have:=(hf1 k hk).1;omega) (fun k hk hh=>by have:=kb k hh;have:=(hf2 k hk).1;omega)
 ·rcases hms x hx with hx|rfl
  ·exact h.hi x hx k hk
  ·have:=(hf1 k hk).1;omega
 ·refine⟨fun hh=>?_,?_⟩
  ·rcases hms x hx with hx|rfl
   ·rcases hown k hh with hh|hh
    ·exact(h.fro x hx k hk).1 hh
    ·have:=(h.mons x hx).froLt k hk;omega
   ·rcases hown k hh with hh|hh
    ·have:=h0.ownLt k (.inl hh);have:=(hf2 k hk).1;omega
    ·have:=(hf2 k hk).2;omega
  ·rcases hms x hx with hx|rfl
   ·exact(h.fro x hx k hk).2
   ·intro hh
    have:=h0.ownLt k (.inr hh);have:=(hf2 k hk).1;omega
 ·rcases hms x hx with hx1|hx1<;>rcases hms y hy with hy1|hy1
  ·exact h.sep x hx1 y hy1 k hk hk2
  ·subst hy1;have:=(h0.mons x hx1).mutLt k hk;have:=(hf2 k hk2).1;omega
  ·subst hx1;have:=(h0.mons y hy1).froLt k hk2;have:=(hf1 k hk).1;omega
  ·subst hx1;subst hy1;exact hf3 k hk hk2
 ·have cs:∀i x,(s.MS++[m])[i]?=some x→s.MS[i]?=some x∨(x=m∧i=s.MS.length):=by
   intro i x hx
   rcases Nat.lt_or_ge i s.MS.length with hh|hh
   ·left;rwa [List.getElem?_append_left hh]at hx
   ·right
    rw[List.getElem?_append_right hh]at hx
    have:=(List.getElem?_eq_some_iff.1 hx).1
    simp at this
    have hi:i=s.MS.length:=by omega
    subst hi
    simp at hx
    exact⟨hx.symm,rfl⟩
  rcases cs i x hx with hx1|⟨hx1,hx2⟩<;>rcases cs j y hy with hy1|⟨hy1,hy2⟩
  ·exact h.apart i j x y hx1 hy1 hij k hk hk2
  ·subst hy1
   have:=(h0.mons x (zI hx1)).mutLt k hk;have:=(hf1 k hk2).1;omega
  ·subst hx1
   have:=(h0.mons y (zI hy1)).mutLt k hk2;have:=(hf1 k hk).1;omega
  ·omega
 ·exact O5.below (by omega) (fun k hk=>(h.kinds k (.inl (hin k hk))).1)
 ·rw[zC _ _ 1 _ _ _ e4]
  rfl
 ·exact zF _ _ _ _ _ e4
theorem j6F {w w1 w3 w4:World}{bw g3 k3 g4 k4:Nat}{s:St}{v cv:Value}{n:Nat}{f:Nat→Int}{ob ob':Obj}(h0:Wld w bw s)(hb:Below w.heap.size w w1)(hv:w.ownsRow (bw+1) 49 12 v n (flR f n))(hcv:w1.ownsRow (bw+1) 49 12 cv n (flR f n))(hcf:∀k∈obl cv,w.heap.size≤k)(hfr:∀m∈s.MS,∀k∈obl v,k∉q3S m)
  (own3:w3.ownsRow (bw+1) 38 1 (.slice (some ⟨g3,0,none⟩) (s.LS.length+1) k3) (s.LS.length+1) (s.LS.map (fun e=>e.v)++[v]))(gr3:(w1.alloc ob).grownBy w3 s.vl.ownBlock)(at3:some g3=s.vl.ownBlock∨some g3=some (w1.alloc ob).heap.size)
  (own4:w4.ownsRow (bw+1) 38 1 (.slice (some ⟨g4,0,none⟩) (s.LS.length+1) k4) (s.LS.length+1) (s.LS.map (fun e=>e.cv)++[cv]))(gr4:((w3.setCell ⟨bw,2,none⟩ (.slice (some ⟨g3,0,none⟩) (s.LS.length+1) k3)).alloc ob').grownBy w4 s.vw.ownBlock)(at4:some g4=s.vw.ownBlock∨some g4=some ((w3.setCell ⟨bw,2,none⟩ (.slice (some ⟨g3,0,none⟩) (s.LS.length+1) k3)).alloc ob').heap.size) :
  Wld (w4.setCell ⟨bw,3,none⟩ (.slice (some ⟨g4,0,none⟩) (s.LS.length+1) k4)) bw {s with vl:=.slice (some ⟨g3,0,none⟩) (s.LS.length+1) k3,vw:=.slice (some ⟨g4,0,none⟩) (s.LS.length+1) k4,LS:=s.LS++[⟨v,cv,n,f,f⟩]}∧OnlyB (bw::(obl s.vl++obl s.vw)) w (w4.setCell ⟨bw,3,none⟩ (.slice (some ⟨g4,0,none⟩) (s.LS.length+1) k4))∧(g3∈obl s.vl∨w.heap.size≤g3)∧(g4∈obl s.vw∨w.heap.size≤g4)∧w4.cell? ⟨bw,3,none⟩=some s.vw∧w4.frozen? ⟨bw,3,none⟩=false:=by
 have h:=h0.below hb
 obtain⟨a1,a2,a3,a4,a5,a6⟩:=h.all
 have hl:=h.lt
 have hl0:=h0.lt
 have hw:=hb.size
 have kx:∀k∈obl s.vl,bw<k∧k<w.heap.size∧∃cs,w1.heap[k]?=some (.cells cs 38 (0,0)):=fun k hk=>by obtain⟨q1,q2⟩:=zw h.ls k hk;exact⟨by omega,h0.ownLt k (.inl (a3 k hk)),q2⟩
 have ky:∀k∈obl s.vw,bw<k∧k<w.heap.size∧∃cs,w1.heap[k]?=some (.cells cs 38 (0,0)):=fun k hk=>by obtain⟨q1,q2⟩:=zw h.lw k hk;exact⟨by omega,h0.ownLt k (.inl (a4 k hk)),q2⟩
 obtain⟨W3,hW3⟩:∃W3,W3=w3.setCell ⟨bw,2,none⟩ (.slice (some ⟨g3,0,none⟩) (s.LS.length+1) k3):=⟨_,rfl⟩
 rw[←hW3]at gr4 at4
 have o3:OnlyB (obl s.vl) w1 w3:=(OnlyB.nw _ w1 ob).trans (q2V gr3)
 have e3:=(o3.block bw hl (fun hh=>by have:=(kx bw hh).1;omega)).trans h.blk
 have E3:=zH w3 bw 2 _ _ (.slice (some ⟨g3,0,none⟩) (s.LS.length+1) k3) e3
 rw[←hW3]at E3
 have O3:OnlyB (bw::(obl s.vl++obl s.vw)) w1 W3:=by rw[hW3];exact(o3.wide (fun k hk=>by simp[hk])).setCell (by simp) _
 have o4:OnlyB (obl s.vw) W3 w4:=(OnlyB.nw _ W3 ob').trans (q2V gr4)
 have hl3:bw<W3.heap.size:=zd E3
 have e4:=(o4.block bw hl3 (fun hh=>by have:=(ky bw hh).1;omega)).trans E3
 have E4:=zH w4 bw 3 _ _ (.slice (some ⟨g4,0,none⟩) (s.LS.length+1) k4) e4
 have O4:OnlyB (bw::(obl s.vl++obl s.vw)) w1 w4:=O3.trans (o4.wide (fun k hk=>by simp[hk]))
 obtain⟨W5,hW5⟩:∃W5,W5=w4.setCell ⟨bw,3,none⟩ (.slice (some ⟨g4,0,none⟩) (s.LS.length+1) k4):=⟨_,rfl⟩
 rw[←hW5]at E4 ⊢
 have O5:OnlyB (bw::(obl s.vl++obl s.vw)) w1 W5:=by rw[hW5];exact O4.setCell (by simp) _
 have hin:∀k∈bw::(obl s.vl++obl s.vw),k∈q1D bw s:=fun k hk=>by
  simp only[List.mem_cons,List.mem_append]at hk
  rcases hk with rfl|hk|hk
  ·simp[q1D]
  ·exact a3 k hk
  ·exact a4 k hk
 have kb:∀k∈bw::(obl s.vl++obl s.vw),k<w.heap.size:=fun k hk=>h0.ownLt k (.inl (hin k hk))
 have kg:q4R (bw::(obl s.vl++obl s.vw)) w1:=h.kindsG (fun k hk=>.inl (hin k hk))
 have noR:∀{base e size v n xs},w1.ownsRow base e size v n xs→e≠108→e≠38→∀k∈obl v,k∉bw::(obl s.vl++obl s.vw):=by
  intro base e size v n xs hr n1 n2 k hk hh
  obtain⟨_,cs,q⟩:=zw hr k hk
  have fin:∀{cs' t'},w1.heap[k]?=some (.cells cs' t' (0,0))→e=t':=fun q'=>by
   rw[q]at q'
   simp only[Option.some.injEq,Obj.cells.injEq,and_true]at q'
   exact q'.2
  simp only[List.mem_cons,List.mem_append]at hh
  rcases hh with rfl|hh|hh
  ·exact n1 (fin h.blk)
  ·obtain⟨_,_,cs',q'⟩:=kx k hh;exact n2 (fin q')
  ·obtain⟨_,_,cs',q'⟩:=ky k hh;exact n2 (fin q')
 have p3:g3∈obl s.vl∨w1.heap.size<g3:=by
  rcases at3 with e|e
  ·exact .inl (q1w.2 e.symm)
  ·right;simp at e;omega
 have hsz3:w1.heap.size≤W3.heap.size:=O3.size
 have ox3:W3.ownsRow (bw+1) 38 1 (.slice (some ⟨g3,0,none⟩) (s.LS.length+1) k3) (s.LS.length+1) (s.LS.map (fun e=>e.v)++[v]):=by rw[hW3];exact ownsRow_setCell_below own3 (by simp) _
 have hg3:g3<W3.heap.size:=(ox3.lt g3 rfl).2
 have p4:g4∈obl s.vw∨(w1.heap.size<g4∧g3<g4):=by
  rcases at4 with e|e
  ·exact .inl (q1w.2 e.symm)
  ·right;simp at e;omega
 have g34:g3≠g4:=by
  intro e
  subst e
  rcases p4 with p4|p4
  ·rcases p3 with p3|p3
   ·exact h.two g3 p3 p4
   ·have:=(ky g3 p4).2.1;omega
  ·omega
 have g3w:∀k∈obl s.vw,k≠g3:=by
  intro k hk e
  subst e
  rcases p3 with p3|p3
  ·exact h.two k p3 hk
  ·have:=(ky k hk).2.1;omega
 have hown:∀k,k∈q1D bw {s with vl:=.slice (some ⟨g3,0,none⟩) (s.LS.length+1) k3,vw:=.slice (some ⟨g4,0,none⟩) (s.LS.length+1) k4,LS:=s.LS++[⟨v,cv,n,f,f⟩]}→k∈q1D bw s∨w1.heap.size<k:=by
  intro k hk
  simp only[q1D,List.mem_cons,List.mem_append]at hk
  rcases hk with rfl|hk|hk|hk|hk
  ·exact .inl (by simp[q1D])
  ·exact .inl (a1 _ hk)
  ·exact .inl (a2 _ hk)
  ·have:k=g3:=by simpa[obl,Value.ownBlock]using hk
   subst this
   rcases p3 with p3|p3
   ·exact .inl (a3 _ p3)
   ·exact .inr p3
  ·have:k=g4:=by simpa[obl,Value.ownBlock]using hk
   subst this
   rcases p4 with p4|p4
   ·exact .inl (a4 _ p4)
   ·exact .inr p4.1
 have hlst:∀k,k∈q3h {s with vl:=.slice (some ⟨g3,0,none⟩) (s.LS.length+1) k3,vw:=.slice (some ⟨g4,0,none⟩) (s.LS.length+1) k4,LS:=s.LS++[⟨v,cv,n,f,f⟩]}→k∈q3h s∨k∈obl v∨k∈obl cv:=by
  intro k hk
  simp only[q3h,List.mem_flatMap,List.mem_append,List.mem_singleton]at hk
  obtain⟨e,he|rfl,hk⟩:=hk
  ·left;exact List.mem_flatMap.2 ⟨e,he,List.mem_append.2 hk⟩
  ·right;exact hk
 have ox4:w4.ownsRow (bw+1) 38 1 (.slice (some ⟨g3,0,none⟩) (s.LS.length+1) k3) (s.LS.length+1) (s.LS.map (fun e=>e.v)++[v]):=qn ox3 o4 (fun k hk hh=>by
  have:k=g3:=by simpa[obl,Value.ownBlock]using hk
  exact g3w k hh this)
 have hv1:=zh hv hb
 have hls:∀x∈s.LS++[(⟨v,cv,n,f,f⟩:Lst)],x∈s.LS∨x=⟨v,cv,n,f,f⟩:=fun x hx=>by simpa using hx
 refine⟨⟨E4,qn h.xs O5 (noR h.xs (by decide) (by decide)),qn h.ys O5 (noR h.ys (by decide) (by decide)),?_,?_,?_,fun x hx=>(h.mons x hx).keep O5 kg (fun k hk hh=>(h.mut x hx k hk).1 (hin k hh)) (fun k hk hh=>(h.fro x hx k hk).1 (hin k hh)),fun e he=>?_,fun e he=>?_,h.hi,fun x hx k hk=>⟨fun hh=>?_,fun hh=>?_⟩,h.sep,h.apart⟩,?_,?_,?_,?_,?_⟩
 ·show W5.ownsRow _ _ _ _ (s.LS++[_]).length ((s.LS++[_]).map _)
  rw[List.map_append,List.length_append,hW5]
  exact ownsRow_setCell_below ox4 (by simp) _
 ·show W5.ownsRow _ _ _ _ (s.LS++[_]).length ((s.LS++[_]).map _)
  rw[List.map_append,List.length_append,hW5]
  exact ownsRow_setCell_below own4 (by simp) _
 ·intro k hk hh
  have e1:k=g3:=by simpa[obl,Value.ownBlock]using hk
  have e2:k=g4:=by simpa[obl,Value.ownBlock]using hh
  exact g34 (e1.symm.trans e2)
 ·rcases hls e he with he|rfl
  ·exact qn (h.row e he) O5 (noR (h.row e he) (by decide) (by decide))
  ·exact qn hv1 O5 (noR hv1 (by decide) (by decide))
 ·rcases hls e he with he|rfl
  ·exact qn (h.cop e he) O5 (noR (h.cop e he) (by decide) (by decide))
  ·exact qn hcv O5 (noR hcv (by decide) (by decide))
 ·rcases hown k hh with hh|hh
  ·exact(h.fro x hx k hk).1 hh
  ·have:=(h.mons x hx).froLt k hk;omega
 ·rcases hlst k hh with hh|hh|hh
  ·exact(h.fro x hx k hk).2 hh
  ·exact hfr x hx k hh hk
  ·have:=hcf k hh;have:=(h0.mons x hx).froLt k hk;omega
 ·exact(OnlyB.of_below hb).trans O5
 ·rcases p3 with p3|p3
  ·exact .inl p3
  ·exact .inr (by omega)
 ·rcases p4 with p4|p4
  ·exact .inl p4
  ·exact .inr (by omega)
 ·rw[zC _ _ 3 _ _ _ e4]
  rfl
 ·exact zF _ _ _ _ _ e4
theorem info_sl:(Tryz.prog.info? 38).map (fun i=>(i.zero,i.size,i.bytes))=some (some (.slice none 0 0),1,24):=by kernel_rfl
theorem j5W:(Tryz.prog.info? 49).map (fun i=>(i.zero,i.size,i.bytes))=some (some (.agg (q7j 0 0)),12,32):=by kernel_rfl
theorem app_nil0 (va:OA)(vc:Nat)(ty:TypeId)(w:World):(Builtin.append_ #[38,38] ty #[.slice none 0 0,.slice va 0 vc]).run Tryz.prog w=.ok (.slice none 0 0) w:=by
 cases va<;>kernel_rfl
theorem wp_copy {ops:Array Oper}{rest:List Oper}{o:Oper}{a:Act}{Q:Exit→Act→World→Prop}(hgd:o.guard=none)(x y:Operand)
  (ho:o.op=.call {callee:=.builtin .append,args:=#[x,y],argTypes:=#[38,38]})(W:World)(hx:a.eval x=.slice none 0 0)(va:OA)(n vc:Nat)(hy:a.eval y=.slice va n vc)(base base':Nat)(f:Nat→Int)
  (hv:W.ownsRow base 49 12 (.slice va n vc) n (flR f n))(hn:n≤1000000)(hb:base'≤W.heap.size)
  (h:∀cv w1,w1.ownsRow base' 49 12 cv n (flR f n)→Below W.heap.size W w1→(∀k∈obl cv,W.heap.size≤k)→wpList Tryz.prog ops Q rest (a.put o.dst cv) w1):wpList Tryz.prog ops Q (o::rest) a W:=by
 by_cases h0:n=0
 ·subst h0
  exact j0Z hgd x y _ ho _ _ _ _ hx hy (app_nil0 va vc _ W) (h _ W (zW _ _ _ _) (zB _ _) (by simp[obl,Value.ownBlock]))
 ·obtain⟨i,hi,hz0,hz1,hz2⟩:=info_parts j5W
  obtain⟨g,c,e⟩:=zJ hv (by omega)
  have ea:va=some ⟨g,0,none⟩:=by simp only[Value.slice.injEq]at e;exact e.1
  subst ea
  refine q4Q hgd x y 38 49 ho Tryz.underlying38 hi hz0 hz1 hz2 rfl (by decide) base' (.slice none 0 0) 0 [] W hx (zW _ _ _ _) ⟨g,0,none⟩ n vc (flR f n) hy (q2w f n) (hv.cells (g:=g) rfl) (q5C f n) (by omega) (by decide) hb (by omega) ?_
  intro v' w' own gr hat
  rw[Nat.zero_add,List.nil_append]at own
  refine h v' w' own (j3l gr) (fun k hk=>?_)
  have hk:=q1w.1 hk
  rcases hat.blk with e|e
  ·rw[hk]at e;simp[Value.ownBlock]at e
  ·rw[hk]at e;simp at e;omega
def q8o (w w':World)(bw:Nat)(s:St)(v:Value)(n:Nat)(f:Nat→Int):Prop:=
 ∃cv vl vw,Wld w' bw {s with vl:=vl,vw:=vw,LS:=s.LS++[⟨v,cv,n,f,f⟩]}∧(∀k∈obl cv,w.heap.size≤k)∧OnlyB (bw::(obl s.vl++obl s.vw)) w w'∧(∀k∈obl vl,k∈obl s.vl∨w.heap.size≤k)∧∀k∈obl vw,k∈obl s.vw∨w.heap.size≤k
theorem q7P {w1:World}{u:Value}{e:TypeId}:∀(j:Nat) (v:Value),[u][j]?=some v→(w1.alloc (.cells #[u] e)).cell? ((⟨w1.heap.size,0,none⟩:Addr).add j)=some v:=by
 intro j v hj
 rw[q2e,Nat.zero_add,zC _ _ j _ _ _ (zN w1 _)]
 simpa using hj
theorem q7G (bw:Nat)(s:St)(v:Value)(n:Nat)(f:Nat→Int)(w:World)(h:Wld w bw s)(hv:w.ownsRow (bw+1) 49 12 v n (flR f n))(hn:n≤1000000)(hl:s.LS.length≤100000000)(hfr:∀m∈s.MS,∀k∈obl v,k∉q3S m) :
  Calls Tryz.prog 127 #[.pointer (some ⟨bw,0,none⟩),v] w fun e w'=>e=.returned (.tuple #[])∧q8o w w' bw s v n f:=by
 obtain⟨vx,vy,vl,vw,MS,LS,mk⟩:=s
 obtain⟨va,vc,rfl⟩:=qt hv
 have ols:w.ownsRow (bw+1) 38 1 vl LS.length (LS.map fun e=>e.v):=h.ls
 have olw:w.ownsRow (bw+1) 38 1 vw LS.length (LS.map fun e=>e.cv):=h.lw
 obtain⟨la,lc,rfl⟩:=qt ols
 obtain⟨ra,rc,rfl⟩:=qt olw
 have hlen:LS.length+1≤1000000000:=by have:LS.length≤100000000:=hl;omega
 have hlt:=h.lt
 have H:=zb h
 have HV:=zb hv
 have HFR:=zb hfr
 have OLS:=zb ols
 have OLW:=zb olw
 clear h hv hfr hl ols olw
 obtain⟨i0,hi0,hz0,hz1,hz2⟩:=info_parts info_sl
 have HNB:Hid (∀(ao:OA) (c:Nat) (xs:List Value) (W:World),W.ownsRow (bw+1) 38 1 (.slice ao LS.length c) LS.length xs→bw∉(Value.slice ao LS.length c).ownBlock.toList):=zb (fun ao c xs W hr hh=>by have:=(zw hr bw hh).1;omega)
 go_enter Tryz.func127,Tryz.ntmps127
 go_wp2_with (first
  |(at_builtin;refine wp_copy rfl (.tmp 5) (.tmp 6) rfl w rfl va n vc rfl (bw+1) (bw+1) f HV.out hn (by omega) ?_;intro cv w1 o1 b1 f1;obtain⟨ca,cc,rfl⟩:=qt o1;have HW1:=zb (H.out.below b1);have c2:=zC _ _ 2 _ _ _ HW1.out.blk;have c3:=zC _ _ 3 _ _ _ HW1.out.blk;have z2:=zF _ _ 2 _ _ HW1.out.blk;have z3:=zF _ _ 3 _ _ HW1.out.blk;simp only[gz]at c2 c3;have hl1:=HW1.out.lt;have HO1:=zb o1;have HB1:=zb b1;have HF1:=zb f1;have OL1:=zb (zh OLS.out b1);have OW1:=zb (zh OLW.out b1);clear o1 b1 f1)
  |(at_builtin;refine q4Q rfl (.tmp 12) (.tmp 14) 106 38 rfl Tryz.underlying106 hi0 hz0 hz1 hz2 rfl (by decide) (bw+1) (.slice la LS.length lc) LS.length (LS.map fun e=>e.v) (w1.alloc (.cells #[.slice va n vc] 38)) rfl (OL1.out.alloc _) ⟨w1.heap.size,0,none⟩ 1 1 [.slice va n vc] (by simp[Act.eval]) rfl q7P (by simp[Value.oneCell']) hlen (by decide) (by simp;omega) (by decide) ?_;intro v3 w3 own3 gr3 at3;obtain⟨g3,k3,rfl⟩:=zJ own3 (by omega);have O3:=zb own3;have G3:=zb gr3;have A3:=zb at3.blk;have e3:w3.heap[bw]?=w1.heap[bw]?:=((q2V gr3).block bw (by simp;omega) (HNB.out _ _ _ _ OL1.out)).trans (zO w1 _ hl1);have d2:=(zK (a:=⟨bw,2,none⟩) e3).trans c2;have d3:=(zK (a:=⟨bw,3,none⟩) e3).trans c3;have y2:=(World.frozen?_of_block (a:=⟨bw,2,none⟩) e3).trans z2;have y3:=(World.frozen?_of_block (a:=⟨bw,3,none⟩) e3).trans z3;have hl3:bw<w3.heap.size:=(by have:=gr3.size;simp at this;omega);have OW3:=zb (ownsRow_setCell_below (a:=⟨bw,2,none⟩) (qn OW1.out ((OnlyB.nw _ w1 _).trans (q2V gr3)) (fun k hk hh=>HW1.out.two k hh hk)) (by simp) (.slice (some ⟨g3,0,none⟩) (LS.length+1) k3));clear own3 gr3 at3 c2 c3 z2 z3 e3)
  |(at_builtin;refine q4Q rfl (.tmp 22) (.tmp 24) 106 38 rfl Tryz.underlying106 hi0 hz0 hz1 hz2 rfl (by decide) (bw+1) (.slice ra LS.length rc) LS.length (LS.map fun e=>e.cv) ((w3.setCell ⟨bw,2,none⟩ (.slice (some ⟨g3,0,none⟩) (LS.length+1) k3)).alloc (.cells #[.slice ca n cc] 38)) rfl (OW3.out.alloc _) ⟨(w3.setCell ⟨bw,2,none⟩ (.slice (some ⟨g3,0,none⟩) (LS.length+1) k3)).heap.size,0,none⟩ 1 1 [.slice ca n cc] (by simp[Act.eval]) rfl q7P (by simp[Value.oneCell']) hlen (by decide) (by simp;omega) (by decide) ?_;intro v4 w4 own4 gr4 at4;obtain⟨g4,k4,rfl⟩:=zJ own4 (by omega);obtain⟨T1,T2,T3,T4,T5,T6⟩:=j6F H.out HB1.out HV.out HO1.out HF1.out HFR.out O3.out G3.out A3.out own4 gr4 at4.blk;have HT1:=zb T1;have HT2:=zb T2;have HT3:=zb T3;have HT4:=zb T4;have hl4:bw<w4.heap.size:=(by have:=gr4.size;simp at this;omega);clear own4 gr4 at4 T1 T2 T3 T4 d2 d3 y2 y3))
 have fin:q8o w (w4.setCell ⟨bw,3,none⟩ (.slice (some ⟨g4,0,none⟩) (LS.length+1) k4)) bw ⟨vx,vy,.slice la LS.length lc,.slice ra LS.length rc,MS,LS,mk⟩ (.slice va n vc) n f:=
  ⟨_,_,_,HT1.out,HF1.out,HT2.out,fun k hk=>by have e:k=g3:=(by simpa[obl,Value.ownBlock]using hk);rw[e];exact HT3.out,fun k hk=>by have e:k=g4:=(by simpa[obl,Value.ownBlock]using hk);rw[e];exact HT4.out⟩
 go_end0
 exact⟨rfl,fin⟩
theorem ver_vc:∀l:List Ver,∃P S R,zy l=vcR P S R l.length:=by
 intro l
 have key:∀(l:List Ver) (d:Ver),zy l=vcR (fun i=>((l.getD i d).1:Int)) (fun i=>((l.getD i d).2.1:Int)) (fun i=>zf (l.getD i d).2.2) l.length:=by
  intro l d
  refine List.ext_getElem? fun p=>?_
  have hlen:(zy l).length=l.length*12:=by
   unfold zy
   induction l with
   |nil=>rfl
   |cons a r ih=>rw[List.flatMap_cons,List.length_append,ih];simp[q5t];omega
  by_cases hp:p<l.length*12
  ·have e:=vcR_at (fun i=>((l.getD i d).1:Int)) (fun i=>((l.getD i d).2.1:Int)) (fun i=>zf (l.getD i d).2.2) l.length (p / 12) (p % 12) (by omega) (by omega)
   rw[show p / 12*12+p % 12=p by omega]at e
   rw[e]
   have e2:∀(l:List Ver) (i j:Nat),i<l.length→j<12→(zy l)[i*12+j]?=(q5t (l.getD i d))[j]?:=by
    intro l
    induction l with
    |nil=>intro i j h;simp at h
    |cons a r ih =>
     intro i j h hj
     have e3:zy (a::r)=q5t a++zy r:=by simp[zy]
     have e4:(q5t a).length=12:=rfl
     rw[e3]
     cases i with
     |zero=>rw[List.getElem?_append_left (by omega)];simp
     |succ i =>
      rw[List.getElem?_append_right (by omega),e4,show(i+1)*12+j-12=i*12+j by omega,ih i j (by simpa using h) hj]
      simp
   have e5:=e2 l (p / 12) (p % 12) (by omega) (by omega)
   rw[show p / 12*12+p % 12=p by omega]at e5
   rw[e5]
  ·rw[List.getElem?_eq_none (by omega),List.getElem?_eq_none (by rw[q9G];omega)]
 exact⟨_,_,_,key l (0,0,fun _ _=>false)⟩
theorem q5Q {P:Program}{ops:Array Oper}{rest:List Oper}{o:Oper}{a:Act}{W:World}{Q:Exit→Act→World→Prop}(hgd:o.guard=none)(ty:TypeId)(n:Nat)(parts:Array (Nat × Operand))(ho:o.op=.buildSlice ty n parts)
  (xs:Array (Nat × Value))(hx:(parts.map fun(i,x)=>(i,a.eval x))=xs)(v:Value)(W':World)(hr:(Instr.buildSlice ty n xs).run P W=.ok v W')
  (h:wpList P ops Q rest (a.put o.dst v) W'):wpList P ops Q (o::rest) a W:=by
 refine wpList_plain hgd fun _ hK=>?_
 unfold Oper.wp execOp
 simp only[ho,hx,hr,Sem.run_bind,Sem.run_pure,Result.andThen_ok]
 exact hK _ _ h
abbrev mkA (z:Int):Array Value:=q7j (wrap64 (-z)) (IntKind.u16.wrap z)
theorem q9A (z:Int):(mkA z).all (·.oneCell')=true:=by simp[Value.oneCell']
theorem bld1 (z:Int)(W:World):(Instr.buildSlice 38 1 #[(0,.agg (mkA z))]).run Tryz.prog W=.ok (.slice (some ⟨W.heap.size,0,none⟩) 1 1) (W.alloc (.cells (flR (fun _=>z) 1).toArray 49)):=by kernel_rfl
theorem bld2 (z:Int)(W:World):(Instr.buildSlice 38 2 #[(0,.agg (mkA z)),(1,.agg (mkA z))]).run Tryz.prog W=.ok (.slice (some ⟨W.heap.size,0,none⟩) 2 2) (W.alloc (.cells (flR (fun _=>z) 2).toArray 49)):=by kernel_rfl
theorem bld3 (z:Int)(W:World):(Instr.buildSlice 38 3 #[(0,.agg (mkA z)),(1,.agg (mkA z)),(2,.agg (mkA z))]).run Tryz.prog W=.ok (.slice (some ⟨W.heap.size,0,none⟩) 3 3) (W.alloc (.cells (flR (fun _=>z) 3).toArray 49)):=by kernel_rfl
theorem mk_if {z:Int}{k p:Nat}{x:Option Value}:(if k*12≤p∧p<k*12+(mkA z).size then(mkA z)[p-k*12]? else x)=if k*12≤p∧p<k*12+12 then(q7K z)[p-k*12]? else x:=by simp[q7K]
theorem Wld.mark {w:World}{bw:Nat}{s:St}(h:Wld w bw s):Wld (w.setCell ⟨bw,4,none⟩ (.int .i64 ((s.mc:Int)+1))) bw {s with mc:=s.mc+1}:=by
 have ho:OnlyB [bw] w (w.setCell ⟨bw,4,none⟩ (.int .i64 ((s.mc:Int)+1))):=OnlyB.one _ _ _ _
 have hb:∀{base e size v n xs},w.ownsRow base e size v n xs→bw<base→(w.setCell ⟨bw,4,none⟩ (.int .i64 ((s.mc:Int)+1))).ownsRow base e size v n xs:=fun hr hlt=>ownsRow_setCell_below hr (by simpa using hlt) _
 refine⟨?_,hb h.xs (by omega),hb h.ys (by omega),hb h.ls (by omega),hb h.lw (by omega),h.two,fun m hm=>(h.mons m hm).keep ho (h.kindsG (fun k hk=>.inl (by have:k=bw:=(by simpa using hk);simp[q1D,this]))) (fun k hk hh=>?_) (fun k hk hh=>?_),fun e he=>hb (h.row e he) (by omega),fun e he=>hb (h.cop e he) (by omega),h.hi,h.fro,h.sep,h.apart⟩
 ·have:=zH w bw 4 _ _ (.int .i64 ((s.mc:Int)+1)) h.blk
  rw[this]
  simp
 ·have:=h.hi m hm k hk
  have:k=bw:=by simpa using hh
  omega
 ·have:k=bw:=by simpa using hh
  exact(h.fro m hm k hk).1 (by simp[q1D,this])
theorem row_putX {w w':World}{base n g c:Nat}{e:TypeId}{xs:List Value}{i:Nat}{z:Int}{cs cs':Array Value}(h:w.ownsRow base e 12 (.slice (some ⟨g,0,none⟩) n c) n xs)(hg:w.heap[g]?=some (.cells cs e (0,0)))(hg':w'.heap[g]?=some (.cells cs' e (0,0)))(hs:cs'.size=cs.size)
  (hp:∀p,p<cs.size→cs'[p]?=if i*12≤p∧p<i*12+12 then(q7K z)[p-i*12]? else cs[p]?):∃xs',w'.ownsRow base e 12 (.slice (some ⟨g,0,none⟩) n c) n xs'∧∀p,p<n*12→xs'[p]?=if i*12≤p∧p<i*12+12 then(q7K z)[p-i*12]? else xs[p]?:=by
 obtain⟨cs0,e1,e2,e3,e4,e5,e6⟩:=q1O h
 rw[hg]at e1
 simp only[Option.some.injEq,Obj.cells.injEq,and_true]at e1
 subst e1
 have hle:n*12≤cs.size:=by rw[e4];exact zU 12 e2
 refine⟨cs'.toList.take (n*12),⟨?_,.inr ⟨g,c,cs',rfl,e6,hg',e2,e3,by rw[hs,e4],rfl⟩⟩,fun p hpn=>?_⟩
 ·rw[List.length_take,Array.length_toList,hs]
  exact Nat.min_eq_left hle
 ·rw[List.getElem?_take,if_pos hpn,Array.getElem?_toList,hp p (by omega),←e5,List.getElem?_take,if_pos hpn]
  simp only[Array.getElem?_toList]
def FreeL (bw:Nat)(s:St)(bl:List Nat):Prop:=∀k∈bl,k∉q1D bw s∧k∉q3h s∧∀m∈s.MS,k∉q1d m∧k∉q3S m
theorem Wld.free {w w':World}{bw:Nat}{s:St}{bl:List Nat}(h:Wld w bw s)(ho:OnlyB bl w w')(hf:FreeL bw s bl)(hk:∀k∈bl,∃cs,w.heap[k]?=some (.cells cs 49 (0,0))):Wld w' bw s:=
 h.keep ho (fun k hb=>by obtain⟨cs,e⟩:=hk k hb;exact⟨cs,_,e,by decide,by decide⟩) (fun k hb=>⟨(hf k hb).1,(hf k hb).2.1⟩) (fun m hm=>⟨fun k hk hb=>((hf k hb).2.2 m hm).1 hk,fun k hk hb=>((hf k hb).2.2 m hm).2 hk⟩)
theorem q9I {W w':World}{bw:Nat}{s:St}{l v':Value}{n j:Nat}{z:Int}{ob:Obj}(h:Wld W bw s)(hf:FreeL bw s (obl l))(hl:W.ownsRow (bw+1) 49 12 l n (flR (fun _=>z) n))(own:w'.ownsRow (bw+1) 49 12 v' (n+j) (flR (fun _=>z) n++flR (fun _=>z) j))(gr:(W.alloc ob).grownBy w' l.ownBlock)(hat:j1m (W.alloc ob) w' l v' n j) :
  Wld w' bw s∧OnlyB (obl l) W w'∧w'.ownsRow (bw+1) 49 12 v' (n+j) (flR (fun _=>z) (n+j))∧(∀u k,W.ownsRow (bw+1) 49 12 u k (flR (fun _=>z) k)→k≤n+j→w'.ownsRow (bw+1) 49 12 u k (flR (fun _=>z) k))∧(∀k∈obl v',k∈obl l∨W.heap.size<k):=by
 rw[j6y]at own
 have ho:OnlyB (obl l) W w':=(OnlyB.nw _ W ob).trans (q2V gr)
 refine⟨h.free ho hf (fun k hk=>(zw hl k hk).2),ho,own,fun u k hu hk=>app_row (hl.alloc ob) own gr hat (hu.alloc ob) hk,fun k hk=>?_⟩
 have hk:=q1w.1 hk
 rcases hat.blk with e|e
 ·exact .inl (q1w.2 (e.symm.trans hk))
 ·rw[hk]at e
  simp at e
  exact .inr (by omega)
theorem q8o.keepRow {w w':World}{bw:Nat}{s:St}{v:Value}{n:Nat}{f:Nat→Int}(h:Wld w bw s)(ht:q8o w w' bw s v n f){base k:Nat}{u:Value}{xs:List Value}(hu:w.ownsRow base 49 12 u k xs):w'.ownsRow base 49 12 u k xs:=by
 obtain⟨cv,vl,vw,_,_,ho,_⟩:=ht
 refine qn hu ho (fun q hq hh=>?_)
 obtain⟨_,cs,e⟩:=zw hu q hq
 have fin:∀{cs' t'},w.heap[q]?=some (.cells cs' t' (0,0))→49=t':=fun q'=>by
  rw[e]at q'
  simp only[Option.some.injEq,Obj.cells.injEq,and_true]at q'
  exact q'.2
 simp only[List.mem_cons,List.mem_append]at hh
 rcases hh with rfl|hh|hh
 ·exact absurd (fin h.blk) (by decide)
 ·obtain⟨_,cs',q'⟩:=zw h.ls q hh;exact absurd (fin q') (by decide)
 ·obtain⟨_,cs',q'⟩:=zw h.lw q hh;exact absurd (fin q') (by decide)
theorem q8o.below {w w':World}{bw:Nat}{s:St}{v:Value}{n:Nat}{f:Nat→Int}(h:Wld w bw s)(ht:q8o w w' bw s v n f):Below bw w w':=by
 obtain⟨cv,vl,vw,_,_,ho,_⟩:=ht
 have hl:=h.lt
 obtain⟨a1,a2,a3,a4,_,_⟩:=h.all
 refine ho.below (by omega) (fun k hk=>(h.kinds k (.inl ?_)).1)
 simp only[List.mem_cons,List.mem_append]at hk
 rcases hk with rfl|hk|hk
 ·simp[q1D]
 ·exact a3 k hk
 ·exact a4 k hk
def KpRel (bw n:Nat)(l:Value)(z:Int)(W3:World)(g:Nat)(vi:Value)(wr:World):Prop:=
 ∃k:Nat,k≤n∧n-k≤g∧vi=.int .i64 k∧(∃xs,wr.ownsRow (bw+1) 49 12 l n xs∧∀p,p<k*12→xs[p]?=(q7K z)[p % 12]?)∧OnlyB (obl l) W3 wr
theorem j6q {n:Nat}{xs:List Value}{z:Int}(hl:xs.length=n*12)(h:∀p,p<n*12→xs[p]?=(q7K z)[p % 12]?):xs=flR (fun _=>z) n:=by
 refine List.ext_getElem? fun p=>?_
 by_cases hp:p<n*12
 ·rw[h p hp,q7f _ _ _ hp]
 ·rw[List.getElem?_eq_none (by omega),List.getElem?_eq_none (by rw[q2w];omega)]
theorem keep_grp {LS:List Lst}{l v1 v2 v3 c0 c1 c2 c3:Value}{n:Nat}{f:Nat→Int}{A w6 w7 w8 w9:Nat}(hG:Grp LS)(hold:∀i,i<LS.length→(∀k∈obl (lg LS i).v,k<A)∧∀k∈obl (lg LS i).cv,k<A)(hl:∀k∈obl l,∀i,i<LS.length→k∉obl (lg LS i).v∧k∉obl (lg LS i).cv)
  (h1:∀k∈obl v1,k∈obl l∨A≤k)(h2:∀k∈obl v2,k∈obl l∨A≤k)(h3:∀k∈obl v3,k∈obl l∨A≤k)(u0:∀k∈obl l,k<w6)(u1:∀k∈obl v1,k<w6)(u2:∀k∈obl v2,k<w6)(u3:∀k∈obl v3,k<w6)(a6:A≤w6)(a7:w6≤w7)(a8:w7≤w8)(a9:w8≤w9)
  (i0:∀k∈obl c0,w6≤k∧k<w7)(i1:∀k∈obl c1,w7≤k∧k<w8)(i2:∀k∈obl c2,w8≤k∧k<w9)(i3:∀k∈obl c3,w9≤k):Grp (LS++[⟨l,c0,n,f,f⟩,⟨v1,c1,n+1,f,f⟩,⟨v2,c2,n+2,f,f⟩,⟨v3,c3,n+3,f,f⟩]):=by
 have hv:∀k,k∈obl l∨A≤k→∀i,i<LS.length→k∉obl (lg LS i).v∧k∉obl (lg LS i).cv:=by
  intro k hk i hi
  rcases hk with hk|hk
  ·exact hl k hk i hi
  ·exact⟨fun hh=>by have:=(hold i hi).1 k hh;omega,fun hh=>by have:=(hold i hi).2 k hh;omega⟩
 refine hG.more rfl (n:=n) (B:=A) (f:=f) ?_ hold ?_ ?_
 ·intro t ht
  rcases(by omega:t=0∨t=1∨t=2∨t=3)with rfl|rfl|rfl|rfl<;>exact⟨rfl,rfl,rfl⟩
 ·intro t ht
  rcases(by omega:t=0∨t=1∨t=2∨t=3)with rfl|rfl|rfl|rfl
  ·exact⟨fun k hk=>hv k (.inl hk),fun k hk=>by have:=(i0 k hk).1;omega⟩
  ·exact⟨fun k hk=>hv k (h1 k hk),fun k hk=>by have:=(i1 k hk).1;omega⟩
  ·exact⟨fun k hk=>hv k (h2 k hk),fun k hk=>by have:=(i2 k hk).1;omega⟩
  ·exact⟨fun k hk=>hv k (h3 k hk),fun k hk=>by have:=i3 k hk;omega⟩
 ·have up:∀u,u<4→∀k∈obl (lg [⟨l,c0,n,f,f⟩,⟨v1,c1,n+1,f,f⟩,⟨v2,c2,n+2,f,f⟩,⟨v3,c3,n+3,f,f⟩] u).v,k<w6:=by
   intro u hu
   rcases(by omega:u=0∨u=1∨u=2∨u=3)with rfl|rfl|rfl|rfl
   ·exact u0
   ·exact u1
   ·exact u2
   ·exact u3
  have iv:∀t,t<4→∃a b,w6≤a∧(∀k∈obl (lg [⟨l,c0,n,f,f⟩,⟨v1,c1,n+1,f,f⟩,⟨v2,c2,n+2,f,f⟩,⟨v3,c3,n+3,f,f⟩] t).cv,a≤k∧(t<3→k<b))∧(t=0→a=w6∧b=w7)∧(t=1→a=w7∧b=w8)∧(t=2→a=w8∧b=w9)∧(t=3→a=w9):=by
   intro t ht
   rcases(by omega:t=0∨t=1∨t=2∨t=3)with rfl|rfl|rfl|rfl
   ·exact⟨w6,w7,by omega,fun k hk=>⟨(i0 k hk).1,fun _=>(i0 k hk).2⟩,by omega,by omega,by omega,by omega⟩
   ·exact⟨w7,w8,by omega,fun k hk=>⟨(i1 k hk).1,fun _=>(i1 k hk).2⟩,by omega,by omega,by omega,by omega⟩
   ·exact⟨w8,w9,by omega,fun k hk=>⟨(i2 k hk).1,fun _=>(i2 k hk).2⟩,by omega,by omega,by omega,by omega⟩
   ·exact⟨w9,0,by omega,fun k hk=>⟨i3 k hk,by omega⟩,by omega,by omega,by omega,by omega⟩
  intro t u ht hu k hk
  obtain⟨a,b,q1,q2,q3,q4,q5,q6⟩:=iv t ht
  obtain⟨a',b',p1,p2,p3,p4,p5,p6⟩:=iv u hu
  refine⟨fun hh=>?_,fun hne hh=>?_⟩
  ·have:=up u hu k hh
   have:=(q2 k hk).1
   omega
  ·have x1:=q2 k hk
   have x2:=p2 k hh
   omega
end Go.Proofs.YtiamjjonoeaggaaGreatDoor
