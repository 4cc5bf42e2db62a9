import Derived.Test.YtiamjjonoeaggabGreatDoorGA
import Derived.Test.YtiamjjonoeaggabGreatDoorGB
import Derived.Test.YtiamjjonoeaggabGreatDoorG18
import Derived.Deep.RegionHeld3
set_option maxRecDepth 100000
set_option maxHeartbeats 16000000
namespace Go.Proofs.YtiamjjonoeaggabGreatDoor
open Go.RowKit
theorem j4V (l:List Hp):∀(i:Nat) (h:i<l.length) (j:Nat),j<11→(q0b l)[i*11+j]?=(q5N l[i])[j]?:=by
 induction l with
 |nil=>intro i h;simp at h
 |cons n r ih =>
  intro i h j hj
  have e:q0b (n::r)=q5N n++q0b r:=rfl
  have e2:(q5N n).length=11:=rfl
  rw[e]
  cases i with
  |zero=>rw[List.getElem?_append_left (by omega)];simp
  |succ i =>
   have hi:i<r.length:=by simpa using h
   rw[List.getElem?_append_right (by omega),e2,show(i+1)*11+j-11=i*11+j by omega,ih i hi j hj]
   rfl
theorem j2Q {w:World}{b:Nat}{nd:PNode}(h:w.heap[b]?=some (.cells (zq nd).toArray 166 (0,0))):(Instr.loadAt 166 (.pointer (some ⟨b,0,none⟩))).run Tryz.prog w=.ok (.agg (zq nd).toArray) w:=
 qH (P:=Tryz.prog) 166 166 w b (zq nd).toArray (0,0) _ h Tryz.underlying166 rfl (by kernel_rfl)
structure HapAtF (w wr:World)(nd:PNode)(f:Nat→Nat→Bool):Prop where
 nod:wr.heap[w.heap.size]?=some (.cells (zq nd).toArray 166 (0,0))
 res:wr.heap[w.heap.size+1]?=some (.cells zCs 43 (0,0))
 fnd:wr.heap[w.heap.size+2]?=some (.cells (qA (zm f)).toArray 43 (0,0))
 bel:Below w.heap.size w wr
theorem HapAtF.below {w wr w':World}{nd:PNode}{f:Nat→Nat→Bool}(h:HapAtF w wr nd f)(hb:Below wr.heap.size wr w'):HapAtF w w' nd f:=
 ⟨(hb.block _ (zd h.nod)).trans h.nod,(hb.block _ (zd h.res)).trans h.res,(hb.block _ (zd h.fnd)).trans h.fnd,h.bel.trans (hb.mono h.bel.size)⟩
theorem HapAtF.set {w wr:World}{nd:PNode}{f:Nat→Nat→Bool}(h:HapAtF w wr nd f)(g:Nat→Nat→Bool) :
  ∃W,(Instr.storeAt 43 (.pointer (some ⟨w.heap.size+2,0,none⟩)) (zr (zm g))).run Tryz.prog wr=.ok () W∧HapAtF w W nd g∧True:=by
 obtain⟨W,s1,s2,s3,s4,s5,s6,s7⟩:=q4Y wr (w.heap.size+2) _ (zm g) h.fnd rfl
 exact⟨W,s1,⟨(s3 _ (by omega)).trans h.nod,(s3 _ (by omega)).trans h.res,s2,⟨s5.trans h.bel.os,s6.trans h.bel.tape,s7.trans h.bel.output,by rw[s4];exact h.bel.size,fun q hq=>by rw[s3 q (by omega)];exact h.bel.block q hq⟩⟩,trivial⟩
def HaRel (w:World)(nd:PNode)(F:Nat→Nat→Nat→Bool)(n:Nat)(g:Nat)(vh:Value)(wr:World):Prop:=∃k:Nat,k≤n∧n-k≤g∧vh=.int .i64 k∧HapAtF w wr nd (F k)
theorem j5a (V:Value)(nd:PNode)(hV:V=q1C nd)(n:Nat)(hn:nd.cnt=(n:Int))(hn2:n≤2)(hv:Value)(l:List Hp)(hl80:l.length≤80)(hok:∀h∈l,∀d∈h.ds,d≤9)(w:World)(hl:w.ownsRow 0 129 11 hv l.length (q0b l)) :
  Calls Tryz.prog 134 #[V,hv] w fun e w'=>e=.returned (zr (zm fun x y=>l.any (evP nd x y)))∧Below w.heap.size w w':=by
 have HV:Hid (V=.agg (zq nd).toArray):=zb hV
 obtain⟨F,hF⟩:∃F:Nat→Nat→Nat→Bool,F=fun k x y=>(l.take k).any (evP nd x y):=⟨_,rfl⟩
 have HF0:Hid (F 0=fun _ _=>false):=zb (by rw[hF];funext x y;simp)
 have HFS:Hid (∀k (hk:k<l.length),F (k+1)=fun x y=>F k x y || evP nd x y l[k]):=zb (fun k hk=>by rw[hF];funext x y;simp only[];rw[List.take_succ_eq_append_getElem hk,List.any_append];simp)
 have hRR:(fun x y=>l.any (evP nd x y))=F l.length:=by rw[hF];simp
 rw[hRR]
 obtain⟨RV,hRV⟩:∃RV,RV=zr (zm (F l.length)):=⟨_,rfl⟩
 rw[←hRV]
 have HRV:=zb hRV
 have HL:=zb hl
 have HN:=zb hn
 obtain⟨ao,cap,rfl⟩:=q1n hl
 clear hV hF hRR hRV hl hn
 go_enter Tryz.func134,Tryz.ntmps134
 go_wp2_with (first|(refine qF rfl 166 (.tmp 0) rfl V _ rfl HV.out ?_;intro W0 g0 b0 z0;have HZ0:=zb z0;have HG0:=zb g0;have HB0:=zb b0;clear g0 z0 b0))
 have ew0:W0.heap.size=w.heap.size+1:=HZ0.out
 have hF3:HapAtF w ((W0.alloc (.cells zCs 43)).alloc (.cells zCs 43)) nd (F 0):=by
  refine⟨(zO _ _ (by simp;omega)).trans ((zO _ _ (by omega)).trans HG0.out),?_,?_,(HB0.out.alloc HB0.out.size _).alloc (by have:=HB0.out.size;simp;omega) _⟩
  ·rw[←ew0,zO _ _ (by simp)];exact zN _ _
  ·rw[HF0.out,q5Y (fun _ _=>rfl)]
   have e:w.heap.size+2=(W0.alloc (.cells zCs 43)).heap.size:=by simp;omega
   rw[e];exact zN _ _
 have HF3:=zb hF3
 rw[ew0]
 clear hF3 HZ0 HG0 HB0
 generalize (W0.alloc (.cells zCs 43)).alloc (.cells zCs 43)=W1 at *
 clear ew0
 go_loopg [6] l.length (fun g vh wr=>HaRel w nd F l.length g vh wr)
 case atStart=>exact⟨0,zZ _,by omega,rfl,HF3.out⟩
 case round =>
  obtain⟨k,hk,hg,rfl,hfd⟩:=hrel
  have HG:=zb hg
  have HFD:=zb hfd
  clear hg hfd HF3
  by_cases hkn:k<l.length
  ·have hFk:=HFS.out k hkn
   have hL1:=zp (w':=wr) (by exact HL.out) HFD.out.bel
   obtain⟨g,cap',e⟩:=zJ hL1 (by omega)
   injection e with e1 e2 e3
   subst e1 e3
   have hgw:g<w.heap.size:=(HL.out.lt g rfl).2
   have hcl:∀W':World,Below w.heap.size w W'→∀j,j<11→W'.cell? ⟨g,k*11+j,none⟩=(q5N l[k])[j]?:=fun W' hb j hj=>by
    rw[(zp HL.out hb).cellAt _ (by omega)]
    exact j4V l k hkn j hj
   have hcap:l.length≤cap∧cap≤maxLen:=by
    rcases hL1.2 with⟨h',_⟩|⟨g',cap'',cur,h',_,_,p1,p2,_⟩
    ·simp at h'
    ·simp only[Value.slice.injEq,Option.some.injEq,Addr.mk.injEq,and_true,true_and]at h'
     obtain⟨rfl,rfl⟩:=h'
     exact⟨p1,p2⟩
   obtain⟨hcap1,hcap2⟩:=hcap
   unfold maxLen at hcap2
   have hd:=hok _ (List.getElem_mem hkn)
   generalize l[k]=hp at *
   have c0:=hcl wr HFD.out.bel 0 (by omega)
   have c1:=hcl wr HFD.out.bel 1 (by omega)
   have c2:=hcl wr HFD.out.bel 2 (by omega)
   have c3:=hcl wr HFD.out.bel 3 (by omega)
   have c4:=hcl wr HFD.out.bel 4 (by omega)
   have c5:=hcl wr HFD.out.bel 5 (by omega)
   have c6:=hcl wr HFD.out.bel 6 (by omega)
   have c7:=hcl wr HFD.out.bel 7 (by omega)
   have c10:=hcl wr HFD.out.bel 10 (by omega)
   simp only[List.getElem?_cons_succ,List.getElem?_cons_zero,Nat.add_zero]at c0 c1 c2 c3 c4 c5 c6 c7 c10
   have n14:wr.cell? ⟨w.heap.size,14,none⟩=some (.int .i64 n):=by rw[zC _ _ 14 _ _ _ HFD.out.nod,←HN.out];rfl
   have n2:wr.cell? ⟨w.heap.size,2,none⟩=some (.int .u8 (zn nd.name 0)):=by rw[zC _ _ 2 _ _ _ HFD.out.nod];rfl
   have n3:wr.cell? ⟨w.heap.size,3,none⟩=some (.int .u8 (zn nd.name 1)):=by rw[zC _ _ 3 _ _ _ HFD.out.nod];rfl
   have n4:wr.cell? ⟨w.heap.size,4,none⟩=some (.int .u8 (zn nd.name 2)):=by rw[zC _ _ 4 _ _ _ HFD.out.nod];rfl
   have n5:wr.cell? ⟨w.heap.size,5,none⟩=some (.int .u8 (zn nd.name 3)):=by rw[zC _ _ 5 _ _ _ HFD.out.nod];rfl
   have n6:wr.cell? ⟨w.heap.size,6,none⟩=some (.int .u8 (zn nd.name 4)):=by rw[zC _ _ 6 _ _ _ HFD.out.nod];rfl
   have n7:wr.cell? ⟨w.heap.size,7,none⟩=some (.int .u8 (zn nd.name 5)):=by rw[zC _ _ 7 _ _ _ HFD.out.nod];rfl
   have n8:wr.cell? ⟨w.heap.size,8,none⟩=some (.int .u8 (zn nd.name 6)):=by rw[zC _ _ 8 _ _ _ HFD.out.nod];rfl
   have n9:wr.cell? ⟨w.heap.size,9,none⟩=some (.int .u8 (zn nd.name 7)):=by rw[zC _ _ 9 _ _ _ HFD.out.nod];rfl
   have hgr:g<wr.heap.size:=zT hgw HFD.out.bel.size
   have hlw:w.heap.size<wr.heap.size:=zd HFD.out.nod
   have hEq:=j8N hp.nm nd.name
   have HFK:=zb hFk
   have HCL:=zb hcl
   have HD:=zb hd
   clear hFk hcl hL1 hd
   cases hnm:j2P hp.nm nd.name with
   |false =>
    rw[hnm]at hEq
    have HFE:Hid (F (k+1)=F k):=zb (by rw[HFK.out];funext x y;unfold evP;rw[hnm];simp)
    clear hnm
    go_wp2_with fail
    go_quiet (fail)
    go_wp2_with fail
    have hg1:0<gk:=by have:=HG.out;omega
    go_roundg (gk-1)
    case measure=>omega
    case rel=>exact⟨k+1,by omega,by have:=HG.out;omega,by go_num,by rw[HFE.out];exact HFD.out.below (q3e _ (zB _ _))⟩
   |true =>
    rw[hnm]at hEq
    by_cases hct:(hp.ds.length:Int)=(n:Int)
    ·have HFE:Hid (F (k+1)=fun x y=>F k x y || q4L nd (hp.ds.getD 0 0) (hp.ds.getD 1 0) n x y):=zb (by
      rw[HFK.out];funext x y;unfold evP q4L
      rw[hnm,HN.out,decide_eq_true hct]
      have q0:decide (0<(n:Int))=decide (0<n):=by rw[Bool.eq_iff_iff];simp
      have q1:decide (1<(n:Int))=decide (1<n):=by rw[Bool.eq_iff_iff];simp only[decide_eq_true_eq];omega
      rw[q0,q1,Bool.true_and,Bool.true_and])
     obtain⟨W,hWd⟩:∃W:World,W=wr:=⟨_,rfl⟩
     have dgs:∀i,hp.ds.getD i 0<10:=fun i=>by
      rcases Nat.lt_or_ge i hp.ds.length with g9|g9
      ·have e:hp.ds.getD i 0=hp.ds[i]:=by simp[List.getD,g9]
       rw[e]
       have:=HD.out _ (List.getElem_mem g9)
       omega
      ·have e:hp.ds.getD i 0=0:=by simp[List.getD,List.getElem?_eq_none g9]
       rw[e];omega
     obtain⟨UF,hUF⟩:∃U,U=zr (zm (F k)):=⟨_,rfl⟩
     have HUF:=zb hUF
     obtain⟨UF2,hUF2⟩:∃U,U=zr (zm (F (k+1))):=⟨_,rfl⟩
     have HUF2:=zb hUF2
     obtain⟨UG,hUG⟩:∃U,U=zr (zm (q4L nd (hp.ds.getD 0 0) (hp.ds.getD 1 0) n)):=⟨_,rfl⟩
     have HVF:=zb (j2r V nd HV.out (hp.ds.getD 0 0) (hp.ds.getD 1 0) (dgs 0) (dgs 1) n HN.out hn2)
     rw[←hUG]at HVF
     have HEI:Hid (∀W',Calls Tryz.prog 137 #[UF,UG] W' fun e w'=>e=.returned UF2∧Below W'.heap.size W' w'):=zb (fun W'=>by rw[hUF,hUG,hUF2,HFE.out];exact q8r (F k) (q4L nd (hp.ds.getD 0 0) (hp.ds.getD 1 0) n) W')
     have HDL2:Hid (∀w':World,Below w.heap.size w w'→(Instr.loadAt 127 (.pointer (some ⟨g,k*11+8,none⟩))).run Tryz.prog w'=.ok (.agg #[.int .i64 (hp.ds.getD 0 0:Nat),.int .i64 (hp.ds.getD 1 0:Nat)]) w'):=zb (fun w' hb=>run_loadAt_mid w' g (k*11+8) 127 [.int .i64 (hp.ds.getD 0 0:Nat),.int .i64 (hp.ds.getD 1 0:Nat)] _ (fun j u hj=>by
      have hj2:j<2:=(List.getElem?_eq_some_iff.1 hj).1
      rw[show k*11+8+j=k*11+(8+j)by omega,HCL.out w' hb (8+j) (by omega)]
      rcases(by omega:j=0∨j=1)with rfl|rfl
      ·exact hj
      ·exact hj) Tryz.underlying127 rfl (by kernel_rfl))
     have HDL:Hid (∀w':World,Below W.heap.size W w'→(Instr.loadAt 127 (.pointer (some ⟨g,k*11+8,none⟩))).run Tryz.prog w'=.ok (.agg #[.int .i64 (hp.ds.getD 0 0:Nat),.int .i64 (hp.ds.getD 1 0:Nat)]) w'):=zb (fun w' hb=>HDL2.out w' (HFD.out.bel.trans (by rw[←hWd];exact hb.mono (by rw[hWd];exact HFD.out.bel.size))))
     rw[hct]at c10
     clear hnm hct dgs hUF hUF2 hUG HFK HD
     subst hWd
     go_wp2_with fail
     go_region_held3 (fun w'=>w'.cell? ⟨g,k*11,none⟩=some (.int .u8 (zn hp.nm 0))∧w'.cell? ⟨g,k*11+1,none⟩=some (.int .u8 (zn hp.nm 1))∧w'.cell? ⟨g,k*11+2,none⟩=some (.int .u8 (zn hp.nm 2))∧w'.cell? ⟨g,k*11+3,none⟩=some (.int .u8 (zn hp.nm 3))∧w'.cell? ⟨g,k*11+4,none⟩=some (.int .u8 (zn hp.nm 4))∧w'.cell? ⟨g,k*11+5,none⟩=some (.int .u8 (zn hp.nm 5))∧w'.cell? ⟨g,k*11+6,none⟩=some (.int .u8 (zn hp.nm 6))∧w'.cell? ⟨g,k*11+7,none⟩=some (.int .u8 (zn hp.nm 7))∧w'.cell? ⟨g,k*11+10,none⟩=some (.int .i64 n)∧w'.cell? ⟨w.heap.size,2,none⟩=some (.int .u8 (zn nd.name 0))∧w'.cell? ⟨w.heap.size,3,none⟩=some (.int .u8 (zn nd.name 1))∧w'.cell? ⟨w.heap.size,4,none⟩=some (.int .u8 (zn nd.name 2))∧w'.cell? ⟨w.heap.size,5,none⟩=some (.int .u8 (zn nd.name 3))∧w'.cell? ⟨w.heap.size,6,none⟩=some (.int .u8 (zn nd.name 4))∧w'.cell? ⟨w.heap.size,7,none⟩=some (.int .u8 (zn nd.name 5))∧w'.cell? ⟨w.heap.size,8,none⟩=some (.int .u8 (zn nd.name 6))∧w'.cell? ⟨w.heap.size,9,none⟩=some (.int .u8 (zn nd.name 7))∧w'.cell? ⟨w.heap.size,14,none⟩=some (.int .i64 n)) (first|go_keep|(exact⟨c0,c1,c2,c3,c4,c5,c6,c7,c10,n2,n3,n4,n5,n6,n7,n8,n9,n14⟩)) (fail)
     clear c0 c1 c2 c3 c4 c5 c6 c7 c10 n2 n3 n4 n5 n6 n7 n8 n9 n14 hEq
     have HB0:Hid (Below W.heap.size W W.drew.drew):=zb ((zB _ _).drew.drew)
     have HS:Hid (∀w',Below W.heap.size W w'→(Instr.loadAt 166 (.pointer (some ⟨w.heap.size,0,none⟩))).run Tryz.prog w'=.ok V w'∧(Instr.loadAt 127 (.pointer (some ⟨g,k*11+8,none⟩))).run Tryz.prog w'=.ok (.agg #[.int .i64 (hp.ds.getD 0 0:Nat),.int .i64 (hp.ds.getD 1 0:Nat)]) w'):=zb (fun w' hb=>⟨by rw[HV.out];exact j2Q (HFD.out.below hb).nod,HDL.out w' hb⟩)
     have HLF:Hid (∀w',Below W.heap.size W w'→(Instr.loadAt 43 (.pointer (some ⟨w.heap.size+2,0,none⟩))).run Tryz.prog w'=.ok UF w'):=zb (fun w' hb=>by rw[HUF.out];exact qg (HFD.out.below hb).fnd)
     have FIN:Hid (∀w',Below W.heap.size W w'→∃WS,(Instr.storeAt 43 (.pointer (some ⟨w.heap.size+2,0,none⟩)) UF2).run Tryz.prog w'=.ok () WS∧((Instr.loadAt 166 (.pointer (some ⟨w.heap.size,0,none⟩))).run Tryz.prog WS=.ok V WS∧(Instr.loadAt 127 (.pointer (some ⟨g,k*11+8,none⟩))).run Tryz.prog WS=.ok (.agg #[.int .i64 (hp.ds.getD 0 0:Nat),.int .i64 (hp.ds.getD 1 0:Nat)]) WS)∧HapAtF w WS nd (F (k+1))):=zb (fun w' hb=>by
      obtain⟨WS,q1,q2,q3⟩:=(HFD.out.below hb).set (F (k+1))
      exact⟨WS,by rw[HUF2.out];exact q1,⟨by rw[HV.out];exact j2Q q2.nod,HDL2.out WS q2.bel⟩,q2⟩)
     go_wp2_with fail
     refine wp_region_held_drew (S:=fun w'=>(Instr.loadAt 166 (.pointer (some ⟨w.heap.size,0,none⟩))).run Tryz.prog w'=.ok V w'∧(Instr.loadAt 127 (.pointer (some ⟨g,k*11+8,none⟩))).run Tryz.prog w'=.ok (.agg #[.int .i64 (hp.ds.getD 0 0:Nat),.int .i64 (hp.ds.getD 1 0:Nat)]) w') (by kernel_rfl) (HS.out _ HB0.out) (fun _=>?_)
     refine q0k (i:=1) (v:=V) 32 rfl rfl (by kernel_rfl) (by kernel_rfl) (by kernel_rfl) (fun _ _ _ h=>h) (q0Q (by rfl) 166 (.tmp 2) rfl ⟨w.heap.size,0,none⟩ _ rfl (fun w h=>h.1)) (HS.out _ HB0.out) ?_
     simp only[Act.put,List.setIfInBounds_toArray,List.set_cons_succ,List.set_cons_zero]
     refine q0k (i:=2) (v:=.slice (some ⟨g,0,none⟩) l.length cap) 33 rfl rfl (by kernel_rfl) (by kernel_rfl) (by kernel_rfl) (fun _ _ _ h=>h) (Or.inl ⟨by rfl,fun w _=>by go_simp⟩) (HS.out _ HB0.out) ?_
     simp only[Act.put,List.setIfInBounds_toArray,List.set_cons_succ,List.set_cons_zero]
     refine q0k (i:=3) (v:=.int .i64 k) 34 rfl rfl (by kernel_rfl) (by kernel_rfl) (by kernel_rfl) (fun _ _ _ h=>h) (Or.inl ⟨by rfl,fun w _=>by go_simp⟩) (HS.out _ HB0.out) ?_
     simp only[Act.put,List.setIfInBounds_toArray,List.set_cons_succ,List.set_cons_zero]
     refine q0k (i:=4) (v:=.pointer (some ⟨g,k*11,none⟩)) 35 rfl rfl (by kernel_rfl) (by kernel_rfl) (by kernel_rfl) (fun _ _ _ h=>h) (Or.inl ⟨by rfl,fun w _=>by go_simp⟩) (HS.out _ HB0.out) ?_
     simp only[Act.put,List.setIfInBounds_toArray,List.set_cons_succ,List.set_cons_zero]
     refine q0k (i:=5) (v:=.pointer (some ⟨g,k*11+8,none⟩)) 36 rfl rfl (by kernel_rfl) (by kernel_rfl) (by kernel_rfl) (fun _ _ _ h=>h) (Or.inl ⟨by rfl,fun w _=>by go_simp⟩) (HS.out _ HB0.out) ?_
     simp only[Act.put,List.setIfInBounds_toArray,List.set_cons_succ,List.set_cons_zero]
     refine q0k (i:=6) (v:=.agg #[.int .i64 (hp.ds.getD 0 0:Nat),.int .i64 (hp.ds.getD 1 0:Nat)]) 37 rfl rfl (by kernel_rfl) (by kernel_rfl) (by kernel_rfl) (fun _ _ _ h=>h) (q0Q (by rfl) 127 (.tmp 36) rfl ⟨g,k*11+8,none⟩ _ rfl (fun w h=>h.2)) (HS.out _ HB0.out) ?_
     simp only[Act.put,List.setIfInBounds_toArray,List.set_cons_succ,List.set_cons_zero]
     refine zY (rs:=[0,7]) (by kernel_rfl) (by simp) ?_
     refine zR rfl (fun K hK=>?_) (zR rfl (fun K hK=>?_) zE)
     ·rw[if_pos (by rfl)]
      refine q0e 43 (.tmp 5) rfl ⟨w.heap.size+2,0,none⟩ UF rfl (HLF.out _ HB0.out) ?_
      refine hK.out _ _ (HS.out _ HB0.out) (fun _=>?_)
      clear hK K
      simp only[Act.put,List.setIfInBounds_toArray]
      refine rd1 7 rfl fun K hK=>?_
      go_simp
      refine(HVF.out _).mono ?_
      rintro e w5 ⟨rfl,b5⟩
      have Bb5:Below W.heap.size W w5:=(HB0.out).trans (b5.mono (HB0.out).size)
      go_simp
      refine hK.out _ _ (HS.out _ Bb5) (fun _=>?_)
      clear hK K b5
      refine rd1 8 rfl fun K hK=>?_
      go_simp
      refine(HEI.out _).mono ?_
      rintro e w6 ⟨rfl,b6⟩
      have Bb6:Below W.heap.size W w6:=(Bb5).trans (b6.mono (Bb5).size)
      go_simp
      refine hK.out _ _ (HS.out _ Bb6) (fun _=>?_)
      clear hK K b6
      obtain⟨WS,S1,HSW,PW⟩:=FIN.out _ Bb6
      refine rd1 9 rfl fun K hK=>?_
      refine qe 43 (.tmp 5) (.tmp 39) rfl ⟨w.heap.size+2,0,none⟩ UF2 rfl rfl WS S1 ?_
      refine hK.out _ _ HSW (fun _=>?_)
      clear hK K
      refine zD (by kernel_rfl) ?_ _
      simp only[Act.put,List.setIfInBounds_toArray]
      have hg1:0<gk:=by have:=HG.out;omega
      go_wp2_with fail
      go_roundg (gk-1)
      case measure=>omega
      case rel=>exact⟨k+1,by omega,by have:=HG.out;omega,by go_num,PW⟩
     ·rw[if_pos (by rfl)]
      go_simp
      refine(HVF.out _).mono ?_
      rintro e w5 ⟨rfl,b5⟩
      have Bb5:Below W.heap.size W w5:=(HB0.out).trans (b5.mono (HB0.out).size)
      go_simp
      refine hK.out _ _ (HS.out _ Bb5) (fun _=>?_)
      clear hK K b5
      refine rd1 0 rfl fun K hK=>?_
      refine q0e 43 (.tmp 5) rfl ⟨w.heap.size+2,0,none⟩ UF rfl (HLF.out _ Bb5) ?_
      refine hK.out _ _ (HS.out _ Bb5) (fun _=>?_)
      clear hK K
      simp only[Act.put,List.setIfInBounds_toArray]
      refine rd1 8 rfl fun K hK=>?_
      go_simp
      refine(HEI.out _).mono ?_
      rintro e w6 ⟨rfl,b6⟩
      have Bb6:Below W.heap.size W w6:=(Bb5).trans (b6.mono (Bb5).size)
      go_simp
      refine hK.out _ _ (HS.out _ Bb6) (fun _=>?_)
      clear hK K b6
      obtain⟨WS,S1,HSW,PW⟩:=FIN.out _ Bb6
      refine rd1 9 rfl fun K hK=>?_
      refine qe 43 (.tmp 5) (.tmp 39) rfl ⟨w.heap.size+2,0,none⟩ UF2 rfl rfl WS S1 ?_
      refine hK.out _ _ HSW (fun _=>?_)
      clear hK K
      refine zD (by kernel_rfl) ?_ _
      simp only[Act.put,List.setIfInBounds_toArray]
      have hg1:0<gk:=by have:=HG.out;omega
      go_wp2_with fail
      go_roundg (gk-1)
      case measure=>omega
      case rel=>exact⟨k+1,by omega,by have:=HG.out;omega,by go_num,PW⟩
    ·have hctf:((hp.ds.length:Int)==(n:Int))=false:=by simpa using hct
     have HFE:Hid (F (k+1)=F k):=zb (by rw[HFK.out];funext x y;unfold evP;rw[hnm,HN.out,decide_eq_false hct];simp)
     clear hnm hct
     go_wp2_with fail
     go_region_held3 (fun w'=>w'.cell? ⟨g,k*11,none⟩=some (.int .u8 (zn hp.nm 0))∧w'.cell? ⟨g,k*11+1,none⟩=some (.int .u8 (zn hp.nm 1))∧w'.cell? ⟨g,k*11+2,none⟩=some (.int .u8 (zn hp.nm 2))∧w'.cell? ⟨g,k*11+3,none⟩=some (.int .u8 (zn hp.nm 3))∧w'.cell? ⟨g,k*11+4,none⟩=some (.int .u8 (zn hp.nm 4))∧w'.cell? ⟨g,k*11+5,none⟩=some (.int .u8 (zn hp.nm 5))∧w'.cell? ⟨g,k*11+6,none⟩=some (.int .u8 (zn hp.nm 6))∧w'.cell? ⟨g,k*11+7,none⟩=some (.int .u8 (zn hp.nm 7))∧w'.cell? ⟨g,k*11+10,none⟩=some (.int .i64 hp.ds.length)∧w'.cell? ⟨w.heap.size,2,none⟩=some (.int .u8 (zn nd.name 0))∧w'.cell? ⟨w.heap.size,3,none⟩=some (.int .u8 (zn nd.name 1))∧w'.cell? ⟨w.heap.size,4,none⟩=some (.int .u8 (zn nd.name 2))∧w'.cell? ⟨w.heap.size,5,none⟩=some (.int .u8 (zn nd.name 3))∧w'.cell? ⟨w.heap.size,6,none⟩=some (.int .u8 (zn nd.name 4))∧w'.cell? ⟨w.heap.size,7,none⟩=some (.int .u8 (zn nd.name 5))∧w'.cell? ⟨w.heap.size,8,none⟩=some (.int .u8 (zn nd.name 6))∧w'.cell? ⟨w.heap.size,9,none⟩=some (.int .u8 (zn nd.name 7))∧w'.cell? ⟨w.heap.size,14,none⟩=some (.int .i64 n)) (first|go_keep|(exact⟨c0,c1,c2,c3,c4,c5,c6,c7,c10,n2,n3,n4,n5,n6,n7,n8,n9,n14⟩)) (fail)
     go_wp2_with fail
     have hg1:0<gk:=by have:=HG.out;omega
     go_roundg (gk-1)
     case measure=>omega
     case rel=>exact⟨k+1,by omega,by have:=HG.out;omega,by go_num,by rw[HFE.out];exact HFD.out.below ((zB _ _).drew)⟩
  ·have hkn':k=l.length:=by omega
   obtain⟨W,S1,LV,BW⟩:=q1L HFD.out.res (by omega) HFD.out.bel (zB _ _) (zm (F k))
   have L5:=qg HFD.out.fnd
   rw[hkn',←HRV.out]at S1 LV L5
   have HW:=zb BW
   clear BW hkn'
   go_wp2_with (first|(refine zj rfl 43 (.tmp 5) rfl ⟨w.heap.size+2,0,none⟩ RV rfl L5 ?_)|(refine ze rfl 43 (.tmp 4) (.tmp 40) rfl ⟨w.heap.size+1,0,none⟩ RV rfl rfl W S1 ?_))
   exact zP (v:=RV) (zl rfl _ _ _ _ rfl LV) rfl ⟨rfl,HW.out⟩
end Go.Proofs.YtiamjjonoeaggabGreatDoor
