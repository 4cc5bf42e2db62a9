import Derived.Test.YtiamjjonoeaggabGreatDoorGA
import Derived.Test.YtiamjjonoeaggabGreatDoorGB
import Derived.Test.YtiamjjonoeaggabGreatDoorG27
set_option maxRecDepth 100000
set_option maxHeartbeats 16000000
namespace Go.Proofs.YtiamjjonoeaggabGreatDoor
open Go.RowKit
def vcR (P S:Nat→Int)(R:Nat→Nat→Int)(n:Nat):List Value:=(List.range n).flatMap fun i=>(vcA (P i) (S i) (R i)).toList
theorem j4z (P S:Nat→Int)(R:Nat→Nat→Int)(n:Nat):vcR P S R (n+1)=vcR P S R n++(vcA (P n) (S n) (R n)).toList:=by simp[vcR,List.range_succ]
theorem q9G (P S:Nat→Int)(R:Nat→Nat→Int)(n:Nat):(vcR P S R n).length=n*12:=by
 induction n with
 |zero=>rfl
 |succ n ih=>rw[j4z,List.length_append,ih];simp;omega
theorem vcR_at (P S:Nat→Int)(R:Nat→Nat→Int):∀(n i j:Nat),i<n→j<12→(vcR P S R n)[i*12+j]?=(vcA (P i) (S i) (R i)).toList[j]?:=by
 intro n
 induction n with
 |zero=>intro i j h;omega
 |succ n ih =>
  intro i j h hj
  rw[j4z]
  by_cases hp:i<n
  ·rw[List.getElem?_append_left (by rw[q9G];omega)]
   exact ih i j hp hj
  ·rw[List.getElem?_append_right (by rw[q9G];omega),q9G,show i=n by omega,show n*12+j-n*12=j by omega]
theorem flR_vc (f:Nat→Int)(n:Nat):flR f n=vcR (fun i=>wrap64 (-(f i))) (fun i=>IntKind.u16.wrap (f i)) (fun _ _=>0) n:=rfl
theorem j6h {w:World}{base g c n:Nat}{P S:Nat→Int}{R:Nat→Nat→Int}(h:w.ownsRow base 45 12 (.slice (some ⟨g,0,none⟩) n c) n (vcR P S R n)){i:Nat}(hi:i<n):(Instr.loadAt 45 (.pointer (some ⟨g,i*12,none⟩))).run Tryz.prog w=.ok (.agg (vcA (P i) (S i) (R i))) w:=by
 refine run_loadAt_mid w g (i*12) 45 (vcA (P i) (S i) (R i)).toList _ (fun j v hv=>?_) Tryz.underlying45 rfl (by kernel_rfl)
 have hj:j<12:=(List.getElem?_eq_some_iff.1 hv).1
 rw[h.cellAt _ (by omega),vcR_at _ _ _ _ _ _ hi hj]
 exact hv
theorem q3U {n c:Nat}(h:n≤c)(hc:c≤maxLen):n≤9223372036854775807:=by unfold maxLen at hc;omega
def SvRel (n:Nat)(w:World)(g:Nat)(vi:Value)(wr:World):Prop:=∃k:Nat,k≤n∧n-k≤g∧vi=.int .i64 k∧Below w.heap.size w wr
theorem j3G (va vb:OA)(ca cb:Nat)(w:World):Calls Tryz.prog 44 #[.slice va 0 ca,.slice vb 0 cb] w fun e w'=>e=.returned (.bool true)∧Below w.heap.size w w':=by
 go_enter Tryz.func44,Tryz.ntmps44
 go_wp2_with fail
 go_loopg [5] 0 (fun g vi wr=>SvRel 0 w g vi wr)
 case atStart=>exact⟨0,zL _,by omega,rfl,zB _ _⟩
 case round =>
  obtain⟨k,hk,hg,rfl,hb⟩:=hrel
  have HB:=zb hb
  have hk0:k=0:=by omega
  subst hk0
  clear hb hg
  go_wp2_with fail
  go_ret
  exact⟨rfl,HB.out⟩
theorem j3H (ga gb ca cb n base base':Nat)(P S:Nat→Int)(R:Nat→Nat→Int)(w:World)(ha:w.ownsRow base 45 12 (.slice (some ⟨ga,0,none⟩) n ca) n (vcR P S R n))(hb:w.ownsRow base' 45 12 (.slice (some ⟨gb,0,none⟩) n cb) n (vcR P S R n)) :
  Calls Tryz.prog 44 #[.slice (some ⟨ga,0,none⟩) n ca,.slice (some ⟨gb,0,none⟩) n cb] w fun e w'=>e=.returned (.bool true)∧Below w.heap.size w w':=by
 obtain⟨_,_,a1,a2,_⟩:=q1O ha
 obtain⟨_,_,b1,b2,_⟩:=q1O hb
 have hn:=q3U a1 a2
 have HA:=zb ha
 have HBB:=zb hb
 clear ha hb a2 b2
 go_enter Tryz.func44,Tryz.ntmps44
 go_wp2_with fail
 go_loopg [5] n (fun g vi wr=>SvRel n w g vi wr)
 case atStart=>exact⟨0,zZ _,by omega,rfl,zB _ _⟩
 case round =>
  obtain⟨k,hk,hg,rfl,hb⟩:=hrel
  have HB:=zb hb
  have HG:=zb hg
  clear hb hg
  by_cases hkn:k<n
  ·obtain⟨V,hV⟩:∃V,V=Value.agg (vcA (P k) (S k) (R k)):=⟨_,rfl⟩
   have SS:Hid (∀w',Below w.heap.size w w'→(Instr.loadAt 45 (.pointer (some ⟨ga,k*12,none⟩))).run Tryz.prog w'=.ok V w'∧(Instr.loadAt 45 (.pointer (some ⟨gb,k*12,none⟩))).run Tryz.prog w'=.ok V w'):=zb (fun w' hw=>⟨by rw[hV];exact j6h (zh HA.out hw) hkn,by rw[hV];exact j6h (zh HBB.out hw) hkn⟩)
   have HV:=zb hV
   have C0:=SS.out _ HB.out.drew
   clear hV
   go_wp2_with fail
   refine wp_region_held_drew (S:=fun w'=>(Instr.loadAt 45 (.pointer (some ⟨ga,k*12,none⟩))).run Tryz.prog w'=.ok V w'∧(Instr.loadAt 45 (.pointer (some ⟨gb,k*12,none⟩))).run Tryz.prog w'=.ok V w') (by kernel_rfl) C0 (fun _=>?_)
   simp only[rz,Nat.zero_add,Nat.reduceAdd]
   refine tq 0 18 ?_
   simp only[Act.put,pz]
   refine tq 1 19 ?_
   simp only[Act.put,pz]
   refine tq 2 20 ?_
   simp only[Act.put,pz]
   refine ql (i:=3) (v:=V) 21 rfl rfl (by kernel_rfl) (by kernel_rfl) (by kernel_rfl) (fun _ _ _ h=>h) (qJ (by rfl) 45 (.tmp 20) rfl ⟨ga,k*12,none⟩ _ rfl (fun w hSw=>hSw.1)) (by assumption) ?_
   simp only[Act.put,pz]
   refine tq 4 22 ?_
   simp only[Act.put,pz]
   refine tq 5 23 ?_
   simp only[Act.put,pz]
   refine tq 6 24 ?_
   simp only[Act.put,pz]
   refine ql (i:=7) (v:=V) 25 rfl rfl (by kernel_rfl) (by kernel_rfl) (by kernel_rfl) (fun _ _ _ h=>h) (qJ (by rfl) 45 (.tmp 24) rfl ⟨gb,k*12,none⟩ _ rfl (fun w hSw=>hSw.2)) (by assumption) ?_
   simp only[Act.put,pz]
   refine rd1 8 rfl fun K hK=>?_
   have HC:Hid (∀W,Calls Tryz.prog 62 #[V,V] W fun e w'=>e=.returned (.bool true)∧Below W.heap.size W w'):=zb (fun W=>by rw[HV.out];exact j6R (P k) (S k) (R k) W)
   go_simp
   refine(HC.out _).mono ?_
   rintro e w5 ⟨rfl,b5⟩
   have Bb5:Below w.heap.size w w5:=(HB.out.drew).trans (b5.mono (HB.out.drew).size)
   go_simp
   have C5:=SS.out _ Bb5
   refine hK.out _ _ C5 (fun _=>?_)
   clear hK K b5 C0
   have HB5:=zb Bb5
   clear Bb5
   refine tq 9 6 ?_
   simp only[Act.put,pz]
   refine zD (by kernel_rfl) ?_ _
   have hg1:0<gk:=by have:=HG.out;omega
   go_wp2_with fail
   go_roundg (gk-1)
   case measure=>omega
   case rel=>exact⟨k+1,by omega,by have:=HG.out;omega,by go_num,HB5.out⟩
  ·go_wp2_with fail
   go_ret
   exact⟨rfl,HB.out⟩
end Go.Proofs.YtiamjjonoeaggabGreatDoor
