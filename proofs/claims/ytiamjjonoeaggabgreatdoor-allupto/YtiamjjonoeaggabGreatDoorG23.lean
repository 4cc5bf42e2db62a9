import Derived.Test.YtiamjjonoeaggabGreatDoorGA
import Derived.Test.YtiamjjonoeaggabGreatDoorG09
set_option maxRecDepth 100000
set_option maxHeartbeats 16000000
namespace Go.Proofs.YtiamjjonoeaggabGreatDoor
open Go.RowKit
theorem j5h:∀F:zl,(∀k∈zu F,q0v k=false)→q3d F=true:=by
 intro F
 induction F with
 |nil=>intro _;rfl
 |node p sp y l r ihl ihr =>
  intro h
  rw[q3d]
  have h0:=h (.node p sp y l r) (by simp[zu])
  have h1:=ihl (fun k hk=>h k (by simp[zu,hk]))
  have h2:=ihr (fun k hk=>h k (by simp[zu,hk]))
  have h0':(q2f y.word&&(y.hi==[42]))=false:=h0
  rw[h0',h1,h2]
  rfl
theorem j3d {F:zl}(h:(q0x F).1=0):q3d F=true:=by
 refine j5h F (fun k hk=>?_)
 unfold q0x at h
 cases h1:(zu F).find? q0p with
 |some k=>rw[h1]at h;simp at h
 |none =>
  rw[h1]at h
  simp only[]at h
  cases h2:(zu F).find? q0v with
  |some k=>rw[h2]at h;simp at h
  |none =>
   rw[List.find?_eq_none]at h2
   simpa using h2 k hk
def j1x (s:By):Bool:=decide ((qh s).1=0)&&zt (q0a s) [120]
def j1y (s:By):Bool:=decide ((qh s).1=0)&&zt (q0a s) [121]
def j1w (s:By):Int:=if (qh s).1=0 then zV (q0a s)else 0
theorem q9M {s:By}(h:(qh s).1=0):(q0W s).1=0∧q3d (q0a s)=true:=by
 unfold qh at h
 by_cases hr:(q0W s).1=0
 ·rw[if_neg (by simp[hr])]at h
  exact⟨hr,j3d h⟩
 ·rw[if_pos hr]at h
  exact absurd h hr
theorem q8Y {F:zl}(h:(q0x F).1=0):(q0x F).2=0:=by
 unfold q0x at h ⊢
 cases h1:(zu F).find? q0p with
 |some k=>rw[h1]at h;simp at h
 |none =>
  rw[h1]at h
  simp only[]at h ⊢
  cases h2:(zu F).find? q0v with
  |some k=>rw[h2]at h;simp at h
  |none =>
   rw[h2]at h
   simp only[]at h ⊢
   cases h3:(zu F).find? q2t with
   |some k=>rw[h3]at h;simp at h
   |none=>rfl
theorem q5Z {s:By}(h:(qh s).1=0):(qh s).2=0:=by
 unfold qh at h ⊢
 by_cases hr:(q0W s).1=0
 ·rw[if_neg (by simp[hr])]at h ⊢
  exact q8Y h
 ·rw[if_pos hr]at h
  exact absurd h hr
theorem ref_Info (s:By)(hs64:s.length≤maxLen)(w:World) :
  Calls Tryz.prog 57 #[bs s] w fun e w'=>e=.returned (.tuple #[.agg #[.bool (j1x s),.bool (j1y s),.int .i64 (j1w s)],.int .i64 (qh s).1,.int .i64 (qh s).2])∧Below w.heap.size w w':=by
 have hC:=j1I s hs64
 have HCR:=zb (@q9M s)
 have HP2:Hid ((qh s).1=0→(qh s).2=0):=fun h=>q5Z h
 unfold j1x j1y j1w
 by_cases hc:(qh s).1=0
 ·obtain⟨hr,ha⟩:=HCR.out hc
  have hR:=q6G hr
  have hG:q3t (q0u s).1:=q4m s
  have hz:=HP2.out hc
  rw[if_pos hc,decide_eq_true hc,Bool.true_and,Bool.true_and]
  generalize qh s=cr at *
  obtain⟨ce,cp⟩:=cr
  simp only[]at hc hC hz
  subst hc hz
  generalize (q0u s).1=toks at *
  generalize q0a s=F at *
  have HX:=zb (fun v w h=>q4q F toks v w [120] hR h rfl)
  have HY:=zb (fun v w h=>q4q F toks v w [121] hR h rfl)
  have HRc:=zb (fun v w h=>q8G F toks v w hR hG ha h)
  clear hR hG ha hr HCR HP2
  generalize zt F [120]=fx at *
  generalize zt F [121]=fy at *
  generalize zV F=fr at *
  go_enter Tryz.func57,Tryz.ntmps57
  go_wp2_with fail
  refine(hC _).mono ?_
  rintro e w1 ⟨va,vn,vcc,rfl,hfr,hb1⟩
  have hfr:qB w1 (.agg #[.slice va vn vcc]) toks:=(hfr trivial).1
  have r1:=hb1.mono (B':=w.heap.size+1) (by simp)
  have q1:=((zB w.heap.size w).alloc (zL _) _).trans (hb1.mono (by simp))
  have hs1:=r1.size
  simp at hs1
  obtain⟨vb,vo,vc,hve,_⟩:=qe hfr
  simp at hve
  obtain⟨rfl,rfl,rfl⟩:=hve
  have HF1:=zb hfr
  clear hfr hb1 hC
  go_wp2_with fail
  refine(HX.out _ _ (HF1.out.below ((zB _ _).alloc (zL _) _))).mono ?_
  rintro e w2 ⟨rfl,hb2⟩
  have t2:=hb2.mono (B':=w1.heap.size+1) (by simp)
  have s2:=t2.size
  simp at s2
  have p2:=((zB w1.heap.size w1).alloc (zL _) _).trans (t2.mono (by omega))
  have hc2:=zo t2 w1.heap.size 0 (by omega)
  clear hb2
  go_wp2_with fail
  refine(HY.out _ _ (HF1.out.below p2)).mono ?_
  rintro e w3 ⟨rfl,hb3⟩
  have t3:=t2.trans (hb3.mono (by omega))
  have s3:=t3.size
  simp at s3
  have p3:=p2.trans (hb3.mono (by omega))
  have hc3:=zo t3 w1.heap.size 0 (by omega)
  clear hb3 hc2 t2 p2
  go_wp2_with fail
  refine(HRc.out _ _ (HF1.out.below p3)).mono ?_
  rintro e w4 ⟨rfl,hb4⟩
  have p4:=p3.trans (hb4.mono (by omega))
  have g4:=r1.trans (p4.mono hs1)
  have q4:=q1.trans (p4.mono q1.size)
  have c0:=zo g4 w.heap.size 0 (by omega)
  have c1:=zo g4 w.heap.size 1 (by omega)
  have c2:=zo g4 w.heap.size 2 (by omega)
  have z0:=g4.frozen (p:=⟨w.heap.size,0,none⟩) (by simp)
  have z1:=g4.frozen (p:=⟨w.heap.size,1,none⟩) (by simp)
  have z2:=g4.frozen (p:=⟨w.heap.size,2,none⟩) (by simp)
  clear hb4 hc3 t3 p3
  go_wp2_with fail
  exact zP (v:=.tuple #[.agg #[.bool fx,.bool fy,.int .i64 fr],.int .i64 0,.int .i64 0]) (by simp[results,Tryz.results57,go_sem,c0,c1,c2]) rfl ⟨rfl,((q4.setCell (by simp) _).setCell (by simp) _).setCell (by simp) _⟩
 ·have hne:((qh s).1 != 0)=true:=by simp[hc]
  rw[if_neg hc,decide_eq_false hc,Bool.false_and,Bool.false_and]
  generalize qh s=cr at *
  obtain⟨ce,cp⟩:=cr
  simp only[]at hc hC hne
  clear HCR HP2 hc
  go_enter Tryz.func57,Tryz.ntmps57
  go_wp2_with fail
  refine(hC _).mono ?_
  rintro e w1 ⟨va,vn,vcc,rfl,_,hb1⟩
  have r1:=hb1.mono (B':=w.heap.size+1) (by simp)
  have q1:=((zB w.heap.size w).alloc (zL _) _).trans (hb1.mono (by simp))
  have hs1:=r1.size
  simp at hs1
  have c0:=fun o=>zo (r1.alloc (by omega) o) w.heap.size 0 (by omega)
  have c1:=fun o=>zo (r1.alloc (by omega) o) w.heap.size 1 (by omega)
  have c2:=fun o=>zo (r1.alloc (by omega) o) w.heap.size 2 (by omega)
  have z0:=fun o=>(r1.alloc (by omega) o).frozen (p:=⟨w.heap.size,0,none⟩) (by simp)
  have z1:=fun o=>(r1.alloc (by omega) o).frozen (p:=⟨w.heap.size,1,none⟩) (by simp)
  have z2:=fun o=>(r1.alloc (by omega) o).frozen (p:=⟨w.heap.size,2,none⟩) (by simp)
  clear hb1 hC
  go_wp2_with fail
  exact zP (v:=.tuple #[.agg #[.bool false,.bool false,.int .i64 0],.int .i64 ce,.int .i64 cp]) (by simp[results,Tryz.results57,go_sem,c0,c1,c2]) rfl ⟨rfl,(((q1.alloc q1.size _).setCell (by simp) _).setCell (by simp) _).setCell (by simp) _⟩
end Go.Proofs.YtiamjjonoeaggabGreatDoor
