import Derived.Test.YtiamjjonoeaggabGreatDoorGA
import Derived.Test.YtiamjjonoeaggabGreatDoorG01
import Derived.Test.YtiamjjonoeaggabGreatDoorG02
import Derived.Test.YtiamjjonoeaggabGreatDoorG03
import Derived.Test.YtiamjjonoeaggabGreatDoorG05
import Derived.Deep.RegionHeld3
set_option maxRecDepth 100000
set_option maxHeartbeats 16000000
namespace Go.Proofs.YtiamjjonoeaggabGreatDoor
open Go.RowKit
structure OnlyB (bl:List Nat)(w w':World):Prop where
 os:w'.os=w.os
 tape:w'.tape=w.tape
 output:w'.output=w.output
 size:w.heap.size≤w'.heap.size
 block:∀k,k<w.heap.size→k∉bl→w'.heap[k]?=w.heap[k]?
theorem OnlyB.refl (bl:List Nat)(w:World):OnlyB bl w w:=⟨rfl,rfl,rfl,zL _,fun _ _ _=>rfl⟩
theorem OnlyB.trans {bl:List Nat}{a c d:World}(h:OnlyB bl a c)(k:OnlyB bl c d):OnlyB bl a d:=
 ⟨k.os.trans h.os,k.tape.trans h.tape,k.output.trans h.output,zM h.size k.size,fun i hi hn=>(k.block i (zT hi h.size) hn).trans (h.block i hi hn)⟩
theorem OnlyB.of_below {bl:List Nat}{a c:World}(h:Below a.heap.size a c):OnlyB bl a c:=⟨h.os,h.tape,h.output,h.size,fun k hk _=>h.block k hk⟩
theorem OnlyB.cell {bl:List Nat}{w w':World}(h:OnlyB bl w w'){b o:Nat}(hb:b<w.heap.size)(hn:b∉bl):w'.cell? ⟨b,o,none⟩=w.cell? ⟨b,o,none⟩:=zK (w:=w) (h.block b hb hn)
theorem OnlyB.frozen {bl:List Nat}{w w':World}(h:OnlyB bl w w'){b o:Nat}(hb:b<w.heap.size)(hn:b∉bl):w'.frozen? ⟨b,o,none⟩=w.frozen? ⟨b,o,none⟩:=World.frozen?_of_block (w:=w) (h.block b hb hn)
theorem OnlyB.setCell {bl:List Nat}{a w:World}(h:OnlyB bl a w){b o:Nat}(hb:b∈bl)(u:Value):OnlyB bl a (w.setCell ⟨b,o,none⟩ u):=by
 refine⟨h.os,h.tape,h.output,by simpa using h.size,fun k hk hn=>?_⟩
 rw[Below.heap_setCell w _ u k (by intro e;subst e;exact hn hb)]
 exact h.block k hk hn
theorem OnlyB.below {bl:List Nat}{w w':World}{B:Nat}(h:OnlyB bl w w')(hB:B≤w.heap.size)(hb:∀k∈bl,B≤k):Below B w w':=
 ⟨h.os,h.tape,h.output,h.size,fun k hk=>h.block k (by omega) (fun hm=>by have:=hb k hm;omega)⟩
structure PTok where
 kind:Int
 pos:Int
 size:Int
 val:Int
 name:By
def q6P (t:Tok):PTok:=⟨zo t.text,t.pos,t.text.length,q3w t.text,padP t.text⟩
def ptV (t:PTok):Value:=q7p t.kind t.pos t.size t.val t.name
def ptEnd:PTok:=⟨0,0,0,0,[]⟩
structure Pars (w:World)(bp bt ct:Nat)(ts:List PTok)(nv:Value)(nx:Nat):Prop where
 toks:w.cell? ⟨bp,0,none⟩=some (.slice (some ⟨bt,0,none⟩) ts.length ct)
 next:w.cell? ⟨bp,1,none⟩=some (.int .i64 nx)
 nodes:w.cell? ⟨bp,2,none⟩=some nv
 free:∀o,w.frozen? ⟨bp,o,none⟩=false
 cap:ts.length≤ct∧ct≤maxLen∧ts.length≤1000
 ne:bt≠bp
 lt:bt<w.heap.size∧bp<w.heap.size
 cells:∀i (h:i<ts.length),(∀j,j<12→w.cell? ⟨bt,i*12+j,none⟩=(q4f (ts[i]).kind (ts[i]).pos (ts[i]).size (ts[i]).val (ts[i]).name)[j]?)
theorem Pars.only {w w':World}{bl:List Nat}{bp bt ct:Nat}{ts:List PTok}{nv:Value}{nx:Nat}(h:Pars w bp bt ct ts nv nx)(ho:OnlyB bl w w')(h1:bp∉bl)(h2:bt∉bl):Pars w' bp bt ct ts nv nx:=
 ⟨by rw[ho.cell h.lt.2 h1];exact h.toks,by rw[ho.cell h.lt.2 h1];exact h.next,by rw[ho.cell h.lt.2 h1];exact h.nodes,fun o=>by rw[ho.frozen h.lt.2 h1];exact h.free o,h.cap,h.ne,⟨zT h.lt.1 ho.size,zT h.lt.2 ho.size⟩,fun i hi j hj=>by rw[ho.cell h.lt.1 h2];exact h.cells i hi j hj⟩
theorem Pars.step {w:World}{bp bt ct:Nat}{ts:List PTok}{nv:Value}{nx:Nat}(h:Pars w bp bt ct ts nv nx)(n:Nat):Pars (w.setCell ⟨bp,1,none⟩ (.int .i64 n)) bp bt ct ts nv n:=by
 refine⟨?_,zS w _ _ h.next,?_,fun o=>by rw[World.frozen?_setCell];exact h.free o,h.cap,h.ne,by simpa using h.lt,fun i hi j hj=>?_⟩
 ·rw[zX w _ _ _ (by intro e;injection e with e1 e2;simp at e2)];exact h.toks
 ·rw[zX w _ _ _ (by intro e;injection e with e1 e2;simp at e2)];exact h.nodes
 ·rw[zX w _ _ _ (by intro e;injection e with e1 e2;exact h.ne e1.symm)];exact h.cells i hi j hj
def zt (ts:List PTok)(nx:Nat):PTok:=ts.getD nx ptEnd
theorem q3v (bp bt ct:Nat)(ts:List PTok)(nv:Value)(nx:Nat)(w:World)(h:Pars w bp bt ct ts nv nx)(hn:nx≤100000) :
  Calls Tryz.prog 92 #[.pointer (some ⟨bp,0,none⟩)] w fun e w'=>e=.returned (ptV (zt ts nx))∧Below w.heap.size w w':=by
 have c0:=h.toks
 have c1:=h.next
 have hlt:=h.lt.2
 have hcp:=h.cap
 obtain⟨k1,k2,k3⟩:=hcp
 unfold maxLen at k2
 by_cases hx:nx<ts.length
 ·have HC:=zb (h.cells nx hx)
  have hb:=h.lt.1
  have e:zt ts nx=ts[nx]:=by unfold zt;simp[List.getD,hx]
  rw[e]
  clear e
  generalize ts[nx]=t at *
  obtain⟨tk,tp,tz,tv,tn⟩:=t
  have d0:=HC.out 0 (by omega)
  have d1:=HC.out 1 (by omega)
  have d2:=HC.out 2 (by omega)
  have d3:=HC.out 3 (by omega)
  have d4:=HC.out 4 (by omega)
  have d5:=HC.out 5 (by omega)
  have d6:=HC.out 6 (by omega)
  have d7:=HC.out 7 (by omega)
  have d8:=HC.out 8 (by omega)
  have d9:=HC.out 9 (by omega)
  have d10:=HC.out 10 (by omega)
  have d11:=HC.out 11 (by omega)
  simp only[q4f,Nat.add_zero,List.getElem?_cons_zero,List.getElem?_cons_succ]at d0 d1 d2 d3 d4 d5 d6 d7 d8 d9 d10 d11
  clear HC h
  go_enter Tryz.func92,Tryz.ntmps92
  go_wp2_with fail
  go_quiet (fail)
  go_wp2_with fail
  go_region
  go_wp2_with fail
  exact zP (v:=ptV ⟨tk,tp,tz,tv,tn⟩) (by simp[results,Tryz.results92,go_sem,ptV,q7p]) rfl ⟨rfl,(((((((((((((q3e _ ((zB _ _).alloc (zL _) _)).setCell (by simp) _).setCell (by simp) _).setCell (by simp) _).setCell (by simp) _).setCell (by simp) _).setCell (by simp) _).setCell (by simp) _).setCell (by simp) _).setCell (by simp) _).setCell (by simp) _).setCell (by simp) _).setCell (by simp) _)⟩
 ·have e:zt ts nx=ptEnd:=by unfold zt;simp[List.getD,List.getElem?_eq_none (show ts.length≤nx by omega)]
  rw[e]
  clear e h
  go_enter Tryz.func92,Tryz.ntmps92
  go_wp2_with fail
  go_quiet (fail)
  go_wp2_with fail
  exact zP (v:=ptV ptEnd) (by simp[results,Tryz.results92,go_sem,ptV,ptEnd,q7p,zn]) rfl ⟨rfl,(((((((((((((q3e _ ((zB _ _).alloc (zL _) _)).setCell (by simp) _).setCell (by simp) _).setCell (by simp) _).setCell (by simp) _).setCell (by simp) _).setCell (by simp) _).setCell (by simp) _).setCell (by simp) _).setCell (by simp) _).setCell (by simp) _).setCell (by simp) _).setCell (by simp) _)⟩
theorem j4P (a b c d x0 x1 x2 x3 x4 x5 x6 x7:Int)(w:World):(Instr.field 187 (.agg #[.int .i64 a,.int .i64 b,.int .i64 c,.int .i64 d,.int .u8 x0,.int .u8 x1,.int .u8 x2,.int .u8 x3,.int .u8 x4,.int .u8 x5,.int .u8 x6,.int .u8 x7]) 0).run Tryz.prog w=.ok (.int .i64 a) w:=by kernel_rfl
theorem fld_pos (a b c d x0 x1 x2 x3 x4 x5 x6 x7:Int)(w:World):(Instr.field 187 (.agg #[.int .i64 a,.int .i64 b,.int .i64 c,.int .i64 d,.int .u8 x0,.int .u8 x1,.int .u8 x2,.int .u8 x3,.int .u8 x4,.int .u8 x5,.int .u8 x6,.int .u8 x7]) 1).run Tryz.prog w=.ok (.int .i64 b) w:=by kernel_rfl
theorem j8l (a b c d x0 x1 x2 x3 x4 x5 x6 x7:Int)(w:World):(Instr.field 187 (.agg #[.int .i64 a,.int .i64 b,.int .i64 c,.int .i64 d,.int .u8 x0,.int .u8 x1,.int .u8 x2,.int .u8 x3,.int .u8 x4,.int .u8 x5,.int .u8 x6,.int .u8 x7]) 3).run Tryz.prog w=.ok (.int .i64 d) w:=by kernel_rfl
def j6u (ts:List PTok)(nx:Nat)(kd:Int):Nat:=if (zt ts nx).kind=kd then nx+1 else nx
theorem j6s (bp bt ct:Nat)(ts:List PTok)(nv:Value)(nx:Nat)(kd:Int)(w:World)(h:Pars w bp bt ct ts nv nx)(hn:nx≤100000) :
  Calls Tryz.prog 156 #[.pointer (some ⟨bp,0,none⟩),.int .i64 kd] w fun e w'=>e=.returned (.bool (decide ((zt ts nx).kind=kd)))∧Pars w' bp bt ct ts nv (j6u ts nx kd)∧OnlyB [bp] w w':=by
 have hh:=q3v bp bt ct ts nv nx w h hn
 have HT:Hid (j6u ts nx kd=if (zt ts nx).kind=kd then nx+1 else nx):=zb rfl
 generalize j6u ts nx kd=tn at *
 generalize zt ts nx=t at *
 obtain⟨tk,tp,tz,tv,tnm⟩:=t
 have H:=zb h
 clear h
 by_cases hk:tk=kd
 ·subst hk
  have et:=HT.out
  simp only[if_true]at et
  subst et
  clear HT
  go_enter Tryz.func156,Tryz.ntmps156
  go_wp2_with fail
  refine hh.mono ?_
  rintro e w1 ⟨rfl,hb1⟩
  have ho1:OnlyB [] w w1:=.of_below hb1
  have P1:=H.out.only ho1 (by simp) (by simp)
  have c1:=P1.next
  have f1:=P1.free 1
  have H1:=zb P1
  clear P1
  unfold ptV q7p
  have hfd:=j4P tk tp tz tv (zn tnm 0) (zn tnm 1) (zn tnm 2) (zn tnm 3) (zn tnm 4) (zn tnm 5) (zn tnm 6) (zn tnm 7)
  go_wp2_with fail
  go_ret
  exact⟨by simp,by simpa using H1.out.step (nx+1),(OnlyB.of_below hb1).setCell (by simp) _⟩
 ·have et:=HT.out
  simp only[if_neg hk]at et
  subst et
  clear HT
  go_enter Tryz.func156,Tryz.ntmps156
  go_wp2_with fail
  refine hh.mono ?_
  rintro e w1 ⟨rfl,hb1⟩
  have ho1:OnlyB [] w w1:=.of_below hb1
  have H1:=zb (H.out.only ho1 (by simp) (by simp))
  unfold ptV q7p
  have hfd:=j4P tk tp tz tv (zn tnm 0) (zn tnm 1) (zn tnm 2) (zn tnm 3) (zn tnm 4) (zn tnm 5) (zn tnm 6) (zn tnm 7)
  go_wp2_with fail
  go_ret
  exact⟨by simp[hk],H1.out,.of_below hb1⟩
theorem OnlyB.nw (bl:List Nat)(w:World)(o:Obj):OnlyB bl w (w.alloc o):=.of_below ((zB _ _).alloc (zL _) _)
theorem OnlyB.wide {bl bl':List Nat}{w w':World}(h:OnlyB bl w w')(hs:∀k∈bl,k∈bl'):OnlyB bl' w w':=⟨h.os,h.tape,h.output,h.size,fun k hk hn=>h.block k hk (fun hm=>hn (hs k hm))⟩
theorem OnlyB.alloc {bl:List Nat}{a w:World}(h:OnlyB bl a w)(o:Obj):OnlyB bl a (w.alloc o):=h.trans (.nw bl w o)
theorem OnlyB.setNew {bl:List Nat}{a w:World}(h:OnlyB bl a w){b o:Nat}(hb:a.heap.size≤b)(u:Value):OnlyB bl a (w.setCell ⟨b,o,none⟩ u):=by
 refine⟨h.os,h.tape,h.output,by simpa using h.size,fun k hk hn=>?_⟩
 rw[Below.heap_setCell w _ u k (by intro e;subst e;omega)]
 exact h.block k hk hn
def q6Q (k:Int):Bool:=k==3 || k==4
theorem varK_3:q6Q 3=true:=rfl
theorem varK_4:q6Q 4=true:=rfl
def q4s (k:Int):Bool:=k==6 || k==7 || k==8 || k==14 || k==15 || k==16 || k==17
def q3l (k:Int):Bool:=k==10 || k==11 || k==12 || k==13 || k==14 || k==15 || k==16 || k==17
def q3z (k:Int):Bool:=k==5 || k==2 || k==9 || q4s k || q3l k
theorem q6e (n:Int)(w:World) :
  Calls Tryz.prog 180 #[.int .i64 n] w fun e w'=>e=.returned (.bool (q6Q n))∧w'=w:=by
 unfold q6Q
 go_enter Tryz.func180,Tryz.ntmps180
 go_wp2
 all_goals
  go_ret
  exact⟨by simp[*],rfl⟩
theorem q2B (n:Int)(w:World) :
  Calls Tryz.prog 157 #[.int .i64 n] w fun e w'=>e=.returned (.bool (q4s n))∧w'=w:=by
 unfold q4s
 go_enter Tryz.func157,Tryz.ntmps157
 go_wp2
 all_goals
  go_ret
  exact⟨by simp_all,rfl⟩
theorem q7l (n:Int)(w:World) :
  Calls Tryz.prog 154 #[.int .i64 n] w fun e w'=>e=.returned (.bool (q3l n))∧w'=w:=by
 unfold q3l
 go_enter Tryz.func154,Tryz.ntmps154
 go_wp2
 all_goals
  go_ret
  exact⟨by simp_all,rfl⟩
theorem q9p (n:Int)(w:World) :
  Calls Tryz.prog 151 #[.int .i64 n] w fun e w'=>e=.returned (.bool (q3z n))∧w'=w:=by
 unfold q3z
 have h2:=q2B n
 have h3:=q7l n
 go_enter Tryz.func151,Tryz.ntmps151
 go_wp2
 all_goals
  go_ret
  exact⟨by simp_all [q4s,q3l],rfl⟩
theorem q0L (bp bt ct:Nat)(ts:List PTok)(nv:Value)(nx:Nat)(kd:Int)(w:World)(h:Pars w bp bt ct ts nv nx)(hn:nx≤100000)(hk:(zt ts nx).kind=kd) :
  Calls Tryz.prog 156 #[.pointer (some ⟨bp,0,none⟩),.int .i64 kd] w fun e w'=>e=.returned (.bool true)∧Pars w' bp bt ct ts nv (nx+1)∧OnlyB [bp] w w':=by
 have hh:=j6s bp bt ct ts nv nx kd w h hn
 simp only[j6u,hk,if_true,decide_true]at hh
 exact hh
theorem q1r (bp bt ct:Nat)(ts:List PTok)(nv:Value)(nx:Nat)(kd:Int)(w:World)(h:Pars w bp bt ct ts nv nx)(hn:nx≤100000)(hk:¬(zt ts nx).kind=kd) :
  Calls Tryz.prog 156 #[.pointer (some ⟨bp,0,none⟩),.int .i64 kd] w fun e w'=>e=.returned (.bool false)∧Pars w' bp bt ct ts nv nx∧OnlyB [bp] w w':=by
 have hh:=j6s bp bt ct ts nv nx kd w h hn
 simp only[j6u,if_neg hk,decide_eq_false hk]at hh
 exact hh
def q5T (t:PTok):Bool:=(t.kind==1&&t.size==1) || q6Q t.kind
theorem j0x (bp bt ct:Nat)(ts:List PTok)(nv:Value)(nx:Nat)(w:World)(h:Pars w bp bt ct ts nv nx)(hn:nx≤100000)(hk:q5T (zt ts nx)=true) :
  Calls Tryz.prog 179 #[.pointer (some ⟨bp,0,none⟩)] w fun e w'=>e=.returned (.tuple #[.agg #[.int .i64 (zt ts nx).kind,.int .i64 (zt ts nx).val],.bool true])∧Pars w' bp bt ct ts nv (nx+1)∧OnlyB [bp] w w':=by
 have hh:=fun w h=>q3v bp bt ct ts nv nx w h hn
 generalize zt ts nx=t at *
 obtain⟨tk,tp,tz,tv,tnm⟩:=t
 have hk':(tk=1∧tz=1)∨tk=3∨tk=4:=by simpa[q5T,q6Q]using hk
 have H:=zb h
 have hl0:=h.lt.2
 have hm0:=h.lt.1
 clear h hk
 rcases hk' with⟨rfl,rfl⟩|rfl|rfl
 ·go_enter Tryz.func179,Tryz.ntmps179
  go_wp2_with fail
  refine(hh _ (H.out.only (.nw [] _ _) (by simp) (by simp))).mono ?_
  rintro e w1 ⟨rfl,hb1⟩
  have ho1:OnlyB [] w w1:=(OnlyB.nw [] _ _).trans (.of_below hb1)
  have P1:=H.out.only ho1 (by simp) (by simp)
  have hz:w.heap.size<w1.heap.size:=by have:=hb1.size;simp at this;omega
  have r0:w1.cell? ⟨w.heap.size,0,none⟩=some (.int .i64 0):=by rw[zK (hb1.block w.heap.size (by simp))];simp
  have r1:w1.cell? ⟨w.heap.size,1,none⟩=some (.int .i64 0):=by rw[zK (hb1.block w.heap.size (by simp))];simp
  have rf0:w1.frozen? ⟨w.heap.size,0,none⟩=false:=by rw[World.frozen?_of_block (hb1.block w.heap.size (by simp))];simp
  have rf1:w1.frozen? ⟨w.heap.size,1,none⟩=false:=by rw[World.frozen?_of_block (hb1.block w.heap.size (by simp))];simp
  have c1:=P1.next
  have f1:=P1.free 1
  have hl1:=P1.lt.2
  have H1:=zb P1
  clear P1
  unfold ptV q7p
  go_wp2_with fail
  exact zP (v:=.tuple #[.agg #[.int .i64 1,.int .i64 tv],.bool true]) (by simp[results,Tryz.results179,go_sem,hz,r0,r1]) rfl
   ⟨rfl,by simpa using (H1.out.step (nx+1)).only (bl:=[w.heap.size]) ((((OnlyB.refl _ _).setCell (by simp) _).setCell (by simp) _).alloc _) (by simp;omega) (by simp;omega),
    ((((ho1.wide (by simp)).setCell (by simp) _).setNew (zL _) _).setNew (zL _) _).alloc _⟩
 ·go_enter Tryz.func179,Tryz.ntmps179
  go_wp2_with fail
  refine(hh _ (H.out.only (.nw [] _ _) (by simp) (by simp))).mono ?_
  rintro e w1 ⟨rfl,hb1⟩
  have ho1:OnlyB [] w w1:=(OnlyB.nw [] _ _).trans (.of_below hb1)
  have P1:=H.out.only ho1 (by simp) (by simp)
  have hz:w.heap.size<w1.heap.size:=by have:=hb1.size;simp at this;omega
  have r0:w1.cell? ⟨w.heap.size,0,none⟩=some (.int .i64 0):=by rw[zK (hb1.block w.heap.size (by simp))];simp
  have r1:w1.cell? ⟨w.heap.size,1,none⟩=some (.int .i64 0):=by rw[zK (hb1.block w.heap.size (by simp))];simp
  have rf0:w1.frozen? ⟨w.heap.size,0,none⟩=false:=by rw[World.frozen?_of_block (hb1.block w.heap.size (by simp))];simp
  have rf1:w1.frozen? ⟨w.heap.size,1,none⟩=false:=by rw[World.frozen?_of_block (hb1.block w.heap.size (by simp))];simp
  have c1:=P1.next
  have f1:=P1.free 1
  have hl1:=P1.lt.2
  have H1:=zb P1
  clear P1
  unfold ptV q7p
  go_wp2_with fail
  refine(q6e _ _).mono ?_
  rintro e w2 ⟨rfl,rfl⟩
  simp only[varK_3]
  go_wp2_with fail
  exact zP (v:=.tuple #[.agg #[.int .i64 3,.int .i64 tv],.bool true]) (by simp[results,Tryz.results179,go_sem,hz,r0,r1]) rfl
   ⟨rfl,by simpa using (H1.out.step (nx+1)).only (bl:=[w.heap.size]) ((((OnlyB.refl _ _).setCell (by simp) _).setCell (by simp) _).alloc _) (by simp;omega) (by simp;omega),
    ((((ho1.wide (by simp)).setCell (by simp) _).setNew (zL _) _).setNew (zL _) _).alloc _⟩
 ·go_enter Tryz.func179,Tryz.ntmps179
  go_wp2_with fail
  refine(hh _ (H.out.only (.nw [] _ _) (by simp) (by simp))).mono ?_
  rintro e w1 ⟨rfl,hb1⟩
  have ho1:OnlyB [] w w1:=(OnlyB.nw [] _ _).trans (.of_below hb1)
  have P1:=H.out.only ho1 (by simp) (by simp)
  have hz:w.heap.size<w1.heap.size:=by have:=hb1.size;simp at this;omega
  have r0:w1.cell? ⟨w.heap.size,0,none⟩=some (.int .i64 0):=by rw[zK (hb1.block w.heap.size (by simp))];simp
  have r1:w1.cell? ⟨w.heap.size,1,none⟩=some (.int .i64 0):=by rw[zK (hb1.block w.heap.size (by simp))];simp
  have rf0:w1.frozen? ⟨w.heap.size,0,none⟩=false:=by rw[World.frozen?_of_block (hb1.block w.heap.size (by simp))];simp
  have rf1:w1.frozen? ⟨w.heap.size,1,none⟩=false:=by rw[World.frozen?_of_block (hb1.block w.heap.size (by simp))];simp
  have c1:=P1.next
  have f1:=P1.free 1
  have hl1:=P1.lt.2
  have H1:=zb P1
  clear P1
  unfold ptV q7p
  go_wp2_with fail
  refine(q6e _ _).mono ?_
  rintro e w2 ⟨rfl,rfl⟩
  simp only[varK_4]
  go_wp2_with fail
  exact zP (v:=.tuple #[.agg #[.int .i64 4,.int .i64 tv],.bool true]) (by simp[results,Tryz.results179,go_sem,hz,r0,r1]) rfl
   ⟨rfl,by simpa using (H1.out.step (nx+1)).only (bl:=[w.heap.size]) ((((OnlyB.refl _ _).setCell (by simp) _).setCell (by simp) _).alloc _) (by simp;omega) (by simp;omega),
    ((((ho1.wide (by simp)).setCell (by simp) _).setNew (zL _) _).setNew (zL _) _).alloc _⟩
theorem j2i (bp bt ct:Nat)(ts:List PTok)(nv:Value)(nx:Nat)(w:World)(h:Pars w bp bt ct ts nv nx)(hn:nx≤100000)(hk:q5T (zt ts nx)=false) :
  Calls Tryz.prog 179 #[.pointer (some ⟨bp,0,none⟩)] w fun e w'=>e=.returned (.tuple #[.agg #[.int .i64 0,.int .i64 0],.bool false])∧Pars w' bp bt ct ts nv nx∧OnlyB [bp] w w':=by
 have hh:=fun w h=>q3v bp bt ct ts nv nx w h hn
 generalize zt ts nx=t at *
 obtain⟨tk,tp,tz,tv,tnm⟩:=t
 have hv:q6Q tk=false:=by cases hq:q6Q tk<;>simp_all [q5T]
 have hk':(tk==1)=false∨(tk=1∧(tz==1)=false):=by by_cases hq:tk=1<;>simp_all [q5T]
 have H:=zb h
 have hl0:=h.lt.2
 have hm0:=h.lt.1
 clear h hk
 go_enter Tryz.func179,Tryz.ntmps179
 go_wp2_with fail
 refine(hh _ (H.out.only (.nw [] _ _) (by simp) (by simp))).mono ?_
 rintro e w1 ⟨rfl,hb1⟩
 have ho1:OnlyB [] w w1:=(OnlyB.nw [] _ _).trans (.of_below hb1)
 have P1:=H.out.only ho1 (by simp) (by simp)
 have hz:w.heap.size<w1.heap.size:=by have:=hb1.size;simp at this;omega
 have r0:w1.cell? ⟨w.heap.size,0,none⟩=some (.int .i64 0):=by rw[zK (hb1.block w.heap.size (by simp))];simp
 have r1:w1.cell? ⟨w.heap.size,1,none⟩=some (.int .i64 0):=by rw[zK (hb1.block w.heap.size (by simp))];simp
 have rf0:w1.frozen? ⟨w.heap.size,0,none⟩=false:=by rw[World.frozen?_of_block (hb1.block w.heap.size (by simp))];simp
 have rf1:w1.frozen? ⟨w.heap.size,1,none⟩=false:=by rw[World.frozen?_of_block (hb1.block w.heap.size (by simp))];simp
 have c1:=P1.next
 have f1:=P1.free 1
 have hl1:=P1.lt.2
 have H1:=zb P1
 clear P1
 unfold ptV q7p
 rcases hk' with hk1|⟨rfl,hk1⟩
 all_goals
  go_wp2_with fail
  all_goals
   refine(q6e _ _).mono ?_
   rintro e w2 ⟨rfl,rfl⟩
   simp only[hv]
   go_wp2_with fail
   exact zP (v:=.tuple #[.agg #[.int .i64 0,.int .i64 0],.bool false]) (by simp[results,Tryz.results179,go_sem,hz,r0,r1]) rfl
    ⟨rfl,H1.out.only (bl:=[w.heap.size]) ((((OnlyB.refl _ _).setCell (by simp) _).setCell (by simp) _).alloc _) (by simp;omega) (by simp;omega),
     (((ho1.wide (by simp)).setNew (zL _) _).setNew (zL _) _).alloc _⟩
structure PNode where
 kind:Int
 pos:Int
 name:By
 k0:Int
 v0:Int
 k1:Int
 v1:Int
 cnt:Int
 var:Int
 sat:Int
 slo:Int
 shi:Int
 sop:Bool
 fst:Int
 snd:Int
def zq (n:PNode):List Value:=[.int .i64 n.kind,.int .i64 n.pos,.int .u8 (zn n.name 0),.int .u8 (zn n.name 1),.int .u8 (zn n.name 2),.int .u8 (zn n.name 3),.int .u8 (zn n.name 4),.int .u8 (zn n.name 5),.int .u8 (zn n.name 6),.int .u8 (zn n.name 7),.int .i64 n.k0,.int .i64 n.v0,.int .i64 n.k1,.int .i64 n.v1,.int .i64 n.cnt,.int .i64 n.var,.int .i64 n.sat,.int .i64 n.slo,.int .i64 n.shi,.bool n.sop,.int .i64 n.fst,.int .i64 n.snd]
structure NodeAt (w:World)(bn:Nat)(n:PNode):Prop where
 cells:∀j,j<22→w.cell? ⟨bn,j,none⟩=(zq n)[j]?
 free:∀o,w.frozen? ⟨bn,o,none⟩=false
 lt:bn<w.heap.size
theorem NodeAt.only {w w':World}{bl:List Nat}{bn:Nat}{n:PNode}(h:NodeAt w bn n)(ho:OnlyB bl w w')(hn:bn∉bl):NodeAt w' bn n:=
 ⟨fun j hj=>by rw[ho.cell h.lt hn];exact h.cells j hj,fun o=>by rw[ho.frozen h.lt hn];exact h.free o,zT h.lt ho.size⟩
theorem NodeAt.set {w:World}{bn:Nat}{n n':PNode}(h:NodeAt w bn n)(o:Nat)(ho:o<22)(u:Value)(he:zq n'=(zq n).set o u):NodeAt (w.setCell ⟨bn,o,none⟩ u) bn n':=by
 have hlen:(zq n).length=22:=rfl
 refine⟨fun j hj=>?_,fun q=>by rw[World.frozen?_setCell];exact h.free q,by simpa using h.lt⟩
 rw[he]
 by_cases e:j=o
 ·subst e
  have hc:=h.cells j ho
  rw[zG (by omega)]at hc
  rw[zS w _ _ hc,List.getElem?_set_self (by omega)]
 ·rw[zX w _ _ _ (by intro q;injection q with q1 q2;exact e q2.symm),List.getElem?_set_ne (by omega)]
  exact h.cells j hj
theorem j0b (bp bt ct:Nat)(ts:List PTok)(nv:Value)(nx bn:Nat)(nd:PNode)(w:World)(h:Pars w bp bt ct ts nv nx)(hn:nx≤100000)(hd:NodeAt w bn nd)(hne:bn≠bp∧bn≠bt)(hk:q6Q (zt ts nx).kind=true) :
  Calls Tryz.prog 153 #[.pointer (some ⟨bp,0,none⟩),.pointer (some ⟨bn,0,none⟩)] w fun e w'=>e=.returned (.bool true)∧Pars w' bp bt ct ts nv (nx+1)∧NodeAt w' bn {nd with var:=(zt ts nx).kind}∧OnlyB [bp,bn] w w':=by
 have hh:=q3v bp bt ct ts nv nx w h hn
 generalize zt ts nx=t at *
 obtain⟨tk,tp,tz,tv,tnm⟩:=t
 have H:=zb h
 have HD:=zb hd
 have hl0:=h.lt.2
 have hm0:=h.lt.1
 have hv:q6Q tk=true:=hk
 clear h hk hd
 go_enter Tryz.func153,Tryz.ntmps153
 go_wp2_with fail
 refine hh.mono ?_
 rintro e w1 ⟨rfl,hb1⟩
 have ho1:OnlyB [] w w1:=.of_below hb1
 have P1:=H.out.only ho1 (by simp) (by simp)
 have D1:=HD.out.only ho1 (by simp)
 have c1:=P1.next
 have f1:=P1.free 1
 have hl1:=P1.lt.2
 have g1:=D1.free 15
 have hl2:=D1.lt
 have d15:=D1.cells 15 (by omega)
 simp only[zq,List.getElem?_cons_succ,List.getElem?_cons_zero]at d15
 have H1:=zb P1
 have HD1:=zb D1
 clear P1 D1
 unfold ptV q7p
 go_wp2_with fail
 refine(q6e _ _).mono ?_
 rintro e w2 ⟨rfl,rfl⟩
 simp only[hv]
 obtain⟨hne1,hne2⟩:=hne
 go_wp2_with fail
 go_ret
 have s1:OnlyB [bp] w1 (w1.setCell ⟨bp,1,none⟩ (.int .i64 ((nx:Int)+1))):=(OnlyB.refl _ _).setCell (by simp) _
 exact⟨rfl,by simpa using (H1.out.step (nx+1)).only (bl:=[bn]) (((OnlyB.refl _ _).setCell (by simp) _).alloc _) (by simp;omega) (by simp;omega),
  ((HD1.out.only s1 (by simp;omega)).set (n':={nd with var:=tk}) 15 (by omega) (.int .i64 tk) rfl).only (.nw [] _ _) (by simp),((((ho1.wide (by simp)).setCell (by simp) _).setCell (by simp) _).alloc _)⟩
theorem j0C (bp bt ct:Nat)(ts:List PTok)(nv:Value)(nx bn:Nat)(w:World)(h:Pars w bp bt ct ts nv nx)(hn:nx≤100000)(hk:q6Q (zt ts nx).kind=false) :
  Calls Tryz.prog 153 #[.pointer (some ⟨bp,0,none⟩),.pointer (some ⟨bn,0,none⟩)] w fun e w'=>e=.returned (.bool false)∧OnlyB [] w w':=by
 have hh:=q3v bp bt ct ts nv nx w h hn
 generalize zt ts nx=t at *
 obtain⟨tk,tp,tz,tv,tnm⟩:=t
 have hv:q6Q tk=false:=hk
 clear h hk
 go_enter Tryz.func153,Tryz.ntmps153
 go_wp2_with fail
 refine hh.mono ?_
 rintro e w1 ⟨rfl,hb1⟩
 have ho1:OnlyB [] w w1:=.of_below hb1
 unfold ptV q7p
 go_wp2_with fail
 refine(q6e _ _).mono ?_
 rintro e w2 ⟨rfl,rfl⟩
 simp only[hv]
 go_wp2_with fail
 go_ret
 exact⟨rfl,ho1.alloc _⟩
structure FeedAt (w:World)(fb:Nat)(s:By)(i:Nat):Prop where
 blk:w.heap[fb]?=some (.cells #[bs s,.int .i64 i] 27 (0,0))
 le:i≤s.length
 sm:s.length≤maxLen
theorem FeedAt.lt {w:World}{fb:Nat}{s:By}{i:Nat}(h:FeedAt w fb s i):fb<w.heap.size:=by
 rcases Nat.lt_or_ge fb w.heap.size with g|g
 ·exact g
 ·have:=h.blk;rw[Array.getElem?_eq_none g]at this;simp at this
theorem FeedAt.below {w w':World}{fb:Nat}{s:By}{i:Nat}(h:FeedAt w fb s i)(hb:Below w.heap.size w w'):FeedAt w' fb s i:=⟨(hb.block fb h.lt).trans h.blk,h.le,h.sm⟩
theorem q1B (fb:Nat)(s:By)(i n:Nat)(hn:0<n)(w:World)(h:FeedAt w fb s i) :
  Calls Tryz.prog 22 #[.pointer (some ⟨fb,0,none⟩),.int .i64 n] w fun e w'=>e=.returned (.int .i64 (zk s i n).1)∧FeedAt w' fb s (zk s i n).2∧OnlyB [fb] w w':=by
 have c0:=zC _ _ 0 _ _ _ h.blk
 have c1:=zC _ _ 1 _ _ _ h.blk
 have f1:=zF _ _ 1 _ _ h.blk
 simp only[gz]at c0 c1
 have hlt:=h.lt
 have hle:=h.le
 have hsm:=h.sm
 have HF:=zb h
 unfold maxLen at hsm
 have hn0:¬(n:Int)=0:=by omega
 clear h
 by_cases hi:s.length≤i
 ·have HR:Hid (zk s i n=(0,i)):=zb (by unfold zk;rw[if_pos hi])
  have hii:¬(i:Int)<(s.length:Int):=by omega
  go_enter Tryz.func22,Tryz.ntmps22
  go_wp2_with fail
  go_region_held3 (fun w'=>w'.cell? ⟨fb,0,none⟩=some (bs s)∧w'.cell? ⟨fb,1,none⟩=some (.int .i64 i)) (first|(exact⟨c0,c1⟩)|go_keep) (fail)
  go_wp2_with fail
  go_ret
  rw[HR.out]
  exact⟨rfl,HF.out.below (zB _ _).drew,.of_below (zB _ _).drew⟩
 ·have HR:Hid (zk s i n=((s.getD i 0).toNat % n,i+1)):=zb (by unfold zk;rw[if_neg hi])
  have hii:(i:Int)<(s.length:Int):=by omega
  have hi0:(0:Int)≤(i:Int):=by omega
  have hat:=q6E s i (by omega)
  obtain⟨c,hc⟩:∃c,c=s.getD i 0:=⟨_,rfl⟩
  rw[←hc]at hat HR
  clear hc
  go_enter Tryz.func22,Tryz.ntmps22
  go_wp2_with fail
  go_region_held3 (fun w'=>w'.cell? ⟨fb,0,none⟩=some (bs s)∧w'.cell? ⟨fb,1,none⟩=some (.int .i64 i)) (first|(exact⟨c0,c1⟩)|go_keep) (fail)
  go_wp2_with fail
  go_region_held3 (fun w'=>w'.cell? ⟨fb,0,none⟩=some (bs s)∧w'.cell? ⟨fb,1,none⟩=some (.int .i64 i)) (first|(exact⟨c0,c1⟩)|go_keep) (fail)
  go_wp2_with fail
  go_ret
  rw[HR.out]
  have hc:=c.toNat_lt
  refine⟨q1t ?_,?_,?_⟩
  ·rw[show wrap64 (c.toNat:Int)=(c.toNat:Int)by unfold wrap64;omega,Int.tmod_eq_emod_of_nonneg (by omega),Int.natCast_emod]
  ·refine⟨?_,by show i+1≤s.length;omega,HF.out.sm⟩
   have:=zH w fb 1 _ _ (.int .i64 ((i:Int)+1)) HF.out.blk
   exact this
  ·exact((OnlyB.refl [fb] w).setCell (by simp) _).trans (.of_below (zB _ _).drew.drew)
theorem OnlyB.drew {bl:List Nat}{a w:World}(h:OnlyB bl a w):OnlyB bl a w.drew:=h.trans (.of_below (zB _ _).drew)
def q7Z (ts:List PTok)(nx:Nat)(n1:PNode):Bool × Nat × PNode:=
 if (zt ts (nx+2)).kind=20 then
  if q5T (zt ts (nx+3))=true then
   if (zt ts (nx+4)).kind=19 then(true,nx+5,{n1 with k1:=(zt ts (nx+3)).kind,v1:=(zt ts (nx+3)).val,cnt:=2})else(false,nx+4,{n1 with k1:=(zt ts (nx+3)).kind,v1:=(zt ts (nx+3)).val,cnt:=2})
  else(false,nx+3,n1)
 else if (zt ts (nx+2)).kind=19 then(true,nx+3,n1)else(false,nx+2,n1)
def q7Y (ts:List PTok)(nx:Nat)(nd:PNode):Bool × Nat × PNode:=
 if (zt ts nx).kind=18 then
  if q5T (zt ts (nx+1))=true then q7Z ts nx {nd with k0:=(zt ts (nx+1)).kind,v0:=(zt ts (nx+1)).val,cnt:=1}
  else(false,nx+1,nd)
 else(false,nx,nd)
theorem syn_args (bp bt ct:Nat)(ts:List PTok)(nv:Value)(nx bn:Nat)(nd:PNode)(w:World)(h:Pars w bp bt ct ts nv nx)(hn:nx≤10000)(hd:NodeAt w bn nd)(hne:bn≠bp∧bn≠bt) :
  Calls Tryz.prog 152 #[.pointer (some ⟨bp,0,none⟩),.pointer (some ⟨bn,0,none⟩)] w fun e w'=>e=.returned (.bool (q7Y ts nx nd).1)∧Pars w' bp bt ct ts nv (q7Y ts nx nd).2.1∧NodeAt w' bn (q7Y ts nx nd).2.2∧OnlyB [bp,bn] w w':=by
 obtain⟨hne1,hne2⟩:=hne
 unfold q7Y
 by_cases a1:(zt ts nx).kind=18
 ·rw[if_pos a1]
  by_cases a2:q5T (zt ts (nx+1))=true
  ·rw[if_pos a2]
   have t1:=fun w h=>q0L bp bt ct ts nv nx 18 w h (by omega) a1
   have t2:=fun w h=>j0x bp bt ct ts nv (nx+1) w h (by omega) a2
   generalize (zt ts (nx+1)).kind=k0 at *
   generalize (zt ts (nx+1)).val=v0 at *
   obtain⟨n1,hn1⟩:∃n1:PNode,n1={nd with k0:=k0,v0:=v0,cnt:=1}:=⟨_,rfl⟩
   rw[←hn1]
   have HN:=zb hn1
   generalize hr:q7Z ts nx n1=r
   have HT:Hid (q7Z ts nx n1=r):=zb hr
   have H:=zb h
   have HD:=zb hd
   clear h hd a1 a2 hr hn1
   go_enter Tryz.func152,Tryz.ntmps152
   go_wp2_with fail
   refine(t1 _ H.out).mono ?_
   rintro e w1 ⟨rfl,P1,o1⟩
   have H1:=zb P1
   clear P1
   go_wp2_with fail
   refine(t2 _ H1.out).mono ?_
   rintro e w2 ⟨rfl,P2,o2⟩
   have o12:=o1.trans o2
   have D2:=HD.out.only o12 (by simp;omega)
   have H2:=zb P2
   have f10:=D2.free 10
   have f11:=D2.free 11
   have f14:=D2.free 14
   have d10:=D2.cells 10 (by omega)
   have d11:=D2.cells 11 (by omega)
   have d14:=D2.cells 14 (by omega)
   simp only[zq,List.getElem?_cons_succ,List.getElem?_cons_zero]at d10 d11 d14
   have hl2:=D2.lt
   have HD2:=zb D2
   clear P2 D2
   go_wp2_with fail
   go_region
   go_wp2_with fail
   obtain⟨W3,hW⟩:∃W:World,W=((((w2.setCell ⟨bn,10,none⟩ (.int .i64 k0)).setCell ⟨bn,11,none⟩ (.int .i64 v0)).setCell ⟨bn,14,none⟩ (.int .i64 1)).alloc (.cells #[.int .i64 k0,.int .i64 v0] 161)).drew:=⟨_,rfl⟩
   rw[←hW]
   have q3:OnlyB [bn] w2 W3:=by rw[hW];exact(((((OnlyB.refl _ _).setCell (by simp) _).setCell (by simp) _).setCell (by simp) _).alloc _).drew
   have P3:=H2.out.only q3 (by simp;omega) (by simp;omega)
   have D3:NodeAt W3 bn n1:=by
    rw[hW,HN.out]
    exact(((HD2.out.set (n':={nd with k0:=k0}) 10 (by omega) (.int .i64 k0) rfl).set (n':={nd with k0:=k0,v0:=v0}) 11 (by omega) (.int .i64 v0) rfl).set (n':={nd with k0:=k0,v0:=v0,cnt:=1}) 14 (by omega) (.int .i64 1) rfl).only ((OnlyB.refl [] _).alloc _).drew (by simp)
   have o3:OnlyB [bp,bn] w W3:=(o12.wide (by simp)).trans (q3.wide (by simp))
   clear hW f10 f11 f14 d10 d11 d14
   have H3:=zb P3
   have HD3:=zb D3
   clear P3 D3 q3
   by_cases b1:(zt ts (nx+2)).kind=20
   ·refine(q0L bp bt ct ts nv (nx+2) 20 _ H3.out (by omega) b1).mono ?_
    rintro e w4 ⟨rfl,P4,o4⟩
    have H4:=zb P4
    have HD4:=zb (HD3.out.only o4 (by simp;omega))
    have o4':=o3.trans (o4.wide (by simp))
    clear P4
    go_wp2_with fail
    by_cases b2:q5T (zt ts (nx+3))=true
    ·have t4:=j0x bp bt ct ts nv (nx+3) w4 H4.out (by omega) b2
     generalize hk1:(zt ts (nx+3)).kind=k1 at t4
     generalize hv1:(zt ts (nx+3)).val=v1 at t4
     have HK:=zb hk1
     have HV:=zb hv1
     clear hk1 hv1
     refine t4.mono ?_
     rintro e w5 ⟨rfl,P5,o5⟩
     have D5:=HD4.out.only o5 (by simp;omega)
     have H5:=zb P5
     have f12:=D5.free 12
     have f13:=D5.free 13
     have f14:=D5.free 14
     have d12:=D5.cells 12 (by omega)
     have d13:=D5.cells 13 (by omega)
     have d14:=D5.cells 14 (by omega)
     simp only[zq,List.getElem?_cons_succ,List.getElem?_cons_zero]at d12 d13 d14
     have hl5:=D5.lt
     have HD5:=zb D5
     clear P5 D5
     go_wp2_with fail
     go_region
     go_wp2_with fail
     obtain⟨W6,hW⟩:∃W:World,W=((((w5.setCell ⟨bn,12,none⟩ (.int .i64 k1)).setCell ⟨bn,13,none⟩ (.int .i64 v1)).setCell ⟨bn,14,none⟩ (.int .i64 2)).alloc (.cells #[.int .i64 k1,.int .i64 v1] 161)).drew:=⟨_,rfl⟩
     rw[←hW]
     have q6:OnlyB [bn] w5 W6:=by rw[hW];exact(((((OnlyB.refl _ _).setCell (by simp) _).setCell (by simp) _).setCell (by simp) _).alloc _).drew
     have P6:=H5.out.only q6 (by simp;omega) (by simp;omega)
     have D6:NodeAt W6 bn {n1 with k1:=k1,v1:=v1,cnt:=2}:=by
      rw[hW]
      exact(((HD5.out.set (n':={n1 with k1:=k1}) 12 (by omega) (.int .i64 k1) rfl).set (n':={n1 with k1:=k1,v1:=v1}) 13 (by omega) (.int .i64 v1) rfl).set (n':={n1 with k1:=k1,v1:=v1,cnt:=2}) 14 (by omega) (.int .i64 2) rfl).only ((OnlyB.refl [] _).alloc _).drew (by simp)
     have o6:OnlyB [bp,bn] w W6:=(o4'.trans (o5.wide (by simp))).trans (q6.wide (by simp))
     clear hW f12 f13 f14 d12 d13 d14
     have H6:=zb P6
     have HD6:=zb D6
     clear P6 D6 q6
     by_cases b3:(zt ts (nx+4)).kind=19
     ·have er:=HT.out
      rw[q7Z,if_pos b1,if_pos b2,if_pos b3,HK.out,HV.out]at er
      subst er
      refine(q0L bp bt ct ts nv (nx+4) 19 _ H6.out (by omega) b3).mono ?_
      rintro e w7 ⟨rfl,P7,o7⟩
      have D7:=HD6.out.only o7 (by simp;omega)
      go_wp2_with fail
      go_ret
      exact⟨rfl,P7,D7,o6.trans (o7.wide (by simp))⟩
     ·have er:=HT.out
      rw[q7Z,if_pos b1,if_pos b2,if_neg b3,HK.out,HV.out]at er
      subst er
      refine(q1r bp bt ct ts nv (nx+4) 19 _ H6.out (by omega) b3).mono ?_
      rintro e w7 ⟨rfl,P7,o7⟩
      have D7:=HD6.out.only o7 (by simp;omega)
      go_wp2_with fail
      go_ret
      exact⟨rfl,P7,D7,o6.trans (o7.wide (by simp))⟩
    ·have er:=HT.out
     rw[q7Z,if_pos b1,if_neg b2]at er
     subst er
     refine(j2i bp bt ct ts nv (nx+3) w4 H4.out (by omega) (by simpa using b2)).mono ?_
     rintro e w5 ⟨rfl,P5,o5⟩
     have H5:=zb P5
     have D5:=HD4.out.only o5 (by simp;omega)
     have HD5:=zb D5
     clear P5 D5
     go_wp2_with fail
     go_ret
     exact⟨rfl,H5.out.only (.nw [] _ _) (by simp) (by simp),HD5.out.only (.nw [] _ _) (by simp),(o4'.trans (o5.wide (by simp))).alloc _⟩
   ·refine(q1r bp bt ct ts nv (nx+2) 20 _ H3.out (by omega) b1).mono ?_
    rintro e w4 ⟨rfl,P4,o4⟩
    have H4:=zb P4
    have HD4:=zb (HD3.out.only o4 (by simp;omega))
    have o4':=o3.trans (o4.wide (by simp))
    clear P4
    go_wp2_with fail
    by_cases b2:(zt ts (nx+2)).kind=19
    ·have er:=HT.out
     rw[q7Z,if_neg b1,if_pos b2]at er
     subst er
     refine(q0L bp bt ct ts nv (nx+2) 19 _ H4.out (by omega) b2).mono ?_
     rintro e w5 ⟨rfl,P5,o5⟩
     have D5:=HD4.out.only o5 (by simp;omega)
     go_wp2_with fail
     go_ret
     exact⟨rfl,P5,D5,o4'.trans (o5.wide (by simp))⟩
    ·have er:=HT.out
     rw[q7Z,if_neg b1,if_neg b2]at er
     subst er
     refine(q1r bp bt ct ts nv (nx+2) 19 _ H4.out (by omega) b2).mono ?_
     rintro e w5 ⟨rfl,P5,o5⟩
     have D5:=HD4.out.only o5 (by simp;omega)
     go_wp2_with fail
     go_ret
     exact⟨rfl,P5,D5,o4'.trans (o5.wide (by simp))⟩
  ·rw[if_neg a2]
   have t1:=fun w h=>q0L bp bt ct ts nv nx 18 w h (by omega) a1
   have t2:=fun w h=>j2i bp bt ct ts nv (nx+1) w h (by omega) (by simpa using a2)
   have H:=zb h
   have HD:=zb hd
   clear h hd a1 a2
   go_enter Tryz.func152,Tryz.ntmps152
   go_wp2_with fail
   refine(t1 _ H.out).mono ?_
   rintro e w1 ⟨rfl,P1,o1⟩
   have H1:=zb P1
   clear P1
   go_wp2_with fail
   refine(t2 _ H1.out).mono ?_
   rintro e w2 ⟨rfl,P2,o2⟩
   have o12:=o1.trans o2
   have D2:=HD.out.only o12 (by simp;omega)
   have H2:=zb P2
   have HD2:=zb D2
   clear P2 D2
   go_wp2_with fail
   go_ret
   exact⟨rfl,H2.out.only (.nw [] _ _) (by simp) (by simp),HD2.out.only (.nw [] _ _) (by simp),(o12.wide (by simp)).alloc _⟩
 ·rw[if_neg a1]
  have t1:=fun w h=>q1r bp bt ct ts nv nx 18 w h (by omega) a1
  have H:=zb h
  have HD:=zb hd
  clear h hd a1
  go_enter Tryz.func152,Tryz.ntmps152
  go_wp2_with fail
  refine(t1 _ H.out).mono ?_
  rintro e w1 ⟨rfl,P1,o1⟩
  have H1:=zb P1
  clear P1
  go_wp2_with fail
  go_ret
  exact⟨rfl,H1.out,HD.out.only o1 (by simp;omega),o1.wide (by simp)⟩
structure Rdr (w:World)(br:Nat)(s:By)(i:Nat):Prop where
 text:w.cell? ⟨br,0,none⟩=some (bs s)
 at':w.cell? ⟨br,1,none⟩=some (.int .i64 i)
 free:∀o,w.frozen? ⟨br,o,none⟩=false
 lt:br<w.heap.size
theorem Rdr.only {w w':World}{bl:List Nat}{br:Nat}{s:By}{i:Nat}(h:Rdr w br s i)(ho:OnlyB bl w w')(h1:br∉bl):Rdr w' br s i:=
 ⟨by rw[ho.cell h.lt h1];exact h.text,by rw[ho.cell h.lt h1];exact h.at',fun o=>by rw[ho.frozen h.lt h1];exact h.free o,zT h.lt ho.size⟩
theorem Rdr.step {w:World}{br:Nat}{s:By}{i:Nat}(h:Rdr w br s i)(n:Nat):Rdr (w.setCell ⟨br,1,none⟩ (.int .i64 n)) br s n:=by
 refine⟨?_,zS w _ _ h.at',fun o=>by rw[World.frozen?_setCell];exact h.free o,by simpa using h.lt⟩
 rw[zX w _ _ _ (by intro e;injection e with e1 e2;simp at e2)]
 exact h.text
theorem cI_at {s:By}{i:Nat}(h:i<s.length):(((ByteArray.mk s.toArray)[i]'(by exact h)).toNat:Int)=cI s i:=by
 unfold cI
 simp only[List.getD,zG h,Option.getD_some]
 rfl
theorem q5S (s:By)(_hs:s.length≤80)(br i:Nat)(hi:i≤1000)(w:World)(h:Rdr w br s i) :
  Calls Tryz.prog 67 #[.pointer (some ⟨br,0,none⟩)] w fun e w'=>e=.returned (.int .u8 (cI s i))∧Below w.heap.size w w':=by
 have c0:=h.text
 have c1:=h.at'
 have hlt:=h.lt
 clear h
 by_cases hl:i<s.length
 ·have hc:=cI_at hl
  generalize cI s i=c at *
  go_enter Tryz.func67,Tryz.ntmps67
  go_wp2_with fail
  go_quiet (fail)
  go_wp2_with fail
  go_region
  go_wp2_with fail
  go_ret
  exact⟨by first|rfl|(rw[←hc];rfl),q3e _ (zB _ _)⟩
 ·have hc:=j6M (s:=s) (i:=i) (by omega)
  rw[hc]
  clear hc
  go_enter Tryz.func67,Tryz.ntmps67
  go_wp2_with fail
  go_quiet (fail)
  go_wp2_with fail
  go_ret
  exact⟨rfl,q3e _ (zB _ _)⟩
theorem q2e (s:By)(hs:s.length≤80)(br i:Nat)(hi:i≤1000)(c:Int)(hc:cI s i=c)(w:World)(h:Rdr w br s i) :
  Calls Tryz.prog 48 #[.pointer (some ⟨br,0,none⟩),.int .u8 c] w fun e w'=>e=.returned (.bool true)∧Rdr w' br s (i+1)∧OnlyB [br] w w':=by
 have hh:=q5S s hs br i hi w h
 have H:=zb h
 rw[hc]at hh
 clear h hc
 go_enter Tryz.func48,Tryz.ntmps48
 go_wp2_with fail
 refine hh.mono ?_
 rintro e w1 ⟨rfl,b1⟩
 have O1:OnlyB [br] w w1:=.of_below b1
 have R1:=H.out.only (OnlyB.of_below (bl:=[]) b1) (by simp)
 have c1:=R1.at'
 have f1:=R1.free 1
 have hlt:=R1.lt
 have HO:=zb O1
 have HR:=zb R1
 clear b1 O1 R1
 go_wp2_with fail
 go_ret
 exact⟨rfl,by have:=HR.out.step (i+1);simpa using this,HO.out.setCell (by simp) _⟩
theorem q3I (s:By)(hs:s.length≤80)(br i:Nat)(hi:i≤1000)(c:Int)(hc:¬cI s i=c)(w:World)(h:Rdr w br s i) :
  Calls Tryz.prog 48 #[.pointer (some ⟨br,0,none⟩),.int .u8 c] w fun e w'=>e=.returned (.bool false)∧Below w.heap.size w w':=by
 have hh:=q5S s hs br i hi w h
 generalize cI s i=d at *
 have hd:(d==c)=false:=by simpa using hc
 clear h
 go_enter Tryz.func48,Tryz.ntmps48
 go_wp2_with fail
 refine hh.mono ?_
 rintro e w1 ⟨rfl,b1⟩
 go_wp2_with fail
 go_ret
 exact⟨rfl,b1⟩
theorem q8g (s:By)(hs:s.length≤80)(br i:Nat)(hi:i≤1000)(hd:qd (cI s i)=true)(w:World)(h:Rdr w br s i) :
  Calls Tryz.prog 70 #[.pointer (some ⟨br,0,none⟩)] w fun e w'=>e=.returned (.tuple #[.int .i64 (dI s i),.bool true])∧Rdr w' br s (i+1)∧OnlyB [br] w w':=by
 have hh:=q5S s hs br i hi w h
 have H:=zb h
 rw[dI_eq hd]
 have hb:=(q3A hd).2
 have hdg:=q4K (cI s i)
 rw[hd]at hdg
 generalize cI s i=d at *
 clear h hd
 go_enter Tryz.func70,Tryz.ntmps70
 go_wp2_with fail
 refine hh.mono ?_
 rintro e w1 ⟨rfl,b1⟩
 have O1:OnlyB [br] w w1:=.of_below b1
 have R1:=H.out.only (OnlyB.of_below (bl:=[]) b1) (by simp)
 have c1:=R1.at'
 have f1:=R1.free 1
 have hlt:=R1.lt
 have HO:=zb O1
 have HR:=zb R1
 clear b1 O1 R1
 go_wp2_with fail
 refine(hdg _).mono ?_
 rintro e w2 ⟨rfl,rfl⟩
 go_wp2_with fail
 go_ret2
 exact⟨by first|rfl|go_num,by have:=HR.out.step (i+1);simpa using this,HO.out.setCell (by simp) _⟩
theorem q8Y (s:By)(hs:s.length≤80)(br i:Nat)(hi:i≤1000)(hd:qd (cI s i)=false)(w:World)(h:Rdr w br s i) :
  Calls Tryz.prog 70 #[.pointer (some ⟨br,0,none⟩)] w fun e w'=>e=.returned (.tuple #[.int .i64 0,.bool false])∧Below w.heap.size w w':=by
 have hh:=q5S s hs br i hi w h
 have hdg:=q4K (cI s i)
 rw[hd]at hdg
 generalize cI s i=d at *
 clear h hd
 go_enter Tryz.func70,Tryz.ntmps70
 go_wp2_with fail
 refine hh.mono ?_
 rintro e w1 ⟨rfl,b1⟩
 go_wp2_with fail
 refine(hdg _).mono ?_
 rintro e w2 ⟨rfl,rfl⟩
 go_wp2_with fail
 go_ret2
 exact⟨rfl,b1⟩
end Go.Proofs.YtiamjjonoeaggabGreatDoor
