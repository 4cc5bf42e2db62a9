import Derived.Test.YtiamjjonoeaggabGreatDoorGA
import Derived.Test.YtiamjjonoeaggabGreatDoorG06
set_option maxRecDepth 100000
set_option maxHeartbeats 16000000
namespace Go.Proofs.YtiamjjonoeaggabGreatDoor
open Go.RowKit
structure OnlyB (bl:List Nat)(w w':World):Prop where
 os:w'.os=w.os
 tape:w'.tape=w.tape
 output:w'.output=w.output
 size:w.heap.size≤w'.heap.size
 block:∀k,k<w.heap.size→k∉bl→w'.heap[k]?=w.heap[k]?
theorem OnlyB.refl (bl:List Nat)(w:World):OnlyB bl w w:=⟨rfl,rfl,rfl,zL _,fun _ _ _=>rfl⟩
theorem OnlyB.trans {bl:List Nat}{a c d:World}(h:OnlyB bl a c)(k:OnlyB bl c d):OnlyB bl a d:=
 ⟨k.os.trans h.os,k.tape.trans h.tape,k.output.trans h.output,zM h.size k.size,fun i hi hn=>(k.block i (zT hi h.size) hn).trans (h.block i hi hn)⟩
theorem OnlyB.of_below {bl:List Nat}{a c:World}(h:Below a.heap.size a c):OnlyB bl a c:=⟨h.os,h.tape,h.output,h.size,fun k hk _=>h.block k hk⟩
theorem OnlyB.cell {bl:List Nat}{w w':World}(h:OnlyB bl w w'){b o:Nat}(hb:b<w.heap.size)(hn:b∉bl):w'.cell? ⟨b,o,none⟩=w.cell? ⟨b,o,none⟩:=zK (w:=w) (h.block b hb hn)
theorem OnlyB.frozen {bl:List Nat}{w w':World}(h:OnlyB bl w w'){b o:Nat}(hb:b<w.heap.size)(hn:b∉bl):w'.frozen? ⟨b,o,none⟩=w.frozen? ⟨b,o,none⟩:=World.frozen?_of_block (w:=w) (h.block b hb hn)
theorem OnlyB.setCell {bl:List Nat}{a w:World}(h:OnlyB bl a w){b o:Nat}(hb:b∈bl)(u:Value):OnlyB bl a (w.setCell ⟨b,o,none⟩ u):=by
 refine⟨h.os,h.tape,h.output,by simpa using h.size,fun k hk hn=>?_⟩
 rw[Below.heap_setCell w _ u k (by intro e;subst e;exact hn hb)]
 exact h.block k hk hn
theorem OnlyB.below {bl:List Nat}{w w':World}{B:Nat}(h:OnlyB bl w w')(hB:B≤w.heap.size)(hb:∀k∈bl,B≤k):Below B w w':=
 ⟨h.os,h.tape,h.output,h.size,fun k hk=>h.block k (by omega) (fun hm=>by have:=hb k hm;omega)⟩
structure PTok where
 kind:Int
 pos:Int
 size:Int
 val:Int
 name:By
def q5S (t:Tok):PTok:=⟨zk t.text,t.pos,t.text.length,q2F t.text,q9o t.text⟩
def ptV (t:PTok):Value:=q6s t.kind t.pos t.size t.val t.name
def ptEnd:PTok:=⟨0,0,0,0,[]⟩
structure Pars (w:World)(bp bt ct:Nat)(ts:List PTok)(nv:Value)(nx:Nat):Prop where
 toks:w.cell? ⟨bp,0,none⟩=some (.slice (some ⟨bt,0,none⟩) ts.length ct)
 next:w.cell? ⟨bp,1,none⟩=some (.int .i64 nx)
 nodes:w.cell? ⟨bp,2,none⟩=some nv
 free:∀o,w.frozen? ⟨bp,o,none⟩=false
 cap:ts.length≤ct∧ct≤maxLen∧ts.length≤1000
 ne:bt≠bp
 lt:bt<w.heap.size∧bp<w.heap.size
 cells:∀i (h:i<ts.length),(∀j,j<12→w.cell? ⟨bt,i*12+j,none⟩=(q3r (ts[i]).kind (ts[i]).pos (ts[i]).size (ts[i]).val (ts[i]).name)[j]?)
theorem Pars.only {w w':World}{bl:List Nat}{bp bt ct:Nat}{ts:List PTok}{nv:Value}{nx:Nat}(h:Pars w bp bt ct ts nv nx)(ho:OnlyB bl w w')(h1:bp∉bl)(h2:bt∉bl):Pars w' bp bt ct ts nv nx:=
 ⟨by rw[ho.cell h.lt.2 h1];exact h.toks,by rw[ho.cell h.lt.2 h1];exact h.next,by rw[ho.cell h.lt.2 h1];exact h.nodes,fun o=>by rw[ho.frozen h.lt.2 h1];exact h.free o,h.cap,h.ne,⟨zT h.lt.1 ho.size,zT h.lt.2 ho.size⟩,fun i hi j hj=>by rw[ho.cell h.lt.1 h2];exact h.cells i hi j hj⟩
theorem Pars.step {w:World}{bp bt ct:Nat}{ts:List PTok}{nv:Value}{nx:Nat}(h:Pars w bp bt ct ts nv nx)(n:Nat):Pars (w.setCell ⟨bp,1,none⟩ (.int .i64 n)) bp bt ct ts nv n:=by
 refine⟨?_,zS w _ _ h.next,?_,fun o=>by rw[World.frozen?_setCell];exact h.free o,h.cap,h.ne,by simpa using h.lt,fun i hi j hj=>?_⟩
 ·rw[zX w _ _ _ (by intro e;injection e with e1 e2;simp at e2)];exact h.toks
 ·rw[zX w _ _ _ (by intro e;injection e with e1 e2;simp at e2)];exact h.nodes
 ·rw[zX w _ _ _ (by intro e;injection e with e1 e2;exact h.ne e1.symm)];exact h.cells i hi j hj
def zp (ts:List PTok)(nx:Nat):PTok:=ts.getD nx ptEnd
theorem q2R (bp bt ct:Nat)(ts:List PTok)(nv:Value)(nx:Nat)(w:World)(h:Pars w bp bt ct ts nv nx)(hn:nx≤100000) :
  Calls Tryz.prog 92 #[.pointer (some ⟨bp,0,none⟩)] w fun e w'=>e=.returned (ptV (zp ts nx))∧Below w.heap.size w w':=by
 have c0:=h.toks
 have c1:=h.next
 have hlt:=h.lt.2
 have hcp:=h.cap
 obtain⟨k1,k2,k3⟩:=hcp
 unfold maxLen at k2
 by_cases hx:nx<ts.length
 ·have HC:=zb (h.cells nx hx)
  have hb:=h.lt.1
  have e:zp ts nx=ts[nx]:=by unfold zp;simp[List.getD,hx]
  rw[e]
  clear e
  generalize ts[nx]=t at *
  obtain⟨tk,tp,tz,tv,tn⟩:=t
  have d0:=HC.out 0 (by omega)
  have d1:=HC.out 1 (by omega)
  have d2:=HC.out 2 (by omega)
  have d3:=HC.out 3 (by omega)
  have d4:=HC.out 4 (by omega)
  have d5:=HC.out 5 (by omega)
  have d6:=HC.out 6 (by omega)
  have d7:=HC.out 7 (by omega)
  have d8:=HC.out 8 (by omega)
  have d9:=HC.out 9 (by omega)
  have d10:=HC.out 10 (by omega)
  have d11:=HC.out 11 (by omega)
  simp only[q3r,Nat.add_zero,List.getElem?_cons_zero,List.getElem?_cons_succ]at d0 d1 d2 d3 d4 d5 d6 d7 d8 d9 d10 d11
  clear HC h
  go_enter Tryz.func92,Tryz.ntmps92
  go_wp2_with fail
  go_quiet (fail)
  go_wp2_with fail
  go_region
  go_wp2_with fail
  exact zP (v:=ptV ⟨tk,tp,tz,tv,tn⟩) (by simp[results,Tryz.results92,go_sem,ptV,q6s]) rfl ⟨rfl,(((((((((((((q2v _ ((zB _ _).alloc (zL _) _)).setCell (by simp) _).setCell (by simp) _).setCell (by simp) _).setCell (by simp) _).setCell (by simp) _).setCell (by simp) _).setCell (by simp) _).setCell (by simp) _).setCell (by simp) _).setCell (by simp) _).setCell (by simp) _).setCell (by simp) _)⟩
 ·have e:zp ts nx=ptEnd:=by unfold zp;simp[List.getD,List.getElem?_eq_none (show ts.length≤nx by omega)]
  rw[e]
  clear e h
  go_enter Tryz.func92,Tryz.ntmps92
  go_wp2_with fail
  go_quiet (fail)
  go_wp2_with fail
  exact zP (v:=ptV ptEnd) (by simp[results,Tryz.results92,go_sem,ptV,ptEnd,q6s,zj]) rfl ⟨rfl,(((((((((((((q2v _ ((zB _ _).alloc (zL _) _)).setCell (by simp) _).setCell (by simp) _).setCell (by simp) _).setCell (by simp) _).setCell (by simp) _).setCell (by simp) _).setCell (by simp) _).setCell (by simp) _).setCell (by simp) _).setCell (by simp) _).setCell (by simp) _).setCell (by simp) _)⟩
theorem j3f (a b c d x0 x1 x2 x3 x4 x5 x6 x7:Int)(w:World):(Instr.field 187 (.agg #[.int .i64 a,.int .i64 b,.int .i64 c,.int .i64 d,.int .u8 x0,.int .u8 x1,.int .u8 x2,.int .u8 x3,.int .u8 x4,.int .u8 x5,.int .u8 x6,.int .u8 x7]) 0).run Tryz.prog w=.ok (.int .i64 a) w:=by kernel_rfl
theorem fld_pos (a b c d x0 x1 x2 x3 x4 x5 x6 x7:Int)(w:World):(Instr.field 187 (.agg #[.int .i64 a,.int .i64 b,.int .i64 c,.int .i64 d,.int .u8 x0,.int .u8 x1,.int .u8 x2,.int .u8 x3,.int .u8 x4,.int .u8 x5,.int .u8 x6,.int .u8 x7]) 1).run Tryz.prog w=.ok (.int .i64 b) w:=by kernel_rfl
theorem j5M (a b c d x0 x1 x2 x3 x4 x5 x6 x7:Int)(w:World):(Instr.field 187 (.agg #[.int .i64 a,.int .i64 b,.int .i64 c,.int .i64 d,.int .u8 x0,.int .u8 x1,.int .u8 x2,.int .u8 x3,.int .u8 x4,.int .u8 x5,.int .u8 x6,.int .u8 x7]) 3).run Tryz.prog w=.ok (.int .i64 d) w:=by kernel_rfl
def j4u (ts:List PTok)(nx:Nat)(kd:Int):Nat:=if (zp ts nx).kind=kd then nx+1 else nx
theorem j4s (bp bt ct:Nat)(ts:List PTok)(nv:Value)(nx:Nat)(kd:Int)(w:World)(h:Pars w bp bt ct ts nv nx)(hn:nx≤100000) :
  Calls Tryz.prog 156 #[.pointer (some ⟨bp,0,none⟩),.int .i64 kd] w fun e w'=>e=.returned (.bool (decide ((zp ts nx).kind=kd)))∧Pars w' bp bt ct ts nv (j4u ts nx kd)∧OnlyB [bp] w w':=by
 have hh:=q2R bp bt ct ts nv nx w h hn
 have HT:Hid (j4u ts nx kd=if (zp ts nx).kind=kd then nx+1 else nx):=zb rfl
 generalize j4u ts nx kd=tn at *
 generalize zp ts nx=t at *
 obtain⟨tk,tp,tz,tv,tnm⟩:=t
 have H:=zb h
 clear h
 by_cases hk:tk=kd
 ·subst hk
  have et:=HT.out
  simp only[if_true]at et
  subst et
  clear HT
  go_enter Tryz.func156,Tryz.ntmps156
  go_wp2_with fail
  refine hh.mono ?_
  rintro e w1 ⟨rfl,hb1⟩
  have ho1:OnlyB [] w w1:=.of_below hb1
  have P1:=H.out.only ho1 (by simp) (by simp)
  have c1:=P1.next
  have f1:=P1.free 1
  have H1:=zb P1
  clear P1
  unfold ptV q6s
  have hfd:=j3f tk tp tz tv (zj tnm 0) (zj tnm 1) (zj tnm 2) (zj tnm 3) (zj tnm 4) (zj tnm 5) (zj tnm 6) (zj tnm 7)
  go_wp2_with fail
  go_ret
  exact⟨by simp,by simpa using H1.out.step (nx+1),(OnlyB.of_below hb1).setCell (by simp) _⟩
 ·have et:=HT.out
  simp only[if_neg hk]at et
  subst et
  clear HT
  go_enter Tryz.func156,Tryz.ntmps156
  go_wp2_with fail
  refine hh.mono ?_
  rintro e w1 ⟨rfl,hb1⟩
  have ho1:OnlyB [] w w1:=.of_below hb1
  have H1:=zb (H.out.only ho1 (by simp) (by simp))
  unfold ptV q6s
  have hfd:=j3f tk tp tz tv (zj tnm 0) (zj tnm 1) (zj tnm 2) (zj tnm 3) (zj tnm 4) (zj tnm 5) (zj tnm 6) (zj tnm 7)
  go_wp2_with fail
  go_ret
  exact⟨by simp[hk],H1.out,.of_below hb1⟩
theorem OnlyB.nw (bl:List Nat)(w:World)(o:Obj):OnlyB bl w (w.alloc o):=.of_below ((zB _ _).alloc (zL _) _)
theorem OnlyB.wide {bl bl':List Nat}{w w':World}(h:OnlyB bl w w')(hs:∀k∈bl,k∈bl'):OnlyB bl' w w':=⟨h.os,h.tape,h.output,h.size,fun k hk hn=>h.block k hk (fun hm=>hn (hs k hm))⟩
theorem OnlyB.alloc {bl:List Nat}{a w:World}(h:OnlyB bl a w)(o:Obj):OnlyB bl a (w.alloc o):=h.trans (.nw bl w o)
theorem OnlyB.setNew {bl:List Nat}{a w:World}(h:OnlyB bl a w){b o:Nat}(hb:a.heap.size≤b)(u:Value):OnlyB bl a (w.setCell ⟨b,o,none⟩ u):=by
 refine⟨h.os,h.tape,h.output,by simpa using h.size,fun k hk hn=>?_⟩
 rw[Below.heap_setCell w _ u k (by intro e;subst e;omega)]
 exact h.block k hk hn
def q5T (k:Int):Bool:=k==3 || k==4
theorem varK_3:q5T 3=true:=rfl
theorem varK_4:q5T 4=true:=rfl
def q3O (k:Int):Bool:=k==6 || k==7 || k==8 || k==14 || k==15 || k==16 || k==17
def q2P (k:Int):Bool:=k==10 || k==11 || k==12 || k==13 || k==14 || k==15 || k==16 || k==17
def q2T (k:Int):Bool:=k==5 || k==2 || k==9 || q3O k || q2P k
theorem q5r (n:Int)(w:World) :
  Calls Tryz.prog 180 #[.int .i64 n] w fun e w'=>e=.returned (.bool (q5T n))∧w'=w:=by
 unfold q5T
 go_enter Tryz.func180,Tryz.ntmps180
 go_wp2
 all_goals
  go_ret
  exact⟨by simp[*],rfl⟩
theorem q1T (n:Int)(w:World) :
  Calls Tryz.prog 157 #[.int .i64 n] w fun e w'=>e=.returned (.bool (q3O n))∧w'=w:=by
 unfold q3O
 go_enter Tryz.func157,Tryz.ntmps157
 go_wp2
 all_goals
  go_ret
  exact⟨by simp_all,rfl⟩
theorem q6p (n:Int)(w:World) :
  Calls Tryz.prog 154 #[.int .i64 n] w fun e w'=>e=.returned (.bool (q2P n))∧w'=w:=by
 unfold q2P
 go_enter Tryz.func154,Tryz.ntmps154
 go_wp2
 all_goals
  go_ret
  exact⟨by simp_all,rfl⟩
theorem q8h (n:Int)(w:World) :
  Calls Tryz.prog 151 #[.int .i64 n] w fun e w'=>e=.returned (.bool (q2T n))∧w'=w:=by
 unfold q2T
 have h2:=q1T n
 have h3:=q6p n
 go_enter Tryz.func151,Tryz.ntmps151
 go_wp2
 all_goals
  go_ret
  exact⟨by simp_all [q3O,q2P],rfl⟩
theorem q0s (bp bt ct:Nat)(ts:List PTok)(nv:Value)(nx:Nat)(kd:Int)(w:World)(h:Pars w bp bt ct ts nv nx)(hn:nx≤100000)(hk:(zp ts nx).kind=kd) :
  Calls Tryz.prog 156 #[.pointer (some ⟨bp,0,none⟩),.int .i64 kd] w fun e w'=>e=.returned (.bool true)∧Pars w' bp bt ct ts nv (nx+1)∧OnlyB [bp] w w':=by
 have hh:=j4s bp bt ct ts nv nx kd w h hn
 simp only[j4u,hk,if_true,decide_true]at hh
 exact hh
theorem q0P (bp bt ct:Nat)(ts:List PTok)(nv:Value)(nx:Nat)(kd:Int)(w:World)(h:Pars w bp bt ct ts nv nx)(hn:nx≤100000)(hk:¬(zp ts nx).kind=kd) :
  Calls Tryz.prog 156 #[.pointer (some ⟨bp,0,none⟩),.int .i64 kd] w fun e w'=>e=.returned (.bool false)∧Pars w' bp bt ct ts nv nx∧OnlyB [bp] w w':=by
 have hh:=j4s bp bt ct ts nv nx kd w h hn
 simp only[j4u,if_neg hk,decide_eq_false hk]at hh
 exact hh
def q5j (t:PTok):Bool:=(t.kind==1&&t.size==1) || q5T t.kind
theorem q9k (bp bt ct:Nat)(ts:List PTok)(nv:Value)(nx:Nat)(w:World)(h:Pars w bp bt ct ts nv nx)(hn:nx≤100000)(hk:q5j (zp ts nx)=true) :
  Calls Tryz.prog 179 #[.pointer (some ⟨bp,0,none⟩)] w fun e w'=>e=.returned (.tuple #[.agg #[.int .i64 (zp ts nx).kind,.int .i64 (zp ts nx).val],.bool true])∧Pars w' bp bt ct ts nv (nx+1)∧OnlyB [bp] w w':=by
 have hh:=fun w h=>q2R bp bt ct ts nv nx w h hn
 generalize zp ts nx=t at *
 obtain⟨tk,tp,tz,tv,tnm⟩:=t
 have hk':(tk=1∧tz=1)∨tk=3∨tk=4:=by simpa[q5j,q5T]using hk
 have H:=zb h
 have hl0:=h.lt.2
 have hm0:=h.lt.1
 clear h hk
 rcases hk' with⟨rfl,rfl⟩|rfl|rfl
 ·go_enter Tryz.func179,Tryz.ntmps179
  go_wp2_with fail
  refine(hh _ (H.out.only (.nw [] _ _) (by simp) (by simp))).mono ?_
  rintro e w1 ⟨rfl,hb1⟩
  have ho1:OnlyB [] w w1:=(OnlyB.nw [] _ _).trans (.of_below hb1)
  have P1:=H.out.only ho1 (by simp) (by simp)
  have hz:w.heap.size<w1.heap.size:=by have:=hb1.size;simp at this;omega
  have r0:w1.cell? ⟨w.heap.size,0,none⟩=some (.int .i64 0):=by rw[zK (hb1.block w.heap.size (by simp))];simp
  have r1:w1.cell? ⟨w.heap.size,1,none⟩=some (.int .i64 0):=by rw[zK (hb1.block w.heap.size (by simp))];simp
  have rf0:w1.frozen? ⟨w.heap.size,0,none⟩=false:=by rw[World.frozen?_of_block (hb1.block w.heap.size (by simp))];simp
  have rf1:w1.frozen? ⟨w.heap.size,1,none⟩=false:=by rw[World.frozen?_of_block (hb1.block w.heap.size (by simp))];simp
  have c1:=P1.next
  have f1:=P1.free 1
  have hl1:=P1.lt.2
  have H1:=zb P1
  clear P1
  unfold ptV q6s
  go_wp2_with fail
  exact zP (v:=.tuple #[.agg #[.int .i64 1,.int .i64 tv],.bool true]) (by simp[results,Tryz.results179,go_sem,hz,r0,r1]) rfl
   ⟨rfl,by simpa using (H1.out.step (nx+1)).only (bl:=[w.heap.size]) ((((OnlyB.refl _ _).setCell (by simp) _).setCell (by simp) _).alloc _) (by simp;omega) (by simp;omega),
    ((((ho1.wide (by simp)).setCell (by simp) _).setNew (zL _) _).setNew (zL _) _).alloc _⟩
 ·go_enter Tryz.func179,Tryz.ntmps179
  go_wp2_with fail
  refine(hh _ (H.out.only (.nw [] _ _) (by simp) (by simp))).mono ?_
  rintro e w1 ⟨rfl,hb1⟩
  have ho1:OnlyB [] w w1:=(OnlyB.nw [] _ _).trans (.of_below hb1)
  have P1:=H.out.only ho1 (by simp) (by simp)
  have hz:w.heap.size<w1.heap.size:=by have:=hb1.size;simp at this;omega
  have r0:w1.cell? ⟨w.heap.size,0,none⟩=some (.int .i64 0):=by rw[zK (hb1.block w.heap.size (by simp))];simp
  have r1:w1.cell? ⟨w.heap.size,1,none⟩=some (.int .i64 0):=by rw[zK (hb1.block w.heap.size (by simp))];simp
  have rf0:w1.frozen? ⟨w.heap.size,0,none⟩=false:=by rw[World.frozen?_of_block (hb1.block w.heap.size (by simp))];simp
  have rf1:w1.frozen? ⟨w.heap.size,1,none⟩=false:=by rw[World.frozen?_of_block (hb1.block w.heap.size (by simp))];simp
  have c1:=P1.next
  have f1:=P1.free 1
  have hl1:=P1.lt.2
  have H1:=zb P1
  clear P1
  unfold ptV q6s
  go_wp2_with fail
  refine(q5r _ _).mono ?_
  rintro e w2 ⟨rfl,rfl⟩
  simp only[varK_3]
  go_wp2_with fail
  exact zP (v:=.tuple #[.agg #[.int .i64 3,.int .i64 tv],.bool true]) (by simp[results,Tryz.results179,go_sem,hz,r0,r1]) rfl
   ⟨rfl,by simpa using (H1.out.step (nx+1)).only (bl:=[w.heap.size]) ((((OnlyB.refl _ _).setCell (by simp) _).setCell (by simp) _).alloc _) (by simp;omega) (by simp;omega),
    ((((ho1.wide (by simp)).setCell (by simp) _).setNew (zL _) _).setNew (zL _) _).alloc _⟩
 ·go_enter Tryz.func179,Tryz.ntmps179
  go_wp2_with fail
  refine(hh _ (H.out.only (.nw [] _ _) (by simp) (by simp))).mono ?_
  rintro e w1 ⟨rfl,hb1⟩
  have ho1:OnlyB [] w w1:=(OnlyB.nw [] _ _).trans (.of_below hb1)
  have P1:=H.out.only ho1 (by simp) (by simp)
  have hz:w.heap.size<w1.heap.size:=by have:=hb1.size;simp at this;omega
  have r0:w1.cell? ⟨w.heap.size,0,none⟩=some (.int .i64 0):=by rw[zK (hb1.block w.heap.size (by simp))];simp
  have r1:w1.cell? ⟨w.heap.size,1,none⟩=some (.int .i64 0):=by rw[zK (hb1.block w.heap.size (by simp))];simp
  have rf0:w1.frozen? ⟨w.heap.size,0,none⟩=false:=by rw[World.frozen?_of_block (hb1.block w.heap.size (by simp))];simp
  have rf1:w1.frozen? ⟨w.heap.size,1,none⟩=false:=by rw[World.frozen?_of_block (hb1.block w.heap.size (by simp))];simp
  have c1:=P1.next
  have f1:=P1.free 1
  have hl1:=P1.lt.2
  have H1:=zb P1
  clear P1
  unfold ptV q6s
  go_wp2_with fail
  refine(q5r _ _).mono ?_
  rintro e w2 ⟨rfl,rfl⟩
  simp only[varK_4]
  go_wp2_with fail
  exact zP (v:=.tuple #[.agg #[.int .i64 4,.int .i64 tv],.bool true]) (by simp[results,Tryz.results179,go_sem,hz,r0,r1]) rfl
   ⟨rfl,by simpa using (H1.out.step (nx+1)).only (bl:=[w.heap.size]) ((((OnlyB.refl _ _).setCell (by simp) _).setCell (by simp) _).alloc _) (by simp;omega) (by simp;omega),
    ((((ho1.wide (by simp)).setCell (by simp) _).setNew (zL _) _).setNew (zL _) _).alloc _⟩
theorem j0T (bp bt ct:Nat)(ts:List PTok)(nv:Value)(nx:Nat)(w:World)(h:Pars w bp bt ct ts nv nx)(hn:nx≤100000)(hk:q5j (zp ts nx)=false) :
  Calls Tryz.prog 179 #[.pointer (some ⟨bp,0,none⟩)] w fun e w'=>e=.returned (.tuple #[.agg #[.int .i64 0,.int .i64 0],.bool false])∧Pars w' bp bt ct ts nv nx∧OnlyB [bp] w w':=by
 have hh:=fun w h=>q2R bp bt ct ts nv nx w h hn
 generalize zp ts nx=t at *
 obtain⟨tk,tp,tz,tv,tnm⟩:=t
 have hv:q5T tk=false:=by cases hq:q5T tk<;>simp_all [q5j]
 have hk':(tk==1)=false∨(tk=1∧(tz==1)=false):=by by_cases hq:tk=1<;>simp_all [q5j]
 have H:=zb h
 have hl0:=h.lt.2
 have hm0:=h.lt.1
 clear h hk
 go_enter Tryz.func179,Tryz.ntmps179
 go_wp2_with fail
 refine(hh _ (H.out.only (.nw [] _ _) (by simp) (by simp))).mono ?_
 rintro e w1 ⟨rfl,hb1⟩
 have ho1:OnlyB [] w w1:=(OnlyB.nw [] _ _).trans (.of_below hb1)
 have P1:=H.out.only ho1 (by simp) (by simp)
 have hz:w.heap.size<w1.heap.size:=by have:=hb1.size;simp at this;omega
 have r0:w1.cell? ⟨w.heap.size,0,none⟩=some (.int .i64 0):=by rw[zK (hb1.block w.heap.size (by simp))];simp
 have r1:w1.cell? ⟨w.heap.size,1,none⟩=some (.int .i64 0):=by rw[zK (hb1.block w.heap.size (by simp))];simp
 have rf0:w1.frozen? ⟨w.heap.size,0,none⟩=false:=by rw[World.frozen?_of_block (hb1.block w.heap.size (by simp))];simp
 have rf1:w1.frozen? ⟨w.heap.size,1,none⟩=false:=by rw[World.frozen?_of_block (hb1.block w.heap.size (by simp))];simp
 have c1:=P1.next
 have f1:=P1.free 1
 have hl1:=P1.lt.2
 have H1:=zb P1
 clear P1
 unfold ptV q6s
 rcases hk' with hk1|⟨rfl,hk1⟩
 all_goals
  go_wp2_with fail
  all_goals
   refine(q5r _ _).mono ?_
   rintro e w2 ⟨rfl,rfl⟩
   simp only[hv]
   go_wp2_with fail
   exact zP (v:=.tuple #[.agg #[.int .i64 0,.int .i64 0],.bool false]) (by simp[results,Tryz.results179,go_sem,hz,r0,r1]) rfl
    ⟨rfl,H1.out.only (bl:=[w.heap.size]) ((((OnlyB.refl _ _).setCell (by simp) _).setCell (by simp) _).alloc _) (by simp;omega) (by simp;omega),
     (((ho1.wide (by simp)).setNew (zL _) _).setNew (zL _) _).alloc _⟩
structure PNode where
 kind:Int
 pos:Int
 name:By
 k0:Int
 v0:Int
 k1:Int
 v1:Int
 cnt:Int
 var:Int
 sat:Int
 slo:Int
 shi:Int
 sop:Bool
 fst:Int
 snd:Int
def zm (n:PNode):List Value:=[.int .i64 n.kind,.int .i64 n.pos,.int .u8 (zj n.name 0),.int .u8 (zj n.name 1),.int .u8 (zj n.name 2),.int .u8 (zj n.name 3),.int .u8 (zj n.name 4),.int .u8 (zj n.name 5),.int .u8 (zj n.name 6),.int .u8 (zj n.name 7),.int .i64 n.k0,.int .i64 n.v0,.int .i64 n.k1,.int .i64 n.v1,.int .i64 n.cnt,.int .i64 n.var,.int .i64 n.sat,.int .i64 n.slo,.int .i64 n.shi,.bool n.sop,.int .i64 n.fst,.int .i64 n.snd]
structure NodeAt (w:World)(bn:Nat)(n:PNode):Prop where
 cells:∀j,j<22→w.cell? ⟨bn,j,none⟩=(zm n)[j]?
 free:∀o,w.frozen? ⟨bn,o,none⟩=false
 lt:bn<w.heap.size
theorem NodeAt.only {w w':World}{bl:List Nat}{bn:Nat}{n:PNode}(h:NodeAt w bn n)(ho:OnlyB bl w w')(hn:bn∉bl):NodeAt w' bn n:=
 ⟨fun j hj=>by rw[ho.cell h.lt hn];exact h.cells j hj,fun o=>by rw[ho.frozen h.lt hn];exact h.free o,zT h.lt ho.size⟩
theorem NodeAt.set {w:World}{bn:Nat}{n n':PNode}(h:NodeAt w bn n)(o:Nat)(ho:o<22)(u:Value)(he:zm n'=(zm n).set o u):NodeAt (w.setCell ⟨bn,o,none⟩ u) bn n':=by
 have hlen:(zm n).length=22:=rfl
 refine⟨fun j hj=>?_,fun q=>by rw[World.frozen?_setCell];exact h.free q,by simpa using h.lt⟩
 rw[he]
 by_cases e:j=o
 ·subst e
  have hc:=h.cells j ho
  rw[zG (by omega)]at hc
  rw[zS w _ _ hc,List.getElem?_set_self (by omega)]
 ·rw[zX w _ _ _ (by intro q;injection q with q1 q2;exact e q2.symm),List.getElem?_set_ne (by omega)]
  exact h.cells j hj
theorem q8R (bp bt ct:Nat)(ts:List PTok)(nv:Value)(nx bn:Nat)(nd:PNode)(w:World)(h:Pars w bp bt ct ts nv nx)(hn:nx≤100000)(hd:NodeAt w bn nd)(hne:bn≠bp∧bn≠bt)(hk:q5T (zp ts nx).kind=true) :
  Calls Tryz.prog 153 #[.pointer (some ⟨bp,0,none⟩),.pointer (some ⟨bn,0,none⟩)] w fun e w'=>e=.returned (.bool true)∧Pars w' bp bt ct ts nv (nx+1)∧NodeAt w' bn {nd with var:=(zp ts nx).kind}∧OnlyB [bp,bn] w w':=by
 have hh:=q2R bp bt ct ts nv nx w h hn
 generalize zp ts nx=t at *
 obtain⟨tk,tp,tz,tv,tnm⟩:=t
 have H:=zb h
 have HD:=zb hd
 have hl0:=h.lt.2
 have hm0:=h.lt.1
 have hv:q5T tk=true:=hk
 clear h hk hd
 go_enter Tryz.func153,Tryz.ntmps153
 go_wp2_with fail
 refine hh.mono ?_
 rintro e w1 ⟨rfl,hb1⟩
 have ho1:OnlyB [] w w1:=.of_below hb1
 have P1:=H.out.only ho1 (by simp) (by simp)
 have D1:=HD.out.only ho1 (by simp)
 have c1:=P1.next
 have f1:=P1.free 1
 have hl1:=P1.lt.2
 have g1:=D1.free 15
 have hl2:=D1.lt
 have d15:=D1.cells 15 (by omega)
 simp only[zm,List.getElem?_cons_succ,List.getElem?_cons_zero]at d15
 have H1:=zb P1
 have HD1:=zb D1
 clear P1 D1
 unfold ptV q6s
 go_wp2_with fail
 refine(q5r _ _).mono ?_
 rintro e w2 ⟨rfl,rfl⟩
 simp only[hv]
 obtain⟨hne1,hne2⟩:=hne
 go_wp2_with fail
 go_ret
 have s1:OnlyB [bp] w1 (w1.setCell ⟨bp,1,none⟩ (.int .i64 ((nx:Int)+1))):=(OnlyB.refl _ _).setCell (by simp) _
 exact⟨rfl,by simpa using (H1.out.step (nx+1)).only (bl:=[bn]) (((OnlyB.refl _ _).setCell (by simp) _).alloc _) (by simp;omega) (by simp;omega),
  ((HD1.out.only s1 (by simp;omega)).set (n':={nd with var:=tk}) 15 (by omega) (.int .i64 tk) rfl).only (.nw [] _ _) (by simp),((((ho1.wide (by simp)).setCell (by simp) _).setCell (by simp) _).alloc _)⟩
theorem q9s (bp bt ct:Nat)(ts:List PTok)(nv:Value)(nx bn:Nat)(w:World)(h:Pars w bp bt ct ts nv nx)(hn:nx≤100000)(hk:q5T (zp ts nx).kind=false) :
  Calls Tryz.prog 153 #[.pointer (some ⟨bp,0,none⟩),.pointer (some ⟨bn,0,none⟩)] w fun e w'=>e=.returned (.bool false)∧OnlyB [] w w':=by
 have hh:=q2R bp bt ct ts nv nx w h hn
 generalize zp ts nx=t at *
 obtain⟨tk,tp,tz,tv,tnm⟩:=t
 have hv:q5T tk=false:=hk
 clear h hk
 go_enter Tryz.func153,Tryz.ntmps153
 go_wp2_with fail
 refine hh.mono ?_
 rintro e w1 ⟨rfl,hb1⟩
 have ho1:OnlyB [] w w1:=.of_below hb1
 unfold ptV q6s
 go_wp2_with fail
 refine(q5r _ _).mono ?_
 rintro e w2 ⟨rfl,rfl⟩
 simp only[hv]
 go_wp2_with fail
 go_ret
 exact⟨rfl,ho1.alloc _⟩
theorem OnlyB.drew {bl:List Nat}{a w:World}(h:OnlyB bl a w):OnlyB bl a w.drew:=h.trans (.of_below (zB _ _).drew)
def q6P (ts:List PTok)(nx:Nat)(n1:PNode):Bool × Nat × PNode:=
 if (zp ts (nx+2)).kind=20 then
  if q5j (zp ts (nx+3))=true then
   if (zp ts (nx+4)).kind=19 then(true,nx+5,{n1 with k1:=(zp ts (nx+3)).kind,v1:=(zp ts (nx+3)).val,cnt:=2})else(false,nx+4,{n1 with k1:=(zp ts (nx+3)).kind,v1:=(zp ts (nx+3)).val,cnt:=2})
  else(false,nx+3,n1)
 else if (zp ts (nx+2)).kind=19 then(true,nx+3,n1)else(false,nx+2,n1)
def q6O (ts:List PTok)(nx:Nat)(nd:PNode):Bool × Nat × PNode:=
 if (zp ts nx).kind=18 then
  if q5j (zp ts (nx+1))=true then q6P ts nx {nd with k0:=(zp ts (nx+1)).kind,v0:=(zp ts (nx+1)).val,cnt:=1}
  else(false,nx+1,nd)
 else(false,nx,nd)
theorem syn_args (bp bt ct:Nat)(ts:List PTok)(nv:Value)(nx bn:Nat)(nd:PNode)(w:World)(h:Pars w bp bt ct ts nv nx)(hn:nx≤10000)(hd:NodeAt w bn nd)(hne:bn≠bp∧bn≠bt) :
  Calls Tryz.prog 152 #[.pointer (some ⟨bp,0,none⟩),.pointer (some ⟨bn,0,none⟩)] w fun e w'=>e=.returned (.bool (q6O ts nx nd).1)∧Pars w' bp bt ct ts nv (q6O ts nx nd).2.1∧NodeAt w' bn (q6O ts nx nd).2.2∧OnlyB [bp,bn] w w':=by
 obtain⟨hne1,hne2⟩:=hne
 unfold q6O
 by_cases a1:(zp ts nx).kind=18
 ·rw[if_pos a1]
  by_cases a2:q5j (zp ts (nx+1))=true
  ·rw[if_pos a2]
   have t1:=fun w h=>q0s bp bt ct ts nv nx 18 w h (by omega) a1
   have t2:=fun w h=>q9k bp bt ct ts nv (nx+1) w h (by omega) a2
   generalize (zp ts (nx+1)).kind=k0 at *
   generalize (zp ts (nx+1)).val=v0 at *
   obtain⟨n1,hn1⟩:∃n1:PNode,n1={nd with k0:=k0,v0:=v0,cnt:=1}:=⟨_,rfl⟩
   rw[←hn1]
   have HN:=zb hn1
   generalize hr:q6P ts nx n1=r
   have HT:Hid (q6P ts nx n1=r):=zb hr
   have H:=zb h
   have HD:=zb hd
   clear h hd a1 a2 hr hn1
   go_enter Tryz.func152,Tryz.ntmps152
   go_wp2_with fail
   refine(t1 _ H.out).mono ?_
   rintro e w1 ⟨rfl,P1,o1⟩
   have H1:=zb P1
   clear P1
   go_wp2_with fail
   refine(t2 _ H1.out).mono ?_
   rintro e w2 ⟨rfl,P2,o2⟩
   have o12:=o1.trans o2
   have D2:=HD.out.only o12 (by simp;omega)
   have H2:=zb P2
   have f10:=D2.free 10
   have f11:=D2.free 11
   have f14:=D2.free 14
   have d10:=D2.cells 10 (by omega)
   have d11:=D2.cells 11 (by omega)
   have d14:=D2.cells 14 (by omega)
   simp only[zm,List.getElem?_cons_succ,List.getElem?_cons_zero]at d10 d11 d14
   have hl2:=D2.lt
   have HD2:=zb D2
   clear P2 D2
   go_wp2_with fail
   go_region
   go_wp2_with fail
   obtain⟨W3,hW⟩:∃W:World,W=((((w2.setCell ⟨bn,10,none⟩ (.int .i64 k0)).setCell ⟨bn,11,none⟩ (.int .i64 v0)).setCell ⟨bn,14,none⟩ (.int .i64 1)).alloc (.cells #[.int .i64 k0,.int .i64 v0] 161)).drew:=⟨_,rfl⟩
   rw[←hW]
   have q3:OnlyB [bn] w2 W3:=by rw[hW];exact(((((OnlyB.refl _ _).setCell (by simp) _).setCell (by simp) _).setCell (by simp) _).alloc _).drew
   have P3:=H2.out.only q3 (by simp;omega) (by simp;omega)
   have D3:NodeAt W3 bn n1:=by
    rw[hW,HN.out]
    exact(((HD2.out.set (n':={nd with k0:=k0}) 10 (by omega) (.int .i64 k0) rfl).set (n':={nd with k0:=k0,v0:=v0}) 11 (by omega) (.int .i64 v0) rfl).set (n':={nd with k0:=k0,v0:=v0,cnt:=1}) 14 (by omega) (.int .i64 1) rfl).only ((OnlyB.refl [] _).alloc _).drew (by simp)
   have o3:OnlyB [bp,bn] w W3:=(o12.wide (by simp)).trans (q3.wide (by simp))
   clear hW f10 f11 f14 d10 d11 d14
   have H3:=zb P3
   have HD3:=zb D3
   clear P3 D3 q3
   by_cases b1:(zp ts (nx+2)).kind=20
   ·refine(q0s bp bt ct ts nv (nx+2) 20 _ H3.out (by omega) b1).mono ?_
    rintro e w4 ⟨rfl,P4,o4⟩
    have H4:=zb P4
    have HD4:=zb (HD3.out.only o4 (by simp;omega))
    have o4':=o3.trans (o4.wide (by simp))
    clear P4
    go_wp2_with fail
    by_cases b2:q5j (zp ts (nx+3))=true
    ·have t4:=q9k bp bt ct ts nv (nx+3) w4 H4.out (by omega) b2
     generalize hk1:(zp ts (nx+3)).kind=k1 at t4
     generalize hv1:(zp ts (nx+3)).val=v1 at t4
     have HK:=zb hk1
     have HV:=zb hv1
     clear hk1 hv1
     refine t4.mono ?_
     rintro e w5 ⟨rfl,P5,o5⟩
     have D5:=HD4.out.only o5 (by simp;omega)
     have H5:=zb P5
     have f12:=D5.free 12
     have f13:=D5.free 13
     have f14:=D5.free 14
     have d12:=D5.cells 12 (by omega)
     have d13:=D5.cells 13 (by omega)
     have d14:=D5.cells 14 (by omega)
     simp only[zm,List.getElem?_cons_succ,List.getElem?_cons_zero]at d12 d13 d14
     have hl5:=D5.lt
     have HD5:=zb D5
     clear P5 D5
     go_wp2_with fail
     go_region
     go_wp2_with fail
     obtain⟨W6,hW⟩:∃W:World,W=((((w5.setCell ⟨bn,12,none⟩ (.int .i64 k1)).setCell ⟨bn,13,none⟩ (.int .i64 v1)).setCell ⟨bn,14,none⟩ (.int .i64 2)).alloc (.cells #[.int .i64 k1,.int .i64 v1] 161)).drew:=⟨_,rfl⟩
     rw[←hW]
     have q6:OnlyB [bn] w5 W6:=by rw[hW];exact(((((OnlyB.refl _ _).setCell (by simp) _).setCell (by simp) _).setCell (by simp) _).alloc _).drew
     have P6:=H5.out.only q6 (by simp;omega) (by simp;omega)
     have D6:NodeAt W6 bn {n1 with k1:=k1,v1:=v1,cnt:=2}:=by
      rw[hW]
      exact(((HD5.out.set (n':={n1 with k1:=k1}) 12 (by omega) (.int .i64 k1) rfl).set (n':={n1 with k1:=k1,v1:=v1}) 13 (by omega) (.int .i64 v1) rfl).set (n':={n1 with k1:=k1,v1:=v1,cnt:=2}) 14 (by omega) (.int .i64 2) rfl).only ((OnlyB.refl [] _).alloc _).drew (by simp)
     have o6:OnlyB [bp,bn] w W6:=(o4'.trans (o5.wide (by simp))).trans (q6.wide (by simp))
     clear hW f12 f13 f14 d12 d13 d14
     have H6:=zb P6
     have HD6:=zb D6
     clear P6 D6 q6
     by_cases b3:(zp ts (nx+4)).kind=19
     ·have er:=HT.out
      rw[q6P,if_pos b1,if_pos b2,if_pos b3,HK.out,HV.out]at er
      subst er
      refine(q0s bp bt ct ts nv (nx+4) 19 _ H6.out (by omega) b3).mono ?_
      rintro e w7 ⟨rfl,P7,o7⟩
      have D7:=HD6.out.only o7 (by simp;omega)
      go_wp2_with fail
      go_ret
      exact⟨rfl,P7,D7,o6.trans (o7.wide (by simp))⟩
     ·have er:=HT.out
      rw[q6P,if_pos b1,if_pos b2,if_neg b3,HK.out,HV.out]at er
      subst er
      refine(q0P bp bt ct ts nv (nx+4) 19 _ H6.out (by omega) b3).mono ?_
      rintro e w7 ⟨rfl,P7,o7⟩
      have D7:=HD6.out.only o7 (by simp;omega)
      go_wp2_with fail
      go_ret
      exact⟨rfl,P7,D7,o6.trans (o7.wide (by simp))⟩
    ·have er:=HT.out
     rw[q6P,if_pos b1,if_neg b2]at er
     subst er
     refine(j0T bp bt ct ts nv (nx+3) w4 H4.out (by omega) (by simpa using b2)).mono ?_
     rintro e w5 ⟨rfl,P5,o5⟩
     have H5:=zb P5
     have D5:=HD4.out.only o5 (by simp;omega)
     have HD5:=zb D5
     clear P5 D5
     go_wp2_with fail
     go_ret
     exact⟨rfl,H5.out.only (.nw [] _ _) (by simp) (by simp),HD5.out.only (.nw [] _ _) (by simp),(o4'.trans (o5.wide (by simp))).alloc _⟩
   ·refine(q0P bp bt ct ts nv (nx+2) 20 _ H3.out (by omega) b1).mono ?_
    rintro e w4 ⟨rfl,P4,o4⟩
    have H4:=zb P4
    have HD4:=zb (HD3.out.only o4 (by simp;omega))
    have o4':=o3.trans (o4.wide (by simp))
    clear P4
    go_wp2_with fail
    by_cases b2:(zp ts (nx+2)).kind=19
    ·have er:=HT.out
     rw[q6P,if_neg b1,if_pos b2]at er
     subst er
     refine(q0s bp bt ct ts nv (nx+2) 19 _ H4.out (by omega) b2).mono ?_
     rintro e w5 ⟨rfl,P5,o5⟩
     have D5:=HD4.out.only o5 (by simp;omega)
     go_wp2_with fail
     go_ret
     exact⟨rfl,P5,D5,o4'.trans (o5.wide (by simp))⟩
    ·have er:=HT.out
     rw[q6P,if_neg b1,if_neg b2]at er
     subst er
     refine(q0P bp bt ct ts nv (nx+2) 19 _ H4.out (by omega) b2).mono ?_
     rintro e w5 ⟨rfl,P5,o5⟩
     have D5:=HD4.out.only o5 (by simp;omega)
     go_wp2_with fail
     go_ret
     exact⟨rfl,P5,D5,o4'.trans (o5.wide (by simp))⟩
  ·rw[if_neg a2]
   have t1:=fun w h=>q0s bp bt ct ts nv nx 18 w h (by omega) a1
   have t2:=fun w h=>j0T bp bt ct ts nv (nx+1) w h (by omega) (by simpa using a2)
   have H:=zb h
   have HD:=zb hd
   clear h hd a1 a2
   go_enter Tryz.func152,Tryz.ntmps152
   go_wp2_with fail
   refine(t1 _ H.out).mono ?_
   rintro e w1 ⟨rfl,P1,o1⟩
   have H1:=zb P1
   clear P1
   go_wp2_with fail
   refine(t2 _ H1.out).mono ?_
   rintro e w2 ⟨rfl,P2,o2⟩
   have o12:=o1.trans o2
   have D2:=HD.out.only o12 (by simp;omega)
   have H2:=zb P2
   have HD2:=zb D2
   clear P2 D2
   go_wp2_with fail
   go_ret
   exact⟨rfl,H2.out.only (.nw [] _ _) (by simp) (by simp),HD2.out.only (.nw [] _ _) (by simp),(o12.wide (by simp)).alloc _⟩
 ·rw[if_neg a1]
  have t1:=fun w h=>q0P bp bt ct ts nv nx 18 w h (by omega) a1
  have H:=zb h
  have HD:=zb hd
  clear h hd a1
  go_enter Tryz.func152,Tryz.ntmps152
  go_wp2_with fail
  refine(t1 _ H.out).mono ?_
  rintro e w1 ⟨rfl,P1,o1⟩
  have H1:=zb P1
  clear P1
  go_wp2_with fail
  go_ret
  exact⟨rfl,H1.out,HD.out.only o1 (by simp;omega),o1.wide (by simp)⟩
def q3n (ts:List PTok)(nx:Nat)(nd:PNode):Bool × Nat × PNode:=
 if (zp ts nx).kind=21 then
  if (zp ts (nx+1)).kind=1 then
   if (zp ts (nx+2)).kind=20 then
    if (zp ts (nx+3)).kind=23 then
     if (zp ts (nx+4)).kind=22 then(true,nx+5,{nd with sat:=(zp ts nx).pos,slo:=(zp ts (nx+1)).val,sop:=true})else(false,nx+4,{nd with sat:=(zp ts nx).pos,slo:=(zp ts (nx+1)).val,sop:=true})
    else if (zp ts (nx+3)).kind=1 then
     if (zp ts (nx+4)).kind=22 then(true,nx+5,{nd with sat:=(zp ts nx).pos,slo:=(zp ts (nx+1)).val,shi:=(zp ts (nx+3)).val})else(false,nx+4,{nd with sat:=(zp ts nx).pos,slo:=(zp ts (nx+1)).val,shi:=(zp ts (nx+3)).val})
    else(false,nx+3,{nd with sat:=(zp ts nx).pos,slo:=(zp ts (nx+1)).val,shi:=(zp ts (nx+3)).val})
   else(false,nx+2,{nd with sat:=(zp ts nx).pos,slo:=(zp ts (nx+1)).val})
  else(false,nx+1,{nd with sat:=(zp ts nx).pos,slo:=(zp ts (nx+1)).val})
 else(false,nx,{nd with sat:=(zp ts nx).pos})
theorem syn_span (bp bt ct:Nat)(ts:List PTok)(nv:Value)(nx bn:Nat)(nd:PNode)(w:World)(h:Pars w bp bt ct ts nv nx)(hn:nx≤10000)(hd:NodeAt w bn nd)(hne:bn≠bp∧bn≠bt) :
  Calls Tryz.prog 155 #[.pointer (some ⟨bp,0,none⟩),.pointer (some ⟨bn,0,none⟩)] w fun e w'=>e=.returned (.bool (q3n ts nx nd).1)∧Pars w' bp bt ct ts nv (q3n ts nx nd).2.1∧NodeAt w' bn (q3n ts nx nd).2.2∧OnlyB [bp,bn] w w':=by
 obtain⟨hne1,hne2⟩:=hne
 generalize hr:q3n ts nx nd=r
 have HT:=zb hr
 clear hr
 have t0:=q2R bp bt ct ts nv nx w h (by omega)
 have H:=zb h
 have HD:=zb hd
 clear h hd
 obtain⟨tk,hk0⟩:∃t,t=zp ts nx:=⟨_,rfl⟩
 rw[←hk0]at t0
 have HK0:=zb hk0
 clear hk0
 obtain⟨tk,tp,tz,tv,tnm⟩:=tk
 go_enter Tryz.func155,Tryz.ntmps155
 go_wp2_with fail
 refine t0.mono ?_
 rintro e w1 ⟨rfl,b1⟩
 have o1:OnlyB [] w w1:=.of_below b1
 have D1:=HD.out.only o1 (by simp)
 have H1:=zb (H.out.only o1 (by simp) (by simp))
 have f16:=D1.free 16
 have d16:=D1.cells 16 (by omega)
 simp only[zm,List.getElem?_cons_succ,List.getElem?_cons_zero]at d16
 have hl1:=D1.lt
 have HD1:=zb D1
 clear D1
 unfold ptV q6s
 have hfd:=fld_pos tk tp tz tv (zj tnm 0) (zj tnm 1) (zj tnm 2) (zj tnm 3) (zj tnm 4) (zj tnm 5) (zj tnm 6) (zj tnm 7)
 go_wp2_with fail
 clear hfd t0 b1
 obtain⟨w2,hW⟩:∃W:World,W=w1.setCell ⟨bn,16,none⟩ (.int .i64 tp):=⟨_,rfl⟩
 rw[←hW]
 have q:OnlyB [bn] w1 w2:=by rw[hW];exact(OnlyB.refl _ _).setCell (by simp) _
 have H2:=zb (H1.out.only q (by simp;omega) (by simp;omega))
 have HD2:Hid (NodeAt w2 bn {nd with sat:=tp}):=zb (by rw[hW];exact HD1.out.set (n':={nd with sat:=tp}) 16 (by omega) (.int .i64 tp) rfl)
 have o2:OnlyB [bp,bn] w w2:=(o1.wide (by simp)).trans (q.wide (by simp))
 clear hW q f16 d16
 by_cases a1:(zp ts nx).kind=21
 ·refine(q0s bp bt ct ts nv (nx) 21 _ H2.out (by omega) a1).mono ?_
  rintro e w3 ⟨rfl,P,o⟩
  have H3:=zb P
  have HD3:=zb (HD2.out.only o (by simp;omega))
  have o3:OnlyB [bp,bn] w w3:=(o2.wide (by simp)).trans (o.wide (by simp))
  clear P o
  go_wp2_with fail
  have t:=q2R bp bt ct ts nv (nx+1) w3 H3.out (by omega)
  obtain⟨tB,hk⟩:∃t,t=zp ts (nx+1):=⟨_,rfl⟩
  rw[←hk]at t
  have HKB:=zb hk
  clear hk
  obtain⟨kB,pB,zB,vB,mB⟩:=tB
  refine t.mono ?_
  rintro e w4 ⟨rfl,b⟩
  clear t
  have o:OnlyB [] _ _:=.of_below b
  have D:=HD3.out.only o (by simp)
  have H4:=zb (H3.out.only o (by simp) (by simp))
  have f17:=D.free 17
  have d17:=D.cells 17 (by omega)
  simp only[zm,List.getElem?_cons_succ,List.getElem?_cons_zero]at d17
  have hl4:=D.lt
  have HD4:=zb D
  have o4:OnlyB [bp,bn] w w4:=o3.trans (o.wide (by simp))
  clear D o b
  unfold ptV q6s
  have hfd:=j5M kB pB zB vB (zj mB 0) (zj mB 1) (zj mB 2) (zj mB 3) (zj mB 4) (zj mB 5) (zj mB 6) (zj mB 7)
  go_wp2_with fail
  clear hfd
  obtain⟨w5,hW⟩:∃W:World,W=w4.setCell ⟨bn,17,none⟩ (.int .i64 vB):=⟨_,rfl⟩
  rw[←hW]
  have q:OnlyB [bn] w4 w5:=by rw[hW];exact(OnlyB.refl _ _).setCell (by simp) _
  have H5:=zb (H4.out.only q (by simp;omega) (by simp;omega))
  have HD5:Hid (NodeAt w5 bn {nd with sat:=tp,slo:=vB}):=zb (by rw[hW];exact HD4.out.set (n':={nd with sat:=tp,slo:=vB}) 17 (by omega) (.int .i64 vB) rfl)
  have o5:OnlyB [bp,bn] w w5:=(o4.wide (by simp)).trans (q.wide (by simp))
  clear hW q f17 d17
  by_cases a2:(zp ts (nx+1)).kind=1
  ·refine(q0s bp bt ct ts nv (nx+1) 1 _ H5.out (by omega) a2).mono ?_
   rintro e w6 ⟨rfl,P,o⟩
   have H6:=zb P
   have HD6:=zb (HD5.out.only o (by simp;omega))
   have o6:OnlyB [bp,bn] w w6:=(o5.wide (by simp)).trans (o.wide (by simp))
   clear P o
   go_wp2_with fail
   by_cases a3:(zp ts (nx+2)).kind=20
   ·refine(q0s bp bt ct ts nv (nx+2) 20 _ H6.out (by omega) a3).mono ?_
    rintro e w7 ⟨rfl,P,o⟩
    have H7:=zb P
    have HD7:=zb (HD6.out.only o (by simp;omega))
    have o7:OnlyB [bp,bn] w w7:=(o6.wide (by simp)).trans (o.wide (by simp))
    clear P o
    go_wp2_with fail
    by_cases a4:(zp ts (nx+3)).kind=23
    ·refine(q0s bp bt ct ts nv (nx+3) 23 _ H7.out (by omega) a4).mono ?_
     rintro e w8 ⟨rfl,P,o⟩
     have H8:=zb P
     have HD8:=zb (HD7.out.only o (by simp;omega))
     have o8:OnlyB [bp,bn] w w8:=(o7.wide (by simp)).trans (o.wide (by simp))
     clear P o
     have f19:=HD8.out.free 19
     have d19:=HD8.out.cells 19 (by omega)
     simp only[zm,List.getElem?_cons_succ,List.getElem?_cons_zero]at d19
     go_wp2_with fail
     obtain⟨w9,hW⟩:∃W:World,W=w8.setCell ⟨bn,19,none⟩ (.bool true):=⟨_,rfl⟩
     rw[←hW]
     have q:OnlyB [bn] w8 w9:=by rw[hW];exact(OnlyB.refl _ _).setCell (by simp) _
     have H9:=zb (H8.out.only q (by simp;omega) (by simp;omega))
     have HD9:Hid (NodeAt w9 bn {nd with sat:=tp,slo:=vB,sop:=true}):=zb (by rw[hW];exact HD8.out.set (n':={nd with sat:=tp,slo:=vB,sop:=true}) 19 (by omega) (.bool true) rfl)
     have o9:OnlyB [bp,bn] w w9:=(o8.wide (by simp)).trans (q.wide (by simp))
     clear hW q f19 d19
     by_cases a6:(zp ts (nx+4)).kind=22
     ·have er:=HT.out
      rw[q3n,if_pos a1,if_pos a2,if_pos a3,if_pos a4,if_pos a6,←HK0.out,←HKB.out]at er
      subst er
      refine(q0s bp bt ct ts nv (nx+4) 22 _ H9.out (by omega) a6).mono ?_
      rintro e w10 ⟨rfl,P,o⟩
      have H10:=zb P
      have HD10:=zb (HD9.out.only o (by simp;omega))
      have o10:OnlyB [bp,bn] w w10:=(o9.wide (by simp)).trans (o.wide (by simp))
      clear P o
      go_wp2_with fail
      go_ret
      exact⟨rfl,H10.out,HD10.out,o10⟩
     ·have er:=HT.out
      rw[q3n,if_pos a1,if_pos a2,if_pos a3,if_pos a4,if_neg a6,←HK0.out,←HKB.out]at er
      subst er
      refine(q0P bp bt ct ts nv (nx+4) 22 _ H9.out (by omega) a6).mono ?_
      rintro e w10 ⟨rfl,P,o⟩
      have H10:=zb P
      have HD10:=zb (HD9.out.only o (by simp;omega))
      have o10:OnlyB [bp,bn] w w10:=(o9.wide (by simp)).trans (o.wide (by simp))
      clear P o
      go_wp2_with fail
      go_ret
      exact⟨rfl,H10.out,HD10.out,o10⟩
    ·refine(q0P bp bt ct ts nv (nx+3) 23 _ H7.out (by omega) a4).mono ?_
     rintro e w8 ⟨rfl,P,o⟩
     have H8:=zb P
     have HD8:=zb (HD7.out.only o (by simp;omega))
     have o8:OnlyB [bp,bn] w w8:=(o7.wide (by simp)).trans (o.wide (by simp))
     clear P o
     go_wp2_with fail
     have t:=q2R bp bt ct ts nv (nx+3) w8 H8.out (by omega)
     obtain⟨tC,hk⟩:∃t,t=zp ts (nx+3):=⟨_,rfl⟩
     rw[←hk]at t
     have HKC:=zb hk
     clear hk
     obtain⟨kC,pC,zC,vC,mC⟩:=tC
     refine t.mono ?_
     rintro e w9 ⟨rfl,b⟩
     clear t
     have o:OnlyB [] _ _:=.of_below b
     have D:=HD8.out.only o (by simp)
     have H9:=zb (H8.out.only o (by simp) (by simp))
     have f18:=D.free 18
     have d18:=D.cells 18 (by omega)
     simp only[zm,List.getElem?_cons_succ,List.getElem?_cons_zero]at d18
     have hl9:=D.lt
     have HD9:=zb D
     have o9:OnlyB [bp,bn] w w9:=o8.trans (o.wide (by simp))
     clear D o b
     unfold ptV q6s
     have hfd:=j5M kC pC zC vC (zj mC 0) (zj mC 1) (zj mC 2) (zj mC 3) (zj mC 4) (zj mC 5) (zj mC 6) (zj mC 7)
     go_wp2_with fail
     clear hfd
     obtain⟨w10,hW⟩:∃W:World,W=w9.setCell ⟨bn,18,none⟩ (.int .i64 vC):=⟨_,rfl⟩
     rw[←hW]
     have q:OnlyB [bn] w9 w10:=by rw[hW];exact(OnlyB.refl _ _).setCell (by simp) _
     have H10:=zb (H9.out.only q (by simp;omega) (by simp;omega))
     have HD10:Hid (NodeAt w10 bn {nd with sat:=tp,slo:=vB,shi:=vC}):=zb (by rw[hW];exact HD9.out.set (n':={nd with sat:=tp,slo:=vB,shi:=vC}) 18 (by omega) (.int .i64 vC) rfl)
     have o10:OnlyB [bp,bn] w w10:=(o9.wide (by simp)).trans (q.wide (by simp))
     clear hW q f18 d18
     by_cases a5:(zp ts (nx+3)).kind=1
     ·refine(q0s bp bt ct ts nv (nx+3) 1 _ H10.out (by omega) a5).mono ?_
      rintro e w11 ⟨rfl,P,o⟩
      have H11:=zb P
      have HD11:=zb (HD10.out.only o (by simp;omega))
      have o11:OnlyB [bp,bn] w w11:=(o10.wide (by simp)).trans (o.wide (by simp))
      clear P o
      go_wp2_with fail
      by_cases a6:(zp ts (nx+4)).kind=22
      ·have er:=HT.out
       rw[q3n,if_pos a1,if_pos a2,if_pos a3,if_neg a4,if_pos a5,if_pos a6,←HK0.out,←HKB.out,←HKC.out]at er
       subst er
       refine(q0s bp bt ct ts nv (nx+4) 22 _ H11.out (by omega) a6).mono ?_
       rintro e w12 ⟨rfl,P,o⟩
       have H12:=zb P
       have HD12:=zb (HD11.out.only o (by simp;omega))
       have o12:OnlyB [bp,bn] w w12:=(o11.wide (by simp)).trans (o.wide (by simp))
       clear P o
       go_wp2_with fail
       go_ret
       exact⟨rfl,H12.out,HD12.out,o12⟩
      ·have er:=HT.out
       rw[q3n,if_pos a1,if_pos a2,if_pos a3,if_neg a4,if_pos a5,if_neg a6,←HK0.out,←HKB.out,←HKC.out]at er
       subst er
       refine(q0P bp bt ct ts nv (nx+4) 22 _ H11.out (by omega) a6).mono ?_
       rintro e w12 ⟨rfl,P,o⟩
       have H12:=zb P
       have HD12:=zb (HD11.out.only o (by simp;omega))
       have o12:OnlyB [bp,bn] w w12:=(o11.wide (by simp)).trans (o.wide (by simp))
       clear P o
       go_wp2_with fail
       go_ret
       exact⟨rfl,H12.out,HD12.out,o12⟩
     ·have er:=HT.out
      rw[q3n,if_pos a1,if_pos a2,if_pos a3,if_neg a4,if_neg a5,←HK0.out,←HKB.out,←HKC.out]at er
      subst er
      refine(q0P bp bt ct ts nv (nx+3) 1 _ H10.out (by omega) a5).mono ?_
      rintro e w11 ⟨rfl,P,o⟩
      have H11:=zb P
      have HD11:=zb (HD10.out.only o (by simp;omega))
      have o11:OnlyB [bp,bn] w w11:=(o10.wide (by simp)).trans (o.wide (by simp))
      clear P o
      go_wp2_with fail
      go_ret
      exact⟨rfl,H11.out,HD11.out,o11⟩
   ·have er:=HT.out
    rw[q3n,if_pos a1,if_pos a2,if_neg a3,←HK0.out,←HKB.out]at er
    subst er
    refine(q0P bp bt ct ts nv (nx+2) 20 _ H6.out (by omega) a3).mono ?_
    rintro e w7 ⟨rfl,P,o⟩
    have H7:=zb P
    have HD7:=zb (HD6.out.only o (by simp;omega))
    have o7:OnlyB [bp,bn] w w7:=(o6.wide (by simp)).trans (o.wide (by simp))
    clear P o
    go_wp2_with fail
    go_ret
    exact⟨rfl,H7.out,HD7.out,o7⟩
  ·have er:=HT.out
   rw[q3n,if_pos a1,if_neg a2,←HK0.out,←HKB.out]at er
   subst er
   refine(q0P bp bt ct ts nv (nx+1) 1 _ H5.out (by omega) a2).mono ?_
   rintro e w6 ⟨rfl,P,o⟩
   have H6:=zb P
   have HD6:=zb (HD5.out.only o (by simp;omega))
   have o6:OnlyB [bp,bn] w w6:=(o5.wide (by simp)).trans (o.wide (by simp))
   clear P o
   go_wp2_with fail
   go_ret
   exact⟨rfl,H6.out,HD6.out,o6⟩
 ·have er:=HT.out
  rw[q3n,if_neg a1,←HK0.out]at er
  subst er
  refine(q0P bp bt ct ts nv (nx) 21 _ H2.out (by omega) a1).mono ?_
  rintro e w3 ⟨rfl,P,o⟩
  have H3:=zb P
  have HD3:=zb (HD2.out.only o (by simp;omega))
  have o3:OnlyB [bp,bn] w w3:=(o2.wide (by simp)).trans (o.wide (by simp))
  clear P o
  go_wp2_with fail
  go_ret
  exact⟨rfl,H3.out,HD3.out,o3⟩
def q0T (t:PTok):PNode:=⟨t.kind,t.pos,t.name,0,0,0,0,0,0,0,0,0,false,-1,-1⟩
def q0E (ts:List PTok)(nx:Nat):Bool × Nat × PNode:=
 if q2T (zp ts nx).kind=true then
  if (zp ts nx).kind=2 then q6O ts (nx+1) (q0T (zp ts nx))
  else if (zp ts nx).kind=9 then
   if q5T (zp ts (nx+1)).kind=true then(true,nx+2,{q0T (zp ts nx)with var:=(zp ts (nx+1)).kind})else(false,nx+1,q0T (zp ts nx))
  else if q2P (zp ts nx).kind=true then q3n ts (nx+1) (q0T (zp ts nx))
  else(true,nx+1,q0T (zp ts nx))
 else(false,nx,q0T (zp ts nx))
abbrev q0Y (n:PNode):Value:=.agg #[.int .i64 n.kind,.int .i64 n.pos,.int .u8 (zj n.name 0),.int .u8 (zj n.name 1),.int .u8 (zj n.name 2),.int .u8 (zj n.name 3),.int .u8 (zj n.name 4),.int .u8 (zj n.name 5),.int .u8 (zj n.name 6),.int .u8 (zj n.name 7),.int .i64 n.k0,.int .i64 n.v0,.int .i64 n.k1,.int .i64 n.v1,.int .i64 n.cnt,.int .i64 n.var,.int .i64 n.sat,.int .i64 n.slo,.int .i64 n.shi,.bool n.sop,.int .i64 n.fst,.int .i64 n.snd]
end Go.Proofs.YtiamjjonoeaggabGreatDoor
