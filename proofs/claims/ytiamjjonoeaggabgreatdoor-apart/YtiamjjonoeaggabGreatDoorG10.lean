import Derived.Test.YtiamjjonoeaggabGreatDoorGA
import Derived.Test.YtiamjjonoeaggabGreatDoorGB
import Derived.Test.YtiamjjonoeaggabGreatDoorG01
import Derived.Test.YtiamjjonoeaggabGreatDoorG09
import Derived.Deep.RegionHeld3
import Derived.Deep.MidRow
set_option maxRecDepth 100000
set_option maxHeartbeats 16000000
namespace Go.Proofs.YtiamjjonoeaggabGreatDoor
open Go.RowKit
abbrev zCs:Array Value:=#[.int .u16 0,.int .u16 0,.int .u16 0,.int .u16 0,.int .u16 0,.int .u16 0,.int .u16 0,.int .u16 0,.int .u16 0,.int .u16 0]
theorem q8A {w wr:World}{ba br:Nat}{h:Nat→Int}{old:Array Value}(h0:Arr wr ba h)(h2:wr.heap[br]?=some (.cells old 43 (0,0)))(ho:old.size=10)(hr:w.heap.size≤br)(hb:Below w.heap.size w wr) :
  (Instr.loadAt 43 (.pointer (some ⟨ba,0,none⟩))).run Tryz.prog wr=.ok (zr h) wr∧∃W,(Instr.storeAt 43 (.pointer (some ⟨br,0,none⟩)) (zr h)).run Tryz.prog wr=.ok () W∧(loadVar 43 ⟨br,0,none⟩).run Tryz.prog W=.ok (zr h) W∧Below w.heap.size w W∧W.heap[br]?=some (.cells #[.int .u16 (h 0),.int .u16 (h 1),.int .u16 (h 2),.int .u16 (h 3),.int .u16 (h 4),.int .u16 (h 5),.int .u16 (h 6),.int .u16 (h 7),.int .u16 (h 8),.int .u16 (h 9)] 43 (0,0))∧(∀k,k≠br→W.heap[k]?=wr.heap[k]?)∧W.heap.size=wr.heap.size:=by
 refine⟨h0.load,?_⟩
 obtain⟨W,s1,s2,s3,s4,s5,s6,s7⟩:=q0n (P:=Tryz.prog) 43 43 wr br _ #[.int .u16 (h 0),.int .u16 (h 1),.int .u16 (h 2),.int .u16 (h 3),.int .u16 (h 4),.int .u16 (h 5),.int .u16 (h 6),.int .u16 (h 7),.int .u16 (h 8),.int .u16 (h 9)] h2 (by kernel_rfl) (by rw[ho];rfl) (by simp[Value.oneCell'])
 refine⟨W,s1,(Arr.of_row s2).loadV,⟨s5.trans hb.os,s6.trans hb.tape,s7.trans hb.output,by rw[s4];exact hb.size,fun k hk=>?_⟩,s2,s3,s4⟩
 rw[s3 k (by omega)]
 exact hb.block k hk
def q7V (h r:Nat→Int)(k j:Nat):Int:=if j<k then h j else r j
theorem Arr.mix {w:World}{b k:Nat}{h r:Nat→Int}(a:Arr w b (q7V h r k))(hk:k<10){v:Int}(hv:v=h k):Arr (w.setCell ⟨b,k,none⟩ (.int .u16 v)) b (q7V h r (k+1)):=
 (a.set k hk v).congr fun j _=>by
  unfold q7V
  by_cases e:j=k
  ·subst e;rw[if_pos rfl,if_pos (by omega),hv]
  ·rw[if_neg e]
   by_cases e2:j<k
   ·rw[if_pos e2,if_pos (by omega)]
   ·rw[if_neg e2,if_neg (by omega)]
theorem Arr.skip {w:World}{b k:Nat}{h r:Nat→Int}(a:Arr w b (q7V h r k))(hv:r k=h k):Arr w b (q7V h r (k+1)):=
 a.congr fun j _=>by
  unfold q7V
  by_cases e:j=k
  ·subst e;rw[if_neg (by omega),if_pos (by omega),hv]
  ·by_cases e2:j<k
   ·rw[if_pos e2,if_pos (by omega)]
   ·rw[if_neg e2,if_neg (by omega)]
theorem Arr.ten {w:World}{b:Nat}{h r:Nat→Int}(a:Arr w b (q7V h r 10)):Arr w b h:=a.congr fun j hj=>by unfold q7V;rw[if_pos hj]
theorem Arr.mix0 {w:World}{b:Nat}{h r:Nat→Int}(a:Arr w b r):Arr w b (q7V h r 0):=a.congr fun j _=>by unfold q7V;rw[if_neg (by omega)]
theorem j3T (h r:Nat→Int)(k:Nat):q7V h r k k=r k:=by unfold q7V;rw[if_neg (by omega)]
def ORel (w:World)(ba br:Nat)(h r:Nat→Int)(E:World→Prop)(g:Nat)(vi:Value)(wr:World):Prop:=
 ∃k:Nat,k≤10∧10-k≤g∧vi=.int .i64 k∧Arr wr ba (q7V h r k)∧wr.heap[br]?=some (.cells zCs 43 (0,0))∧E wr∧Below w.heap.size w wr
theorem q6T (w:World)(o p:Obj):((w.alloc o).alloc p).heap[w.heap.size]?=(w.alloc o).heap[w.heap.size]?:=zO _ _ (by simp)
theorem q3g (w:World) :
  Calls Tryz.prog 133 #[] w fun e w'=>e=.returned (zr (zm fun _ _=>true))∧Below w.heap.size w w':=by
 have HH:Hid (∀k,zm (fun _ _=>true) k=1023):=zb (fun k=>by show(q0T (fun _=>true):Int)=1023;rw[j6d];rfl)
 generalize zm (fun _ _=>true)=h at *
 obtain⟨V,hV⟩:∃V,V=zr h:=⟨_,rfl⟩
 rw[←hV]
 have HV:=zb hV
 clear hV
 go_enter Tryz.func133,Tryz.ntmps133
 go_wp2_with fail
 go_loopg [2] 10 (fun g vi wr=>ORel w (w.heap.size+1) w.heap.size h (fun _=>0) (fun _=>True) g vi wr)
 case atStart =>
  refine⟨0,by omega,by omega,rfl,(Arr.of_row (f:=fun _=>0) (t:=43) ?_).mix0,?_,trivial,((zB _ _).alloc (zL _) _).alloc (by simp) _⟩
  ·have:=zN (w.alloc (.cells zCs 43)) (.cells zCs 43)
   simpa using this
  ·rw[q6T];exact zN _ _
 case round =>
  obtain⟨k,hk,hg,rfl,a0,a2,_,hb⟩:=hrel
  have HA0:=zb a0
  have HA2:=zb a2
  have HB:=zb hb
  have HG:=zb hg
  by_cases hlt:k<10
  ·have c0:=a0.cells k hlt
   rw[j3T]at c0
   have f0:=a0.free k
   have hl0:=a0.lt
   clear a0 a2 hb hg
   go_wp2_with fail
   have hg1:0<gk:=by have:=HG.out;omega
   go_roundg (gk-1)
   case measure=>omega
   case rel =>
    refine⟨k+1,by omega,by have:=HG.out;omega,by go_num,HA0.out.mix hlt (HH.out k).symm,?_,trivial,HB.out.setCell (by simp) _⟩
    rw[Below.heap_setCell wr _ _ _ (by simp)]
    exact HA2.out
  ·obtain rfl:k=10:=by omega
   obtain⟨L1,W,S1,S2,S3,_⟩:=q8A (w:=w) HA0.out.ten HA2.out rfl (zL _) HB.out
   clear a0 a2 hb hg HH
   rw[←HV.out]at L1 S1 S2
   go_wp2_with (first|(refine ze rfl 43 (.tmp 0) (.tmp 9) rfl ⟨w.heap.size,0,none⟩ V rfl rfl W S1 ?_)|(refine zj rfl 43 (.tmp 1) rfl ⟨w.heap.size+1,0,none⟩ V rfl L1 ?_))
   exact zP (v:=V) (zl rfl _ _ _ _ rfl S2) rfl ⟨rfl,S3⟩
theorem j3J (s:Nat→Nat→Bool)(w:World) :
  Calls Tryz.prog 164 #[zr (zm s)] w fun e w'=>e=.returned (zr (zm fun x _=>(List.range 10).any fun v=>s x v))∧Below w.heap.size w w':=by
 have HH:Hid (∀k,(zm s k=0∧zm (fun x _=>(List.range 10).any fun v=>s x v) k=0)∨((zm s k==0)=false∧zm (fun x _=>(List.range 10).any fun v=>s x v) k=1023)):=zb (fun k=>by
  by_cases h:q0T (s k)=0
  ·left
   refine⟨by show(q0T (s k):Int)=0;rw[h];rfl,?_⟩
   show(q0T (fun _=>(List.range 10).any fun v=>s k v):Int)=0
   rw[q4r.2]
   ·rfl
   ·intro y _
    rw[List.any_eq_false]
    intro v hv
    rw[q4r.1 h v (List.mem_range.1 hv)]
    decide
  ·right
   refine⟨by show((q0T (s k):Int)==0)=false;simpa using h,?_⟩
   have:(List.range 10).any (fun v=>s k v)=true:=by
    cases hc:(List.range 10).any (fun v=>s k v)with
    |true=>rfl
    |false =>
     exfalso
     apply h
     rw[q4r]
     intro y hy
     have:=List.any_eq_false.1 hc y (List.mem_range.2 hy)
     simpa using this
   show(q0T (fun _=>(List.range 10).any fun v=>s k v):Int)=1023
   rw[this,j6d]
   rfl)
 generalize zm (fun x _=>(List.range 10).any fun v=>s x v)=h at *
 generalize zm s=r at *
 obtain⟨V,hV⟩:∃V,V=zr h:=⟨_,rfl⟩
 rw[←hV]
 have HV:=zb hV
 clear hV
 go_enter Tryz.func164,Tryz.ntmps164
 go_wp2_with fail
 go_loopg [3] 10 (fun g vi wr=>ORel w w.heap.size (w.heap.size+1) h r (fun _=>True) g vi wr)
 case atStart =>
  refine⟨0,by omega,by omega,rfl,(Arr.of_row (f:=r) (t:=43) ?_).mix0,?_,trivial,((zB _ _).alloc (zL _) _).alloc (by simp) _⟩
  ·rw[q6T];exact zN _ _
  ·have:=zN (w.alloc (.cells (qA r).toArray 43)) (.cells zCs 43)
   simpa using this
 case round =>
  obtain⟨k,hk,hg,rfl,a0,a2,_,hb⟩:=hrel
  have HA0:=zb a0
  have HA2:=zb a2
  have HB:=zb hb
  have HG:=zb hg
  by_cases hlt:k<10
  ·have c0:=a0.cells k hlt
   rw[j3T]at c0
   have f0:=a0.free k
   have hl0:=a0.lt
   have hg1:0<gk:=by have:=HG.out;omega
   rcases HH.out k with⟨z1,z2⟩|⟨z1,z2⟩
   ·rw[z1]at c0
    have Z1:=zb z1
    have Z2:=zb z2
    clear a0 a2 hb hg z1 z2
    go_wp2_with fail
    go_roundg (gk-1)
    case measure=>omega
    case rel =>
     exact⟨k+1,by omega,by have:=HG.out;omega,by go_num,HA0.out.skip (by rw[Z1.out,Z2.out]),HA2.out,trivial,HB.out⟩
   ·have Z2:=zb z2
    generalize r k=rk at *
    have hn0:¬rk=0:=by simpa using z1
    clear a0 a2 hb hg z2
    go_wp2_with fail
    go_roundg (gk-1)
    case measure=>omega
    case rel =>
     refine⟨k+1,by omega,by have:=HG.out;omega,by go_num,HA0.out.mix hlt Z2.out.symm,?_,trivial,HB.out.setCell (zL _) _⟩
     rw[Below.heap_setCell wr _ _ _ (by simp)]
     exact HA2.out
  ·obtain rfl:k=10:=by omega
   obtain⟨L1,W,S1,S2,S3,_⟩:=q8A (w:=w) HA0.out.ten HA2.out rfl (by omega) HB.out
   clear a0 a2 hb hg HH
   rw[←HV.out]at L1 S1 S2
   go_wp2_with (first|(refine ze rfl 43 (.tmp 2) (.tmp 14) rfl ⟨w.heap.size+1,0,none⟩ V rfl rfl W S1 ?_)|(refine zj rfl 43 (.tmp 1) rfl ⟨w.heap.size,0,none⟩ V rfl L1 ?_))
   exact zP (v:=V) (zl rfl _ _ _ _ rfl S2) rfl ⟨rfl,S3⟩
def accX (s:Nat→Nat→Bool)(k:Nat):Int:=(q0T (fun y=>(List.range k).any fun v=>s v y):Int)
theorem j8O (s:Nat→Nat→Bool)(k:Nat):bits .or .u16 (accX s k) (zm s k)=accX s (k+1):=by
 unfold accX zm
 rw[j3A]
 congr 1
 apply q3b
 intro y _
 rw[List.range_succ,List.any_append]
 simp
def AcRel (W0:World)(s:Nat→Nat→Bool)(g:Nat)(va vi:Value)(wr:World):Prop:=∃k:Nat,k≤10∧10-k≤g∧va=.int .u16 (accX s k)∧vi=.int .i64 k∧wr=W0
theorem j3I (s:Nat→Nat→Bool)(w:World) :
  Calls Tryz.prog 163 #[zr (zm s)] w fun e w'=>e=.returned (zr (zm fun _ y=>(List.range 10).any fun v=>s v y))∧Below w.heap.size w w':=by
 have HS:=zb (j8O s)
 have HZ:Hid (accX s 0=0):=zb (by unfold accX;simp[q9X])
 have HH:Hid (∀k,zm (fun _ y=>(List.range 10).any fun v=>s v y) k=accX s 10):=zb (fun k=>rfl)
 generalize zm (fun _ y=>(List.range 10).any fun v=>s v y)=h at *
 generalize zm s=r at *
 obtain⟨V,hV⟩:∃V,V=zr h:=⟨_,rfl⟩
 rw[←hV]
 have HV:=zb hV
 clear hV
 go_enter Tryz.func163,Tryz.ntmps163
 go_wp2_with fail
 have a0:Arr ((w.alloc (.cells (qA r).toArray 43)).alloc (.cells zCs 43)) w.heap.size r:=Arr.of_row (f:=r) (t:=43) (by rw[q6T];exact zN _ _)
 have a2:((w.alloc (.cells (qA r).toArray 43)).alloc (.cells zCs 43)).heap[w.heap.size+1]?=some (.cells zCs 43 (0,0)):=by
  have:=zN (w.alloc (.cells (qA r).toArray 43)) (.cells zCs 43)
  simpa using this
 have hb:Below w.heap.size w ((w.alloc (.cells (qA r).toArray 43)).alloc (.cells zCs 43)):=((zB _ _).alloc (zL _) _).alloc (by simp) _
 have e0:(qA r).toArray=#[.int .u16 (r 0),.int .u16 (r 1),.int .u16 (r 2),.int .u16 (r 3),.int .u16 (r 4),.int .u16 (r 5),.int .u16 (r 6),.int .u16 (r 7),.int .u16 (r 8),.int .u16 (r 9)]:=rfl
 rw[e0]at a0 a2 hb
 generalize (w.alloc (.cells #[.int .u16 (r 0),.int .u16 (r 1),.int .u16 (r 2),.int .u16 (r 3),.int .u16 (r 4),.int .u16 (r 5),.int .u16 (r 6),.int .u16 (r 7),.int .u16 (r 8),.int .u16 (r 9)] 43)).alloc (.cells zCs 43)=W0 at *
 have HA0:=zb a0
 have HA2:=zb a2
 have HB:=zb hb
 clear a0 a2 hb e0
 go_loopg [3,4] 10 (fun g va vi wr=>AcRel W0 s g va vi wr)
 case atStart=>exact⟨0,by omega,by omega,by rw[HZ.out],rfl,rfl⟩
 case round =>
  obtain⟨k,hk,hg,rfl,rfl,rfl⟩:=hrel
  have HG:=zb hg
  clear hg
  by_cases hlt:k<10
  ·have c0:=HA0.out.cells k hlt
   have hl0:=HA0.out.lt
   have hs:=HS.out k
   have HS':=zb hs
   generalize accX s k=ak at *
   clear hs
   go_wp2_with fail
   have hg1:0<gk:=by have:=HG.out;omega
   go_roundg (gk-1)
   case measure=>omega
   case rel=>exact⟨k+1,by omega,by have:=HG.out;omega,by rw[←HS'.out],by go_num,rfl⟩
  ·obtain rfl:k=10:=by omega
   have HH':=HH.out
   generalize accX s 10=ak at *
   have HH2:=zb HH'
   clear HH HH' HS HZ
   go_wp2_with fail
   go_loopg [5] 10 (fun g vi wr=>ORel w w.heap.size (w.heap.size+1) h r (fun _=>True) g vi wr)
   case atStart=>exact⟨0,by omega,by omega,rfl,HA0.out.mix0,HA2.out,trivial,HB.out⟩
   case round =>
    obtain⟨k,hk,hg,rfl,a0,a2,_,hb⟩:=hrel
    have HA0:=zb a0
    have HA2:=zb a2
    have HB:=zb hb
    have HG:=zb hg
    by_cases hlt:k<10
    ·have c0:=a0.cells k hlt
     rw[j3T]at c0
     have f0:=a0.free k
     have hl0:=a0.lt
     clear a0 a2 hb hg
     go_wp2_with fail
     have hg1:0<gk:=by have:=HG.out;omega
     go_roundg (gk-1)
     case measure=>omega
     case rel =>
      refine⟨k+1,by omega,by have:=HG.out;omega,by go_num,HA0.out.mix hlt (HH2.out k).symm,?_,trivial,HB.out.setCell (by simp) _⟩
      rw[Below.heap_setCell wr _ _ _ (by simp)]
      exact HA2.out
    ·obtain rfl:k=10:=by omega
     obtain⟨L1,W,S1,S2,S3,_⟩:=q8A (w:=w) HA0.out.ten HA2.out rfl (by omega) HB.out
     clear a0 a2 hb hg
     rw[←HV.out]at L1 S1 S2
     go_wp2_with (first|(refine ze rfl 43 (.tmp 2) (.tmp 22) rfl ⟨w.heap.size+1,0,none⟩ V rfl rfl W S1 ?_)|(refine zj rfl 43 (.tmp 1) rfl ⟨w.heap.size,0,none⟩ V rfl L1 ?_))
     exact zP (v:=V) (zl rfl _ _ _ _ rfl S2) rfl ⟨rfl,S3⟩
def q4T (fx fy:Bool)(s:Nat→Nat→Bool)(x y:Nat):Bool:=s x y&&(fx || x==0)&&(fy || y==0)
theorem Arr.mix2 {w:World}{b k:Nat}{h r:Nat→Int}(a:Arr w b (q7V h r k))(hk:k<10)(u:Int){v:Int}(hv:v=h k):Arr ((w.setCell ⟨b,k,none⟩ (.int .u16 u)).setCell ⟨b,k,none⟩ (.int .u16 v)) b (q7V h r (k+1)):=
 ((a.set k hk u).set k hk v).congr fun j _=>by
  unfold q7V
  by_cases e:j=k
  ·subst e;rw[if_pos rfl,if_pos (by omega),hv]
  ·rw[if_neg e,if_neg e]
   by_cases e2:j<k
   ·rw[if_pos e2,if_pos (by omega)]
   ·rw[if_neg e2,if_neg (by omega)]
theorem and_one (f:Nat→Bool):bits .and .u16 (q0T f:Int) 1=(q0T (fun y=>f y&&y==0):Int):=by
 have e:(1:Int)=(q0T (fun y=>y==0):Int):=by rw[j6e 0 (by omega)];rfl
 rw[e,j4F]
theorem nar_row (fx fy:Bool)(s:Nat→Nat→Bool)(k:Nat):zm (q4T fx fy s) k=(if fy=true then(if fx=true∨k=0 then zm s k else 0)else bits .and .u16 (if fx=true∨k=0 then zm s k else 0) 1):=by
 have hz:((0:Nat):Int)=(q0T (fun _=>false):Int):=by rw[q9X]
 unfold zm
 by_cases hx:fx=true∨k=0
 ·rw[if_pos hx]
  have e:(fx || k==0)=true:=by rcases hx with h|h<;>simp[h]
  cases fy
  ·rw[if_neg (by decide),and_one]
   congr 1
   apply q3b
   intro y _
   simp only[q4T,e,Bool.false_or,Bool.and_true]
  ·rw[if_pos rfl]
   congr 1
   apply q3b
   intro y _
   simp only[q4T,e,Bool.true_or,Bool.and_true]
 ·rw[if_neg hx]
  have e:(fx || k==0)=false:=by simp only[not_or]at hx;simp[hx.1,hx.2]
  have e2:q0T (q4T fx fy s k)=0:=q4r.2 (fun y _=>by simp only[q4T,e,Bool.and_false,Bool.false_and])
  rw[e2]
  cases fy
  ·rw[if_neg (by decide)]
   show(0:Int)=bits .and .u16 (0:Int) 1
   decide
  ·rw[if_pos rfl];rfl
def NarE (b:Nat)(fx fy:Bool)(rc:Int)(w:World):Prop:=w.heap[b]?=some (.cells #[.bool fx,.bool fy,.int .i64 rc] 88 (0,0))
theorem j7c (fx fy:Bool)(rc:Int)(s:Nat→Nat→Bool)(w:World) :
  Calls Tryz.prog 74 #[zr (zm s),.agg #[.bool fx,.bool fy,.int .i64 rc]] w fun e w'=>e=.returned (zr (zm (q4T fx fy s)))∧Below w.heap.size w w':=by
 have HH:=zb (nar_row fx fy s)
 generalize zm (q4T fx fy s)=h at *
 generalize zm s=r at *
 obtain⟨V,hV⟩:∃V,V=zr h:=⟨_,rfl⟩
 rw[←hV]
 have HV:=zb hV
 clear hV
 go_enter Tryz.func74,Tryz.ntmps74
 go_wp2_with fail
 go_loopg [5] 10 (fun g vi wr=>ORel w w.heap.size (w.heap.size+2) h r (NarE (w.heap.size+1) fx fy rc) g vi wr)
 case atStart =>
  refine⟨0,by omega,by omega,rfl,(Arr.of_row (f:=r) (t:=43) ?_).mix0,?_,?_,(((zB _ _).alloc (zL _) _).alloc (by simp) _).alloc (by simp;omega) _⟩
  ·rw[zO _ _ (by simp;omega),q6T];exact zN _ _
  ·have:=zN ((w.alloc (.cells (qA r).toArray 43)).alloc (.cells #[.bool fx,.bool fy,.int .i64 rc] 88)) (.cells zCs 43)
   simpa using this
  ·unfold NarE
   rw[zO _ _ (by simp)]
   have:=zN (w.alloc (.cells (qA r).toArray 43)) (.cells #[.bool fx,.bool fy,.int .i64 rc] 88)
   simpa using this
 case round =>
  obtain⟨k,hk,hg,rfl,a0,a2,a1,hb⟩:=hrel
  have HA0:=zb a0
  have HA1:=zb a1
  have HA2:=zb a2
  have HB:=zb hb
  have HG:=zb hg
  have st:∀v,(wr.setCell ⟨w.heap.size,k,none⟩ v).heap[w.heap.size+2]?=some (.cells zCs 43 (0,0))∧NarE (w.heap.size+1) fx fy rc (wr.setCell ⟨w.heap.size,k,none⟩ v):=fun v=>⟨by rw[Below.heap_setCell wr _ _ _ (by simp)];exact a2,by unfold NarE;rw[Below.heap_setCell wr _ _ _ (by simp)];exact a1⟩
  have st2:∀u v,((wr.setCell ⟨w.heap.size,k,none⟩ u).setCell ⟨w.heap.size,k,none⟩ v).heap[w.heap.size+2]?=some (.cells zCs 43 (0,0))∧NarE (w.heap.size+1) fx fy rc ((wr.setCell ⟨w.heap.size,k,none⟩ u).setCell ⟨w.heap.size,k,none⟩ v):=fun u v=>⟨by rw[Below.heap_setCell _ _ _ _ (by simp)];exact(st u).1,by unfold NarE;rw[Below.heap_setCell _ _ _ _ (by simp)];exact(st u).2⟩
  have ST:=zb st
  have ST2:=zb st2
  have i0:=zC _ _ 0 _ _ _ a1
  have i1:=zC _ _ 1 _ _ _ a1
  simp only[gz]at i0 i1
  have hl1:w.heap.size+1<wr.heap.size:=by
   rcases Nat.lt_or_ge (w.heap.size+1) wr.heap.size with g|g
   ·exact g
   ·unfold NarE at a1;rw[Array.getElem?_eq_none g]at a1;simp at a1
  by_cases hlt:k<10
  ·have c0:=a0.cells k hlt
   rw[j3T]at c0
   have f0:=a0.free k
   have hl0:=a0.lt
   have hg1:0<gk:=by have:=HG.out;omega
   have HHk:=zb (HH.out k)
   clear a0 a1 a2 hb hg st st2
   by_cases hk0:k=0
   ·subst hk0
    cases fy
    ·go_wp2_with fail
     go_roundg (gk-1)
     case measure=>omega
     case rel=>exact⟨1,by omega,by have:=HG.out;omega,by go_num,HA0.out.mix hlt (by rw[HHk.out];simp),(ST.out _).1,(ST.out _).2,HB.out.setCell (by simp) _⟩
    ·go_wp2_with fail
     go_roundg (gk-1)
     case measure=>omega
     case rel=>exact⟨1,by omega,by have:=HG.out;omega,by go_num,HA0.out.skip (by rw[HHk.out];first|rfl|simp),HA2.out,HA1.out,HB.out⟩
   ·have hk1:0<(k:Int):=by omega
    cases fx<;>cases fy
    ·go_wp2_with fail
     go_roundg (gk-1)
     case measure=>omega
     case rel=>exact⟨k+1,by omega,by have:=HG.out;omega,by go_num,HA0.out.mix2 hlt _ (by rw[HHk.out];simp[hk0]),(ST2.out _ _).1,(ST2.out _ _).2,(HB.out.setCell (by simp) _).setCell (by simp) _⟩
    ·go_wp2_with fail
     go_roundg (gk-1)
     case measure=>omega
     case rel=>exact⟨k+1,by omega,by have:=HG.out;omega,by go_num,HA0.out.mix hlt (by rw[HHk.out];simp[hk0]),(ST.out _).1,(ST.out _).2,HB.out.setCell (by simp) _⟩
    ·go_wp2_with fail
     go_roundg (gk-1)
     case measure=>omega
     case rel=>exact⟨k+1,by omega,by have:=HG.out;omega,by go_num,HA0.out.mix hlt (by rw[HHk.out];simp),(ST.out _).1,(ST.out _).2,HB.out.setCell (by simp) _⟩
    ·go_wp2_with fail
     go_roundg (gk-1)
     case measure=>omega
     case rel=>exact⟨k+1,by omega,by have:=HG.out;omega,by go_num,HA0.out.skip (by rw[HHk.out];simp),HA2.out,HA1.out,HB.out⟩
  ·obtain rfl:k=10:=by omega
   obtain⟨L1,W,S1,S2,S3,_⟩:=q8A (w:=w) HA0.out.ten HA2.out rfl (by omega) HB.out
   clear a0 a1 a2 hb hg HH st st2 ST ST2
   rw[←HV.out]at L1 S1 S2
   go_wp2_with (first|(refine ze rfl 43 (.tmp 4) (.tmp 28) rfl ⟨w.heap.size+1+1,0,none⟩ V rfl rfl W S1 ?_)|(refine zj rfl 43 (.tmp 2) rfl ⟨w.heap.size,0,none⟩ V rfl L1 ?_))
   exact zP (v:=V) (zl rfl _ _ _ _ rfl S2) rfl ⟨rfl,S3⟩
def valS (k:Int)(v x y:Nat):Bool:=if k=3 then x==v else y==v
def q5r (k:Int)(v n x y:Nat):Bool:=if k=3 then(x==v&&decide (y<n))else(y==v&&decide (x<n))
theorem z0w (k:Int)(v:Nat):zm (q5r k v 0)=fun _=>0:=by
 funext x
 show(q0T (q5r k v 0 x):Int)=0
 rw[q4r.2]
 ·rfl
 ·intro y _
  unfold q5r
  split<;>simp
theorem valK_ten (k:Int)(v x:Nat)(hx:x<10):zm (q5r k v 10) x=zm (valS k v) x:=by
 refine j7I (fun a b ha hb=>?_) x hx
 unfold q5r valS
 split<;>simp[ha,hb]
theorem z0v (k:Int)(v n:Nat)(hv:v<10)(hn:n<10):(if k=3 then q1s (zm (q5r k v n)) v n else q1s (zm (q5r k v n)) n v)=zm (q5r k v (n+1)):=by
 by_cases h:k=3
 ·rw[if_pos h,j3c _ v n hv hn]
  congr 1
  funext x y
  unfold q5r
  rw[if_pos h,if_pos h]
  cases hx:x==v with
  |false=>simp
  |true =>
   have:decide (y<n+1)=(decide (y<n) || y==n):=by
    rw[Bool.eq_iff_iff]
    simp
    omega
   simp[this]
 ·rw[if_neg h,j3c _ n v hn hv]
  congr 1
  funext x y
  unfold q5r
  rw[if_neg h,if_neg h]
  have:decide (x<n+1)=(decide (x<n) || x==n):=by
   rw[Bool.eq_iff_iff]
   simp
   omega
  rw[this]
  cases y==v<;>cases decide (x<n)<;>cases x==n<;>rfl
theorem q4Y (W:World)(b:Nat)(old:Array Value)(h1:Nat→Int)(hg:W.heap[b]?=some (.cells old 43 (0,0)))(ho:old.size=10) :
  ∃W',(Instr.storeAt 43 (.pointer (some ⟨b,0,none⟩)) (zr h1)).run Tryz.prog W=.ok () W'∧W'.heap[b]?=some (.cells (qA h1).toArray 43 (0,0))∧(∀k,k≠b→W'.heap[k]?=W.heap[k]?)∧W'.heap.size=W.heap.size∧W'.os=W.os∧W'.tape=W.tape∧W'.output=W.output:=
 q0n (P:=Tryz.prog) 43 43 W b old #[.int .u16 (h1 0),.int .u16 (h1 1),.int .u16 (h1 2),.int .u16 (h1 3),.int .u16 (h1 4),.int .u16 (h1 5),.int .u16 (h1 6),.int .u16 (h1 7),.int .u16 (h1 8),.int .u16 (h1 9)] hg (by kernel_rfl) (by rw[ho];rfl) (by simp[Value.oneCell'])
def WvRel (w:World)(k:Int)(v:Nat)(g:Nat)(vi:Value)(wr:World):Prop:=
 ∃n:Nat,n≤10∧10-n≤g∧vi=.int .i64 n∧wr.heap[w.heap.size]?=some (.cells zCs 43 (0,0))∧wr.heap[w.heap.size+1]?=some (.cells (qA (zm (q5r k v n))).toArray 43 (0,0))∧Below w.heap.size w wr
theorem j2s (k:Int)(v:Nat)(hv:v<10)(w:World) :
  Calls Tryz.prog 186 #[.int .i64 k,.int .i64 v] w fun e w'=>e=.returned (zr (zm (valS k v)))∧Below w.heap.size w w':=by
 have HT:=zb (fun x hx=>valK_ten k v x hx)
 have HZ:=zb (z0w k v)
 have HS:=zb (fun n hn=>z0v k v n hv hn)
 generalize zm (valS k v)=h at *
 obtain⟨V,hV⟩:∃V,V=zr h:=⟨_,rfl⟩
 rw[←hV]
 have HV:=zb hV
 clear hV
 go_enter Tryz.func186,Tryz.ntmps186
 go_wp2_with fail
 go_loopg [6] 10 (fun g vi wr=>WvRel w k v g vi wr)
 case atStart =>
  refine⟨0,by omega,by omega,rfl,?_,?_,((zB _ _).alloc (zL _) _).alloc (by simp) _⟩
  ·rw[q6T];exact zN _ _
  ·rw[HZ.out]
   have:=zN (w.alloc (.cells zCs 43)) (.cells zCs 43)
   simpa using this
 case round =>
  obtain⟨n,hn,hg,rfl,a2,a0,hb⟩:=hrel
  have HA0:=zb a0
  have HA2:=zb a2
  have HB:=zb hb
  have HG:=zb hg
  by_cases hlt:n<10
  ·have L1:=(Arr.of_row (f:=zm (q5r k v n)) a0).load
   have hst:=HS.out n hlt
   have hg1:0<gk:=by have:=HG.out;omega
   have hl1:w.heap.size+1<wr.heap.size:=(Arr.of_row (f:=zm (q5r k v n)) a0).lt
   by_cases hk:k=3
   ·rw[if_pos hk]at hst
    subst hk
    have hc:=j6J (zm (q5r 3 v n)) v n
    rw[hst]at hc
    clear a0 a2 hb hg hst
    obtain⟨V1,hV1⟩:∃V1,V1=zr (zm (q5r 3 v n)):=⟨_,rfl⟩
    rw[←hV1]at L1 hc
    clear hV1
    go_wp2_with (refine zj rfl 43 (.tmp 5) rfl ⟨w.heap.size+1,0,none⟩ V1 rfl L1 ?_)
    refine(hc _).mono ?_
    rintro e w2 ⟨rfl,b2⟩
    have a2':=(b2.block w.heap.size (by omega)).trans HA2.out
    have a0':=(b2.block (w.heap.size+1) hl1).trans HA0.out
    obtain⟨W,s1,s2,s3,s4,s5,s6,s7⟩:=q4Y w2 (w.heap.size+1) _ (zm (q5r 3 v (n+1))) a0' rfl
    have B2:Below w.heap.size w w2:=HB.out.trans (b2.mono HB.out.size)
    have HW:Hid (WvRel w 3 v (gk-1) (.int .i64 ((n:Int)+1)) W):=zb ⟨n+1,by omega,by have:=HG.out;omega,by simp,by rw[s3 _ (by omega)];exact a2',s2,⟨s5.trans B2.os,s6.trans B2.tape,s7.trans B2.output,by rw[s4];exact B2.size,fun q hq=>by rw[s3 q (by omega)];exact B2.block q hq⟩⟩
    generalize zm (q5r 3 v (n+1))=h1 at *
    obtain⟨V2,hV2⟩:∃V2,V2=zr h1:=⟨_,rfl⟩
    rw[←hV2]at s1 ⊢
    clear hV2 a2' a0' s2 s3 s4 s5 s6 s7 B2 b2
    go_wp2_with (refine ze rfl 43 (.tmp 5) (.tmp 16) rfl ⟨w.heap.size+1,0,none⟩ V2 rfl rfl W s1 ?_)
    go_roundg (gk-1)
    case measure=>omega
    case rel=>exact HW.out
   ·rw[if_neg hk]at hst
    have hk3:(k==3)=false:=by simpa using hk
    have hc:=j6J (zm (q5r k v n)) n v
    rw[hst]at hc
    clear a0 a2 hb hg hst
    obtain⟨V1,hV1⟩:∃V1,V1=zr (zm (q5r k v n)):=⟨_,rfl⟩
    rw[←hV1]at L1 hc
    clear hV1
    go_wp2_with (refine zj rfl 43 (.tmp 5) rfl ⟨w.heap.size+1,0,none⟩ V1 rfl L1 ?_)
    refine(hc _).mono ?_
    rintro e w2 ⟨rfl,b2⟩
    have a2':=(b2.block w.heap.size (by omega)).trans HA2.out
    have a0':=(b2.block (w.heap.size+1) hl1).trans HA0.out
    obtain⟨W,s1,s2,s3,s4,s5,s6,s7⟩:=q4Y w2 (w.heap.size+1) _ (zm (q5r k v (n+1))) a0' rfl
    have B2:Below w.heap.size w w2:=HB.out.trans (b2.mono HB.out.size)
    have HW:Hid (WvRel w k v (gk-1) (.int .i64 ((n:Int)+1)) W):=zb ⟨n+1,by omega,by have:=HG.out;omega,by simp,by rw[s3 _ (by omega)];exact a2',s2,⟨s5.trans B2.os,s6.trans B2.tape,s7.trans B2.output,by rw[s4];exact B2.size,fun q hq=>by rw[s3 q (by omega)];exact B2.block q hq⟩⟩
    generalize zm (q5r k v (n+1))=h1 at *
    obtain⟨V2,hV2⟩:∃V2,V2=zr h1:=⟨_,rfl⟩
    rw[←hV2]at s1 ⊢
    clear hV2 a2' a0' s2 s3 s4 s5 s6 s7 B2 b2
    go_wp2_with (refine ze rfl 43 (.tmp 5) (.tmp 20) rfl ⟨w.heap.size+1,0,none⟩ V2 rfl rfl W s1 ?_)
    go_roundg (gk-1)
    case measure=>omega
    case rel=>exact HW.out
  ·obtain rfl:n=10:=by omega
   obtain⟨L1,W,S1,S2,S3,_⟩:=q8A (w:=w) ((Arr.of_row (f:=zm (q5r k v 10)) a0).congr HT.out) HA2.out rfl (zL _) HB.out
   clear a0 a2 hb hg HT HZ HS
   rw[←HV.out]at L1 S1 S2
   go_wp2_with (first|(refine ze rfl 43 (.tmp 4) (.tmp 21) rfl ⟨w.heap.size,0,none⟩ V rfl rfl W S1 ?_)|(refine zj rfl 43 (.tmp 5) rfl ⟨w.heap.size+1,0,none⟩ V rfl L1 ?_))
   exact zP (v:=V) (zl rfl _ _ _ _ rfl S2) rfl ⟨rfl,S3⟩
def q1I (n:Nat)(H:Nat→Nat→Nat→Bool):List Value:=(List.range n).flatMap fun i=>qA (zm (H i))
theorem q2H (n:Nat)(H:Nat→Nat→Nat→Bool):q1I (n+1) H=q1I n H++qA (zm (H n)):=by
 unfold q1I
 rw[List.range_succ,List.flatMap_append]
 simp
theorem q4O (n:Nat)(H:Nat→Nat→Nat→Bool):(q1I n H).length=n*10:=by
 induction n with
 |zero=>rfl
 |succ n ih=>rw[q2H,List.length_append,ih];simp;omega
theorem j6t (n:Nat)(H:Nat→Nat→Nat→Bool)(i:Nat)(h:i<n)(j:Nat)(hj:j<10):(q1I n H)[i*10+j]?=(qA (zm (H i)))[j]?:=by
 induction n with
 |zero=>omega
 |succ n ih =>
  rw[q2H]
  rcases Nat.lt_or_ge i n with g|g
  ·rw[List.getElem?_append_left (by rw[q4O];omega)]
   exact ih g
  ·have:i=n:=by omega
   subst this
   rw[List.getElem?_append_right (by rw[q4O];omega),q4O]
   congr 1
   omega
structure Tb (w:World)(v:Value)(m:Nat)(H:Nat→Nat→Nat→Bool):Prop where
 row:w.ownsRow 0 43 10 v m (q1I m H)
 far:∀i,m≤i→∀x y,H i x y=false
theorem Tb.below {w w':World}{v:Value}{m:Nat}{H:Nat→Nat→Nat→Bool}(h:Tb w v m H)(hb:Below w.heap.size w w'):Tb w' v m H:=⟨zp h.row hb,h.far⟩
theorem Tb.form {w:World}{v:Value}{m:Nat}{H:Nat→Nat→Nat→Bool}(h:Tb w v m H):∃ao cap,v=.slice ao m cap:=by
 rcases h.row.2 with⟨rfl,rfl⟩|⟨g,cap,cur,rfl,_⟩
 ·exact⟨none,0,rfl⟩
 ·exact⟨_,cap,rfl⟩
theorem Tb.load {w:World}{ao:OA}{cap m:Nat}{H:Nat→Nat→Nat→Bool}(h:Tb w (.slice ao m cap) m H){i:Nat}(hi:i<m):∃g,ao=some ⟨g,0,none⟩∧g<w.heap.size∧m≤cap∧cap≤maxLen∧w.rangeAt g (i*10) (qA (zm (H i))):=by
 have hr:=h.row
 obtain⟨g,cap',e⟩:=zJ hr (by omega)
 injection e with e1 e2 e3
 subst e1 e3
 have hc:m≤cap∧cap≤maxLen:=by
  rcases hr.2 with⟨h',_⟩|⟨g',cap',cur,h',_,_,p1,p2,_⟩
  ·simp at h'
  ·simp only[Value.slice.injEq,Option.some.injEq,Addr.mk.injEq,and_true,true_and]at h'
   obtain⟨rfl,rfl⟩:=h'
   exact⟨p1,p2⟩
 refine⟨g,rfl,(hr.lt g rfl).2,hc.1,hc.2,fun j v hv=>?_⟩
 have hj:j<10:=(List.getElem?_eq_some_iff.1 hv).1
 rw[hr.cellAt _ (by omega),j6t m H i hi j hj]
 exact hv
theorem j4c {w:World}{g o:Nat}{r:Nat→Int}(h:w.rangeAt g o (qA r)):(Instr.loadAt 43 (.pointer (some ⟨g,o,none⟩))).run Tryz.prog w=.ok (zr r) w:=
 run_loadAt_mid w g o 43 (qA r) _ h Tryz.underlying43 rfl (by kernel_rfl)
theorem q5Y {s:Nat→Nat→Bool}(h:∀x y,s x y=false):zm s=fun _=>0:=by
 funext x
 show(q0T (s x):Int)=0
 rw[q4r.2 (fun y _=>h x y)]
 rfl
theorem q8e (ao:OA)(m cap:Nat)(_hm:m≤40)(i:Int)(hi:i<0∨(m:Int)≤i)(w:World) :
  Calls Tryz.prog 132 #[.slice ao m cap,.int .i64 i] w fun e w'=>e=.returned (zr fun _=>0)∧Below w.heap.size w w':=by
 by_cases h0:i<0
 ·clear hi
  go_enter Tryz.func132,Tryz.ntmps132
  go_wp2_with fail
  exact zP (v:=zr fun _=>0) (by simp[results,Tryz.results132,go_sem]) rfl ⟨rfl,(zB _ _).alloc (zL _) _⟩
 ·have h1:(m:Int)≤i:=by omega
  clear hi
  go_enter Tryz.func132,Tryz.ntmps132
  go_wp2_with fail
  exact zP (v:=zr fun _=>0) (by simp[results,Tryz.results132,go_sem]) rfl ⟨rfl,(zB _ _).alloc (zL _) _⟩
theorem q0x (v:Value)(m:Nat)(H:Nat→Nat→Nat→Bool)(hm:m≤40)(i:Nat)(w:World)(h:Tb w v m H) :
  Calls Tryz.prog 132 #[v,.int .i64 i] w fun e w'=>e=.returned (zr (zm (H i)))∧Below w.heap.size w w':=by
 obtain⟨ao,cap,rfl⟩:=h.form
 have B0:Below w.heap.size w (w.alloc (.cells zCs 43)):=(zB _ _).alloc (zL _) _
 have G0:=zN w (.cells zCs 43)
 have s0:(w.alloc (.cells zCs 43)).heap.size=w.heap.size+1:=by simp
 by_cases hi:i<m
 ·obtain⟨g,rfl,hg,k1,k2,hrg⟩:=(h.below B0).load hi
  have L1:=j4c hrg
  unfold maxLen at k2
  generalize zm (H i)=r at *
  obtain⟨W,S1,s2,s3,s4,s5,s6,s7⟩:=q4Y _ w.heap.size _ r G0 rfl
  have LV:=(Arr.of_row (f:=r) s2).loadV
  have BW:Below w.heap.size w W:=⟨s5.trans B0.os,s6.trans B0.tape,s7.trans B0.output,by rw[s4];exact B0.size,fun k hk=>by rw[s3 k (by omega)];exact B0.block k hk⟩
  obtain⟨V,hV⟩:∃V,V=zr r:=⟨_,rfl⟩
  rw[←hV]at L1 S1 LV ⊢
  have HB:=zb BW
  have HG:=zb hg
  have hgw:g<w.heap.size+1:=by omega
  clear h B0 G0 s0 s2 s3 s4 s5 s6 s7 BW hV hrg hg
  go_enter Tryz.func132,Tryz.ntmps132
  go_wp2_with (first|(refine ze rfl 43 (.tmp 4) (.tmp 17) rfl ⟨w.heap.size,0,none⟩ V rfl rfl W S1 ?_)|(refine zj rfl 43 (.tmp 16) rfl ⟨g,i*10,none⟩ V rfl L1 ?_))
  exact zP (v:=V) (zl rfl _ _ _ _ rfl LV) rfl ⟨rfl,HB.out⟩
 ·rw[q5Y (h.far i (by omega))]
  exact q8e ao m cap hm i (.inr (by omega)) w
theorem q8d (k:Int)(w:World) :
  Calls Tryz.prog 165 #[.int .i64 k] w fun e w'=>e=.returned (.int .i64 (if q4z k=true then -1 else 1))∧w'=w:=by
 have hk:(k=10∨k=12∨k=14∨k=15)∨(q4z k=false∧(k==10)=false∧(k==12)=false∧(k==14)=false∧(k==15)=false):=by
  unfold q4z
  by_cases h:k=10∨k=12∨k=14∨k=15
  ·exact .inl h
  ·right
   simp only[not_or]at h
   simp[h]
 rcases hk with h|⟨h,h1,h2,h3,h4⟩
 ·rcases h with rfl|rfl|rfl|rfl
  all_goals
   go_enter Tryz.func165,Tryz.ntmps165
   go_wp2_with fail
   go_ret
   exact⟨rfl,rfl⟩
 ·rw[h]
  have g1:¬k=10:=by simpa using h1
  have g2:¬k=12:=by simpa using h2
  have g3:¬k=14:=by simpa using h3
  have g4:¬k=15:=by simpa using h4
  clear h
  go_enter Tryz.func165,Tryz.ntmps165
  go_wp2_with fail
  go_ret
  exact⟨rfl,rfl⟩
theorem j5b (t:Nat)(nd:PNode)(w:World) :
  Calls Tryz.prog 166 #[.int .i64 t,.agg #[.int .i64 nd.sat,.int .i64 nd.slo,.int .i64 nd.shi,.bool nd.sop]] w fun e w'=>e=.returned (.bool (q1N nd t))∧Below w.heap.size w w':=by
 unfold q1N
 obtain⟨z,hz⟩:∃z:Int,z=(t:Int):=⟨_,rfl⟩
 rw[←hz]
 clear hz
 generalize nd.slo=lo
 generalize nd.shi=hi
 generalize nd.sat=sa
 generalize nd.sop=op
 cases op<;>by_cases h1:lo≤z
 all_goals
  go_enter Tryz.func166,Tryz.ntmps166
  go_wp2_with fail
  go_ret
  exact⟨q0v (by simp[h1]<;>omega),(zB _ _).alloc (zL _) _⟩
theorem j4Z (k:Int)(s:Nat→Nat→Bool)(w:World) :
  Calls Tryz.prog 138 #[.int .i64 k,zr (zm s)] w fun e w'=>e=.returned (zr (zm fun x y=>(List.range 10).any fun v=>if k=3 then s v y else s x v))∧Below w.heap.size w w':=by
 by_cases h3:k=3
 ·subst h3
  have hc:=j3I s
  have e:(fun x y=>(List.range 10).any fun v=>if (3:Int)=3 then s v y else s x v)=(fun _ y=>(List.range 10).any fun v=>s v y):=by funext x y;simp
  rw[e]
  generalize zm (fun _ y=>(List.range 10).any fun v=>s v y)=h at *
  generalize zm s=r at *
  obtain⟨V,hV⟩:∃V,V=zr h:=⟨_,rfl⟩
  have HV:=zb hV
  rw[←hV]
  clear hV
  go_enter Tryz.func138,Tryz.ntmps138
  have G1:((w.alloc (.cells (qA r).toArray 43)).alloc (.cells zCs 43)).heap[w.heap.size+1]?=some (.cells zCs 43 (0,0)):=by
   have:=zN (w.alloc (.cells (qA r).toArray 43)) (.cells zCs 43)
   simpa using this
  have B1:Below w.heap.size w ((w.alloc (.cells (qA r).toArray 43)).alloc (.cells zCs 43)):=((zB _ _).alloc (zL _) _).alloc (by simp) _
  have Z1:((w.alloc (.cells (qA r).toArray 43)).alloc (.cells zCs 43)).heap.size=w.heap.size+2:=by simp
  have HG1:=zb G1
  have HB1:=zb B1
  have HZ1:=zb Z1
  clear G1 B1 Z1
  go_wp2_with fail
  change Calls _ _ _ ((w.alloc (.cells (qA r).toArray 43)).alloc (.cells zCs 43)) _
  generalize (w.alloc (.cells (qA r).toArray 43)).alloc (.cells zCs 43)=W1 at *
  refine(hc _).mono ?_
  rintro e w2 ⟨rfl,b2⟩
  have G2:=(b2.block (w.heap.size+1) (by have:=HZ1.out;omega)).trans HG1.out
  have B2:Below w.heap.size w w2:=HB1.out.trans (b2.mono HB1.out.size)
  obtain⟨W,S1,s2,s3,s4,s5,s6,s7⟩:=q4Y _ (w.heap.size+1) _ h G2 rfl
  have LV:=(Arr.of_row (f:=h) s2).loadV
  have BW:Below w.heap.size w W:=⟨s5.trans B2.os,s6.trans B2.tape,s7.trans B2.output,by rw[s4];exact B2.size,fun k hk=>by rw[s3 k (by omega)];exact B2.block k hk⟩
  rw[←HV.out]at S1 LV ⊢
  have HB:=zb BW
  clear G2 B2 b2 s2 s3 s4 s5 s6 s7 BW hc
  go_wp2_with (refine ze rfl 43 (.tmp 4) (.tmp 8) rfl ⟨w.heap.size+1,0,none⟩ V rfl rfl W S1 ?_)
  exact zP (v:=V) (zl rfl _ _ _ _ rfl LV) rfl ⟨rfl,HB.out⟩
 ·have hc:=j3J s
  have hk3:(k==3)=false:=by simpa using h3
  have e:(fun x y=>(List.range 10).any fun v=>if k=3 then s v y else s x v)=(fun x _=>(List.range 10).any fun v=>s x v):=by funext x y;simp[h3]
  rw[e]
  generalize zm (fun x _=>(List.range 10).any fun v=>s x v)=h at *
  generalize zm s=r at *
  obtain⟨V,hV⟩:∃V,V=zr h:=⟨_,rfl⟩
  have HV:=zb hV
  rw[←hV]
  clear hV
  go_enter Tryz.func138,Tryz.ntmps138
  have G1:((w.alloc (.cells (qA r).toArray 43)).alloc (.cells zCs 43)).heap[w.heap.size+1]?=some (.cells zCs 43 (0,0)):=by
   have:=zN (w.alloc (.cells (qA r).toArray 43)) (.cells zCs 43)
   simpa using this
  have B1:Below w.heap.size w ((w.alloc (.cells (qA r).toArray 43)).alloc (.cells zCs 43)):=((zB _ _).alloc (zL _) _).alloc (by simp) _
  have Z1:((w.alloc (.cells (qA r).toArray 43)).alloc (.cells zCs 43)).heap.size=w.heap.size+2:=by simp
  have HG1:=zb G1
  have HB1:=zb B1
  have HZ1:=zb Z1
  clear G1 B1 Z1
  go_wp2_with fail
  change Calls _ _ _ ((w.alloc (.cells (qA r).toArray 43)).alloc (.cells zCs 43)) _
  generalize (w.alloc (.cells (qA r).toArray 43)).alloc (.cells zCs 43)=W1 at *
  refine(hc _).mono ?_
  rintro e w2 ⟨rfl,b2⟩
  have G2:=(b2.block (w.heap.size+1) (by have:=HZ1.out;omega)).trans HG1.out
  have B2:Below w.heap.size w w2:=HB1.out.trans (b2.mono HB1.out.size)
  obtain⟨W,S1,s2,s3,s4,s5,s6,s7⟩:=q4Y _ (w.heap.size+1) _ h G2 rfl
  have LV:=(Arr.of_row (f:=h) s2).loadV
  have BW:Below w.heap.size w W:=⟨s5.trans B2.os,s6.trans B2.tape,s7.trans B2.output,by rw[s4];exact B2.size,fun k hk=>by rw[s3 k (by omega)];exact B2.block k hk⟩
  rw[←HV.out]at S1 LV ⊢
  have HB:=zb BW
  clear G2 B2 b2 s2 s3 s4 s5 s6 s7 BW hc
  go_wp2_with (refine ze rfl 43 (.tmp 4) (.tmp 10) rfl ⟨w.heap.size+1,0,none⟩ V rfl rfl W S1 ?_)
  exact zP (v:=V) (zl rfl _ _ _ _ rfl LV) rfl ⟨rfl,HB.out⟩
abbrev dptCs (p:LPt × Value):List Value:=[.int .u16 p.1.stamp,.int .i64 p.1.time,p.2]
def q3f (l:List (LPt × Value)):List Value:=l.flatMap dptCs
theorem q6p (l:List (LPt × Value)):∀(i:Nat) (h:i<l.length) (j:Nat),j<3→(q3f l)[i*3+j]?=(dptCs l[i])[j]?:=by
 induction l with
 |nil=>intro i h;simp at h
 |cons n r ih =>
  intro i h j hj
  have e:q3f (n::r)=dptCs n++q3f r:=rfl
  have e2:(dptCs n).length=3:=rfl
  rw[e]
  cases i with
  |zero=>rw[List.getElem?_append_left (by omega)];simp
  |succ i =>
   have hi:i<r.length:=by simpa using h
   rw[List.getElem?_append_right (by omega),e2,show(i+1)*3+j-3=i*3+j by omega,ih i hi j hj]
   rfl
structure DLogAt (w:World)(v:Value)(DL:List (LPt × Value)):Prop where
 row:w.ownsRow 0 181 3 v DL.length (q3f DL)
 small:DL.length≤40
 times:∀(i:Nat) (hi:i<DL.length),(DL[i]).1.time≤32768*i∧(DL[i]).1.stamp≤65535
theorem DLogAt.below {w w':World}{v:Value}{DL:List (LPt × Value)}(h:DLogAt w v DL)(hb:Below w.heap.size w w'):DLogAt w' v DL:=⟨zp h.row hb,h.small,h.times⟩
theorem DLogAt.at' {w:World}{ao:OA}{cap:Nat}{DL:List (LPt × Value)}(h:DLogAt w (.slice ao DL.length cap) DL){i:Nat}(hi:i<DL.length) :
  ∃g,ao=some ⟨g,0,none⟩∧g<w.heap.size∧DL.length≤cap∧cap≤maxLen∧w.cell? ⟨g,i*3,none⟩=some (.int .u16 (DL[i]).1.stamp)∧w.cell? ⟨g,i*3+1,none⟩=some (.int .i64 (DL[i]).1.time)∧w.cell? ⟨g,i*3+2,none⟩=some (DL[i]).2:=by
 have hr:=h.row
 obtain⟨g,cap',e⟩:=zJ hr (by omega)
 injection e with e1 e2 e3
 subst e1 e3
 have hlt:=(hr.lt g rfl).2
 refine⟨g,rfl,hlt,?_⟩
 have hc:DL.length≤cap∧cap≤maxLen:=by
  rcases hr.2 with⟨h',_⟩|⟨g',cap',cur,h',_,_,p1,p2,_⟩
  ·simp at h'
  ·simp only[Value.slice.injEq,Option.some.injEq,Addr.mk.injEq,and_true,true_and]at h'
   obtain⟨rfl,rfl⟩:=h'
   exact⟨p1,p2⟩
 have hl:(q3f DL).length=DL.length*3:=hr.1
 refine⟨hc.1,hc.2,?_,?_,?_⟩
 ·have:=hr.cellAt (i*3) (by omega)
  rw[this,show i*3=i*3+0 from rfl,q6p DL i hi 0 (by omega)]
  rfl
 ·have:=hr.cellAt (i*3+1) (by omega)
  rw[this,q6p DL i hi 1 (by omega)]
  rfl
 ·have:=hr.cellAt (i*3+2) (by omega)
  rw[this,q6p DL i hi 2 (by omega)]
  rfl
structure TabsAt (w:World)(lv:Value)(two:Bool)(vF vL:Value)(n:Nat)(HF HL:Nat→Nat→Nat→Bool):Prop where
 row:∃xs,xs=(if two=true then [vF,vL]else [vL])∧w.ownsRow 0 216 1 lv xs.length xs
 fst:Tb w vF n HF
 lst:Tb w vL n HL
theorem TabsAt.below {w w':World}{lv:Value}{two:Bool}{vF vL:Value}{n:Nat}{HF HL:Nat→Nat→Nat→Bool}(h:TabsAt w lv two vF vL n HF HL)(hb:Below w.heap.size w w'):TabsAt w' lv two vF vL n HF HL:=
 ⟨by obtain⟨xs,h1,h2⟩:=h.row;exact⟨xs,h1,zp h2 hb⟩,h.fst.below hb,h.lst.below hb⟩
theorem TabsAt.one {w:World}{lv:Value}{vF vL:Value}{n:Nat}{HF HL:Nat→Nat→Nat→Bool}(h:TabsAt w lv false vF vL n HF HL):∃g cap,lv=.slice (some ⟨g,0,none⟩) 1 cap∧g<w.heap.size∧1≤cap∧cap≤maxLen∧w.cell? ⟨g,0,none⟩=some vL:=by
 obtain⟨xs,rfl,h2⟩:=h.row
 simp only[Bool.false_eq_true,if_false,List.length_cons,List.length_nil]at h2
 obtain⟨g,cap,e⟩:=zJ h2 (by omega)
 subst e
 have c0:=h2.cellAt 0 (by omega)
 rcases h2.2 with⟨h',_⟩|⟨g',cap',cur,h',_,_,p1,p2,_⟩
 ·simp at h'
 ·simp only[Value.slice.injEq,Option.some.injEq,Addr.mk.injEq,and_true,true_and]at h'
  obtain⟨rfl,rfl⟩:=h'
  exact⟨g,cap,rfl,(h2.lt g rfl).2,p1,p2,c0⟩
theorem TabsAt.two {w:World}{lv:Value}{vF vL:Value}{n:Nat}{HF HL:Nat→Nat→Nat→Bool}(h:TabsAt w lv true vF vL n HF HL):∃g cap,lv=.slice (some ⟨g,0,none⟩) 2 cap∧g<w.heap.size∧2≤cap∧cap≤maxLen∧w.cell? ⟨g,0,none⟩=some vF∧w.cell? ⟨g,1,none⟩=some vL:=by
 obtain⟨xs,rfl,h2⟩:=h.row
 simp only[if_true,List.length_cons,List.length_nil]at h2
 obtain⟨g,cap,e⟩:=zJ h2 (by omega)
 subst e
 have c0:=h2.cellAt 0 (by omega)
 have c1:=h2.cellAt 1 (by omega)
 rcases h2.2 with⟨h',_⟩|⟨g',cap',cur,h',_,_,p1,p2,_⟩
 ·simp at h'
 ·simp only[Value.slice.injEq,Option.some.injEq,Addr.mk.injEq,and_true,true_and]at h'
  obtain⟨rfl,rfl⟩:=h'
  exact⟨g,cap,rfl,(h2.lt g rfl).2,p1,p2,c0,c1⟩
end Go.Proofs.YtiamjjonoeaggabGreatDoor
