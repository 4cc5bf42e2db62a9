import Derived.Test.YtiamjjonoeaggabGreatDoorGA
import Derived.Test.YtiamjjonoeaggabGreatDoorGB
import Derived.Test.YtiamjjonoeaggabGreatDoorG05
import Derived.Test.YtiamjjonoeaggabGreatDoorG13
import Derived.Deep.RegionHeld3
import Derived.Deep.MidRow
set_option maxRecDepth 100000
set_option maxHeartbeats 16000000
namespace Go.Proofs.YtiamjjonoeaggabGreatDoor
open Go.RowKit
abbrev zCs:Array Value:=#[.int .u16 0,.int .u16 0,.int .u16 0,.int .u16 0,.int .u16 0,.int .u16 0,.int .u16 0,.int .u16 0,.int .u16 0,.int .u16 0]
theorem q6u {w wr:World}{ba br:Nat}{h:Nat→Int}{old:Array Value}(h0:Arr wr ba h)(h2:wr.heap[br]?=some (.cells old 43 (0,0)))(ho:old.size=10)(hr:w.heap.size≤br)(hb:Below w.heap.size w wr) :
  (Instr.loadAt 43 (.pointer (some ⟨ba,0,none⟩))).run Tryz.prog wr=.ok (zn h) wr∧∃W,(Instr.storeAt 43 (.pointer (some ⟨br,0,none⟩)) (zn h)).run Tryz.prog wr=.ok () W∧(loadVar 43 ⟨br,0,none⟩).run Tryz.prog W=.ok (zn h) W∧Below w.heap.size w W∧W.heap[br]?=some (.cells #[.int .u16 (h 0),.int .u16 (h 1),.int .u16 (h 2),.int .u16 (h 3),.int .u16 (h 4),.int .u16 (h 5),.int .u16 (h 6),.int .u16 (h 7),.int .u16 (h 8),.int .u16 (h 9)] 43 (0,0))∧(∀k,k≠br→W.heap[k]?=wr.heap[k]?)∧W.heap.size=wr.heap.size:=by
 refine⟨h0.load,?_⟩
 obtain⟨W,s1,s2,s3,s4,s5,s6,s7⟩:=q3b (P:=Tryz.prog) 43 43 wr br _ #[.int .u16 (h 0),.int .u16 (h 1),.int .u16 (h 2),.int .u16 (h 3),.int .u16 (h 4),.int .u16 (h 5),.int .u16 (h 6),.int .u16 (h 7),.int .u16 (h 8),.int .u16 (h 9)] h2 (by kernel_rfl) (by rw[ho];rfl) (by simp[Value.oneCell'])
 refine⟨W,s1,(Arr.of_row s2).loadV,⟨s5.trans hb.os,s6.trans hb.tape,s7.trans hb.output,by rw[s4];exact hb.size,fun k hk=>?_⟩,s2,s3,s4⟩
 rw[s3 k (by omega)]
 exact hb.block k hk
def q6N (h r:Nat→Int)(k j:Nat):Int:=if j<k then h j else r j
theorem Arr.mix {w:World}{b k:Nat}{h r:Nat→Int}(a:Arr w b (q6N h r k))(hk:k<10){v:Int}(hv:v=h k):Arr (w.setCell ⟨b,k,none⟩ (.int .u16 v)) b (q6N h r (k+1)):=
 (a.set k hk v).congr fun j _=>by
  unfold q6N
  by_cases e:j=k
  ·subst e;rw[if_pos rfl,if_pos (by omega),hv]
  ·rw[if_neg e]
   by_cases e2:j<k
   ·rw[if_pos e2,if_pos (by omega)]
   ·rw[if_neg e2,if_neg (by omega)]
theorem Arr.skip {w:World}{b k:Nat}{h r:Nat→Int}(a:Arr w b (q6N h r k))(hv:r k=h k):Arr w b (q6N h r (k+1)):=
 a.congr fun j _=>by
  unfold q6N
  by_cases e:j=k
  ·subst e;rw[if_neg (by omega),if_pos (by omega),hv]
  ·by_cases e2:j<k
   ·rw[if_pos e2,if_pos (by omega)]
   ·rw[if_neg e2,if_neg (by omega)]
theorem Arr.ten {w:World}{b:Nat}{h r:Nat→Int}(a:Arr w b (q6N h r 10)):Arr w b h:=a.congr fun j hj=>by unfold q6N;rw[if_pos hj]
theorem Arr.mix0 {w:World}{b:Nat}{h r:Nat→Int}(a:Arr w b r):Arr w b (q6N h r 0):=a.congr fun j _=>by unfold q6N;rw[if_neg (by omega)]
theorem j2s (h r:Nat→Int)(k:Nat):q6N h r k k=r k:=by unfold q6N;rw[if_neg (by omega)]
def ORel (w:World)(ba br:Nat)(h r:Nat→Int)(E:World→Prop)(g:Nat)(vi:Value)(wr:World):Prop:=
 ∃k:Nat,k≤10∧10-k≤g∧vi=.int .i64 k∧Arr wr ba (q6N h r k)∧wr.heap[br]?=some (.cells zCs 43 (0,0))∧E wr∧Below w.heap.size w wr
theorem q5W (w:World)(o p:Obj):((w.alloc o).alloc p).heap[w.heap.size]?=(w.alloc o).heap[w.heap.size]?:=zO _ _ (by simp)
theorem q2x (w:World) :
  Calls Tryz.prog 133 #[] w fun e w'=>e=.returned (zn (zf fun _ _=>true))∧Below w.heap.size w w':=by
 have HH:Hid (∀k,zf (fun _ _=>true) k=1023):=zb (fun k=>by show(q0S (fun _=>true):Int)=1023;rw[j4g];rfl)
 generalize zf (fun _ _=>true)=h at *
 obtain⟨V,hV⟩:∃V,V=zn h:=⟨_,rfl⟩
 rw[←hV]
 have HV:=zb hV
 clear hV
 go_enter Tryz.func133,Tryz.ntmps133
 go_wp2_with fail
 go_loopg [2] 10 (fun g vi wr=>ORel w (w.heap.size+1) w.heap.size h (fun _=>0) (fun _=>True) g vi wr)
 case atStart =>
  refine⟨0,by omega,by omega,rfl,(Arr.of_row (f:=fun _=>0) (t:=43) ?_).mix0,?_,trivial,((zB _ _).alloc (zL _) _).alloc (by simp) _⟩
  ·have:=zN (w.alloc (.cells zCs 43)) (.cells zCs 43)
   simpa using this
  ·rw[q5W];exact zN _ _
 case round =>
  obtain⟨k,hk,hg,rfl,a0,a2,_,hb⟩:=hrel
  have HA0:=zb a0
  have HA2:=zb a2
  have HB:=zb hb
  have HG:=zb hg
  by_cases hlt:k<10
  ·have c0:=a0.cells k hlt
   rw[j2s]at c0
   have f0:=a0.free k
   have hl0:=a0.lt
   clear a0 a2 hb hg
   go_wp2_with fail
   have hg1:0<gk:=by have:=HG.out;omega
   go_roundg (gk-1)
   case measure=>omega
   case rel =>
    refine⟨k+1,by omega,by have:=HG.out;omega,by go_num,HA0.out.mix hlt (HH.out k).symm,?_,trivial,HB.out.setCell (by simp) _⟩
    rw[Below.heap_setCell wr _ _ _ (by simp)]
    exact HA2.out
  ·obtain rfl:k=10:=by omega
   obtain⟨L1,W,S1,S2,S3,_⟩:=q6u (w:=w) HA0.out.ten HA2.out rfl (zL _) HB.out
   clear a0 a2 hb hg HH
   rw[←HV.out]at L1 S1 S2
   go_wp2_with (first|(refine ze rfl 43 (.tmp 0) (.tmp 9) rfl ⟨w.heap.size,0,none⟩ V rfl rfl W S1 ?_)|(refine zg rfl 43 (.tmp 1) rfl ⟨w.heap.size+1,0,none⟩ V rfl L1 ?_))
   exact zP (v:=V) (zr rfl _ _ _ _ rfl S2) rfl ⟨rfl,S3⟩
theorem j2n (s:Nat→Nat→Bool)(w:World) :
  Calls Tryz.prog 164 #[zn (zf s)] w fun e w'=>e=.returned (zn (zf fun x _=>(List.range 10).any fun v=>s x v))∧Below w.heap.size w w':=by
 have HH:Hid (∀k,(zf s k=0∧zf (fun x _=>(List.range 10).any fun v=>s x v) k=0)∨((zf s k==0)=false∧zf (fun x _=>(List.range 10).any fun v=>s x v) k=1023)):=zb (fun k=>by
  by_cases h:q0S (s k)=0
  ·left
   refine⟨by show(q0S (s k):Int)=0;rw[h];rfl,?_⟩
   show(q0S (fun _=>(List.range 10).any fun v=>s k v):Int)=0
   rw[q4e.2]
   ·rfl
   ·intro y _
    rw[List.any_eq_false]
    intro v hv
    rw[q4e.1 h v (List.mem_range.1 hv)]
    decide
  ·right
   refine⟨by show((q0S (s k):Int)==0)=false;simpa using h,?_⟩
   have:(List.range 10).any (fun v=>s k v)=true:=by
    cases hc:(List.range 10).any (fun v=>s k v)with
    |true=>rfl
    |false =>
     exfalso
     apply h
     rw[q4e]
     intro y hy
     have:=List.any_eq_false.1 hc y (List.mem_range.2 hy)
     simpa using this
   show(q0S (fun _=>(List.range 10).any fun v=>s k v):Int)=1023
   rw[this,j4g]
   rfl)
 generalize zf (fun x _=>(List.range 10).any fun v=>s x v)=h at *
 generalize zf s=r at *
 obtain⟨V,hV⟩:∃V,V=zn h:=⟨_,rfl⟩
 rw[←hV]
 have HV:=zb hV
 clear hV
 go_enter Tryz.func164,Tryz.ntmps164
 go_wp2_with fail
 go_loopg [3] 10 (fun g vi wr=>ORel w w.heap.size (w.heap.size+1) h r (fun _=>True) g vi wr)
 case atStart =>
  refine⟨0,by omega,by omega,rfl,(Arr.of_row (f:=r) (t:=43) ?_).mix0,?_,trivial,((zB _ _).alloc (zL _) _).alloc (by simp) _⟩
  ·rw[q5W];exact zN _ _
  ·have:=zN (w.alloc (.cells (zx r).toArray 43)) (.cells zCs 43)
   simpa using this
 case round =>
  obtain⟨k,hk,hg,rfl,a0,a2,_,hb⟩:=hrel
  have HA0:=zb a0
  have HA2:=zb a2
  have HB:=zb hb
  have HG:=zb hg
  by_cases hlt:k<10
  ·have c0:=a0.cells k hlt
   rw[j2s]at c0
   have f0:=a0.free k
   have hl0:=a0.lt
   have hg1:0<gk:=by have:=HG.out;omega
   rcases HH.out k with⟨z1,z2⟩|⟨z1,z2⟩
   ·rw[z1]at c0
    have Z1:=zb z1
    have Z2:=zb z2
    clear a0 a2 hb hg z1 z2
    go_wp2_with fail
    go_roundg (gk-1)
    case measure=>omega
    case rel =>
     exact⟨k+1,by omega,by have:=HG.out;omega,by go_num,HA0.out.skip (by rw[Z1.out,Z2.out]),HA2.out,trivial,HB.out⟩
   ·have Z2:=zb z2
    generalize r k=rk at *
    have hn0:¬rk=0:=by simpa using z1
    clear a0 a2 hb hg z2
    go_wp2_with fail
    go_roundg (gk-1)
    case measure=>omega
    case rel =>
     refine⟨k+1,by omega,by have:=HG.out;omega,by go_num,HA0.out.mix hlt Z2.out.symm,?_,trivial,HB.out.setCell (zL _) _⟩
     rw[Below.heap_setCell wr _ _ _ (by simp)]
     exact HA2.out
  ·obtain rfl:k=10:=by omega
   obtain⟨L1,W,S1,S2,S3,_⟩:=q6u (w:=w) HA0.out.ten HA2.out rfl (by omega) HB.out
   clear a0 a2 hb hg HH
   rw[←HV.out]at L1 S1 S2
   go_wp2_with (first|(refine ze rfl 43 (.tmp 2) (.tmp 14) rfl ⟨w.heap.size+1,0,none⟩ V rfl rfl W S1 ?_)|(refine zg rfl 43 (.tmp 1) rfl ⟨w.heap.size,0,none⟩ V rfl L1 ?_))
   exact zP (v:=V) (zr rfl _ _ _ _ rfl S2) rfl ⟨rfl,S3⟩
def accX (s:Nat→Nat→Bool)(k:Nat):Int:=(q0S (fun y=>(List.range k).any fun v=>s v y):Int)
theorem j6l (s:Nat→Nat→Bool)(k:Nat):bits .or .u16 (accX s k) (zf s k)=accX s (k+1):=by
 unfold accX zf
 rw[j2d]
 congr 1
 apply q2s
 intro y _
 rw[List.range_succ,List.any_append]
 simp
def AcRel (W0:World)(s:Nat→Nat→Bool)(g:Nat)(va vi:Value)(wr:World):Prop:=∃k:Nat,k≤10∧10-k≤g∧va=.int .u16 (accX s k)∧vi=.int .i64 k∧wr=W0
theorem j2m (s:Nat→Nat→Bool)(w:World) :
  Calls Tryz.prog 163 #[zn (zf s)] w fun e w'=>e=.returned (zn (zf fun _ y=>(List.range 10).any fun v=>s v y))∧Below w.heap.size w w':=by
 have HS:=zb (j6l s)
 have HZ:Hid (accX s 0=0):=zb (by unfold accX;simp[q8L])
 have HH:Hid (∀k,zf (fun _ y=>(List.range 10).any fun v=>s v y) k=accX s 10):=zb (fun k=>rfl)
 generalize zf (fun _ y=>(List.range 10).any fun v=>s v y)=h at *
 generalize zf s=r at *
 obtain⟨V,hV⟩:∃V,V=zn h:=⟨_,rfl⟩
 rw[←hV]
 have HV:=zb hV
 clear hV
 go_enter Tryz.func163,Tryz.ntmps163
 go_wp2_with fail
 have a0:Arr ((w.alloc (.cells (zx r).toArray 43)).alloc (.cells zCs 43)) w.heap.size r:=Arr.of_row (f:=r) (t:=43) (by rw[q5W];exact zN _ _)
 have a2:((w.alloc (.cells (zx r).toArray 43)).alloc (.cells zCs 43)).heap[w.heap.size+1]?=some (.cells zCs 43 (0,0)):=by
  have:=zN (w.alloc (.cells (zx r).toArray 43)) (.cells zCs 43)
  simpa using this
 have hb:Below w.heap.size w ((w.alloc (.cells (zx r).toArray 43)).alloc (.cells zCs 43)):=((zB _ _).alloc (zL _) _).alloc (by simp) _
 have e0:(zx r).toArray=#[.int .u16 (r 0),.int .u16 (r 1),.int .u16 (r 2),.int .u16 (r 3),.int .u16 (r 4),.int .u16 (r 5),.int .u16 (r 6),.int .u16 (r 7),.int .u16 (r 8),.int .u16 (r 9)]:=rfl
 rw[e0]at a0 a2 hb
 generalize (w.alloc (.cells #[.int .u16 (r 0),.int .u16 (r 1),.int .u16 (r 2),.int .u16 (r 3),.int .u16 (r 4),.int .u16 (r 5),.int .u16 (r 6),.int .u16 (r 7),.int .u16 (r 8),.int .u16 (r 9)] 43)).alloc (.cells zCs 43)=W0 at *
 have HA0:=zb a0
 have HA2:=zb a2
 have HB:=zb hb
 clear a0 a2 hb e0
 go_loopg [3,4] 10 (fun g va vi wr=>AcRel W0 s g va vi wr)
 case atStart=>exact⟨0,by omega,by omega,by rw[HZ.out],rfl,rfl⟩
 case round =>
  obtain⟨k,hk,hg,rfl,rfl,rfl⟩:=hrel
  have HG:=zb hg
  clear hg
  by_cases hlt:k<10
  ·have c0:=HA0.out.cells k hlt
   have hl0:=HA0.out.lt
   have hs:=HS.out k
   have HS':=zb hs
   generalize accX s k=ak at *
   clear hs
   go_wp2_with fail
   have hg1:0<gk:=by have:=HG.out;omega
   go_roundg (gk-1)
   case measure=>omega
   case rel=>exact⟨k+1,by omega,by have:=HG.out;omega,by rw[←HS'.out],by go_num,rfl⟩
  ·obtain rfl:k=10:=by omega
   have HH':=HH.out
   generalize accX s 10=ak at *
   have HH2:=zb HH'
   clear HH HH' HS HZ
   go_wp2_with fail
   go_loopg [5] 10 (fun g vi wr=>ORel w w.heap.size (w.heap.size+1) h r (fun _=>True) g vi wr)
   case atStart=>exact⟨0,by omega,by omega,rfl,HA0.out.mix0,HA2.out,trivial,HB.out⟩
   case round =>
    obtain⟨k,hk,hg,rfl,a0,a2,_,hb⟩:=hrel
    have HA0:=zb a0
    have HA2:=zb a2
    have HB:=zb hb
    have HG:=zb hg
    by_cases hlt:k<10
    ·have c0:=a0.cells k hlt
     rw[j2s]at c0
     have f0:=a0.free k
     have hl0:=a0.lt
     clear a0 a2 hb hg
     go_wp2_with fail
     have hg1:0<gk:=by have:=HG.out;omega
     go_roundg (gk-1)
     case measure=>omega
     case rel =>
      refine⟨k+1,by omega,by have:=HG.out;omega,by go_num,HA0.out.mix hlt (HH2.out k).symm,?_,trivial,HB.out.setCell (by simp) _⟩
      rw[Below.heap_setCell wr _ _ _ (by simp)]
      exact HA2.out
    ·obtain rfl:k=10:=by omega
     obtain⟨L1,W,S1,S2,S3,_⟩:=q6u (w:=w) HA0.out.ten HA2.out rfl (by omega) HB.out
     clear a0 a2 hb hg
     rw[←HV.out]at L1 S1 S2
     go_wp2_with (first|(refine ze rfl 43 (.tmp 2) (.tmp 22) rfl ⟨w.heap.size+1,0,none⟩ V rfl rfl W S1 ?_)|(refine zg rfl 43 (.tmp 1) rfl ⟨w.heap.size,0,none⟩ V rfl L1 ?_))
     exact zP (v:=V) (zr rfl _ _ _ _ rfl S2) rfl ⟨rfl,S3⟩
def q3K (fx fy:Bool)(s:Nat→Nat→Bool)(x y:Nat):Bool:=s x y&&(fx || x==0)&&(fy || y==0)
theorem Arr.mix2 {w:World}{b k:Nat}{h r:Nat→Int}(a:Arr w b (q6N h r k))(hk:k<10)(u:Int){v:Int}(hv:v=h k):Arr ((w.setCell ⟨b,k,none⟩ (.int .u16 u)).setCell ⟨b,k,none⟩ (.int .u16 v)) b (q6N h r (k+1)):=
 ((a.set k hk u).set k hk v).congr fun j _=>by
  unfold q6N
  by_cases e:j=k
  ·subst e;rw[if_pos rfl,if_pos (by omega),hv]
  ·rw[if_neg e,if_neg e]
   by_cases e2:j<k
   ·rw[if_pos e2,if_pos (by omega)]
   ·rw[if_neg e2,if_neg (by omega)]
theorem and_one (f:Nat→Bool):bits .and .u16 (q0S f:Int) 1=(q0S (fun y=>f y&&y==0):Int):=by
 have e:(1:Int)=(q0S (fun y=>y==0):Int):=by rw[j4h 0 (by omega)];rfl
 rw[e,j2X]
theorem nar_row (fx fy:Bool)(s:Nat→Nat→Bool)(k:Nat):zf (q3K fx fy s) k=(if fy=true then(if fx=true∨k=0 then zf s k else 0)else bits .and .u16 (if fx=true∨k=0 then zf s k else 0) 1):=by
 have hz:((0:Nat):Int)=(q0S (fun _=>false):Int):=by rw[q8L]
 unfold zf
 by_cases hx:fx=true∨k=0
 ·rw[if_pos hx]
  have e:(fx || k==0)=true:=by rcases hx with h|h<;>simp[h]
  cases fy
  ·rw[if_neg (by decide),and_one]
   congr 1
   apply q2s
   intro y _
   simp only[q3K,e,Bool.false_or,Bool.and_true]
  ·rw[if_pos rfl]
   congr 1
   apply q2s
   intro y _
   simp only[q3K,e,Bool.true_or,Bool.and_true]
 ·rw[if_neg hx]
  have e:(fx || k==0)=false:=by simp only[not_or]at hx;simp[hx.1,hx.2]
  have e2:q0S (q3K fx fy s k)=0:=q4e.2 (fun y _=>by simp only[q3K,e,Bool.and_false,Bool.false_and])
  rw[e2]
  cases fy
  ·rw[if_neg (by decide)]
   show(0:Int)=bits .and .u16 (0:Int) 1
   decide
  ·rw[if_pos rfl];rfl
def NarE (b:Nat)(fx fy:Bool)(rc:Int)(w:World):Prop:=w.heap[b]?=some (.cells #[.bool fx,.bool fy,.int .i64 rc] 88 (0,0))
theorem j4R (fx fy:Bool)(rc:Int)(s:Nat→Nat→Bool)(w:World) :
  Calls Tryz.prog 74 #[zn (zf s),.agg #[.bool fx,.bool fy,.int .i64 rc]] w fun e w'=>e=.returned (zn (zf (q3K fx fy s)))∧Below w.heap.size w w':=by
 have HH:=zb (nar_row fx fy s)
 generalize zf (q3K fx fy s)=h at *
 generalize zf s=r at *
 obtain⟨V,hV⟩:∃V,V=zn h:=⟨_,rfl⟩
 rw[←hV]
 have HV:=zb hV
 clear hV
 go_enter Tryz.func74,Tryz.ntmps74
 go_wp2_with fail
 go_loopg [5] 10 (fun g vi wr=>ORel w w.heap.size (w.heap.size+2) h r (NarE (w.heap.size+1) fx fy rc) g vi wr)
 case atStart =>
  refine⟨0,by omega,by omega,rfl,(Arr.of_row (f:=r) (t:=43) ?_).mix0,?_,?_,(((zB _ _).alloc (zL _) _).alloc (by simp) _).alloc (by simp;omega) _⟩
  ·rw[zO _ _ (by simp;omega),q5W];exact zN _ _
  ·have:=zN ((w.alloc (.cells (zx r).toArray 43)).alloc (.cells #[.bool fx,.bool fy,.int .i64 rc] 88)) (.cells zCs 43)
   simpa using this
  ·unfold NarE
   rw[zO _ _ (by simp)]
   have:=zN (w.alloc (.cells (zx r).toArray 43)) (.cells #[.bool fx,.bool fy,.int .i64 rc] 88)
   simpa using this
 case round =>
  obtain⟨k,hk,hg,rfl,a0,a2,a1,hb⟩:=hrel
  have HA0:=zb a0
  have HA1:=zb a1
  have HA2:=zb a2
  have HB:=zb hb
  have HG:=zb hg
  have st:∀v,(wr.setCell ⟨w.heap.size,k,none⟩ v).heap[w.heap.size+2]?=some (.cells zCs 43 (0,0))∧NarE (w.heap.size+1) fx fy rc (wr.setCell ⟨w.heap.size,k,none⟩ v):=fun v=>⟨by rw[Below.heap_setCell wr _ _ _ (by simp)];exact a2,by unfold NarE;rw[Below.heap_setCell wr _ _ _ (by simp)];exact a1⟩
  have st2:∀u v,((wr.setCell ⟨w.heap.size,k,none⟩ u).setCell ⟨w.heap.size,k,none⟩ v).heap[w.heap.size+2]?=some (.cells zCs 43 (0,0))∧NarE (w.heap.size+1) fx fy rc ((wr.setCell ⟨w.heap.size,k,none⟩ u).setCell ⟨w.heap.size,k,none⟩ v):=fun u v=>⟨by rw[Below.heap_setCell _ _ _ _ (by simp)];exact(st u).1,by unfold NarE;rw[Below.heap_setCell _ _ _ _ (by simp)];exact(st u).2⟩
  have ST:=zb st
  have ST2:=zb st2
  have i0:=zC _ _ 0 _ _ _ a1
  have i1:=zC _ _ 1 _ _ _ a1
  simp only[gz]at i0 i1
  have hl1:w.heap.size+1<wr.heap.size:=by
   rcases Nat.lt_or_ge (w.heap.size+1) wr.heap.size with g|g
   ·exact g
   ·unfold NarE at a1;rw[Array.getElem?_eq_none g]at a1;simp at a1
  by_cases hlt:k<10
  ·have c0:=a0.cells k hlt
   rw[j2s]at c0
   have f0:=a0.free k
   have hl0:=a0.lt
   have hg1:0<gk:=by have:=HG.out;omega
   have HHk:=zb (HH.out k)
   clear a0 a1 a2 hb hg st st2
   by_cases hk0:k=0
   ·subst hk0
    cases fy
    ·go_wp2_with fail
     go_roundg (gk-1)
     case measure=>omega
     case rel=>exact⟨1,by omega,by have:=HG.out;omega,by go_num,HA0.out.mix hlt (by rw[HHk.out];simp),(ST.out _).1,(ST.out _).2,HB.out.setCell (by simp) _⟩
    ·go_wp2_with fail
     go_roundg (gk-1)
     case measure=>omega
     case rel=>exact⟨1,by omega,by have:=HG.out;omega,by go_num,HA0.out.skip (by rw[HHk.out];first|rfl|simp),HA2.out,HA1.out,HB.out⟩
   ·have hk1:0<(k:Int):=by omega
    cases fx<;>cases fy
    ·go_wp2_with fail
     go_roundg (gk-1)
     case measure=>omega
     case rel=>exact⟨k+1,by omega,by have:=HG.out;omega,by go_num,HA0.out.mix2 hlt _ (by rw[HHk.out];simp[hk0]),(ST2.out _ _).1,(ST2.out _ _).2,(HB.out.setCell (by simp) _).setCell (by simp) _⟩
    ·go_wp2_with fail
     go_roundg (gk-1)
     case measure=>omega
     case rel=>exact⟨k+1,by omega,by have:=HG.out;omega,by go_num,HA0.out.mix hlt (by rw[HHk.out];simp[hk0]),(ST.out _).1,(ST.out _).2,HB.out.setCell (by simp) _⟩
    ·go_wp2_with fail
     go_roundg (gk-1)
     case measure=>omega
     case rel=>exact⟨k+1,by omega,by have:=HG.out;omega,by go_num,HA0.out.mix hlt (by rw[HHk.out];simp),(ST.out _).1,(ST.out _).2,HB.out.setCell (by simp) _⟩
    ·go_wp2_with fail
     go_roundg (gk-1)
     case measure=>omega
     case rel=>exact⟨k+1,by omega,by have:=HG.out;omega,by go_num,HA0.out.skip (by rw[HHk.out];simp),HA2.out,HA1.out,HB.out⟩
  ·obtain rfl:k=10:=by omega
   obtain⟨L1,W,S1,S2,S3,_⟩:=q6u (w:=w) HA0.out.ten HA2.out rfl (by omega) HB.out
   clear a0 a1 a2 hb hg HH st st2 ST ST2
   rw[←HV.out]at L1 S1 S2
   go_wp2_with (first|(refine ze rfl 43 (.tmp 4) (.tmp 28) rfl ⟨w.heap.size+1+1,0,none⟩ V rfl rfl W S1 ?_)|(refine zg rfl 43 (.tmp 2) rfl ⟨w.heap.size,0,none⟩ V rfl L1 ?_))
   exact zP (v:=V) (zr rfl _ _ _ _ rfl S2) rfl ⟨rfl,S3⟩
def valS (k:Int)(v x y:Nat):Bool:=if k=3 then x==v else y==v
def q4D (k:Int)(v n x y:Nat):Bool:=if k=3 then(x==v&&decide (y<n))else(y==v&&decide (x<n))
theorem j7F (k:Int)(v:Nat):zf (q4D k v 0)=fun _=>0:=by
 funext x
 show(q0S (q4D k v 0 x):Int)=0
 rw[q4e.2]
 ·rfl
 ·intro y _
  unfold q4D
  split<;>simp
theorem valK_ten (k:Int)(v x:Nat)(hx:x<10):zf (q4D k v 10) x=zf (valS k v) x:=by
 refine j0C (fun a b ha hb=>?_) x hx
 unfold q4D valS
 split<;>simp[ha,hb]
theorem j7E (k:Int)(v n:Nat)(hv:v<10)(hn:n<10):(if k=3 then q0O (zf (q4D k v n)) v n else q0O (zf (q4D k v n)) n v)=zf (q4D k v (n+1)):=by
 by_cases h:k=3
 ·rw[if_pos h,q8K _ v n hv hn]
  congr 1
  funext x y
  unfold q4D
  rw[if_pos h,if_pos h]
  cases hx:x==v with
  |false=>simp
  |true =>
   have:decide (y<n+1)=(decide (y<n) || y==n):=by
    rw[Bool.eq_iff_iff]
    simp
    omega
   simp[this]
 ·rw[if_neg h,q8K _ n v hn hv]
  congr 1
  funext x y
  unfold q4D
  rw[if_neg h,if_neg h]
  have:decide (x<n+1)=(decide (x<n) || x==n):=by
   rw[Bool.eq_iff_iff]
   simp
   omega
  rw[this]
  cases y==v<;>cases decide (x<n)<;>cases x==n<;>rfl
theorem q2g (W:World)(b:Nat)(old:Array Value)(h1:Nat→Int)(hg:W.heap[b]?=some (.cells old 43 (0,0)))(ho:old.size=10) :
  ∃W',(Instr.storeAt 43 (.pointer (some ⟨b,0,none⟩)) (zn h1)).run Tryz.prog W=.ok () W'∧W'.heap[b]?=some (.cells (zx h1).toArray 43 (0,0))∧(∀k,k≠b→W'.heap[k]?=W.heap[k]?)∧W'.heap.size=W.heap.size∧W'.os=W.os∧W'.tape=W.tape∧W'.output=W.output:=
 q3b (P:=Tryz.prog) 43 43 W b old #[.int .u16 (h1 0),.int .u16 (h1 1),.int .u16 (h1 2),.int .u16 (h1 3),.int .u16 (h1 4),.int .u16 (h1 5),.int .u16 (h1 6),.int .u16 (h1 7),.int .u16 (h1 8),.int .u16 (h1 9)] hg (by kernel_rfl) (by rw[ho];rfl) (by simp[Value.oneCell'])
def WvRel (w:World)(k:Int)(v:Nat)(g:Nat)(vi:Value)(wr:World):Prop:=
 ∃n:Nat,n≤10∧10-n≤g∧vi=.int .i64 n∧wr.heap[w.heap.size]?=some (.cells zCs 43 (0,0))∧wr.heap[w.heap.size+1]?=some (.cells (zx (zf (q4D k v n))).toArray 43 (0,0))∧Below w.heap.size w wr
theorem j1d (k:Int)(v:Nat)(hv:v<10)(w:World) :
  Calls Tryz.prog 186 #[.int .i64 k,.int .i64 v] w fun e w'=>e=.returned (zn (zf (valS k v)))∧Below w.heap.size w w':=by
 have HT:=zb (fun x hx=>valK_ten k v x hx)
 have HZ:=zb (j7F k v)
 have HS:=zb (fun n hn=>j7E k v n hv hn)
 generalize zf (valS k v)=h at *
 obtain⟨V,hV⟩:∃V,V=zn h:=⟨_,rfl⟩
 rw[←hV]
 have HV:=zb hV
 clear hV
 go_enter Tryz.func186,Tryz.ntmps186
 go_wp2_with fail
 go_loopg [6] 10 (fun g vi wr=>WvRel w k v g vi wr)
 case atStart =>
  refine⟨0,by omega,by omega,rfl,?_,?_,((zB _ _).alloc (zL _) _).alloc (by simp) _⟩
  ·rw[q5W];exact zN _ _
  ·rw[HZ.out]
   have:=zN (w.alloc (.cells zCs 43)) (.cells zCs 43)
   simpa using this
 case round =>
  obtain⟨n,hn,hg,rfl,a2,a0,hb⟩:=hrel
  have HA0:=zb a0
  have HA2:=zb a2
  have HB:=zb hb
  have HG:=zb hg
  by_cases hlt:n<10
  ·have L1:=(Arr.of_row (f:=zf (q4D k v n)) a0).load
   have hst:=HS.out n hlt
   have hg1:0<gk:=by have:=HG.out;omega
   have hl1:w.heap.size+1<wr.heap.size:=(Arr.of_row (f:=zf (q4D k v n)) a0).lt
   by_cases hk:k=3
   ·rw[if_pos hk]at hst
    subst hk
    have hc:=q8l (zf (q4D 3 v n)) v n
    rw[hst]at hc
    clear a0 a2 hb hg hst
    obtain⟨V1,hV1⟩:∃V1,V1=zn (zf (q4D 3 v n)):=⟨_,rfl⟩
    rw[←hV1]at L1 hc
    clear hV1
    go_wp2_with (refine zg rfl 43 (.tmp 5) rfl ⟨w.heap.size+1,0,none⟩ V1 rfl L1 ?_)
    refine(hc _).mono ?_
    rintro e w2 ⟨rfl,b2⟩
    have a2':=(b2.block w.heap.size (by omega)).trans HA2.out
    have a0':=(b2.block (w.heap.size+1) hl1).trans HA0.out
    obtain⟨W,s1,s2,s3,s4,s5,s6,s7⟩:=q2g w2 (w.heap.size+1) _ (zf (q4D 3 v (n+1))) a0' rfl
    have B2:Below w.heap.size w w2:=HB.out.trans (b2.mono HB.out.size)
    have HW:Hid (WvRel w 3 v (gk-1) (.int .i64 ((n:Int)+1)) W):=zb ⟨n+1,by omega,by have:=HG.out;omega,by simp,by rw[s3 _ (by omega)];exact a2',s2,⟨s5.trans B2.os,s6.trans B2.tape,s7.trans B2.output,by rw[s4];exact B2.size,fun q hq=>by rw[s3 q (by omega)];exact B2.block q hq⟩⟩
    generalize zf (q4D 3 v (n+1))=h1 at *
    obtain⟨V2,hV2⟩:∃V2,V2=zn h1:=⟨_,rfl⟩
    rw[←hV2]at s1 ⊢
    clear hV2 a2' a0' s2 s3 s4 s5 s6 s7 B2 b2
    go_wp2_with (refine ze rfl 43 (.tmp 5) (.tmp 16) rfl ⟨w.heap.size+1,0,none⟩ V2 rfl rfl W s1 ?_)
    go_roundg (gk-1)
    case measure=>omega
    case rel=>exact HW.out
   ·rw[if_neg hk]at hst
    have hk3:(k==3)=false:=by simpa using hk
    have hc:=q8l (zf (q4D k v n)) n v
    rw[hst]at hc
    clear a0 a2 hb hg hst
    obtain⟨V1,hV1⟩:∃V1,V1=zn (zf (q4D k v n)):=⟨_,rfl⟩
    rw[←hV1]at L1 hc
    clear hV1
    go_wp2_with (refine zg rfl 43 (.tmp 5) rfl ⟨w.heap.size+1,0,none⟩ V1 rfl L1 ?_)
    refine(hc _).mono ?_
    rintro e w2 ⟨rfl,b2⟩
    have a2':=(b2.block w.heap.size (by omega)).trans HA2.out
    have a0':=(b2.block (w.heap.size+1) hl1).trans HA0.out
    obtain⟨W,s1,s2,s3,s4,s5,s6,s7⟩:=q2g w2 (w.heap.size+1) _ (zf (q4D k v (n+1))) a0' rfl
    have B2:Below w.heap.size w w2:=HB.out.trans (b2.mono HB.out.size)
    have HW:Hid (WvRel w k v (gk-1) (.int .i64 ((n:Int)+1)) W):=zb ⟨n+1,by omega,by have:=HG.out;omega,by simp,by rw[s3 _ (by omega)];exact a2',s2,⟨s5.trans B2.os,s6.trans B2.tape,s7.trans B2.output,by rw[s4];exact B2.size,fun q hq=>by rw[s3 q (by omega)];exact B2.block q hq⟩⟩
    generalize zf (q4D k v (n+1))=h1 at *
    obtain⟨V2,hV2⟩:∃V2,V2=zn h1:=⟨_,rfl⟩
    rw[←hV2]at s1 ⊢
    clear hV2 a2' a0' s2 s3 s4 s5 s6 s7 B2 b2
    go_wp2_with (refine ze rfl 43 (.tmp 5) (.tmp 20) rfl ⟨w.heap.size+1,0,none⟩ V2 rfl rfl W s1 ?_)
    go_roundg (gk-1)
    case measure=>omega
    case rel=>exact HW.out
  ·obtain rfl:n=10:=by omega
   obtain⟨L1,W,S1,S2,S3,_⟩:=q6u (w:=w) ((Arr.of_row (f:=zf (q4D k v 10)) a0).congr HT.out) HA2.out rfl (zL _) HB.out
   clear a0 a2 hb hg HT HZ HS
   rw[←HV.out]at L1 S1 S2
   go_wp2_with (first|(refine ze rfl 43 (.tmp 4) (.tmp 21) rfl ⟨w.heap.size,0,none⟩ V rfl rfl W S1 ?_)|(refine zg rfl 43 (.tmp 5) rfl ⟨w.heap.size+1,0,none⟩ V rfl L1 ?_))
   exact zP (v:=V) (zr rfl _ _ _ _ rfl S2) rfl ⟨rfl,S3⟩
def q0H (n:Nat)(H:Nat→Nat→Nat→Bool):List Value:=(List.range n).flatMap fun i=>zx (zf (H i))
theorem q1E (n:Nat)(H:Nat→Nat→Nat→Bool):q0H (n+1) H=q0H n H++zx (zf (H n)):=by
 unfold q0H
 rw[List.range_succ,List.flatMap_append]
 simp
theorem q3W (n:Nat)(H:Nat→Nat→Nat→Bool):(q0H n H).length=n*10:=by
 induction n with
 |zero=>rfl
 |succ n ih=>rw[q1E,List.length_append,ih];simp;omega
theorem j4t (n:Nat)(H:Nat→Nat→Nat→Bool)(i:Nat)(h:i<n)(j:Nat)(hj:j<10):(q0H n H)[i*10+j]?=(zx (zf (H i)))[j]?:=by
 induction n with
 |zero=>omega
 |succ n ih =>
  rw[q1E]
  rcases Nat.lt_or_ge i n with g|g
  ·rw[List.getElem?_append_left (by rw[q3W];omega)]
   exact ih g
  ·have:i=n:=by omega
   subst this
   rw[List.getElem?_append_right (by rw[q3W];omega),q3W]
   congr 1
   omega
structure Tb (w:World)(v:Value)(m:Nat)(H:Nat→Nat→Nat→Bool):Prop where
 row:w.ownsRow 0 43 10 v m (q0H m H)
 far:∀i,m≤i→∀x y,H i x y=false
theorem Tb.below {w w':World}{v:Value}{m:Nat}{H:Nat→Nat→Nat→Bool}(h:Tb w v m H)(hb:Below w.heap.size w w'):Tb w' v m H:=⟨zh h.row hb,h.far⟩
theorem Tb.form {w:World}{v:Value}{m:Nat}{H:Nat→Nat→Nat→Bool}(h:Tb w v m H):∃ao cap,v=.slice ao m cap:=by
 rcases h.row.2 with⟨rfl,rfl⟩|⟨g,cap,cur,rfl,_⟩
 ·exact⟨none,0,rfl⟩
 ·exact⟨_,cap,rfl⟩
theorem Tb.load {w:World}{ao:OA}{cap m:Nat}{H:Nat→Nat→Nat→Bool}(h:Tb w (.slice ao m cap) m H){i:Nat}(hi:i<m):∃g,ao=some ⟨g,0,none⟩∧g<w.heap.size∧m≤cap∧cap≤maxLen∧w.rangeAt g (i*10) (zx (zf (H i))):=by
 have hr:=h.row
 obtain⟨g,cap',e⟩:=zJ hr (by omega)
 injection e with e1 e2 e3
 subst e1 e3
 have hc:m≤cap∧cap≤maxLen:=by
  rcases hr.2 with⟨h',_⟩|⟨g',cap',cur,h',_,_,p1,p2,_⟩
  ·simp at h'
  ·simp only[Value.slice.injEq,Option.some.injEq,Addr.mk.injEq,and_true,true_and]at h'
   obtain⟨rfl,rfl⟩:=h'
   exact⟨p1,p2⟩
 refine⟨g,rfl,(hr.lt g rfl).2,hc.1,hc.2,fun j v hv=>?_⟩
 have hj:j<10:=(List.getElem?_eq_some_iff.1 hv).1
 rw[hr.cellAt _ (by omega),j4t m H i hi j hj]
 exact hv
theorem q9D {w:World}{g o:Nat}{r:Nat→Int}(h:w.rangeAt g o (zx r)):(Instr.loadAt 43 (.pointer (some ⟨g,o,none⟩))).run Tryz.prog w=.ok (zn r) w:=
 run_loadAt_mid w g o 43 (zx r) _ h Tryz.underlying43 rfl (by kernel_rfl)
theorem q4s {s:Nat→Nat→Bool}(h:∀x y,s x y=false):zf s=fun _=>0:=by
 funext x
 show(q0S (s x):Int)=0
 rw[q4e.2 (fun y _=>h x y)]
 rfl
theorem q6U (ao:OA)(m cap:Nat)(_hm:m≤40)(i:Int)(hi:i<0∨(m:Int)≤i)(w:World) :
  Calls Tryz.prog 132 #[.slice ao m cap,.int .i64 i] w fun e w'=>e=.returned (zn fun _=>0)∧Below w.heap.size w w':=by
 by_cases h0:i<0
 ·clear hi
  go_enter Tryz.func132,Tryz.ntmps132
  go_wp2_with fail
  exact zP (v:=zn fun _=>0) (by simp[results,Tryz.results132,go_sem]) rfl ⟨rfl,(zB _ _).alloc (zL _) _⟩
 ·have h1:(m:Int)≤i:=by omega
  clear hi
  go_enter Tryz.func132,Tryz.ntmps132
  go_wp2_with fail
  exact zP (v:=zn fun _=>0) (by simp[results,Tryz.results132,go_sem]) rfl ⟨rfl,(zB _ _).alloc (zL _) _⟩
theorem q0g (v:Value)(m:Nat)(H:Nat→Nat→Nat→Bool)(hm:m≤40)(i:Nat)(w:World)(h:Tb w v m H) :
  Calls Tryz.prog 132 #[v,.int .i64 i] w fun e w'=>e=.returned (zn (zf (H i)))∧Below w.heap.size w w':=by
 obtain⟨ao,cap,rfl⟩:=h.form
 have B0:Below w.heap.size w (w.alloc (.cells zCs 43)):=(zB _ _).alloc (zL _) _
 have G0:=zN w (.cells zCs 43)
 have s0:(w.alloc (.cells zCs 43)).heap.size=w.heap.size+1:=by simp
 by_cases hi:i<m
 ·obtain⟨g,rfl,hg,k1,k2,hrg⟩:=(h.below B0).load hi
  have L1:=q9D hrg
  unfold maxLen at k2
  generalize zf (H i)=r at *
  obtain⟨W,S1,s2,s3,s4,s5,s6,s7⟩:=q2g _ w.heap.size _ r G0 rfl
  have LV:=(Arr.of_row (f:=r) s2).loadV
  have BW:Below w.heap.size w W:=⟨s5.trans B0.os,s6.trans B0.tape,s7.trans B0.output,by rw[s4];exact B0.size,fun k hk=>by rw[s3 k (by omega)];exact B0.block k hk⟩
  obtain⟨V,hV⟩:∃V,V=zn r:=⟨_,rfl⟩
  rw[←hV]at L1 S1 LV ⊢
  have HB:=zb BW
  have HG:=zb hg
  have hgw:g<w.heap.size+1:=by omega
  clear h B0 G0 s0 s2 s3 s4 s5 s6 s7 BW hV hrg hg
  go_enter Tryz.func132,Tryz.ntmps132
  go_wp2_with (first|(refine ze rfl 43 (.tmp 4) (.tmp 17) rfl ⟨w.heap.size,0,none⟩ V rfl rfl W S1 ?_)|(refine zg rfl 43 (.tmp 16) rfl ⟨g,i*10,none⟩ V rfl L1 ?_))
  exact zP (v:=V) (zr rfl _ _ _ _ rfl LV) rfl ⟨rfl,HB.out⟩
 ·rw[q4s (h.far i (by omega))]
  exact q6U ao m cap hm i (.inr (by omega)) w
theorem q6T (k:Int)(w:World) :
  Calls Tryz.prog 165 #[.int .i64 k] w fun e w'=>e=.returned (.int .i64 (if q4F k=true then -1 else 1))∧w'=w:=by
 have hk:(k=10∨k=12∨k=14∨k=15)∨(q4F k=false∧(k==10)=false∧(k==12)=false∧(k==14)=false∧(k==15)=false):=by
  unfold q4F
  by_cases h:k=10∨k=12∨k=14∨k=15
  ·exact .inl h
  ·right
   simp only[not_or]at h
   simp[h]
 rcases hk with h|⟨h,h1,h2,h3,h4⟩
 ·rcases h with rfl|rfl|rfl|rfl
  all_goals
   go_enter Tryz.func165,Tryz.ntmps165
   go_wp2_with fail
   go_ret
   exact⟨rfl,rfl⟩
 ·rw[h]
  have g1:¬k=10:=by simpa using h1
  have g2:¬k=12:=by simpa using h2
  have g3:¬k=14:=by simpa using h3
  have g4:¬k=15:=by simpa using h4
  clear h
  go_enter Tryz.func165,Tryz.ntmps165
  go_wp2_with fail
  go_ret
  exact⟨rfl,rfl⟩
theorem j3q (t:Nat)(nd:PNode)(w:World) :
  Calls Tryz.prog 166 #[.int .i64 t,.agg #[.int .i64 nd.sat,.int .i64 nd.slo,.int .i64 nd.shi,.bool nd.sop]] w fun e w'=>e=.returned (.bool (q0L nd t))∧Below w.heap.size w w':=by
 unfold q0L
 obtain⟨z,hz⟩:∃z:Int,z=(t:Int):=⟨_,rfl⟩
 rw[←hz]
 clear hz
 generalize nd.slo=lo
 generalize nd.shi=hi
 generalize nd.sat=sa
 generalize nd.sop=op
 cases op<;>by_cases h1:lo≤z
 all_goals
  go_enter Tryz.func166,Tryz.ntmps166
  go_wp2_with fail
  go_ret
  exact⟨qm (by simp[h1]<;>omega),(zB _ _).alloc (zL _) _⟩
theorem j3o (k:Int)(s:Nat→Nat→Bool)(w:World) :
  Calls Tryz.prog 138 #[.int .i64 k,zn (zf s)] w fun e w'=>e=.returned (zn (zf fun x y=>(List.range 10).any fun v=>if k=3 then s v y else s x v))∧Below w.heap.size w w':=by
 by_cases h3:k=3
 ·subst h3
  have hc:=j2m s
  have e:(fun x y=>(List.range 10).any fun v=>if (3:Int)=3 then s v y else s x v)=(fun _ y=>(List.range 10).any fun v=>s v y):=by funext x y;simp
  rw[e]
  generalize zf (fun _ y=>(List.range 10).any fun v=>s v y)=h at *
  generalize zf s=r at *
  obtain⟨V,hV⟩:∃V,V=zn h:=⟨_,rfl⟩
  have HV:=zb hV
  rw[←hV]
  clear hV
  go_enter Tryz.func138,Tryz.ntmps138
  have G1:((w.alloc (.cells (zx r).toArray 43)).alloc (.cells zCs 43)).heap[w.heap.size+1]?=some (.cells zCs 43 (0,0)):=by
   have:=zN (w.alloc (.cells (zx r).toArray 43)) (.cells zCs 43)
   simpa using this
  have B1:Below w.heap.size w ((w.alloc (.cells (zx r).toArray 43)).alloc (.cells zCs 43)):=((zB _ _).alloc (zL _) _).alloc (by simp) _
  have Z1:((w.alloc (.cells (zx r).toArray 43)).alloc (.cells zCs 43)).heap.size=w.heap.size+2:=by simp
  have HG1:=zb G1
  have HB1:=zb B1
  have HZ1:=zb Z1
  clear G1 B1 Z1
  go_wp2_with fail
  change Calls _ _ _ ((w.alloc (.cells (zx r).toArray 43)).alloc (.cells zCs 43)) _
  generalize (w.alloc (.cells (zx r).toArray 43)).alloc (.cells zCs 43)=W1 at *
  refine(hc _).mono ?_
  rintro e w2 ⟨rfl,b2⟩
  have G2:=(b2.block (w.heap.size+1) (by have:=HZ1.out;omega)).trans HG1.out
  have B2:Below w.heap.size w w2:=HB1.out.trans (b2.mono HB1.out.size)
  obtain⟨W,S1,s2,s3,s4,s5,s6,s7⟩:=q2g _ (w.heap.size+1) _ h G2 rfl
  have LV:=(Arr.of_row (f:=h) s2).loadV
  have BW:Below w.heap.size w W:=⟨s5.trans B2.os,s6.trans B2.tape,s7.trans B2.output,by rw[s4];exact B2.size,fun k hk=>by rw[s3 k (by omega)];exact B2.block k hk⟩
  rw[←HV.out]at S1 LV ⊢
  have HB:=zb BW
  clear G2 B2 b2 s2 s3 s4 s5 s6 s7 BW hc
  go_wp2_with (refine ze rfl 43 (.tmp 4) (.tmp 8) rfl ⟨w.heap.size+1,0,none⟩ V rfl rfl W S1 ?_)
  exact zP (v:=V) (zr rfl _ _ _ _ rfl LV) rfl ⟨rfl,HB.out⟩
 ·have hc:=j2n s
  have hk3:(k==3)=false:=by simpa using h3
  have e:(fun x y=>(List.range 10).any fun v=>if k=3 then s v y else s x v)=(fun x _=>(List.range 10).any fun v=>s x v):=by funext x y;simp[h3]
  rw[e]
  generalize zf (fun x _=>(List.range 10).any fun v=>s x v)=h at *
  generalize zf s=r at *
  obtain⟨V,hV⟩:∃V,V=zn h:=⟨_,rfl⟩
  have HV:=zb hV
  rw[←hV]
  clear hV
  go_enter Tryz.func138,Tryz.ntmps138
  have G1:((w.alloc (.cells (zx r).toArray 43)).alloc (.cells zCs 43)).heap[w.heap.size+1]?=some (.cells zCs 43 (0,0)):=by
   have:=zN (w.alloc (.cells (zx r).toArray 43)) (.cells zCs 43)
   simpa using this
  have B1:Below w.heap.size w ((w.alloc (.cells (zx r).toArray 43)).alloc (.cells zCs 43)):=((zB _ _).alloc (zL _) _).alloc (by simp) _
  have Z1:((w.alloc (.cells (zx r).toArray 43)).alloc (.cells zCs 43)).heap.size=w.heap.size+2:=by simp
  have HG1:=zb G1
  have HB1:=zb B1
  have HZ1:=zb Z1
  clear G1 B1 Z1
  go_wp2_with fail
  change Calls _ _ _ ((w.alloc (.cells (zx r).toArray 43)).alloc (.cells zCs 43)) _
  generalize (w.alloc (.cells (zx r).toArray 43)).alloc (.cells zCs 43)=W1 at *
  refine(hc _).mono ?_
  rintro e w2 ⟨rfl,b2⟩
  have G2:=(b2.block (w.heap.size+1) (by have:=HZ1.out;omega)).trans HG1.out
  have B2:Below w.heap.size w w2:=HB1.out.trans (b2.mono HB1.out.size)
  obtain⟨W,S1,s2,s3,s4,s5,s6,s7⟩:=q2g _ (w.heap.size+1) _ h G2 rfl
  have LV:=(Arr.of_row (f:=h) s2).loadV
  have BW:Below w.heap.size w W:=⟨s5.trans B2.os,s6.trans B2.tape,s7.trans B2.output,by rw[s4];exact B2.size,fun k hk=>by rw[s3 k (by omega)];exact B2.block k hk⟩
  rw[←HV.out]at S1 LV ⊢
  have HB:=zb BW
  clear G2 B2 b2 s2 s3 s4 s5 s6 s7 BW hc
  go_wp2_with (refine ze rfl 43 (.tmp 4) (.tmp 10) rfl ⟨w.heap.size+1,0,none⟩ V rfl rfl W S1 ?_)
  exact zP (v:=V) (zr rfl _ _ _ _ rfl LV) rfl ⟨rfl,HB.out⟩
abbrev dptCs (p:LPt × Value):List Value:=[.int .u16 p.1.stamp,.int .i64 p.1.time,p.2]
def q0Z (l:List (LPt × Value)):List Value:=l.flatMap dptCs
theorem q5B (l:List (LPt × Value)):∀(i:Nat) (h:i<l.length) (j:Nat),j<3→(q0Z l)[i*3+j]?=(dptCs l[i])[j]?:=by
 induction l with
 |nil=>intro i h;simp at h
 |cons n r ih =>
  intro i h j hj
  have e:q0Z (n::r)=dptCs n++q0Z r:=rfl
  have e2:(dptCs n).length=3:=rfl
  rw[e]
  cases i with
  |zero=>rw[List.getElem?_append_left (by omega)];simp
  |succ i =>
   have hi:i<r.length:=by simpa using h
   rw[List.getElem?_append_right (by omega),e2,show(i+1)*3+j-3=i*3+j by omega,ih i hi j hj]
   rfl
theorem q8r (l r:List (LPt × Value)):q0Z (l++r)=q0Z l++q0Z r:=by simp[q0Z]
structure DLogAt (w:World)(v:Value)(DL:List (LPt × Value)):Prop where
 row:w.ownsRow 0 181 3 v DL.length (q0Z DL)
 small:DL.length≤40
 times:∀(i:Nat) (hi:i<DL.length),(DL[i]).1.time≤32768*i∧(DL[i]).1.stamp≤65535
theorem DLogAt.below {w w':World}{v:Value}{DL:List (LPt × Value)}(h:DLogAt w v DL)(hb:Below w.heap.size w w'):DLogAt w' v DL:=⟨zh h.row hb,h.small,h.times⟩
theorem DLogAt.at' {w:World}{ao:OA}{cap:Nat}{DL:List (LPt × Value)}(h:DLogAt w (.slice ao DL.length cap) DL){i:Nat}(hi:i<DL.length) :
  ∃g,ao=some ⟨g,0,none⟩∧g<w.heap.size∧DL.length≤cap∧cap≤maxLen∧w.cell? ⟨g,i*3,none⟩=some (.int .u16 (DL[i]).1.stamp)∧w.cell? ⟨g,i*3+1,none⟩=some (.int .i64 (DL[i]).1.time)∧w.cell? ⟨g,i*3+2,none⟩=some (DL[i]).2:=by
 have hr:=h.row
 obtain⟨g,cap',e⟩:=zJ hr (by omega)
 injection e with e1 e2 e3
 subst e1 e3
 have hlt:=(hr.lt g rfl).2
 refine⟨g,rfl,hlt,?_⟩
 have hc:DL.length≤cap∧cap≤maxLen:=by
  rcases hr.2 with⟨h',_⟩|⟨g',cap',cur,h',_,_,p1,p2,_⟩
  ·simp at h'
  ·simp only[Value.slice.injEq,Option.some.injEq,Addr.mk.injEq,and_true,true_and]at h'
   obtain⟨rfl,rfl⟩:=h'
   exact⟨p1,p2⟩
 have hl:(q0Z DL).length=DL.length*3:=hr.1
 refine⟨hc.1,hc.2,?_,?_,?_⟩
 ·have:=hr.cellAt (i*3) (by omega)
  rw[this,show i*3=i*3+0 from rfl,q5B DL i hi 0 (by omega)]
  rfl
 ·have:=hr.cellAt (i*3+1) (by omega)
  rw[this,q5B DL i hi 1 (by omega)]
  rfl
 ·have:=hr.cellAt (i*3+2) (by omega)
  rw[this,q5B DL i hi 2 (by omega)]
  rfl
structure SpanIn (u:List Tok)(lo hi:By):Prop where
 l4:4<u.length
 e2:(u[2]'(by omega)).text=lo
 e4:(u[4]).text=hi
 lo:q1H lo=true∧0<lo.length∧lo.length≤3
 hi:(hi==[42])=false→q1H hi=true∧0<hi.length∧hi.length≤3
def q2I (lo hi:By)(t:Int):Bool:=decide ((q0n lo:Int)≤t)&&(hi==[42] || decide (t≤(q0n hi:Int)))
theorem qr {w:World}{base:Nat}{e:TypeId}{size:Nat}{v:Value}{n:Nat}{xs:List Value}(h:w.ownsRow base e size v n xs):∃ao cap,v=.slice ao n cap:=by
 rcases h.2 with⟨rfl,rfl⟩|⟨g,cap,cur,rfl,_⟩
 ·exact⟨none,0,rfl⟩
 ·exact⟨_,cap,rfl⟩
theorem q4d (v:Value)(u:List Tok)(lo hi:By)(hS:SpanIn u lo hi)(lv:Value)(DL:List (LPt × Value))(i j:Nat)(hi':i<DL.length)(hj:j<DL.length)(w:World)(h:qB w v u)(hL:DLogAt w lv DL) :
  Calls Tryz.prog 175 #[v,lv,.int .i64 i,.int .i64 j] w fun e w'=>e=.returned (.bool (q2I lo hi (((DL[j]).1.time:Int)-((DL[i]).1.time:Int))))∧Below w.heap.size w w':=by
 obtain⟨b,o,cap,rfl,h1,h2,h3,h4,h5,h6⟩:=qe h
 obtain⟨la,lc,rfl⟩:=qr hL.row
 obtain⟨g,rfl,hg,k1,k2,_,ti,_⟩:=hL.at' hi'
 obtain⟨g',e',_,_,_,_,tj,_⟩:=hL.at' hj
 simp only[Option.some.injEq,Addr.mk.injEq,and_true]at e'
 subst e'
 have hsm:=hL.small
 have l4:=hS.l4
 have q2:=h6 2 (by omega)
 have q4:=h6 4 l4
 rw[hS.e2]at q2
 rw[hS.e4]at q4
 have hti:=(hL.times i hi').1
 have htj:=(hL.times j hj).1
 generalize (DL[i]).1.time=a at *
 generalize (DL[j]).1.time=c at *
 obtain⟨za,hza⟩:∃z:Int,z=(a:Int):=⟨_,rfl⟩
 obtain⟨zc,hzc⟩:∃z:Int,z=(c:Int):=⟨_,rfl⟩
 rw[←hza]at ti
 rw[←hzc]at tj
 rw[←hza,←hzc]
 have hza1:0≤za∧za≤2000000:=by omega
 have hzc1:0≤zc∧zc≤2000000:=by omega
 have HN2:=zb (q4r lo ((u[2]'(by omega)).pos:Int) hS.lo.2.1 hS.lo.2.2 hS.lo.1)
 have HN4:=zb (fun hne=>q4r hi ((u[4]'(by omega)).pos:Int) (hS.hi hne).2.1 (hS.hi hne).2.2 (hS.hi hne).1)
 have hnl:=q9B hS.lo.1 hS.lo.2.2
 have hnh:(hi==[42])=false→q0n hi≤999:=fun hne=>q9B (hS.hi hne).1 (hS.hi hne).2.2
 generalize ((u[2]'(by omega)).pos:Nat)=p2 at *
 generalize ((u[4]'(by omega)).pos:Nat)=p4 at *
 obtain⟨c2,d2⟩:=q2
 obtain⟨c4,d4⟩:=q4
 clear h h6 hL hS hza hzc hti htj
 generalize u.length=n at *
 unfold maxLen at h2 k2
 unfold q2I
 obtain⟨nl,hnl'⟩:∃z:Int,z=(q0n lo:Int):=⟨_,rfl⟩
 obtain⟨nh,hnh'⟩:∃z:Int,z=(q0n hi:Int):=⟨_,rfl⟩
 rw[←hnl']at HN2 ⊢
 rw[←hnh']at HN4 ⊢
 have hnl0:0≤nl∧nl≤999:=by omega
 clear hnl hnl' hnh'
 obtain⟨R,hR⟩:∃R:Bool,R=(decide (nl≤zc-za)&&(hi==[42] || decide (zc-za≤nh))):=⟨_,rfl⟩
 rw[←hR]
 obtain⟨t,ht⟩:∃t:Int,t=zc-za:=⟨_,rfl⟩
 rw[←ht]at hR
 have HR:=zb hR
 have HT:=zb ht
 clear hR ht
 go_enter Tryz.func175,Tryz.ntmps175
 go_wp2_with fail
 go_region_held3 (fun w'=>w'.cell? ⟨g,i*3+1,none⟩=some (.int .i64 za)∧w'.cell? ⟨g,j*3+1,none⟩=some (.int .i64 zc)) (first|go_keep|(exact⟨ti,tj⟩)|(refine⟨?_,?_⟩;(first|(rw[cell_alloc_old _ _ hg];exact ti));(first|(rw[cell_alloc_old _ _ hg];exact tj)))) (fail)
 have hwr:IntKind.i64.wrap (zc-za)=zc-za:=by rw[IntKind.wrap_i64];omega
 rw[hwr]
 rw[←HT.out]
 have ht1:-2000000≤t∧t≤2000000:=by have:=HT.out;omega
 clear hwr
 go_wp2_with fail
 refine(HN2.out _).mono ?_
 rintro e w1 ⟨rfl,b1⟩
 have B0:Below w.heap.size w (w.alloc (.cells #[.slice (some ⟨b,o,none⟩) n cap] 112)).drew:=((zB _ _).alloc (zL _) _).drew
 have B1:Below w.heap.size w w1:=B0.trans (b1.mono B0.size)
 have cb:w1.cell? ⟨w.heap.size,0,none⟩=some (.slice (some ⟨b,o,none⟩) n cap):=by
  rw[zK (b1.block w.heap.size (by simp))]
  show(w.alloc _).cell? _=_
  rw[zC _ _ 0 _ _ _ (zN w _)]
  rfl
 have hl1:w.heap.size<w1.heap.size:=by have:=b1.size;simp at this;omega
 have f4:=(zo B1 b (o+4*2) h3).trans c4
 have g4:=(zo B1 b (o+4*2+1) h3).trans d4
 have hl1b:b<w1.heap.size:=by have:=B1.size;omega
 have HB1:=zb B1
 clear b1 B0 B1 c2 d2 c4 d4 HN2 ti tj
 by_cases htl:t<nl
 ·go_wp2_with fail
  go_ret
  exact⟨qm (by rw[HR.out,decide_eq_false (by omega),Bool.false_and]),HB1.out⟩
 ·cases hs:(hi==[42])with
  |true =>
   go_wp2_with fail
   go_ret
   exact⟨qm (by rw[HR.out,decide_eq_true (show nl≤t by omega),hs];rfl),HB1.out⟩
  |false =>
   have HN:=zb (HN4.out hs)
   have hnh2:=hnh hs
   clear HN4 hnh
   go_wp2_with fail
   refine(HN.out _).mono ?_
   rintro e w2 ⟨rfl,b2⟩
   have HB2:=zb (HB1.out.trans (b2.mono HB1.out.size))
   clear b2
   go_wp2_with fail
   go_ret
   exact⟨qm (by rw[HR.out,decide_eq_true (show nl≤t by omega),hs,Bool.true_and,Bool.false_or];try simp),HB2.out⟩
def q4S (H:Nat→Nat→Nat→Bool)(a:Nat)(b:Int)(x y:Nat)(no:Bool):Bool:=(List.range (b+1).toNat).all fun k=>!decide (a≤k) || (H k x y != no)
theorem j5I {H:Nat→Nat→Nat→Bool}{a:Nat}{b:Int}{x y:Nat}{no:Bool}{k:Nat}(h1:a≤k)(h2:(k:Int)≤b)(h3:H k x y=no):q4S H a b x y no=false:=by
 unfold q4S
 rw[List.all_eq_false]
 refine⟨k,by simp;omega,?_⟩
 rw[h3,decide_eq_true h1]
 cases no<;>decide
theorem j2R {H:Nat→Nat→Nat→Bool}{a:Nat}{b:Int}{x y:Nat}{no:Bool}(h:∀k:Nat,a≤k→(k:Int)≤b→H k x y=!no):q4S H a b x y no=true:=by
 unfold q4S
 rw[List.all_eq_true]
 intro k hk
 have hk':(k:Int)≤b:=by have:=List.mem_range.1 hk;omega
 by_cases hc:a≤k
 ·rw[h k hc hk']
  cases no<;>simp
 ·rw[decide_eq_false hc];rfl
theorem q6q {w':World}{gt m bp:Nat}{r:Nat→Int}{x y:Int}{t:TypeId}(h:w'.rangeAt gt (m*10) (zx r))(hp:w'.heap[bp]?=some (.cells #[.int .i64 x,.int .i64 y] t (0,0))):w'.rangeAt gt (m*10) (zx r)∧w'.cell? ⟨bp,0,none⟩=some (.int .i64 x)∧w'.cell? ⟨bp,1,none⟩=some (.int .i64 y):=
 ⟨h,zC _ _ 0 _ _ _ hp,zC _ _ 1 _ _ _ hp⟩
theorem q2a (s:Nat→Nat→Bool)(x y:Nat)(hx:x<10)(hy:y<10)(w:World):Calls Tryz.prog 150 #[zn (zf s),.int .i64 x,.int .i64 y] w fun e w'=>e=.returned (.bool (s x y))∧Below w.heap.size w w':=by
 have h:=j2j (zf s) x y w
 rw[j0D s x y hx hy]at h
 exact h
def AlRel (H:Nat→Nat→Nat→Bool)(a:Nat)(b:Int)(x y:Nat)(no:Bool)(W0:World)(g:Nat)(vi:Value)(wr:World):Prop:=∃k:Nat,a≤k∧(b+1-k).toNat≤g∧((k:Int)≤b+1∨k=a)∧vi=.int .i64 k∧(∀j:Nat,a≤j→j<k→H j x y=!no)∧Below W0.heap.size W0 wr
theorem j0B (v:Value)(n:Nat)(H:Nat→Nat→Nat→Bool)(a:Nat)(b:Int)(x y:Nat)(hx:x<10)(hy:y<10)(no:Bool)(w:World)(h:Tb w v n H)(_ha:a≤1000)(hb:-1≤b∧b<n)(hn:n≤1000) :
  Calls Tryz.prog 185 #[v,.int .i64 a,.int .i64 b,.agg #[.int .i64 x,.int .i64 y],.bool no] w fun e w'=>e=.returned (.bool (q4S H a b x y no))∧Below w.heap.size w w':=by
 obtain⟨ta,tc,rfl⟩:=h.form
 have HT:=zb h
 clear h
 have HNO:=zb (fun k h1 h2 h3=>@j5I H a b x y no k h1 h2 h3)
 have HYES:=zb (@j2R H a b x y no)
 have HHAS:=zb (fun k=>q2a (H k) x y hx hy)
 generalize q4S H a b x y no=R at *
 go_enter Tryz.func185,Tryz.ntmps185
 go_wp2_with fail
 obtain⟨W0,hW0⟩:∃W:World,W=w.alloc (.cells #[.int .i64 x,.int .i64 y] 245):=⟨_,rfl⟩
 rw[←hW0]
 have hP0:W0.heap[w.heap.size]?=some (.cells #[.int .i64 x,.int .i64 y] 245 (0,0)):=by rw[hW0];exact zN _ _
 have hz0:w.heap.size<W0.heap.size:=by rw[hW0];simp
 have B0:Below w.heap.size w W0:=by rw[hW0];exact(zB _ _).alloc (zL _) _
 have HB0:=zb B0
 have HP0:=zb hP0
 have HT0:=zb (HT.out.below B0)
 clear hW0 hP0 B0 HT
 go_loopg [11] (b+1-a).toNat (fun g vi wr=>AlRel H a b x y no W0 g vi wr)
 case atStart=>exact⟨a,zL _,zL _,.inr rfl,rfl,fun j h1 h2=>absurd h2 (by omega),zB _ _⟩
 case round =>
  obtain⟨k,hk,hg,hka,rfl,hf,hbel⟩:=hrel
  have HG:=zb hg
  have HF:=zb hf
  have HB:=zb hbel
  clear hg hf hbel
  by_cases hkb:(k:Int)≤b
  ·have hkn:k<n:=by omega
   obtain⟨gt,rfl,hgt,t1,t2,_⟩:=(HT0.out.below HB.out).load hkn
   have CELL:Hid (∀w',Below W0.heap.size W0 w'→w'.rangeAt gt (k*10) (zx (zf (H k)))∧w'.cell? ⟨w.heap.size,0,none⟩=some (.int .i64 x)∧w'.cell? ⟨w.heap.size,1,none⟩=some (.int .i64 y)):=zb (fun w' hb=>by
    obtain⟨g',e',_,_,_,hr⟩:=(HT0.out.below hb).load hkn
    simp only[Option.some.injEq,Addr.mk.injEq,and_true]at e'
    subst e'
    exact q6q hr ((hb.block _ hz0).trans HP0.out))
   have HHK:=zb (HHAS.out k)
   obtain⟨cs,hcs⟩:∃cs,cs=zx (zf (H k)):=⟨_,rfl⟩
   have hcl:(Tryz.prog.info? 43).map (·.size)=some cs.length:=by rw[hcs];kernel_rfl
   have hcu:=Tryz.underlying43
   rw[show zn (zf (H k))=.agg cs.toArray by rw[hcs]]at HHK
   rw[←hcs]at CELL
   clear hcs
   unfold maxLen at t2
   have HHQ:Hid (∀q,H k x y=q→((q=no→R=false)∧(q=(!no)→∀j:Nat,a≤j→j<k+1→H j x y=!no))):=zb (fun q hq=>⟨fun h=>HNO.out k hk hkb (hq.trans h),fun h j h1 h2=>by by_cases e:j=k;(rw[e,hq,h]);exact HF.out j h1 (by omega)⟩)
   generalize H k x y=q at *
   have HHQ':=zb (HHQ.out q rfl)
   have hzr:w.heap.size<wr.heap.size:=zT hz0 HB.out.size
   have C0:=CELL.out _ HB.out.drew
   go_wp2_with fail
   go_region_held3 (fun w'=>w'.rangeAt gt (k*10) cs∧w'.cell? ⟨w.heap.size,0,none⟩=some (.int .i64 x)∧w'.cell? ⟨w.heap.size,1,none⟩=some (.int .i64 y)) (first|go_keep|(exact C0)|(exact CELL.out _ B3)) ((go_at_call 150;refine(HHK.out _).mono ?_;rintro e w3 ⟨rfl,b3⟩;have B3:Below W0.heap.size W0 w3:=HB.out.drew.trans (b3.mono HB.out.drew.size)))
   clear C0 CELL HHK
   by_cases hq:q=no
   ·have hR:=HHQ'.out.1 hq
    subst hq
    go_wp2_with fail
    go_ret
    exact⟨qm rfl,HB0.out.trans (B3.mono HB0.out.size)⟩
   ·have hq2:q=!no:=by revert hq;cases q<;>cases no<;>decide
    have HN2:=zb (HHQ'.out.2 hq2)
    have hqn:(q==no)=false:=by revert hq;cases q<;>cases no<;>decide
    have HB3:=zb B3
    clear HHQ HHQ' b3 B3
    go_wp2_with fail
    have hg1:0<gk:=by have:=HG.out;omega
    go_roundg (gk-1)
    case measure=>omega
    case rel=>exact⟨k+1,by omega,by have:=HG.out;omega,by omega,by go_num,HN2.out,HB3.out⟩
  ·have hR:=HYES.out (fun j h1 h2=>HF.out j h1 (by omega))
   subst hR
   go_wp2_with fail
   go_ret
   exact⟨rfl,HB0.out.trans (HB.out.mono HB0.out.size)⟩
end Go.Proofs.YtiamjjonoeaggabGreatDoor
