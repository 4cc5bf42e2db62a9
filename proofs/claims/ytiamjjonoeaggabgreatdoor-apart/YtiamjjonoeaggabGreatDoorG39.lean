import Derived.Test.YtiamjjonoeaggabGreatDoorGA
import Derived.Test.YtiamjjonoeaggabGreatDoorG01
import Derived.Deep.LoopGhost
import Derived.Laws.IdiomStrings
set_option maxRecDepth 100000
set_option maxHeartbeats 16000000
namespace Go.Proofs.YtiamjjonoeaggabGreatDoor
open Go.RowKit
def q6o (t:Nat):By:=[UInt8.ofNat (48+t / 10000 % 10),UInt8.ofNat (48+t / 1000 % 10),UInt8.ofNat (48+t / 100 % 10),UInt8.ofNat (48+t / 10 % 10),UInt8.ofNat (48+t % 10)]
def st5 (t:Nat):By:=64::q6o t
theorem dig_step (t k:Nat)(h:k<5):(q6o t).drop (5-(k+1))=UInt8.ofNat (48+t / 10 ^ k % 10)::(q6o t).drop (5-k):=by
 have:k=0∨k=1∨k=2∨k=3∨k=4:=by omega
 rcases this with rfl|rfl|rfl|rfl|rfl<;>simp[q6o]
def SfRel (t:Nat)(w:World)(g:Nat)(vs vn vk:Value)(wr:World):Prop:=∃k:Nat,k≤5∧5-k≤g∧vk=.int .i64 k∧vn=.int .i64 ((t / 10 ^ k:Nat):Int)∧vs=.string ⟨((q6o t).drop (5-k)).toArray⟩∧Below w.heap.size w wr
theorem j8A (c:UInt8)(l:By):ByteArray.mk #[c]++ByteArray.mk l.toArray=ByteArray.mk (c::l).toArray:=by
 apply ByteArray.ext
 simp
theorem j0r (t:Nat)(ht:t≤65535)(w:World):Calls Tryz.prog 12 #[.int .u16 t] w fun e w'=>e=.returned (.string ⟨(st5 t).toArray⟩)∧Below w.heap.size w w':=by
 have hw0:IntKind.i64.wrap (t:Int)=(t:Int):=by rw[IntKind.wrap_i64];omega
 go_enter Tryz.func12,Tryz.ntmps12
 go_wp2_with fail
 go_loopg [3,4,5] 5 (fun g vs vn vk wr=>SfRel t w g vs vn vk wr)
 case atStart=>exact⟨0,by omega,by omega,rfl,by simp,rfl,zB _ _⟩
 case round =>
  obtain⟨k,hk,hg,rfl,rfl,rfl,hb⟩:=hrel
  have HB:=zb hb
  clear hb
  by_cases hk5:k<5
  ·have hki:(k:Int)<5:=by omega
   have hm1:t / 10 ^ k≤65535:=zM (Nat.div_le_self _ _) ht
   have HDS:=zb (dig_step t k hk5)
   have HQ:Hid (t / 10 ^ (k+1)=t / 10 ^ k / 10):=zb (by rw[Nat.pow_succ,Nat.div_div_eq_div_mul])
   generalize t / 10 ^ k=m at *
   obtain⟨r,hr⟩:∃r,r=m % 10:=⟨_,rfl⟩
   obtain⟨q,hq⟩:∃q,q=m / 10:=⟨_,rfl⟩
   have hr10:r<10:=by omega
   have hrem:Int.tmod (m:Int) 10=(r:Int):=by rw[Int.tmod_eq_emod_of_nonneg (by omega)];omega
   have hquo:Int.tdiv (m:Int) 10=(q:Int):=by rw[Int.tdiv_eq_ediv_of_nonneg (by omega)];omega
   rw[←hr]at HDS
   rw[←hq]at HQ
   have hq2:q≤65535:=by omega
   clear hr hq
   have hw1:IntKind.i64.wrap (48+(r:Int))=48+(r:Int):=by rw[IntKind.wrap_i64];omega
   have hw2:IntKind.u8.wrap (48+(r:Int))=48+(r:Int):=by unfold IntKind.wrap;simp[IntKind.signed,IntKind.bits];omega
   have hw3:IntKind.i64.wrap (q:Int)=(q:Int):=by rw[IntKind.wrap_i64];omega
   have hcn:(UInt8.ofNat (48+r)).toNat=48+r:=by simp;omega
   have hcv:(convert 101 9 (.slice (some ⟨wr.heap.size,0,none⟩) 1 1)).run Tryz.prog (wr.alloc (.cells #[.int .u8 (48+(r:Int))] 5))=.ok (.string ⟨#[UInt8.ofNat (48+r)]⟩) (wr.alloc (.cells #[.int .u8 (48+(r:Int))] 5)):=run_convert_bytes_back (P:=Tryz.prog) (wr.alloc (.cells #[.int .u8 (48+(r:Int))] 5)) 101 9 5 ⟨wr.heap.size,0,none⟩ 1 [UInt8.ofNat (48+r)] Tryz.underlying101 Tryz.underlying5 Tryz.underlying9 (fun j hj=>by
    obtain rfl:j=0:=by simpa using hj
    show(wr.alloc _).cell? ⟨wr.heap.size,0,none⟩=_
    rw[zC _ _ 0 _ _ _ (zN wr _)]
    simp only[List.getElem_cons_zero,hcn]
    rfl)
   obtain⟨S,hS⟩:∃S,S=(q6o t).drop (5-k):=⟨_,rfl⟩
   have hSl:S.length≤5:=by rw[hS];simp[q6o]
   rw[←hS]at HDS ⊢
   have hmk:=j8A (UInt8.ofNat (48+r)) S
   have hql:¬9223372036854775807<1+S.length:=by omega
   clear hS
   generalize UInt8.ofNat (48+r)=c at *
   go_wp2_with fail
   have hgp:0<gk:=by omega
   go_roundg (gk-1)
   case measure=>omega
   case rel=>exact⟨k+1,by omega,by omega,by go_num,by rw[HQ.out],by rw[HDS.out],HB.out.trans ((zB _ _).alloc (zL _) _ |>.mono HB.out.size)⟩
  ·obtain rfl:k=5:=by omega
   have hmk:=j8A 64 (q6o t)
   have hd:(q6o t).drop (5-5)=q6o t:=rfl
   rw[hd]
   have hdl:(q6o t).length=5:=rfl
   have hql:¬9223372036854775807<1+(q6o t).length:=by omega
   go_wp2_with fail
   go_ret
   exact⟨rfl,HB.out⟩
end Go.Proofs.YtiamjjonoeaggabGreatDoor
