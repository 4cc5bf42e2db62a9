import Derived.Test.YtiamjjonoeaggabGreatDoorGA
import Derived.Test.YtiamjjonoeaggabGreatDoorG04
import Derived.Lib.SmallJoins
set_option maxRecDepth 100000
set_option maxHeartbeats 16000000
namespace Go.Proofs.YtiamjjonoeaggabGreatDoor
open Go.RowKit
def digT (x:Nat):By:=[UInt8.ofNat (48+x)]
theorem ten_nat {x:Nat}(h:x<10):x=0∨x=1∨x=2∨x=3∨x=4∨x=5∨x=6∨x=7∨x=8∨x=9:=by omega
theorem j7y (x:Nat)(hx:x<10)(w:World):Calls Tryz.prog 98 #[.int .i64 x] w fun e w'=>e=.returned (bs (digT x))∧w'=w:=by
 rcases ten_nat hx with rfl|rfl|rfl|rfl|rfl|rfl|rfl|rfl|rfl|rfl <;>
 ·go_enter Tryz.func98,Tryz.ntmps98
  go_wp2
  go_ret
  exact⟨by rfl,rfl⟩
theorem j1j (x:Nat)(hx:x<10)(w:World):Calls Tryz.prog 66 #[.int .i64 x,.int .i64 10] w fun e w'=>e=.returned (bs (digT x))∧w'=w:=by
 have H:=zb (j7y x hx)
 go_enter Tryz.func66,Tryz.ntmps66
 go_wp2_with fail
 refine(H.out _).mono ?_
 rintro e w1 ⟨rfl,rfl⟩
 go_wp2_with fail
 go_ret
 exact⟨rfl,rfl⟩
theorem j4q (x:Nat)(hx:x<10)(w:World):Calls Tryz.prog 30 #[.int .i64 x] w fun e w'=>e=.returned (bs (digT x))∧w'=w:=by
 have H:=zb (j1j x hx)
 have h2:Calls Tryz.prog 47 #[.int .i64 x] w fun e w'=>e=.returned (bs (digT x))∧w'=w:=by
  go_enter Tryz.func47,Tryz.ntmps47
  go_wp2_with fail
  refine(H.out _).mono ?_
  rintro e w1 ⟨rfl,rfl⟩
  go_wp2_with fail
  go_ret
  exact⟨rfl,rfl⟩
 have H2:=zb h2
 clear h2 H
 go_enter Tryz.func30,Tryz.ntmps30
 go_wp2_with fail
 refine H2.out.mono ?_
 rintro e w1 ⟨rfl,rfl⟩
 go_wp2_with fail
 go_ret
 exact⟨rfl,rfl⟩
theorem j5c (a c:By):ByteArray.mk a.toArray++ByteArray.mk c.toArray=ByteArray.mk (a++c).toArray:=by
 apply ByteArray.ext
 rw[ByteArray.data_append]
 simp
def q9J (a:By)(x y:Nat):By:=if a==[120]then digT x else if a==[121]then digT y else a
def q5p (u:List Tok)(x y k:Nat):By:=hd u++((u.take k).drop 1).flatMap fun t=>q9J t.text x y
theorem j7w {u:List Tok}{x y k:Nat}(h1:1≤k)(h:k<u.length):q5p u x y (k+1)=q5p u x y k++q9J (u[k]).text x y:=by
 unfold q5p
 rw[List.take_succ_eq_append_getElem h,List.drop_append_of_le_length (by simp;omega),List.flatMap_append,List.append_assoc]
 simp
theorem j5r (v:Value)(u:List Tok)(x y:Nat)(hx:x<10)(hy:y<10)(hsh:∀k,(q5p u x y k).length≤100)(w:World)(h:qB w v u) :
  Calls Tryz.prog 178 #[v,.agg #[.int .i64 x,.int .i64 y]] w fun e w'=>e=.returned (bs (q5p u x y u.length))∧Below w.heap.size w w':=by
 obtain⟨b,o,cap,rfl,h1,h2,h3,h4,h5,h6⟩:=qe h
 have HX:=zb (j4q x hx)
 have HY:=zb (j4q y hy)
 unfold maxLen at h2
 have q0:=h6 0 h4
 rw[j5T h4]at q0
 obtain⟨c0,_⟩:=q0
 have HCELL:=zb h6
 have H1:Hid (q5p u x y 1=hd u):=zb (by unfold q5p;cases u<;>simp)
 have HSH:=zb hsh
 have HSU:=zb (fun k a b=>@j7w u x y k a b)
 clear h h6 hsh
 rw[show o+0*2=o by omega]at c0
 go_enter Tryz.func178,Tryz.ntmps178
 go_wp2_with fail
 go_loop [5,6] (fun vs vi=>∃k:Nat,1≤k∧k≤u.length∧vi=.int .i64 k∧vs=bs (q5p u x y k)) (fun _ vi=>u.length-(intOf vi).toNat)
 case atStart=>exact⟨1,zL _,h4,rfl,by rw[H1.out]⟩
 case round =>
  obtain⟨k,hk1,hk,rfl,rfl⟩:=hrel
  by_cases hkn:k<u.length
  ·have hc1:=(HCELL.out k hkn).1
   have HN:=zb (HSU.out k hk1 hkn)
   have hs1:=HSH.out k
   have hs2:=HSH.out (k+1)
   obtain⟨R,hRk⟩:∃R,R=q5p u x y (k+1):=⟨_,rfl⟩
   rw[←hRk]at HN hs2
   have HRK:=zb hRk
   clear hRk
   generalize q5p u x y k=S at *
   generalize (u[k]).text=t at *
   have hdx:(digT x).length≤1:=zL _
   have hdy:(digT y).length≤1:=zL _
   by_cases ex:t=[120]
   ·subst ex
    have HR:Hid (R=S++digT x):=zb (by rw[HN.out];rfl)
    clear HN
    go_wp2_with fail
    refine(HX.out _).mono ?_
    rintro e w1 ⟨rfl,rfl⟩
    go_wp2_with fail
    go_round
    case rel=>exact⟨k+1,by omega,by omega,by go_num,by rw[←HRK.out,HR.out,j5c]⟩
    case measure=>simp[intOf];omega
   ·have ex':(t==[120])=false:=by simpa using ex
    by_cases ey:t=[121]
    ·subst ey
     have HR:Hid (R=S++digT y):=zb (by rw[HN.out];rfl)
     clear HN
     go_wp2_with fail
     refine(HY.out _).mono ?_
     rintro e w1 ⟨rfl,rfl⟩
     go_wp2_with fail
     go_round
     case rel=>exact⟨k+1,by omega,by omega,by go_num,by rw[←HRK.out,HR.out,j5c]⟩
     case measure=>simp[intOf];omega
    ·have ey':(t==[121])=false:=by simpa using ey
     have HR:Hid (R=S++t):=zb (by rw[HN.out];unfold q9J;rw[ex',ey'];rfl)
     have hlt:t.length≤100:=by rw[HR.out,List.length_append]at hs2;omega
     clear HN
     go_wp2_with fail
     go_round
     case rel=>exact⟨k+1,by omega,by omega,by go_num,by rw[←HRK.out,HR.out,j5c]⟩
     case measure=>simp[intOf];omega
  ·have hke:k=u.length:=by omega
   subst hke
   go_wp2_with fail
   go_ret
   exact⟨rfl,Joins.below_alloc2 _ _ _⟩
end Go.Proofs.YtiamjjonoeaggabGreatDoor
