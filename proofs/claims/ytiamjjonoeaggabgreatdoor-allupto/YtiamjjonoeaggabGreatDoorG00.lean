import Derived.Test.YtiamjjonoeaggabGreatDoorGA
import Derived.Test.YtiamjjonoeaggabGreatDoorProg
import Derived.WalkKit
import Derived.WalkSpells
import Derived.WalkLawsBesides
import Derived.Below
import Derived.Lib.ConvBytes
import Derived.Lib.SmallJoins
set_option maxRecDepth 100000
set_option maxHeartbeats 16000000
namespace Go.Proofs.YtiamjjonoeaggabGreatDoor
open Go.RowKit
theorem zb {p:Prop}(h:p):Hid p:=h
theorem zo {W w1:World}{n:Nat}(hb:Below n W w1):(∀b o,b<n→w1.cell? ⟨b,o,none⟩=W.cell? ⟨b,o,none⟩):=
 fun b o h=>hb.cell (p:=⟨b,o,none⟩) h
theorem qm {a b:Bool}(h:a=b):Ending.returned (.bool a)=.returned (.bool b):=by rw[h]
theorem q1l {k:IntKind}{a b:Int}(h:a=b):Ending.returned (.int k a)=.returned (.int k b):=by rw[h]
theorem q5Y {P:Program}{f:FuncId}{xs:Array Value}{w:World}{v v':Value}{R:World→Prop}(h:Calls P f xs w fun e w'=>e=.returned v∧R w')(hv:v=v'):Calls P f xs w fun e w'=>e=.returned v'∧R w':=hv ▸ h
abbrev bs (l:By):Value:=.string (ByteArray.mk l.toArray)
def qp (n:Int):Bool:=decide (48≤n)&&decide (n≤57)
def q0e (n:Int):Bool:=decide (97≤n)&&decide (n≤122)
theorem q2q (n:Int)(w:World) :
  Calls Tryz.prog 113 #[.int .u8 n] w fun e w'=>e=.returned (.bool (qp n))∧w'=w:=by
 unfold qp
 go_enter Tryz.func113,Tryz.ntmps113
 go_wp2
 all_goals
  go_ret
  exact⟨by simp[*];try omega,rfl⟩
theorem q2E (n:Int)(w:World) :
  Calls Tryz.prog 114 #[.int .u8 n] w fun e w'=>e=.returned (.bool (q0e n))∧w'=w:=by
 unfold q0e
 go_enter Tryz.func114,Tryz.ntmps114
 go_wp2
 all_goals
  go_ret
  exact⟨by simp[*];try omega,rfl⟩
def q1f (w:World)(v:Value)(l:List (By)):Prop:=
 (v=.slice none 0 0∧l=[])∨∃b o cap,v=.slice (some ⟨b,o,none⟩) l.length cap∧l.length≤cap∧cap≤maxLen∧b<w.heap.size∧∀i,i<l.length→w.cell? ⟨b,o+i,none⟩=some (bs (l.getD i []))
def inB (t:By)(l:List (By)):Bool:=l.any fun x=>x==t
theorem inB_take (t:By)(l:List (By))(k:Nat)(h:k<l.length):inB t (l.take (k+1))=(inB t (l.take k) || l.getD k []==t):=by
 unfold inB
 rw[List.take_succ_eq_append_getElem h,List.any_append]
 simp[List.getD,h]
theorem q7m (t:By)(v:Value)(l:List (By))(w:World)(h:q1f w v l) :
  Calls Tryz.prog 112 #[bs t,v] w fun e w'=>e=.returned (.bool (inB t l))∧w'=w:=by
 rcases h with⟨rfl,rfl⟩|⟨b,o,cap,rfl,hlc,hcap,hb,hc⟩
 ·go_enter Tryz.func112,Tryz.ntmps112
  go_wp2
  go_loop [5] (fun i=>i=.int .i64 0) (fun _=>0)
  case atStart=>rfl
  case round =>
   subst hrel
   go_wp2
   go_ret
   exact⟨rfl,rfl⟩
 ·unfold maxLen at hcap
  go_enter Tryz.func112,Tryz.ntmps112
  go_wp2
  go_loop [5] (fun i=>∃k:Nat,k≤l.length∧i=.int .i64 k∧inB t (l.take k)=false) (fun i=>l.length-(intOf i).toNat)
  case atStart=>exact⟨0,zZ _,rfl,rfl⟩
  case round =>
   obtain⟨k,hk,rfl,hf⟩:=hrel
   have HF:=zb hf
   clear hf
   by_cases hlt:k<l.length
   ·have hck:=hc k hlt
    go_wp2
    ·have he:(l[k]==t)=true:=by assumption
     have hin:inB t l=true:=by
      unfold inB
      rw[List.any_eq_true]
      exact⟨l[k],List.getElem_mem hlt,he⟩
     go_ret
     exact⟨qm hin.symm,rfl⟩
    ·have he:(l[k]==t)=false:=by assumption
     go_round
     case rel=>exact⟨k+1,by omega,by go_num,by rw[inB_take t l k hlt,HF.out];simp[List.getD,hlt,he]⟩
     case measure=>simp[intOf];omega
   ·have e:l.take k=l:=List.take_of_length_le (by omega)
    have HF2:Hid (inB t l=false):=by have:=HF.out;rw[e]at this;exact this
    clear e HF
    go_wp2
    go_ret
    exact⟨qm HF2.out.symm,rfl⟩
theorem qx (w:World)(l:List (By))(T:TypeId)(hl:l.length≤1000000):q1f (w.alloc (.cells (l.map bs).toArray T)) (.slice (some ⟨w.heap.size,0,none⟩) l.length l.length) l:=by
 refine .inr ⟨w.heap.size,0,l.length,rfl,zL _,by unfold maxLen;omega,by simp,fun i hi=>?_⟩
 rw[Nat.zero_add]
 simp[hi]
theorem q1f.below {w w':World}{v:Value}{l:List (By)}(h:q1f w v l)(hb:Below w.heap.size w w'):q1f w' v l:=by
 rcases h with h|⟨b,o,cap,rfl,hlc,hcap,hlt,hc⟩
 ·exact .inl h
 ·exact .inr ⟨b,o,cap,rfl,hlc,hcap,zT hlt hb.size,fun i hi=>by rw[zo hb b (o+i) hlt];exact hc i hi⟩
def w15:List (By):=[[120],[121],[116,114,117,101],[97,110,100],[98,117,116],[111,114],[101,120,105,115,116,115],[112,114,101,118],[110,101,120,116],[111,110,99,101],[115,111,111,110],[115,105,110,99,101],[117,110,115,105,110,99,101],[117,110,116,105,108],[117,110,117,110,116,105,108]]
def j0Y:List (By):=[[112,114,101,118],[110,101,120,116],[111,110,99,101],[115,111,111,110]]
def q9l:List (By):=[[115,105,110,99,101],[117,110,115,105,110,99,101],[117,110,116,105,108],[117,110,117,110,116,105,108]]
def q4P:List (By):=[[97,110,100],[98,117,116],[111,114]]
def q8k:List (By):=[[110,101,120,116],[115,111,111,110],[117,110,116,105,108],[117,110,117,110,116,105,108]]
def q1m:List (By):=[[40],[41],[44],[91],[93],[42]]
def zv (t:By):Bool:=match t with
 | []=>false
 |c::_=>q0e (c.toNat:Int)&&!inB t w15
def q0Q (t:By):Bool:=inB t j0Y
def q0J (t:By):Bool:=inB t q9l
def q0o (t:By):Bool:=inB t q4P
theorem in_w4one (t:By)(w:World) :
  Calls Tryz.prog 112 #[bs t,.slice (some ⟨w.heap.size,0,none⟩) 4 4] (w.alloc (.cells #[bs [112,114,101,118],bs [110,101,120,116],bs [111,110,99,101],bs [115,111,111,110]] 9)) fun e w'=>e=.returned (.bool (inB t j0Y))∧w'=w.alloc (.cells #[bs [112,114,101,118],bs [110,101,120,116],bs [111,110,99,101],bs [115,111,111,110]] 9):=
 q7m t _ j0Y _ (qx w j0Y 9 (by decide))
theorem q8I (t:By)(w:World) :
  Calls Tryz.prog 108 #[bs t] w fun e w'=>e=.returned (.bool (q0Q t))∧Below w.heap.size w w':=by
 go_enter Tryz.func108,Tryz.ntmps108
 go_wp2_with fail
 refine(in_w4one t _).mono ?_
 rintro e w1 ⟨rfl,rfl⟩
 go_wp2
 go_ret
 exact⟨rfl,(zB _ _).alloc (zL _) _⟩
theorem in_w4two (t:By)(w:World) :
  Calls Tryz.prog 112 #[bs t,.slice (some ⟨w.heap.size,0,none⟩) 4 4] (w.alloc (.cells #[bs [115,105,110,99,101],bs [117,110,115,105,110,99,101],bs [117,110,116,105,108],bs [117,110,117,110,116,105,108]] 9)) fun e w'=>e=.returned (.bool (inB t q9l))∧w'=w.alloc (.cells #[bs [115,105,110,99,101],bs [117,110,115,105,110,99,101],bs [117,110,116,105,108],bs [117,110,117,110,116,105,108]] 9):=
 q7m t _ q9l _ (qx w q9l 9 (by decide))
theorem q8J (t:By)(w:World) :
  Calls Tryz.prog 110 #[bs t] w fun e w'=>e=.returned (.bool (q0J t))∧Below w.heap.size w w':=by
 go_enter Tryz.func110,Tryz.ntmps110
 go_wp2_with fail
 refine(in_w4two t _).mono ?_
 rintro e w1 ⟨rfl,rfl⟩
 go_wp2
 go_ret
 exact⟨rfl,(zB _ _).alloc (zL _) _⟩
theorem j4T (t:By)(w:World) :
  Calls Tryz.prog 112 #[bs t,.slice (some ⟨w.heap.size,0,none⟩) 3 3] (w.alloc (.cells #[bs [97,110,100],bs [98,117,116],bs [111,114]] 9)) fun e w'=>e=.returned (.bool (inB t q4P))∧w'=w.alloc (.cells #[bs [97,110,100],bs [98,117,116],bs [111,114]] 9):=
 q7m t _ q4P _ (qx w q4P 9 (by decide))
theorem q9i (t:By)(w:World) :
  Calls Tryz.prog 143 #[bs t] w fun e w'=>e=.returned (.bool (q0o t))∧Below w.heap.size w w':=by
 go_enter Tryz.func143,Tryz.ntmps143
 go_wp2_with fail
 refine(j4T t _).mono ?_
 rintro e w1 ⟨rfl,rfl⟩
 go_wp2
 go_ret
 exact⟨rfl,(zB _ _).alloc (zL _) _⟩
theorem in_w15 (t:By)(w:World) :
  Calls Tryz.prog 112 #[bs t,.slice (some ⟨w.heap.size,0,none⟩) 15 15] (w.alloc (.cells #[bs [120],bs [121],bs [116,114,117,101],bs [97,110,100],bs [98,117,116],bs [111,114],bs [101,120,105,115,116,115],bs [112,114,101,118],bs [110,101,120,116],bs [111,110,99,101],bs [115,111,111,110],bs [115,105,110,99,101],bs [117,110,115,105,110,99,101],bs [117,110,116,105,108],bs [117,110,117,110,116,105,108]] 9)) fun e w'=>e=.returned (.bool (inB t w15))∧w'=w.alloc (.cells #[bs [120],bs [121],bs [116,114,117,101],bs [97,110,100],bs [98,117,116],bs [111,114],bs [101,120,105,115,116,115],bs [112,114,101,118],bs [110,101,120,116],bs [111,110,99,101],bs [115,111,111,110],bs [115,105,110,99,101],bs [117,110,115,105,110,99,101],bs [117,110,116,105,108],bs [117,110,117,110,116,105,108]] 9):=
 q7m t _ w15 _ (qx w w15 9 (by decide))
theorem q5L (t:By)(w:World) :
  Calls Tryz.prog 142 #[bs t] w fun e w'=>e=.returned (.bool (zv t))∧Below w.heap.size w w':=by
 cases t with
 |nil =>
  go_enter Tryz.func142,Tryz.ntmps142
  go_wp2_with fail
  go_ret
  exact⟨rfl,zB _ _⟩
 |cons c r =>
  go_enter Tryz.func142,Tryz.ntmps142
  go_wp2_with fail
  cases hl:q0e (c.toNat:Int)with
  |false =>
   refine(q5Y (q2E _ _) (congrArg Value.bool hl)).mono ?_
   rintro e w1 ⟨rfl,rfl⟩
   have Hl:=zb hl
   clear hl
   go_wp2_with fail
   go_ret
   exact⟨qm (by unfold zv;simp[Hl.out]),zB _ _⟩
  |true =>
   refine(q5Y (q2E _ _) (congrArg Value.bool hl)).mono ?_
   rintro e w1 ⟨rfl,rfl⟩
   have Hl:=zb hl
   clear hl
   go_wp2_with fail
   refine(in_w15 _ _).mono ?_
   rintro e w1 ⟨rfl,rfl⟩
   go_wp2_with fail
   go_ret
   exact⟨qm (by unfold zv;simp[Hl.out]),(zB _ _).alloc (zL _) _⟩
def q7Y (a b:Int):Bool:=(qp a&&qp b) || (q0e a&&q0e b)
theorem ref_row (a b:Int)(w:World) :
  Calls Tryz.prog 141 #[.int .u8 a,.int .u8 b] w fun e w'=>e=.returned (.bool (q7Y a b))∧w'=w:=by
 unfold q7Y
 have D1:=q2q a
 have D2:=q2q b
 have L1:=q2E a
 have L2:=q2E b
 generalize qp a=d1 at *
 generalize qp b=d2 at *
 generalize q0e a=l1 at *
 generalize q0e b=l2 at *
 cases d1<;>cases l1
 ·go_enter Tryz.func141,Tryz.ntmps141
  go_wp2_with fail
  refine(D1 _).mono ?_
  rintro e w1 ⟨rfl,rfl⟩
  go_wp2_with fail
  refine(L1 _).mono ?_
  rintro e w1 ⟨rfl,rfl⟩
  go_wp2_with fail
  go_ret
  exact⟨rfl,rfl⟩
 ·go_enter Tryz.func141,Tryz.ntmps141
  go_wp2_with fail
  refine(D1 _).mono ?_
  rintro e w1 ⟨rfl,rfl⟩
  go_wp2_with fail
  refine(L1 _).mono ?_
  rintro e w1 ⟨rfl,rfl⟩
  go_wp2_with fail
  refine(L2 _).mono ?_
  rintro e w1 ⟨rfl,rfl⟩
  go_wp2_with fail
  go_ret
  exact⟨rfl,rfl⟩
 ·go_enter Tryz.func141,Tryz.ntmps141
  go_wp2_with fail
  refine(D1 _).mono ?_
  rintro e w1 ⟨rfl,rfl⟩
  go_wp2_with fail
  refine(D2 _).mono ?_
  rintro e w1 ⟨rfl,rfl⟩
  go_wp2_with fail
  refine(L1 _).mono ?_
  rintro e w1 ⟨rfl,rfl⟩
  cases d2
  all_goals
   go_wp2_with fail
   go_ret
   exact⟨rfl,rfl⟩
 ·go_enter Tryz.func141,Tryz.ntmps141
  go_wp2_with fail
  refine(D1 _).mono ?_
  rintro e w1 ⟨rfl,rfl⟩
  go_wp2_with fail
  refine(D2 _).mono ?_
  rintro e w1 ⟨rfl,rfl⟩
  go_wp2_with fail
  refine(L1 _).mono ?_
  rintro e w1 ⟨rfl,rfl⟩
  go_wp2_with fail
  refine(L2 _).mono ?_
  rintro e w1 ⟨rfl,rfl⟩
  cases d2
  all_goals
   go_wp2_with fail
   go_ret
   exact⟨rfl,rfl⟩
theorem itoa_0 (w:World) :
  Calls Tryz.prog 30 #[.int .i64 0] w fun e w'=>e=.returned (bs [48])∧w'=w:=by
 go_enter Tryz.func30,Tryz.ntmps30
 go_wp2
 go_ret
 exact⟨by kernel_rfl,rfl⟩
theorem itoa_1 (w:World) :
  Calls Tryz.prog 30 #[.int .i64 1] w fun e w'=>e=.returned (bs [49])∧w'=w:=by
 go_enter Tryz.func30,Tryz.ntmps30
 go_wp2
 go_ret
 exact⟨by kernel_rfl,rfl⟩
theorem itoa_2 (w:World) :
  Calls Tryz.prog 30 #[.int .i64 2] w fun e w'=>e=.returned (bs [50])∧w'=w:=by
 go_enter Tryz.func30,Tryz.ntmps30
 go_wp2
 go_ret
 exact⟨by kernel_rfl,rfl⟩
theorem itoa_3 (w:World) :
  Calls Tryz.prog 30 #[.int .i64 3] w fun e w'=>e=.returned (bs [51])∧w'=w:=by
 go_enter Tryz.func30,Tryz.ntmps30
 go_wp2
 go_ret
 exact⟨by kernel_rfl,rfl⟩
theorem itoa_4 (w:World) :
  Calls Tryz.prog 30 #[.int .i64 4] w fun e w'=>e=.returned (bs [52])∧w'=w:=by
 go_enter Tryz.func30,Tryz.ntmps30
 go_wp2
 go_ret
 exact⟨by kernel_rfl,rfl⟩
theorem itoa_5 (w:World) :
  Calls Tryz.prog 30 #[.int .i64 5] w fun e w'=>e=.returned (bs [53])∧w'=w:=by
 go_enter Tryz.func30,Tryz.ntmps30
 go_wp2
 go_ret
 exact⟨by kernel_rfl,rfl⟩
theorem itoa_6 (w:World) :
  Calls Tryz.prog 30 #[.int .i64 6] w fun e w'=>e=.returned (bs [54])∧w'=w:=by
 go_enter Tryz.func30,Tryz.ntmps30
 go_wp2
 go_ret
 exact⟨by kernel_rfl,rfl⟩
theorem itoa_7 (w:World) :
  Calls Tryz.prog 30 #[.int .i64 7] w fun e w'=>e=.returned (bs [55])∧w'=w:=by
 go_enter Tryz.func30,Tryz.ntmps30
 go_wp2
 go_ret
 exact⟨by kernel_rfl,rfl⟩
theorem itoa_8 (w:World) :
  Calls Tryz.prog 30 #[.int .i64 8] w fun e w'=>e=.returned (bs [56])∧w'=w:=by
 go_enter Tryz.func30,Tryz.ntmps30
 go_wp2
 go_ret
 exact⟨by kernel_rfl,rfl⟩
theorem itoa_9 (w:World) :
  Calls Tryz.prog 30 #[.int .i64 9] w fun e w'=>e=.returned (bs [57])∧w'=w:=by
 go_enter Tryz.func30,Tryz.ntmps30
 go_wp2
 go_ret
 exact⟨by kernel_rfl,rfl⟩
theorem itoa_any (n:Nat)(h:n<10)(w:World) :
  Calls Tryz.prog 30 #[.int .i64 n] w fun e w'=>e=.returned (bs [UInt8.ofNat (48+n)])∧w'=w:=by
 rcases(by omega:n=0∨n=1∨n=2∨n=3∨n=4∨n=5∨n=6∨n=7∨n=8∨n=9)with rfl|rfl|rfl|rfl|rfl|rfl|rfl|rfl|rfl|rfl
 ·exact itoa_0 w
 ·exact itoa_1 w
 ·exact itoa_2 w
 ·exact itoa_3 w
 ·exact itoa_4 w
 ·exact itoa_5 w
 ·exact itoa_6 w
 ·exact itoa_7 w
 ·exact itoa_8 w
 ·exact itoa_9 w
def q0n (l:By):Nat:=l.foldl (fun n c=>10*n+(c.toNat-48)) 0
theorem q6B (l:By)(k:Nat)(h:k<l.length):q0n (l.take (k+1))=10*q0n (l.take k)+((l[k]).toNat-48):=by
 unfold q0n
 rw[List.take_succ_eq_append_getElem h,List.foldl_append]
 rfl
def q1H (l:By):Bool:=l.all fun c=>qp (c.toNat:Int)
theorem q6x {l:By}(h:q1H l=true)(i:Nat)(hi:i<l.length):48≤(l[i]).toNat∧(l[i]).toNat≤57:=by
 unfold q1H at h
 rw[List.all_eq_true]at h
 have:=h _ (List.getElem_mem hi)
 simp[qp]at this
 omega
theorem q7O {l:By}(h:q1H l=true):∀k,k≤l.length→q0n (l.take k)<10 ^ k:=by
 intro k
 induction k with
 |zero=>intro _;simp[q0n]
 |succ k ih =>
  intro hk
  have h1:=ih (by omega)
  have h2:=q6x h k (by omega)
  rw[q6B l k (by omega),Nat.pow_succ]
  omega
theorem q9K (w:World)(l:By)(j:Nat)(hj:j<l.length) :
  (Lib.bytesWorld w 5 (ByteArray.mk l.toArray)).cell? ⟨w.heap.size,j,none⟩=some (.int .u8 (l[j]).toNat):=by
 rw[Lib.bytesWorld_cell _ _ _ _ (by exact hj)]
 simp[List.getD,hj]
theorem j6H (l:By)(h1:0<l.length)(h2:l.length≤3)(hd:q1H l=true)(w:World) :
  Calls Tryz.prog 146 #[bs l] w fun e w'=>e=.returned (.tuple #[.int .i64 (q0n l),.nilIface])∧Below w.heap.size w w':=by
 have hd0:=q6x hd 0 h1
 have e0:((ByteArray.mk l.toArray)[0]'(by exact h1))=l[0]:=rfl
 have h45:((((ByteArray.mk l.toArray)[0]'(by exact h1)).toNat:Int)==45)=false:=beq_eq_false_iff_ne.2 (by rw[e0];omega)
 have h43:((((ByteArray.mk l.toArray)[0]'(by exact h1)).toNat:Int)==43)=false:=beq_eq_false_iff_ne.2 (by rw[e0];omega)
 have hcv:=Lib.run_convert_string_bytes (P:=Tryz.prog) w 9 101 5 (ByteArray.mk l.toArray) (u:=.string) Tryz.underlying9 Tryz.underlying101 Tryz.underlying5
 have hB:=q9K w l
 have hBel:=Joins.below_bytesWorld w.heap.size w 5 (ByteArray.mk l.toArray) (zL _)
 generalize Lib.bytesWorld w 5 (ByteArray.mk l.toArray)=W1 at *
 have HB:=zb hB
 have HD:=zb hd
 clear e0 hB hd
 go_enter Tryz.func146,Tryz.ntmps146
 go_wp2
 go_loop [49,6] (fun vi vn=>∃k:Nat,k≤l.length∧vi=.int .i64 k∧vn=.int .i64 (q0n (l.take k))) (fun vi _=>l.length-(intOf vi).toNat)
 case atStart=>exact⟨0,zZ _,rfl,rfl⟩
 case round =>
  obtain⟨k,hk,rfl,rfl⟩:=hrel
  have hlt9:=q7O HD.out k hk
  have hp:10 ^ k≤1000:=zM (Nat.pow_le_pow_right (by omega) (show k≤3 by omega)) (by decide)
  have hlt:q0n (l.take k)<1000:=by omega
  clear hlt9 hp
  by_cases hkn:k<l.length
  ·have hc1:=HB.out k hkn
   have hg:=q6x HD.out k hkn
   have HN:=zb (q6B l k hkn)
   generalize q0n (l.take k)=m at *
   generalize (l[k]).toNat=c at *
   obtain⟨g1,g2⟩:=hg
   go_wp2
   go_round
   case rel=>exact⟨k+1,by omega,by go_num,by rw[HN.out];first|go_num|(congr 1;omega)⟩
   case measure=>simp[intOf];omega
  ·have hke:k=l.length:=by omega
   subst hke
   rw[List.take_length]
   go_wp2
   go_ret2
   exact⟨rfl,hBel⟩
theorem j3Z (l:By)(h1:0<l.length)(h2:l.length≤3)(hd:q1H l=true)(w:World) :
  Calls Tryz.prog 111 #[bs l] w fun e w'=>e=.returned (.tuple #[.int .i64 (q0n l),.nilIface])∧Below w.heap.size w w':=by
 go_enter Tryz.func111,Tryz.ntmps111
 go_wp2_with fail
 refine(j6H l h1 h2 hd _).mono ?_
 rintro e w1 ⟨rfl,hb⟩
 go_wp2_with fail
 go_ret2
 exact⟨rfl,hb⟩
theorem q4r (l:By)(n:Int)(h1:0<l.length)(h2:l.length≤3)(hd:q1H l=true)(w:World) :
  Calls Tryz.prog 78 #[.agg #[bs l,.int .i64 n]] w fun e w'=>e=.returned (.int .i64 (q0n l))∧Below w.heap.size w w':=by
 go_enter Tryz.func78,Tryz.ntmps78
 go_wp2_with fail
 refine(j3Z l h1 h2 hd _).mono ?_
 rintro e w1 ⟨rfl,hb⟩
 go_wp2_with fail
 go_ret
 exact⟨rfl,((zB _ _).alloc (zL _) _).trans (hb.mono (by simp))⟩
def q1I (d:Nat):By:=[70,UInt8.ofNat (48+d)]
def bodyF (t f:By):List (By):=
 if t==[101,120,105,115,116,115]then [t,[86,65,82],[40],f,[41]]
 else if q0o t then [t,[40],f,[44],f,[41]]
 else if q0Q t then [t,[91],[78,85,77],[44],[69,78,68],[93],[40],f,[41]]
 else [t,[91],[78,85,77],[44],[69,78,68],[93],[40],f,[44],f,[41]]
def q6Q (t:By)(deep:Nat):List (By):=bodyF t (q1I (deep+1))
theorem cat_mk (a b:Array UInt8):ByteArray.mk a++ByteArray.mk b=ByteArray.mk (a++b):=by
 apply ByteArray.ext
 simp
theorem ref_body (t:By)(d:Nat)(hd:d<9)(w:World) :
  Calls Tryz.prog 144 #[bs t,.int .i64 d] w fun e w'=>∃v,e=.returned v∧q1f w' v (q6Q t d)∧Below w.heap.size w w':=by
 have hI:=itoa_any (d+1) (by omega)
 have e1:(((d+1:Nat):Int))=(d:Int)+1:=by omega
 rw[e1]at hI
 unfold q6Q q1I
 generalize UInt8.ofNat (48+(d+1))=c at *
 clear e1
 have hcat:ByteArray.mk #[70]++ByteArray.mk #[c]=ByteArray.mk #[70,c]:=cat_mk _ _
 have P1:=q9i t
 have P2:=q8I t
 unfold bodyF
 generalize q0o t=p1 at *
 generalize q0Q t=p2 at *
 generalize hx:(t==[101,120,105,115,116,115])=ex at *
 cases ex with
 |true =>
  go_enter Tryz.func144,Tryz.ntmps144
  go_wp2_with fail
  refine(hI _).mono ?_
  rintro e w1 ⟨rfl,rfl⟩
  go_wp2_with fail
  go_ret
  exact⟨_,rfl,qx w1 [t,[86,65,82],[40],[70,c],[41]] 9 (by simp),(zB _ _).alloc (zL _) _⟩
 |false =>
  cases p1 with
  |true =>
   go_enter Tryz.func144,Tryz.ntmps144
   go_wp2_with fail
   refine(hI _).mono ?_
   rintro e w1 ⟨rfl,rfl⟩
   go_wp2_with fail
   refine(P1 _).mono ?_
   rintro e w2 ⟨rfl,hb⟩
   go_wp2_with fail
   go_ret
   exact⟨_,rfl,qx w2 [t,[40],[70,c],[44],[70,c],[41]] 9 (by simp),hb.alloc hb.size _⟩
  |false =>
   cases p2 with
   |true =>
    go_enter Tryz.func144,Tryz.ntmps144
    go_wp2_with fail
    refine(hI _).mono ?_
    rintro e w1 ⟨rfl,rfl⟩
    go_wp2_with fail
    refine(P1 _).mono ?_
    rintro e w2 ⟨rfl,hb⟩
    go_wp2_with fail
    refine(P2 _).mono ?_
    rintro e w3 ⟨rfl,hb3⟩
    have hb:=hb.trans (hb3.mono hb.size)
    go_wp2_with fail
    go_ret
    exact⟨_,rfl,qx w3 [t,[91],[78,85,77],[44],[69,78,68],[93],[40],[70,c],[41]] 9 (by simp),hb.alloc hb.size _⟩
   |false =>
    go_enter Tryz.func144,Tryz.ntmps144
    go_wp2_with fail
    refine(hI _).mono ?_
    rintro e w1 ⟨rfl,rfl⟩
    go_wp2_with fail
    refine(P1 _).mono ?_
    rintro e w2 ⟨rfl,hb⟩
    go_wp2_with fail
    refine(P2 _).mono ?_
    rintro e w3 ⟨rfl,hb3⟩
    have hb:=hb.trans (hb3.mono hb.size)
    go_wp2_with fail
    go_ret
    exact⟨_,rfl,qx w3 [t,[91],[78,85,77],[44],[69,78,68],[93],[40],[70,c],[44],[70,c],[41]] 9 (by simp),hb.alloc hb.size _⟩
def q0d (sym t:By):Option (List (By)):=
 if sym==[69,78,68]then some (if t==[42]then [[42]]else [[78,85,77]])
 else if sym==[65,82,71]then some (if t.length==1&&q1H t then [t]else [[86,65,82]])
 else if sym==[77,79,82,69]then some (if t==[44]then [[44],[65,82,71]]else [])
 else match sym with
  | []=>none
  |c::r=>if c==70 then some (if 8<q0n r then [[78,79,78,69]]else if zv t then [[78,65,77,69],[40],[65,82,71],[77,79,82,69],[41]]else if t==[101,120,105,115,116,115] || q0o t || q0Q t || q0J t then q6Q t (q0n r)else [[116,114,117,101]])else none
theorem j2W (t:By)(w:World) :
  Calls Tryz.prog 105 #[bs [69,78,68],bs t] w fun e w'=>∃v,e=.returned (.tuple #[v,.bool true])∧q1f w' v (if t==[42]then [[42]]else [[78,85,77]])∧Below w.heap.size w w':=by
 generalize hx:(t==[42])=ex at *
 cases ex
 all_goals
  go_enter Tryz.func105,Tryz.ntmps105
  go_wp2_with fail
  go_ret2
 ·exact⟨_,rfl,qx w [[78,85,77]] 9 (by simp),(zB _ _).alloc (zL _) _⟩
 ·exact⟨_,rfl,qx w [[42]] 9 (by simp),(zB _ _).alloc (zL _) _⟩
theorem j2c (t:By)(w:World) :
  Calls Tryz.prog 105 #[bs [77,79,82,69],bs t] w fun e w'=>∃v,e=.returned (.tuple #[v,.bool true])∧q1f w' v (if t==[44]then [[44],[65,82,71]]else [])∧Below w.heap.size w w':=by
 generalize hx:(t==[44])=ex at *
 cases ex
 all_goals
  go_enter Tryz.func105,Tryz.ntmps105
  go_wp2_with fail
  go_ret2
 ·exact⟨_,rfl,.inl ⟨rfl,rfl⟩,zB _ _⟩
 ·exact⟨_,rfl,qx w [[44],[65,82,71]] 9 (by simp),(zB _ _).alloc (zL _) _⟩
theorem j2V (t:By)(ht:t.length≤1000)(w:World) :
  Calls Tryz.prog 105 #[bs [65,82,71],bs t] w fun e w'=>∃v,e=.returned (.tuple #[v,.bool true])∧q1f w' v (if t.length==1&&q1H t then [t]else [[86,65,82]])∧Below w.heap.size w w':=by
 match t,ht with
 | [],_ =>
  go_enter Tryz.func105,Tryz.ntmps105
  go_wp2_with fail
  go_ret2
  exact⟨_,rfl,qx w [[86,65,82]] 9 (by simp),(zB _ _).alloc (zL _) _⟩
 | [c],_ =>
  have hD:=q2q (c.toNat:Int)
  have e:(([c]:By).length==1&&q1H [c])=qp (c.toNat:Int):=by simp[q1H]
  rw[e]
  clear e
  generalize hb:qp (c.toNat:Int)=b at *
  have Hb:=zb hb
  clear hb
  cases b
  all_goals
   go_enter Tryz.func105,Tryz.ntmps105
   go_wp2_with fail
   refine(hD _).mono ?_
   rintro e w1 ⟨rfl,rfl⟩
   go_wp2_with fail
   go_ret2
  ·exact⟨_,rfl,qx w1 [[86,65,82]] 9 (by simp),(zB _ _).alloc (zL _) _⟩
  ·exact⟨_,rfl,qx w1 [[c]] 9 (by simp),(zB _ _).alloc (zL _) _⟩
 |c::c'::r,ht =>
  have hD:=q2q (c.toNat:Int)
  have e:((c::c'::r:By).length==1&&q1H (c::c'::r))=false:=by simp
  rw[e]
  clear e
  generalize hb:qp (c.toNat:Int)=b at *
  have Hb:=zb hb
  clear hb
  simp only[List.length_cons]at ht
  cases b
  all_goals
   go_enter Tryz.func105,Tryz.ntmps105
   go_wp2_with fail
   refine(hD _).mono ?_
   rintro e w1 ⟨rfl,rfl⟩
   go_wp2_with fail
   go_ret2
   exact⟨_,rfl,qx w1 [[86,65,82]] 9 (by simp),(zB _ _).alloc (zL _) _⟩
theorem j1b (sym t:By)(h1:(sym==[69,78,68])=false)(h2:(sym==[65,82,71])=false)(h3:(sym==[77,79,82,69])=false)(h4:sym≠[])(h5:sym.head?≠some 70)(w:World) :
  Calls Tryz.prog 105 #[bs sym,bs t] w fun e w'=>e=.returned (.tuple #[.slice none 0 0,.bool false])∧w'=w:=by
 cases sym with
 |nil=>exact absurd rfl h4
 |cons c r =>
  have h6:((c.toNat:Int) != 70)=true:=by
   rw[bne_iff_ne]
   intro e
   apply h5
   have:c=70:=UInt8.toNat_inj.1 (by show c.toNat=70;omega)
   rw[this];rfl
  clear h4 h5
  have e0:((ByteArray.mk (c::r).toArray)[0]'(by exact Nat.succ_pos _))=c:=rfl
  go_enter Tryz.func105,Tryz.ntmps105
  go_wp2_with fail
  go_ret2
  exact⟨rfl,rfl⟩
def j1r (t:By)(d:Nat):List (By):=
 if 8<d then [[78,79,78,69]]else if zv t then [[78,65,77,69],[40],[65,82,71],[77,79,82,69],[41]]else if t==[101,120,105,115,116,115] || q0o t || q0Q t || q0J t then q6Q t d else [[116,114,117,101]]
theorem q0c {w a b:World}(h1:Below w.heap.size w a)(h2:Below a.heap.size a b):Below w.heap.size w b:=h1.trans (h2.mono h1.size)
theorem j2b (t:By)(c:UInt8)(d:Nat)(hd1:1≤d)(hd9:d≤9)(nm ex pl on tw:Bool)
  (A:∀w,Calls Tryz.prog 111 #[.string ((ByteArray.mk #[70,c]).extract 1 2)] w fun e w'=>e=.returned (.tuple #[.int .i64 d,.nilIface])∧Below w.heap.size w w')
  (N:∀w,Calls Tryz.prog 142 #[bs t] w fun e w'=>e=.returned (.bool nm)∧Below w.heap.size w w')
  (X:(t==[101,120,105,115,116,115])=ex)
  (P1:∀w,Calls Tryz.prog 143 #[bs t] w fun e w'=>e=.returned (.bool pl)∧Below w.heap.size w w')
  (P2:∀w,Calls Tryz.prog 108 #[bs t] w fun e w'=>e=.returned (.bool on)∧Below w.heap.size w w')
  (P3:∀w,Calls Tryz.prog 110 #[bs t] w fun e w'=>e=.returned (.bool tw)∧Below w.heap.size w w')
  (B:d≤8→∀w,Calls Tryz.prog 144 #[bs t,.int .i64 d] w fun e w'=>∃v,e=.returned v∧q1f w' v (q6Q t d)∧Below w.heap.size w w')(w:World) :
  Calls Tryz.prog 105 #[bs [70,c],bs t] w fun e w'=>∃v,e=.returned (.tuple #[v,.bool true])∧q1f w' v (if 8<d then [[78,79,78,69]]else if nm then [[78,65,77,69],[40],[65,82,71],[77,79,82,69],[41]]else if ex || pl || on || tw then q6Q t d else [[116,114,117,101]])∧Below w.heap.size w w':=by
 by_cases h8:8<d
 ·rw[if_pos h8]
  cases ex with
  |true =>
   go_enter Tryz.func105,Tryz.ntmps105
   go_wp2_with fail
   refine(A _).mono ?_
   rintro e w1 ⟨rfl,qw1⟩
   go_wp2_with fail
   refine(N _).mono ?_
   rintro e w2 ⟨rfl,qw2⟩
   go_wp2_with fail
   go_ret2
   exact⟨_,rfl,qx w2 [[78,79,78,69]] 9 (by simp),(q0c qw1 qw2).alloc (q0c qw1 qw2).size _⟩
  |false =>
   cases pl with
   |true =>
    go_enter Tryz.func105,Tryz.ntmps105
    go_wp2_with fail
    refine(A _).mono ?_
    rintro e w1 ⟨rfl,qw1⟩
    go_wp2_with fail
    refine(N _).mono ?_
    rintro e w2 ⟨rfl,qw2⟩
    go_wp2_with fail
    refine(P1 _).mono ?_
    rintro e w3 ⟨rfl,qw3⟩
    go_wp2_with fail
    go_ret2
    exact⟨_,rfl,qx w3 [[78,79,78,69]] 9 (by simp),(q0c (q0c qw1 qw2) qw3).alloc (q0c (q0c qw1 qw2) qw3).size _⟩
   |false =>
    cases on with
    |true =>
     go_enter Tryz.func105,Tryz.ntmps105
     go_wp2_with fail
     refine(A _).mono ?_
     rintro e w1 ⟨rfl,qw1⟩
     go_wp2_with fail
     refine(N _).mono ?_
     rintro e w2 ⟨rfl,qw2⟩
     go_wp2_with fail
     refine(P1 _).mono ?_
     rintro e w3 ⟨rfl,qw3⟩
     go_wp2_with fail
     refine(P2 _).mono ?_
     rintro e w4 ⟨rfl,qw4⟩
     go_wp2_with fail
     go_ret2
     exact⟨_,rfl,qx w4 [[78,79,78,69]] 9 (by simp),(q0c (q0c (q0c qw1 qw2) qw3) qw4).alloc (q0c (q0c (q0c qw1 qw2) qw3) qw4).size _⟩
    |false =>
     cases tw with
     |true =>
      go_enter Tryz.func105,Tryz.ntmps105
      go_wp2_with fail
      refine(A _).mono ?_
      rintro e w1 ⟨rfl,qw1⟩
      go_wp2_with fail
      refine(N _).mono ?_
      rintro e w2 ⟨rfl,qw2⟩
      go_wp2_with fail
      refine(P1 _).mono ?_
      rintro e w3 ⟨rfl,qw3⟩
      go_wp2_with fail
      refine(P2 _).mono ?_
      rintro e w4 ⟨rfl,qw4⟩
      go_wp2_with fail
      refine(P3 _).mono ?_
      rintro e w5 ⟨rfl,qw5⟩
      go_wp2_with fail
      go_ret2
      exact⟨_,rfl,qx w5 [[78,79,78,69]] 9 (by simp),(q0c (q0c (q0c (q0c qw1 qw2) qw3) qw4) qw5).alloc (q0c (q0c (q0c (q0c qw1 qw2) qw3) qw4) qw5).size _⟩
     |false =>
      go_enter Tryz.func105,Tryz.ntmps105
      go_wp2_with fail
      refine(A _).mono ?_
      rintro e w1 ⟨rfl,qw1⟩
      go_wp2_with fail
      refine(N _).mono ?_
      rintro e w2 ⟨rfl,qw2⟩
      go_wp2_with fail
      refine(P1 _).mono ?_
      rintro e w3 ⟨rfl,qw3⟩
      go_wp2_with fail
      refine(P2 _).mono ?_
      rintro e w4 ⟨rfl,qw4⟩
      go_wp2_with fail
      refine(P3 _).mono ?_
      rintro e w5 ⟨rfl,qw5⟩
      go_wp2_with fail
      go_ret2
      exact⟨_,rfl,qx w5 [[78,79,78,69]] 9 (by simp),(q0c (q0c (q0c (q0c qw1 qw2) qw3) qw4) qw5).alloc (q0c (q0c (q0c (q0c qw1 qw2) qw3) qw4) qw5).size _⟩
 ·rw[if_neg h8]
  cases nm with
  |true =>
   rw[if_pos rfl]
   cases ex with
   |true =>
    go_enter Tryz.func105,Tryz.ntmps105
    go_wp2_with fail
    refine(A _).mono ?_
    rintro e w1 ⟨rfl,qw1⟩
    go_wp2_with fail
    refine(N _).mono ?_
    rintro e w2 ⟨rfl,qw2⟩
    go_wp2_with fail
    go_ret2
    exact⟨_,rfl,qx w2 [[78,65,77,69],[40],[65,82,71],[77,79,82,69],[41]] 9 (by simp),(q0c qw1 qw2).alloc (q0c qw1 qw2).size _⟩
   |false =>
    cases pl with
    |true =>
     go_enter Tryz.func105,Tryz.ntmps105
     go_wp2_with fail
     refine(A _).mono ?_
     rintro e w1 ⟨rfl,qw1⟩
     go_wp2_with fail
     refine(N _).mono ?_
     rintro e w2 ⟨rfl,qw2⟩
     go_wp2_with fail
     refine(P1 _).mono ?_
     rintro e w3 ⟨rfl,qw3⟩
     go_wp2_with fail
     go_ret2
     exact⟨_,rfl,qx w3 [[78,65,77,69],[40],[65,82,71],[77,79,82,69],[41]] 9 (by simp),(q0c (q0c qw1 qw2) qw3).alloc (q0c (q0c qw1 qw2) qw3).size _⟩
    |false =>
     cases on with
     |true =>
      go_enter Tryz.func105,Tryz.ntmps105
      go_wp2_with fail
      refine(A _).mono ?_
      rintro e w1 ⟨rfl,qw1⟩
      go_wp2_with fail
      refine(N _).mono ?_
      rintro e w2 ⟨rfl,qw2⟩
      go_wp2_with fail
      refine(P1 _).mono ?_
      rintro e w3 ⟨rfl,qw3⟩
      go_wp2_with fail
      refine(P2 _).mono ?_
      rintro e w4 ⟨rfl,qw4⟩
      go_wp2_with fail
      go_ret2
      exact⟨_,rfl,qx w4 [[78,65,77,69],[40],[65,82,71],[77,79,82,69],[41]] 9 (by simp),(q0c (q0c (q0c qw1 qw2) qw3) qw4).alloc (q0c (q0c (q0c qw1 qw2) qw3) qw4).size _⟩
     |false =>
      cases tw with
      |true =>
       go_enter Tryz.func105,Tryz.ntmps105
       go_wp2_with fail
       refine(A _).mono ?_
       rintro e w1 ⟨rfl,qw1⟩
       go_wp2_with fail
       refine(N _).mono ?_
       rintro e w2 ⟨rfl,qw2⟩
       go_wp2_with fail
       refine(P1 _).mono ?_
       rintro e w3 ⟨rfl,qw3⟩
       go_wp2_with fail
       refine(P2 _).mono ?_
       rintro e w4 ⟨rfl,qw4⟩
       go_wp2_with fail
       refine(P3 _).mono ?_
       rintro e w5 ⟨rfl,qw5⟩
       go_wp2_with fail
       go_ret2
       exact⟨_,rfl,qx w5 [[78,65,77,69],[40],[65,82,71],[77,79,82,69],[41]] 9 (by simp),(q0c (q0c (q0c (q0c qw1 qw2) qw3) qw4) qw5).alloc (q0c (q0c (q0c (q0c qw1 qw2) qw3) qw4) qw5).size _⟩
      |false =>
       go_enter Tryz.func105,Tryz.ntmps105
       go_wp2_with fail
       refine(A _).mono ?_
       rintro e w1 ⟨rfl,qw1⟩
       go_wp2_with fail
       refine(N _).mono ?_
       rintro e w2 ⟨rfl,qw2⟩
       go_wp2_with fail
       refine(P1 _).mono ?_
       rintro e w3 ⟨rfl,qw3⟩
       go_wp2_with fail
       refine(P2 _).mono ?_
       rintro e w4 ⟨rfl,qw4⟩
       go_wp2_with fail
       refine(P3 _).mono ?_
       rintro e w5 ⟨rfl,qw5⟩
       go_wp2_with fail
       go_ret2
       exact⟨_,rfl,qx w5 [[78,65,77,69],[40],[65,82,71],[77,79,82,69],[41]] 9 (by simp),(q0c (q0c (q0c (q0c qw1 qw2) qw3) qw4) qw5).alloc (q0c (q0c (q0c (q0c qw1 qw2) qw3) qw4) qw5).size _⟩
  |false =>
   rw[if_neg (by simp)]
   cases ex with
   |true =>
    go_enter Tryz.func105,Tryz.ntmps105
    go_wp2_with fail
    refine(A _).mono ?_
    rintro e w1 ⟨rfl,qw1⟩
    go_wp2_with fail
    refine(N _).mono ?_
    rintro e w2 ⟨rfl,qw2⟩
    go_wp2_with fail
    refine(B (by omega) _).mono ?_
    rintro e wb ⟨v,rfl,hv,qwb⟩
    go_wp2_with fail
    go_ret2
    exact⟨_,rfl,hv,q0c (q0c qw1 qw2) qwb⟩
   |false =>
    cases pl with
    |true =>
     go_enter Tryz.func105,Tryz.ntmps105
     go_wp2_with fail
     refine(A _).mono ?_
     rintro e w1 ⟨rfl,qw1⟩
     go_wp2_with fail
     refine(N _).mono ?_
     rintro e w2 ⟨rfl,qw2⟩
     go_wp2_with fail
     refine(P1 _).mono ?_
     rintro e w3 ⟨rfl,qw3⟩
     go_wp2_with fail
     refine(B (by omega) _).mono ?_
     rintro e wb ⟨v,rfl,hv,qwb⟩
     go_wp2_with fail
     go_ret2
     exact⟨_,rfl,hv,q0c (q0c (q0c qw1 qw2) qw3) qwb⟩
    |false =>
     cases on with
     |true =>
      go_enter Tryz.func105,Tryz.ntmps105
      go_wp2_with fail
      refine(A _).mono ?_
      rintro e w1 ⟨rfl,qw1⟩
      go_wp2_with fail
      refine(N _).mono ?_
      rintro e w2 ⟨rfl,qw2⟩
      go_wp2_with fail
      refine(P1 _).mono ?_
      rintro e w3 ⟨rfl,qw3⟩
      go_wp2_with fail
      refine(P2 _).mono ?_
      rintro e w4 ⟨rfl,qw4⟩
      go_wp2_with fail
      refine(B (by omega) _).mono ?_
      rintro e wb ⟨v,rfl,hv,qwb⟩
      go_wp2_with fail
      go_ret2
      exact⟨_,rfl,hv,q0c (q0c (q0c (q0c qw1 qw2) qw3) qw4) qwb⟩
     |false =>
      cases tw with
      |true =>
       go_enter Tryz.func105,Tryz.ntmps105
       go_wp2_with fail
       refine(A _).mono ?_
       rintro e w1 ⟨rfl,qw1⟩
       go_wp2_with fail
       refine(N _).mono ?_
       rintro e w2 ⟨rfl,qw2⟩
       go_wp2_with fail
       refine(P1 _).mono ?_
       rintro e w3 ⟨rfl,qw3⟩
       go_wp2_with fail
       refine(P2 _).mono ?_
       rintro e w4 ⟨rfl,qw4⟩
       go_wp2_with fail
       refine(P3 _).mono ?_
       rintro e w5 ⟨rfl,qw5⟩
       go_wp2_with fail
       refine(B (by omega) _).mono ?_
       rintro e wb ⟨v,rfl,hv,qwb⟩
       go_wp2_with fail
       go_ret2
       exact⟨_,rfl,hv,q0c (q0c (q0c (q0c (q0c qw1 qw2) qw3) qw4) qw5) qwb⟩
      |false =>
       go_enter Tryz.func105,Tryz.ntmps105
       go_wp2_with fail
       refine(A _).mono ?_
       rintro e w1 ⟨rfl,qw1⟩
       go_wp2_with fail
       refine(N _).mono ?_
       rintro e w2 ⟨rfl,qw2⟩
       go_wp2_with fail
       refine(P1 _).mono ?_
       rintro e w3 ⟨rfl,qw3⟩
       go_wp2_with fail
       refine(P2 _).mono ?_
       rintro e w4 ⟨rfl,qw4⟩
       go_wp2_with fail
       refine(P3 _).mono ?_
       rintro e w5 ⟨rfl,qw5⟩
       go_wp2_with fail
       go_ret2
       exact⟨_,rfl,qx w5 [[116,114,117,101]] 9 (by simp),(q0c (q0c (q0c (q0c qw1 qw2) qw3) qw4) qw5).alloc (q0c (q0c (q0c (q0c qw1 qw2) qw3) qw4) qw5).size _⟩
theorem j6r (t:By)(d:Nat)(hd1:1≤d)(hd9:d≤9)(w:World) :
  Calls Tryz.prog 105 #[bs (q1I d),bs t] w fun e w'=>∃v,e=.returned (.tuple #[v,.bool true])∧q1f w' v (j1r t d)∧Below w.heap.size w w':=by
 have hx:(ByteArray.mk #[70,UInt8.ofNat (48+d)]).extract 1 2=ByteArray.mk #[UInt8.ofNat (48+d)]:=by
  apply ByteArray.ext
  simp
 have hdg:q1H [UInt8.ofNat (48+d)]=true∧q0n [UInt8.ofNat (48+d)]=d:=by
  rcases(by omega:d=1∨d=2∨d=3∨d=4∨d=5∨d=6∨d=7∨d=8∨d=9)with rfl|rfl|rfl|rfl|rfl|rfl|rfl|rfl|rfl<;>decide
 refine j2b t (UInt8.ofNat (48+d)) d hd1 hd9 _ _ _ _ _ (fun w=>?_) (q5L t) rfl (q9i t) (q8I t) (q8J t) (fun h=>ref_body t d (by omega)) w
 rw[hx]
 have:=j3Z [UInt8.ofNat (48+d)] (by simp) (by simp) hdg.1 w
 rw[hdg.2]at this
 exact this
def q4h (sym t:By):Bool:=match t with
 | []=>false
 |c::_=>if sym==[78,85,77]then qp (c.toNat:Int)else if sym==[86,65,82]then(t==[120] || t==[121])else if sym==[78,65,77,69]then zv t else sym==t
theorem q4i (sym:By)(c:UInt8)(r:By):q4h sym (c::r)=if sym==[78,85,77]then qp (c.toNat:Int)else if sym==[86,65,82]then(c::r==[120] || c::r==[121])else if sym==[78,65,77,69]then zv (c::r)else sym==c::r:=rfl
theorem q3M (sym t:By)(w:World) :
  Calls Tryz.prog 106 #[bs sym,bs t] w fun e w'=>e=.returned (.bool (q4h sym t))∧Below w.heap.size w w':=by
 cases t with
 |nil =>
  go_enter Tryz.func106,Tryz.ntmps106
  go_wp2_with fail
  go_ret
  exact⟨rfl,zB _ _⟩
 |cons c r =>
  have N:=q5L (c::r)
  have D:=q2q (c.toNat:Int)
  rw[q4i]
  generalize zv (c::r)=nm at *
  generalize qp (c.toNat:Int)=dg at *
  generalize h1:(sym==[78,85,77])=s1
  generalize h2:(sym==[86,65,82])=s2
  generalize h3:(sym==[78,65,77,69])=s3
  have e0:((ByteArray.mk (c::r).toArray)[0]'(by exact Nat.succ_pos _))=c:=rfl
  cases s1 with
  |true =>
   go_enter Tryz.func106,Tryz.ntmps106
   go_wp2_with fail
   refine(D _).mono ?_
   rintro e w1 ⟨rfl,rfl⟩
   go_wp2_with fail
   go_ret
   exact⟨rfl,zB _ _⟩
  |false =>
   cases s2 with
   |true =>
    generalize h4:(c::r==[120])=x1
    generalize h5:(c::r==[121])=x2
    cases x1
    all_goals
     go_enter Tryz.func106,Tryz.ntmps106
     go_wp2_with fail
     go_ret
     exact⟨rfl,zB _ _⟩
   |false =>
    cases s3 with
    |true =>
     go_enter Tryz.func106,Tryz.ntmps106
     go_wp2_with fail
     refine(N _).mono ?_
     rintro e w1 ⟨rfl,hb⟩
     go_wp2_with fail
     go_ret
     exact⟨rfl,hb⟩
    |false =>
     generalize h6:(sym==c::r)=x1
     go_enter Tryz.func106,Tryz.ntmps106
     go_wp2_with fail
     go_ret
     exact⟨rfl,zB _ _⟩
structure Tok where
 text:By
 pos:Nat
def q0w (c:UInt8):By→Nat
 | []=>0
 |d::r=>if q7Y (c.toNat:Int) (d.toNat:Int)then q0w d r+1 else 0
def qA (s:By)(i:Nat):Nat:=i+1+q0w (s.getD i 0) (s.drop (i+1))
def cut (s:By)(i k:Nat):By:=(s.drop i).take (k-i)
def q2z (c:UInt8):Bool:=c==32 || c==10
def q3p (c:UInt8)(t:By):Bool:=inB t q1m || (qp (c.toNat:Int)&&decide (t.length≤3)) || (q0e (c.toNat:Int)&&decide (t.length≤8))
def q2m (s:By):Nat→Nat→List Tok→List Tok × Int
 | 0,_,acc=>(acc,-1)
 |f+1,i,acc =>
  if s.length≤i then(acc,-1)
  else if q2z (s.getD i 0)then q2m s f (i+1) acc
  else if q3p (s.getD i 0) (cut s i (qA s i))then q2m s f (qA s i) (acc++[⟨cut s i (qA s i),i⟩])
  else([],(i:Int))
theorem q5h (s:By):∀(f g i:Nat) (acc:List Tok),s.length-i≤f→s.length-i≤g→q2m s f i acc=q2m s g i acc:=by
 intro f
 induction f with
 |zero =>
  intro g i acc hf hg
  cases g with
  |zero=>rfl
  |succ g=>rw[q2m,q2m,if_pos (by omega)]
 |succ f ih =>
  intro g i acc hf hg
  cases g with
  |zero=>rw[q2m,q2m,if_pos (by omega)]
  |succ g =>
   rw[q2m,q2m]
   by_cases h1:s.length≤i
   ·rw[if_pos h1,if_pos h1]
   ·rw[if_neg h1,if_neg h1]
    by_cases h2:q2z (s.getD i 0)=true
    ·rw[if_pos h2,if_pos h2];exact ih g (i+1) acc (by omega) (by omega)
    ·rw[if_neg h2,if_neg h2]
     by_cases h3:q3p (s.getD i 0) (cut s i (qA s i))=true
     ·rw[if_pos h3,if_pos h3]
      have:i+1≤qA s i:=by unfold qA;omega
      exact ih g _ _ (by omega) (by omega)
     ·rw[if_neg h3,if_neg h3]
def q0u (s:By):List Tok × Int:=q2m s s.length 0 []
theorem j0N (c:UInt8)(l:By):q0w c l≤l.length:=by
 induction l generalizing c with
 |nil=>simp[q0w]
 |cons d r ih =>
  rw[q0w]
  have:=ih d
  split
  ·simp;omega
  ·simp
theorem q8T (s:By)(i:Nat)(h:i<s.length):qA s i≤s.length:=by
 unfold qA
 have:=j0N (s.getD i 0) (s.drop (i+1))
 rw[List.length_drop]at this
 omega
theorem j7v (s:By)(k:Nat)(h:k<s.length)(c:UInt8):q0w c (s.drop k)=if q7Y (c.toNat:Int) ((s.getD k 0).toNat:Int)then q0w (s.getD k 0) (s.drop (k+1))+1 else 0:=by
 rw[List.drop_eq_getElem_cons h,q0w]
 simp[List.getD,h]
theorem j4I (s:By)(i k:Nat):(ByteArray.mk s.toArray).extract i k=ByteArray.mk (cut s i k).toArray:=by
 apply ByteArray.ext
 unfold cut
 simp
theorem j3J {s:By}{i:Nat}{acc:List Tok}{R:List Tok × Int}(h:q2m s (s.length-i) i acc=R)(hi:s.length≤i):R=(acc,-1):=by
 rw[←h,q5h s (s.length-i) 1 i acc (by omega) (by omega),q2m,if_pos hi]
theorem j1A {s:By}{i:Nat}{acc:List Tok}{R:List Tok × Int}(h:q2m s (s.length-i) i acc=R)(hi:i<s.length)(hb:q2z (s.getD i 0)=true):q2m s (s.length-(i+1)) (i+1) acc=R:=by
 rw[←h,q5h s (s.length-i) (s.length-(i+1)+1) i acc (by omega) (by omega),q2m,if_neg (by omega),if_pos hb]
theorem j5X {s:By}{i:Nat}{acc:List Tok}{R:List Tok × Int}(h:q2m s (s.length-i) i acc=R)(hi:i<s.length)(hb:q2z (s.getD i 0)=false)
  (ho:q3p (s.getD i 0) (cut s i (qA s i))=true):q2m s (s.length-qA s i) (qA s i) (acc++[⟨cut s i (qA s i),i⟩])=R:=by
 have:i+1≤qA s i:=by unfold qA;omega
 rw[←h,q5h s (s.length-i) (s.length-(i+1)+1) i acc (by omega) (by omega),q2m,if_neg (by omega),if_neg (by rw[hb];simp),if_pos ho]
 exact q5h s _ _ _ _ (by omega) (by omega)
theorem j5W {s:By}{i:Nat}{acc:List Tok}{R:List Tok × Int}(h:q2m s (s.length-i) i acc=R)(hi:i<s.length)(hb:q2z (s.getD i 0)=false)
  (ho:q3p (s.getD i 0) (cut s i (qA s i))=false):R=([],(i:Int)):=by
 rw[←h,q5h s (s.length-i) (s.length-(i+1)+1) i acc (by omega) (by omega),q2m,if_neg (by omega),if_neg (by rw[hb];simp),if_neg (by rw[ho];simp)]
def q0I (l:List Tok):List Value:=l.flatMap fun t=>[bs t.text,.int .i64 t.pos]
theorem j1k (l:List Tok)(t:Tok):q0I (l++[t])=q0I l++[bs t.text,.int .i64 t.pos]:=by
 simp[q0I]
theorem j4v (l:List Tok):∀(j:Nat) (h:j<l.length),(q0I l)[2*j]?=some (bs (l[j]).text)∧(q0I l)[2*j+1]?=some (.int .i64 (l[j]).pos):=by
 induction l with
 |nil=>intro j h;simp at h
 |cons t l ih =>
  intro j h
  cases j with
  |zero=>simp[q0I]
  |succ j =>
   have:=ih j (by simpa using h)
   have e:q0I (t::l)=bs t.text::.int .i64 t.pos::q0I l:=by simp[q0I]
   rw[e]
   have e1:2*(j+1)=2*j+1+1:=by omega
   rw[e1]
   simpa using this
theorem zh {w w':World}{base:Nat}{e:TypeId}{size:Nat}{v:Value}{n:Nat}{xs:List Value}(h:w.ownsRow base e size v n xs)(hb:Below w.heap.size w w'):w'.ownsRow base e size v n xs:=by
 obtain⟨h1,h2⟩:=h
 refine⟨h1,?_⟩
 rcases h2 with h2|⟨g,cap,cur,e1,e2,e3,e4⟩
 ·exact .inl h2
 ·refine .inr ⟨g,cap,cur,e1,e2,?_,e4⟩
  have hg:g<w.heap.size:=by
   rcases Nat.lt_or_ge g w.heap.size with h'|h'
   ·exact h'
   ·simp[Array.getElem?_eq_none h']at e3
  rw[hb.block g hg]
  exact e3
theorem info_tok:(Tryz.prog.info? 177).map (fun i=>(i.zero,i.size,i.bytes))=some (some (.agg #[.string ByteArray.empty,.int .i64 0]),2,24):=by kernel_rfl
end Go.Proofs.YtiamjjonoeaggabGreatDoor
