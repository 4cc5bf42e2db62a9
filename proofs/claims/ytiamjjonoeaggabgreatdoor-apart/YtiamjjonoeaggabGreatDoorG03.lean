import Derived.Test.YtiamjjonoeaggabGreatDoorGA
import Derived.Test.YtiamjjonoeaggabGreatDoorG01
import Derived.Deep.RegionWith
import Derived.Deep.CutRange
import Derived.Deep.RegionHeld
set_option maxRecDepth 100000
set_option maxHeartbeats 16000000
namespace Go.Proofs.YtiamjjonoeaggabGreatDoor
open Go.RowKit
theorem q4K (n:Int)(w:World) :
  Calls Tryz.prog 68 #[.int .u8 n] w fun e w'=>e=.returned (.bool (qd n))∧w'=w:=by
 unfold qd
 go_enter Tryz.func68,Tryz.ntmps68
 go_wp2
 all_goals
  go_ret
  exact⟨by simp[*];try omega,rfl⟩
theorem q6D (n:Int)(w:World) :
  Calls Tryz.prog 102 #[.int .u8 n] w fun e w'=>e=.returned (.bool (q0s n))∧w'=w:=by
 unfold q0s
 go_enter Tryz.func102,Tryz.ntmps102
 go_wp2
 all_goals
  go_ret
  exact⟨by simp[*];try omega,rfl⟩
theorem j6A (c:UInt8)(w:World) :
  Calls Tryz.prog 88 #[.int .u8 (c.toNat:Int)] w fun e w'=>e=.returned (.bool (q2i c))∧w'=w:=by
 rcases j0k c with⟨hb,hc⟩|⟨hb,hc1,hc2⟩
 ·rw[hb]
  rcases hc with rfl|rfl
  all_goals
   go_enter Tryz.func88,Tryz.ntmps88
   go_wp2
   go_ret
   exact⟨rfl,rfl⟩
 ·rw[hb]
  clear hb
  go_enter Tryz.func88,Tryz.ntmps88
  go_wp2
  go_ret
  exact⟨rfl,rfl⟩
def q1g (p:Int→Bool)(l:By):Nat:=(l.takeWhile fun c=>p (c.toNat:Int)).length
theorem j1S (p:Int→Bool)(s:By)(i k:Nat)(h:i+k<s.length)(hp:p ((s.getD (i+k) 0).toNat:Int)=true):q1g p (s.drop (i+k))=q1g p (s.drop (i+k+1))+1:=by
 rw[List.drop_eq_getElem_cons h]
 have e:s.getD (i+k) 0=s[i+k]:=by simp[List.getD,h]
 rw[e]at hp
 unfold q1g
 rw[List.takeWhile_cons_of_pos (by exact hp)]
 rfl
theorem j1T (p:Int→Bool)(s:By)(i k:Nat)(h:i+k<s.length)(hp:p ((s.getD (i+k) 0).toNat:Int)=false):q1g p (s.drop (i+k))=0:=by
 rw[List.drop_eq_getElem_cons h]
 have e:s.getD (i+k) 0=s[i+k]:=by simp[List.getD,h]
 rw[e]at hp
 unfold q1g
 rw[List.takeWhile_cons_of_neg (by simp[hp])]
 rfl
theorem j8F (p:Int→Bool)(s:By)(i:Nat)(h:s.length≤i):q1g p (s.drop i)=0:=by
 rw[List.drop_of_length_le h]
 rfl
theorem j0D (s:By)(hs:s.length≤240)(i:Nat)(hi:i≤s.length)(w:World) :
  Calls Tryz.prog 117 #[bs s,.int .i64 i] w fun e w'=>e=.returned (.int .i64 (q1g qd (s.drop i)))∧w'=w:=by
 go_enter Tryz.func117,Tryz.ntmps117
 go_wp2_with fail
 go_loop [5] (fun v=>∃k:Nat,i+k≤s.length∧v=.int .i64 k∧Hid (k+q1g qd (s.drop (i+k))=q1g qd (s.drop i))) (fun v=>s.length-(intOf v).toNat)
 case atStart=>exact⟨0,by omega,rfl,by unfold Hid;simp⟩
 case round =>
  obtain⟨k,hk,rfl,HK⟩:=hrel
  by_cases hlt:i+k<s.length
  ·have hat:=q6E s (i+k) hlt
   have hD:=q4K ((s.getD (i+k) 0).toNat:Int)
   have HS:=zb (j1S qd s i k hlt)
   have HT:=zb (j1T qd s i k hlt)
   generalize hc:s.getD (i+k) 0=c at *
   clear hc
   generalize hd:qd (c.toNat:Int)=d at *
   clear hd
   cases d with
   |true =>
    go_wp2_with fail
    refine(hD _).mono ?_
    rintro e w1 ⟨rfl,rfl⟩
    go_wp2_with fail
    go_round
    case rel=>exact⟨k+1,by omega,by go_num,by have h1:=HK.out;have h2:=HS.out trivial;unfold Hid;rw[show i+(k+1)=i+k+1 from by omega];omega⟩
    case measure=>simp[intOf];omega
   |false =>
    go_wp2_with fail
    refine(hD _).mono ?_
    rintro e w1 ⟨rfl,rfl⟩
    go_wp2_with fail
    go_ret
    exact⟨q1t (by have h1:=HK.out;have h2:=HT.out trivial;omega),rfl⟩
  ·have HE:=zb (j8F qd s (i+k) (by omega))
   go_wp2_with fail
   go_ret
   exact⟨q1t (by have h1:=HK.out;have h2:=HE.out;omega),rfl⟩
theorem j0f (s:By)(hs:s.length≤240)(i:Nat)(hi:i≤s.length)(w:World) :
  Calls Tryz.prog 118 #[bs s,.int .i64 i] w fun e w'=>e=.returned (.int .i64 (q1g q0s (s.drop i)))∧w'=w:=by
 go_enter Tryz.func118,Tryz.ntmps118
 go_wp2_with fail
 go_loop [5] (fun v=>∃k:Nat,i+k≤s.length∧v=.int .i64 k∧Hid (k+q1g q0s (s.drop (i+k))=q1g q0s (s.drop i))) (fun v=>s.length-(intOf v).toNat)
 case atStart=>exact⟨0,by omega,rfl,by unfold Hid;simp⟩
 case round =>
  obtain⟨k,hk,rfl,HK⟩:=hrel
  by_cases hlt:i+k<s.length
  ·have hat:=q6E s (i+k) hlt
   have hD:=q6D ((s.getD (i+k) 0).toNat:Int)
   have HS:=zb (j1S q0s s i k hlt)
   have HT:=zb (j1T q0s s i k hlt)
   generalize hc:s.getD (i+k) 0=c at *
   clear hc
   generalize hd:q0s (c.toNat:Int)=d at *
   clear hd
   cases d with
   |true =>
    go_wp2_with fail
    refine(hD _).mono ?_
    rintro e w1 ⟨rfl,rfl⟩
    go_wp2_with fail
    go_round
    case rel=>exact⟨k+1,by omega,by go_num,by have h1:=HK.out;have h2:=HS.out trivial;unfold Hid;rw[show i+(k+1)=i+k+1 from by omega];omega⟩
    case measure=>simp[intOf];omega
   |false =>
    go_wp2_with fail
    refine(hD _).mono ?_
    rintro e w1 ⟨rfl,rfl⟩
    go_wp2_with fail
    go_ret
    exact⟨q1t (by have h1:=HK.out;have h2:=HT.out trivial;omega),rfl⟩
  ·have HE:=zb (j8F q0s s (i+k) (by omega))
   go_wp2_with fail
   go_ret
   exact⟨q1t (by have h1:=HK.out;have h2:=HE.out;omega),rfl⟩
def q8l (n:Int):Int:=if n==40 then 18 else if n==41 then 19 else if n==44 then 20 else if n==91 then 21 else if n==93 then 22 else if n==42 then 23 else 0
theorem q9s (n:Int)(w:World) :
  Calls Tryz.prog 119 #[.int .u8 n] w fun e w'=>e=.returned (.int .i64 (q8l n))∧w'=w:=by
 unfold q8l
 go_enter Tryz.func119,Tryz.ntmps119
 go_wp2
 all_goals
  go_ret
  exact⟨q1t (by simp[*]),rfl⟩
def q9x (t:By):Int:=if t==[120]then 3 else if t==[121]then 4 else if t==[116,114,117,101]then 5 else if t==[97,110,100]then 6 else if t==[98,117,116]then 7 else if t==[111,114]then 8 else if t==[101,120,105,115,116,115]then 9 else if t==[112,114,101,118]then 10 else if t==[110,101,120,116]then 11 else if t==[111,110,99,101]then 12 else if t==[115,111,111,110]then 13 else if t==[115,105,110,99,101]then 14 else if t==[117,110,115,105,110,99,101]then 15 else if t==[117,110,116,105,108]then 16 else if t==[117,110,117,110,116,105,108]then 17 else 2
theorem j4m (t:By)(w:World) :
  Calls Tryz.prog 121 #[bs t] w fun e w'=>e=.returned (.int .i64 (q9x t))∧w'=w:=by
 unfold q9x
 go_enter Tryz.func121,Tryz.ntmps121
 go_wp2
 all_goals
  go_ret
  exact⟨q1t (by simp[*]),rfl⟩
theorem z0u (l:By)(h2:l.length≤3)(hd:q2k l=true)(w:World) :
  Calls Tryz.prog 120 #[bs l] w fun e w'=>e=.returned (.int .i64 (q0h l))∧w'=w:=by
 have HD:=zb hd
 clear hd
 go_enter Tryz.func120,Tryz.ntmps120
 go_wp2_with fail
 go_loop [3,4] (fun vn vi=>∃k:Nat,k≤l.length∧vi=.int .i64 k∧vn=.int .i64 (q0h (l.take k))) (fun _ vi=>l.length-(intOf vi).toNat)
 case atStart=>exact⟨0,zZ _,rfl,rfl⟩
 case round =>
  obtain⟨k,hk,rfl,rfl⟩:=hrel
  have hlt9:=q9g HD.out k hk
  have hp:10 ^ k≤1000:=zM (Nat.pow_le_pow_right (by omega) (show k≤3 by omega)) (by decide)
  have hlt:q0h (l.take k)<1000:=by omega
  clear hlt9 hp
  by_cases hkn:k<l.length
  ·have hat:((ByteArray.mk l.toArray)[k]'(by exact hkn))=l[k]:=rfl
   have hg:=q7u HD.out k hkn
   have HN:=zb (q7F l k hkn)
   generalize q0h (l.take k)=m at *
   generalize hc:l[k]=c at *
   clear hc
   obtain⟨g1,g2⟩:=hg
   go_wp2_with fail
   go_round
   case rel=>exact⟨k+1,by omega,by go_num,by rw[HN.out];first|go_num|(congr 1;omega)⟩
   case measure=>simp[intOf];omega
  ·have hke:k=l.length:=by omega
   subst hke
   rw[List.take_length]
   go_wp2_with fail
   go_ret
   exact⟨rfl,rfl⟩
def zn (t:By)(i:Nat):Int:=((t.getD i 0).toNat:Int)
abbrev q4g (t:By):Value:=.agg #[.int .u8 (zn t 0),.int .u8 (zn t 1),.int .u8 (zn t 2),.int .u8 (zn t 3),.int .u8 (zn t 4),.int .u8 (zn t 5),.int .u8 (zn t 6),.int .u8 (zn t 7)]
def padK (t:By)(k j:Nat):Int:=if j<k then zn t j else 0
theorem padK_set (t:By)(k j:Nat):padK t (k+1) j=if j=k then zn t k else padK t k j:=by
 unfold padK
 by_cases h:j=k
 ·subst h;simp
 ·rw[if_neg h]
  by_cases h2:j<k
  ·rw[if_pos h2,if_pos (by omega)]
  ·rw[if_neg h2,if_neg (by omega)]
theorem padK_end (t:By)(j:Nat)(k:Nat)(h:t.length≤k):padK t k j=zn t j:=by
 unfold padK
 by_cases h2:j<k
 ·rw[if_pos h2]
 ·rw[if_neg h2]
  unfold zn
  simp[List.getD,List.getElem?_eq_none (show t.length≤j by omega)]
def WdRel (w:World)(t:By)(vi:Value)(wr:World):Prop:=∃k:Nat,k≤t.length∧vi=.int .i64 k∧(∀j,j<8→wr.cell? ⟨w.heap.size+1,j,none⟩=some (.int .u8 (padK t k j)))∧(∀j,wr.frozen? ⟨w.heap.size+1,j,none⟩=false)∧Below (w.heap.size+1) (w.alloc (.cells #[.int .u8 0,.int .u8 0,.int .u8 0,.int .u8 0,.int .u8 0,.int .u8 0,.int .u8 0,.int .u8 0] 126)) wr
theorem tok_word (t:By)(ht:t.length≤8)(w:World) :
  Calls Tryz.prog 122 #[bs t] w fun e w'=>e=.returned (q4g t)∧Below w.heap.size w w':=by
 go_enter Tryz.func122,Tryz.ntmps122
 go_wp2_with fail
 go_loopw [4] (fun vi wr=>WdRel w t vi wr) (fun vi _=>t.length-(intOf vi).toNat)
 case atStart =>
  refine⟨0,zZ _,rfl,fun j hj=>?_,fun j=>?_,(zB _ _).alloc (by simp) _⟩
  ·have e:w.heap.size+1=(w.alloc (.cells #[.int .u8 0,.int .u8 0,.int .u8 0,.int .u8 0,.int .u8 0,.int .u8 0,.int .u8 0,.int .u8 0] 126)).heap.size:=by simp
   rw[e,World.cell?_alloc_at _ _ _ _ rfl]
   rcases(by omega:j=0∨j=1∨j=2∨j=3∨j=4∨j=5∨j=6∨j=7)with rfl|rfl|rfl|rfl|rfl|rfl|rfl|rfl<;>simp[padK]
  ·simp
 case round =>
  obtain⟨k,hk,rfl,hc,hf,hbel⟩:=hrel
  by_cases hlt:k<t.length
  ·have hat:=q6E t k hlt
   have hck:=hc k (by omega)
   have hfk:=hf k
   have HC:=zb hc
   have HF:=zb hf
   have HP:Hid (((t.getD k 0).toNat:Int)=zn t k):=rfl
   generalize t.getD k 0=c at *
   clear hc hf
   go_wp2_with fail
   go_roundw
   case rel =>
    refine⟨k+1,by omega,by go_num,fun j hj=>?_,fun j=>?_,hbel.setCell (by simp) _⟩
    ·rw[padK_set]
     by_cases h:j=k
     ·subst h
      rw[if_pos rfl,←HP.out]
      exact zS wr _ _ hck
     ·rw[if_neg h,zX wr _ _ _ (by intro e;injection e with e1 e2;exact h e2.symm)]
      exact HC.out j hj
    ·rw[World.frozen?_setCell];exact HF.out j
   case measure=>simp[intOf];omega
  ·have hce:∀j,j<8→wr.cell? ⟨w.heap.size+1,j,none⟩=some (.int .u8 (zn t j)):=fun j hj=>by rw[hc j hj,padK_end t j k (by omega)]
   have q:=((zB w.heap.size w).alloc (zL _) _).trans (hbel.mono (by omega))
   have hr:=fun j=>zy hbel w.heap.size j (by omega)
   have hz:=fun j=>hbel.frozen (p:=⟨w.heap.size,j,none⟩) (by simp)
   clear hc
   go_wp2_with fail
   exact zP (v:=q4g t) (by simp[results,Tryz.results122,go_sem,hr]) rfl ⟨rfl,((((((((q.setCell (by simp) _).setCell (by simp) _).setCell (by simp) _).setCell (by simp) _).setCell (by simp) _).setCell (by simp) _).setCell (by simp) _).setCell (by simp) _)⟩
def zo (t:By):Int:=match t with
 | []=>0
 |c::_=>if qd (c.toNat:Int)then 1 else if q0s (c.toNat:Int)then q9x t else q8l (c.toNat:Int)
def q3w (t:By):Int:=match t with
 | []=>0
 |c::_=>if qd (c.toNat:Int)then(q0h t:Int)else 0
def padP (t:By):By:=match t with
 | []=>[]
 |c::_=>if qd (c.toNat:Int)then []else if q0s (c.toNat:Int)&&q9x t==2 then t else []
def q4f (k p z v:Int)(n:By):List Value:=[.int .i64 k,.int .i64 p,.int .i64 z,.int .i64 v,.int .u8 (zn n 0),.int .u8 (zn n 1),.int .u8 (zn n 2),.int .u8 (zn n 3),.int .u8 (zn n 4),.int .u8 (zn n 5),.int .u8 (zn n 6),.int .u8 (zn n 7)]
abbrev q7p (k p z v:Int)(n:By):Value:=.agg #[.int .i64 k,.int .i64 p,.int .i64 z,.int .i64 v,.int .u8 (zn n 0),.int .u8 (zn n 1),.int .u8 (zn n 2),.int .u8 (zn n 3),.int .u8 (zn n 4),.int .u8 (zn n 5),.int .u8 (zn n 6),.int .u8 (zn n 7)]
theorem tok_read (t:By)(h0:t≠[])(h8:t.length≤8)(hd:q4m t=true→q2k t=true∧t.length≤3)(w:World) :
  Calls Tryz.prog 90 #[bs t] w fun e w'=>e=.returned (q7p (zo t) 0 t.length (q3w t) (padP t))∧Below w.heap.size w w':=by
 cases t with
 |nil=>exact absurd rfl h0
 |cons c r =>
  have hat:((ByteArray.mk (c::r).toArray)[0]'(by exact Nat.succ_pos _))=c:=rfl
  have hl1:(c::r).length=r.length+1:=rfl
  have hnz:((r.length:Int)+1==0)=false:=by simp;omega
  have hD:=q4K (c.toNat:Int)
  have hL:=q6D (c.toNat:Int)
  have hK:=j4m (c::r)
  have hS:=q9s (c.toNat:Int)
  have hV:=fun h1 h2=>z0u (c::r) h1 h2
  have hW:=tok_word (c::r) h8
  have HD:Hid (qd (c.toNat:Int)=true→q2k (c::r)=true∧(c::r).length≤3):=hd
  have HHV:=zb hV
  clear hd hV
  cases hdg:qd (c.toNat:Int)with
  |true =>
   obtain⟨g1,g2⟩:=HD.out hdg
   have hV:=HHV.out g2 g1
   have ek:zo (c::r)=1:=by show(if qd _=true then _ else _)=_;rw[hdg];rfl
   have ev:q3w (c::r)=(q0h (c::r):Int):=by show(if qd _=true then _ else _)=_;rw[hdg];rfl
   have ep:padP (c::r)=[]:=by show(if qd _=true then _ else _)=_;rw[hdg];rfl
   rw[ek,ev,ep,hl1]
   rw[hdg]at hD
   clear ek ev ep HD HHV hL hK hS hW g1 hdg
   generalize q0h (c::r)=nn at *
   go_enter Tryz.func90,Tryz.ntmps90
   go_wp2_with fail
   refine(hD _).mono ?_
   rintro e w1 ⟨rfl,rfl⟩
   go_wp2_with fail
   refine(hV _).mono ?_
   rintro e w1 ⟨rfl,rfl⟩
   go_wp2_with fail
   exact zP (v:=.agg #[.int .i64 1,.int .i64 0,.int .i64 ((r.length:Int)+1),.int .i64 nn,.int .u8 0,.int .u8 0,.int .u8 0,.int .u8 0,.int .u8 0,.int .u8 0,.int .u8 0,.int .u8 0]) (by simp[results,Tryz.results90,go_sem]) rfl ⟨by rw[show((r.length+1:Nat):Int)=(r.length:Int)+1 from by omega];rfl,((zB _ _).alloc (zL _) _).alloc (by simp) _⟩
  |false =>
   have ev:q3w (c::r)=0:=by show(if qd _=true then _ else _)=_;rw[hdg];rfl
   cases hlt:q0s (c.toNat:Int)with
   |true =>
    have ek:zo (c::r)=q9x (c::r):=by show(if qd _=true then _ else if q0s _=true then _ else _)=_;rw[hdg,hlt];rfl
    have ep:padP (c::r)=if q9x (c::r)==2 then c::r else []:=by show(if qd _=true then _ else if (q0s _&&_)=true then _ else _)=_;rw[hdg,hlt];simp
    rw[ek,ev,ep,hl1]
    rw[hdg]at hD
    rw[hlt]at hL
    clear ek ev ep HD HHV hS hdg hlt
    generalize q9x (c::r)=kk at *
    cases hk2:(kk==2)with
    |true =>
     rw[if_pos rfl]
     go_enter Tryz.func90,Tryz.ntmps90
     go_wp2_with fail
     refine(hD _).mono ?_
     rintro e w1 ⟨rfl,rfl⟩
     go_wp2_with fail
     refine(hL _).mono ?_
     rintro e w1 ⟨rfl,rfl⟩
     go_wp2_with fail
     refine(hK _).mono ?_
     rintro e w1 ⟨rfl,rfl⟩
     go_wp2_with fail
     refine(hW _).mono ?_
     rintro e w1 ⟨rfl,hb1⟩
     have r1:=hb1.mono (B':=w.heap.size+2) (by simp)
     have q1:=(((zB w.heap.size w).alloc (zL _) _).alloc (by simp) _).trans (hb1.mono (by simp;omega))
     have cN:=fun o=>zy r1 w.heap.size o (by omega)
     have cM:=fun o=>zy r1 (w.heap.size+1) o (by omega)
     have zN:=fun o=>r1.frozen (p:=⟨w.heap.size,o,none⟩) (by simp)
     have zM:=fun o=>r1.frozen (p:=⟨w.heap.size+1,o,none⟩) (by simp)
     clear hb1 r1
     go_wp2_with fail
     exact zP (v:=.agg #[.int .i64 kk,.int .i64 0,.int .i64 ((r.length:Int)+1),.int .i64 0,.int .u8 (zn (c::r) 0),.int .u8 (zn (c::r) 1),.int .u8 (zn (c::r) 2),.int .u8 (zn (c::r) 3),.int .u8 (zn (c::r) 4),.int .u8 (zn (c::r) 5),.int .u8 (zn (c::r) 6),.int .u8 (zn (c::r) 7)]) (by simp[results,Tryz.results90,go_sem,cN]) rfl ⟨by rw[show((r.length+1:Nat):Int)=(r.length:Int)+1 from by omega],((((((((((((((((((((q1.setCell (by simp) _).setCell (by simp) _).setCell (by simp) _).setCell (by simp) _).setCell (by simp) _).setCell (by simp) _).setCell (by simp) _).setCell (by simp) _).setCell (by simp) _).setCell (by simp) _).setCell (by simp) _).setCell (by simp) _).setCell (by simp) _).setCell (by simp) _).setCell (by simp) _).setCell (by simp) _).setCell (by simp) _).setCell (by simp) _).setCell (by simp) _).setCell (by simp) _)⟩
    |false =>
     rw[if_neg (by simp)]
     go_enter Tryz.func90,Tryz.ntmps90
     go_wp2_with fail
     refine(hD _).mono ?_
     rintro e w1 ⟨rfl,rfl⟩
     go_wp2_with fail
     refine(hL _).mono ?_
     rintro e w1 ⟨rfl,rfl⟩
     go_wp2_with fail
     refine(hK _).mono ?_
     rintro e w1 ⟨rfl,rfl⟩
     go_wp2_with fail
     exact zP (v:=.agg #[.int .i64 kk,.int .i64 0,.int .i64 ((r.length:Int)+1),.int .i64 0,.int .u8 0,.int .u8 0,.int .u8 0,.int .u8 0,.int .u8 0,.int .u8 0,.int .u8 0,.int .u8 0]) (by simp[results,Tryz.results90,go_sem]) rfl ⟨by rw[show((r.length+1:Nat):Int)=(r.length:Int)+1 from by omega];rfl,((zB _ _).alloc (zL _) _).alloc (by simp) _⟩
   |false =>
    have ek:zo (c::r)=q8l (c.toNat:Int):=by show(if qd _=true then _ else if q0s _=true then _ else _)=_;rw[hdg,hlt];rfl
    have ep:padP (c::r)=[]:=by show(if qd _=true then _ else if (q0s _&&_)=true then _ else _)=_;rw[hdg,hlt];rfl
    rw[ek,ev,ep,hl1]
    rw[hdg]at hD
    rw[hlt]at hL
    clear ek ev ep HD HHV hK hW hdg hlt
    generalize q8l (c.toNat:Int)=kk at *
    go_enter Tryz.func90,Tryz.ntmps90
    go_wp2_with fail
    refine(hD _).mono ?_
    rintro e w1 ⟨rfl,rfl⟩
    go_wp2_with fail
    refine(hL _).mono ?_
    rintro e w1 ⟨rfl,rfl⟩
    go_wp2_with fail
    refine(hS _).mono ?_
    rintro e w1 ⟨rfl,rfl⟩
    go_wp2_with fail
    exact zP (v:=.agg #[.int .i64 kk,.int .i64 0,.int .i64 ((r.length:Int)+1),.int .i64 0,.int .u8 0,.int .u8 0,.int .u8 0,.int .u8 0,.int .u8 0,.int .u8 0,.int .u8 0,.int .u8 0]) (by simp[results,Tryz.results90,go_sem]) rfl ⟨by rw[show((r.length+1:Nat):Int)=(r.length:Int)+1 from by omega];rfl,((zB _ _).alloc (zL _) _).alloc (by simp) _⟩
def j3g (s:By)(i:Nat):Nat:=
 if 3<q1g qd (s.drop i)∨8<q1g q0s (s.drop i)then 0
 else if 0<q1g qd (s.drop i)then q1g qd (s.drop i)
 else if 0<q1g q0s (s.drop i)then q1g q0s (s.drop i)
 else if i<s.length∧q8l ((s.getD i 0).toNat:Int)≠0 then 1 else 0
theorem j7T (s:By)(hs:s.length≤240)(i:Nat)(hi:i<s.length)(w:World) :
  Calls Tryz.prog 89 #[bs s,.int .i64 i] w fun e w'=>e=.returned (.int .i64 (j3g s i))∧w'=w:=by
 have h1:=j0D s hs i (by omega)
 have h2:=j0f s hs i (by omega)
 have h3:=q9s ((s.getD i 0).toNat:Int)
 have hat:=q6E s i hi
 unfold j3g
 generalize q1g qd (s.drop i)=d at *
 generalize q1g q0s (s.drop i)=l at *
 generalize s.getD i 0=c at *
 generalize q8l (c.toNat:Int)=k at *
 by_cases a1:3<d
 ·rw[if_pos (.inl a1)]
  go_enter Tryz.func89,Tryz.ntmps89
  go_wp2_with fail
  refine(h1 _).mono ?_
  rintro e w1 ⟨rfl,rfl⟩
  go_wp2_with fail
  refine(h2 _).mono ?_
  rintro e w1 ⟨rfl,rfl⟩
  go_wp2_with fail
  go_ret
  exact⟨rfl,rfl⟩
 ·by_cases a2:8<l
  ·rw[if_pos (.inr a2)]
   go_enter Tryz.func89,Tryz.ntmps89
   go_wp2_with fail
   refine(h1 _).mono ?_
   rintro e w1 ⟨rfl,rfl⟩
   go_wp2_with fail
   refine(h2 _).mono ?_
   rintro e w1 ⟨rfl,rfl⟩
   go_wp2_with fail
   go_ret
   exact⟨rfl,rfl⟩
  ·rw[if_neg (by omega)]
   by_cases a3:0<d
   ·rw[if_pos a3]
    go_enter Tryz.func89,Tryz.ntmps89
    go_wp2_with fail
    refine(h1 _).mono ?_
    rintro e w1 ⟨rfl,rfl⟩
    go_wp2_with fail
    refine(h2 _).mono ?_
    rintro e w1 ⟨rfl,rfl⟩
    go_wp2_with fail
    go_ret
    exact⟨rfl,rfl⟩
   ·rw[if_neg a3]
    by_cases a4:0<l
    ·rw[if_pos a4]
     go_enter Tryz.func89,Tryz.ntmps89
     go_wp2_with fail
     refine(h1 _).mono ?_
     rintro e w1 ⟨rfl,rfl⟩
     go_wp2_with fail
     refine(h2 _).mono ?_
     rintro e w1 ⟨rfl,rfl⟩
     go_wp2_with fail
     go_ret
     exact⟨rfl,rfl⟩
    ·rw[if_neg a4]
     cases hk:(k != 0)with
     |true =>
      rw[if_pos ⟨hi,by simpa using hk⟩]
      go_enter Tryz.func89,Tryz.ntmps89
      go_wp2_with fail
      refine(h1 _).mono ?_
      rintro e w1 ⟨rfl,rfl⟩
      go_wp2_with fail
      refine(h2 _).mono ?_
      rintro e w1 ⟨rfl,rfl⟩
      go_wp2_with fail
      refine(h3 _).mono ?_
      rintro e w1 ⟨rfl,rfl⟩
      go_wp2_with fail
      go_ret
      exact⟨rfl,rfl⟩
     |false =>
      rw[if_neg (by intro h;exact h.2 (by simpa using hk))]
      go_enter Tryz.func89,Tryz.ntmps89
      go_wp2_with fail
      refine(h1 _).mono ?_
      rintro e w1 ⟨rfl,rfl⟩
      go_wp2_with fail
      refine(h2 _).mono ?_
      rintro e w1 ⟨rfl,rfl⟩
      go_wp2_with fail
      refine(h3 _).mono ?_
      rintro e w1 ⟨rfl,rfl⟩
      go_wp2_with fail
      go_ret
      exact⟨rfl,rfl⟩
theorem span_dig (l:By):∀c:UInt8,qd (c.toNat:Int)=true→q0j c l=q1g qd l:=by
 induction l with
 |nil=>intro c _;rfl
 |cons d r ih =>
  intro c hc
  rw[q0j]
  have hr:q5q (c.toNat:Int) (d.toNat:Int)=qd (d.toNat:Int):=by unfold q5q;rw[hc,q3E hc];simp
  rw[hr]
  cases hd:qd (d.toNat:Int)with
  |true=>rw[if_pos rfl,ih d hd];unfold q1g;rw[List.takeWhile_cons_of_pos (by exact hd)];rfl
  |false=>rw[if_neg (by simp)];unfold q1g;rw[List.takeWhile_cons_of_neg (by simp[hd])];rfl
theorem j5w {n:Int}(h:q0s n=true):qd n=false:=by
 simp[q0s]at h
 simp[qd]
 omega
theorem span_let (l:By):∀c:UInt8,q0s (c.toNat:Int)=true→q0j c l=q1g q0s l:=by
 induction l with
 |nil=>intro c _;rfl
 |cons d r ih =>
  intro c hc
  rw[q0j]
  have hr:q5q (c.toNat:Int) (d.toNat:Int)=q0s (d.toNat:Int):=by unfold q5q;rw[hc,j5w hc];simp
  rw[hr]
  cases hd:q0s (d.toNat:Int)with
  |true=>rw[if_pos rfl,ih d hd];unfold q1g;rw[List.takeWhile_cons_of_pos (by exact hd)];rfl
  |false=>rw[if_neg (by simp)];unfold q1g;rw[List.takeWhile_cons_of_neg (by simp[hd])];rfl
theorem span_non (l:By)(c:UInt8)(h1:qd (c.toNat:Int)=false)(h2:q0s (c.toNat:Int)=false):q0j c l=0:=by
 cases l with
 |nil=>rfl
 |cons d r =>
  rw[q0j,if_neg]
  unfold q5q
  rw[h1,h2]
  simp
theorem sign_iff (c:UInt8):(q8l (c.toNat:Int)≠0)↔inB [c] q1p=true:=by
 have n:∀k:UInt8,((c.toNat:Int)==(k.toNat:Int))=(([k]:By)==[c]):=fun k=>by
  rw[Bool.eq_iff_iff]
  simp only[beq_iff_eq,List.cons.injEq,and_true]
  constructor
  ·intro h;exact(UInt8.toNat_inj.1 (by omega)).symm
  ·intro h;rw[h]
 have e:inB [c] q1p=(([40]:By)==[c] || (([41]:By)==[c] || (([44]:By)==[c] || (([91]:By)==[c] || (([93]:By)==[c] || (([42]:By)==[c] || false)))))):=rfl
 rw[e,←n 40,←n 41,←n 44,←n 91,←n 93,←n 42]
 unfold q8l
 simp only[show((40:UInt8).toNat:Int)=40 from rfl,show((41:UInt8).toNat:Int)=41 from rfl,show((44:UInt8).toNat:Int)=44 from rfl,show((91:UInt8).toNat:Int)=91 from rfl,show((93:UInt8).toNat:Int)=93 from rfl,show((42:UInt8).toNat:Int)=42 from rfl]
 generalize (c.toNat:Int)=n
 cases a1:(n==40)<;>cases a2:(n==41)<;>cases a3:(n==44)<;>cases a4:(n==91)<;>cases a5:(n==93)<;>cases a6:(n==42)<;>simp
theorem j3d (p:Int→Bool)(s:By)(i:Nat)(h:i<s.length):q1g p (s.drop i)=if p ((s.getD i 0).toNat:Int)then q1g p (s.drop (i+1))+1 else 0:=by
 cases hp:p ((s.getD i 0).toNat:Int)with
 |true=>rw[if_pos rfl];exact j1S p s i 0 h hp
 |false=>rw[if_neg (by simp)];exact j1T p s i 0 h hp
theorem j1W {c:UInt8}{r:By}(h:inB (c::r) q1p=true):r=[]∧qd (c.toNat:Int)=false∧q0s (c.toNat:Int)=false:=by
 unfold inB q1p at h
 simp[List.any]at h
 rcases h with⟨h,h'⟩|⟨h,h'⟩|⟨h,h'⟩|⟨h,h'⟩|⟨h,h'⟩|⟨h,h'⟩<;>subst h<;>exact⟨h',by decide,by decide⟩
theorem size_ok (s:By)(i:Nat)(h:i<s.length):j3g s i=if q3S (s.getD i 0) (cut s i (qv s i))then qv s i-i else 0:=by
 have hc:=q8D s i h
 have d1:=j3d qd s i h
 have l1:=j3d q0s s i h
 have hte:qv s i=i+1+q0j (s.getD i 0) (s.drop (i+1)):=rfl
 have hlen:(cut s i (qv s i)).length=q0j (s.getD i 0) (s.drop (i+1))+1:=by
  rw[hc]
  have:=j1Z (s.getD i 0) (s.drop (i+1))
  simp only[List.length_cons,List.length_take]
  omega
 have hsg:=sign_iff (s.getD i 0)
 unfold j3g q3S
 rw[hlen,hte]
 cases hd:qd ((s.getD i 0).toNat:Int)with
 |true =>
  have hl:=q3E hd
  have hns:inB (cut s i (qv s i)) q1p=false:=by
   cases g:inB (cut s i (qv s i)) q1p with
   |false=>rfl
   |true=>rw[hc]at g;rw[(j1W g).2.1]at hd;simp at hd
  rw[span_dig _ _ hd]at *
  rw[hd]at d1
  rw[hl]at l1 ⊢
  rw[←hte,hns,d1,l1]
  simp only[if_true,Bool.false_eq_true,if_false,Bool.false_or,Bool.true_and,Bool.false_and,Bool.or_false,decide_eq_true_eq]
  by_cases h3:q1g qd (s.drop (i+1))+1≤3
  ·rw[if_pos h3,if_neg (by omega),if_pos (by omega)];omega
  ·rw[if_neg h3,if_pos (by omega)]
 |false =>
  cases hl:q0s ((s.getD i 0).toNat:Int)with
  |true =>
   have hns:inB (cut s i (qv s i)) q1p=false:=by
    cases g:inB (cut s i (qv s i)) q1p with
    |false=>rfl
    |true=>rw[hc]at g;rw[(j1W g).2.2]at hl;simp at hl
   rw[span_let _ _ hl]at *
   rw[hd]at d1
   rw[hl]at l1
   rw[←hte,hns,d1,l1]
   simp only[if_true,Bool.false_eq_true,if_false,Bool.false_or,Bool.true_and,Bool.false_and,Bool.or_false,decide_eq_true_eq]
   by_cases h3:q1g q0s (s.drop (i+1))+1≤8
   ·rw[if_pos h3,if_neg (by omega),if_neg (by omega),if_pos (by omega)];omega
   ·rw[if_neg h3,if_pos (by omega)]
  |false =>
   have hsp:=span_non (s.drop (i+1)) _ hd hl
   rw[hsp]at hc hte ⊢
   rw[hd]at d1
   rw[hl]at l1
   rw[←hte,d1,l1,hc]
   simp only[List.take_zero,Bool.false_eq_true,if_false,Bool.false_and,Bool.or_false]
   cases g:inB [s.getD i 0] q1p with
   |true =>
    have:=hsg.2 g
    rw[if_neg (by omega),if_neg (by omega),if_neg (by omega),if_pos ⟨h,this⟩,if_pos rfl]
    omega
   |false =>
    have:¬q8l ((s.getD i 0).toNat:Int)≠0:=fun h=>by rw[hsg.1 h]at g;simp at g
    rw[if_neg (by omega),if_neg (by omega),if_neg (by omega),if_neg (fun h=>this h.2),if_neg (by simp)]
def q5C (l:List Tok):List Value:=l.flatMap fun t=>q4f (zo t.text) t.pos t.text.length (q3w t.text) (padP t.text)
theorem j3Z (l:List Tok)(t:Tok):q5C (l++[t])=q5C l++q4f (zo t.text) t.pos t.text.length (q3w t.text) (padP t.text):=by simp[q5C]
theorem j9w:(Tryz.prog.info? 187).map (fun i=>(i.zero,i.size,i.bytes))=some (some (.agg #[.int .i64 0,.int .i64 0,.int .i64 0,.int .i64 0,.int .u8 0,.int .u8 0,.int .u8 0,.int .u8 0,.int .u8 0,.int .u8 0,.int .u8 0,.int .u8 0]),12,40):=by kernel_rfl
theorem j6z (s:By)(i:Nat)(h:i<s.length)(ho:q3S (s.getD i 0) (cut s i (qv s i))=true):cut s i (qv s i)≠[]∧(cut s i (qv s i)).length≤8∧(q4m (cut s i (qv s i))=true→q2k (cut s i (qv s i))=true∧(cut s i (qv s i)).length≤3):=by
 have hg:q1A ⟨cut s i (qv s i),i⟩:=by
  refine⟨_,_,q8D s i h,ho,fun hd=>?_⟩
  show q2k (cut s i (qv s i))=true
  rw[q8D s i h]
  unfold q2k
  rw[List.all_cons,hd,j3h _ _ hd]
  rfl
 exact⟨j8p hg,j1g hg,fun hn=>⟨(q4E hg hn).1,(q4E hg hn).2.2⟩⟩
def q7k (z:Int):Int:=if 0≤z then z else 0
def q5K (z:Int):Bool:=decide (z<0)
theorem z0i (i:Nat):q7k (i:Int)=i:=by unfold q7k;rw[if_pos (by omega)]
theorem j3k (i:Nat):q5K (i:Int)=false:=by unfold q5K;exact decide_eq_false (by omega)
def SRel (s:By)(w:World)(R:List Tok × Int)(g:Nat)(vl vi:Value)(wr:World):Prop:=
 ∃(i:Nat) (acc:List Tok),i≤s.length∧s.length-i≤g∧vi=.int .i64 i∧acc.length≤i∧wr.ownsRow w.heap.size 187 12 vl acc.length (q5C acc)∧q2h s (s.length-i) i acc=R∧Below w.heap.size w wr
theorem srel_tok {s:By}{w w':World}{R:List Tok × Int}{g i k:Nat}{acc:List Tok}{v':Value}{t:By}(hT:Hid (q2h s (s.length-k) k (acc++[⟨t,i⟩])=R))(hk:k≤s.length)(hg:s.length-k≤g)(hl:acc.length+1≤k)
  (hown:w'.ownsRow w.heap.size 187 12 v' (acc.length+1) (q5C acc++q4f (zo t) i t.length (q3w t) (padP t)))(hb:Below w.heap.size w w'){x:Int}(hx:x=(k:Int)):SRel s w R g v' (.int .i64 x) w':=by
 refine⟨k,acc++[Tok.mk t i],hk,hg,by rw[hx],by simpa using hl,?_,hT.out,hb⟩
 rw[j3Z]
 simpa using hown
theorem z0t (s:By)(hs:s.length≤240)(w:World) :
  Calls Tryz.prog 63 #[bs s] w fun e w'=>∃v,e=.returned (.tuple #[v,.int .i64 (q7k (q0Y s).2),.bool (q5K (q0Y s).2)])∧(q5K (q0Y s).2=true→w'.ownsRow w.heap.size 187 12 v ((q0Y s).1.length+1) (q5C (q0Y s).1++q4f 0 s.length 0 0 []))∧Below w.heap.size w w':=by
 have hR:q2h s (s.length-0) 0 []=q0Y s:=rfl
 generalize q0Y s=R at *
 have HR:=zb hR
 clear hR
 have hext:=j6O s
 have HEx:=zb hext
 clear hext
 obtain⟨i0,hi0,hz0,hz1,hz2⟩:=info_parts j9w
 go_enter Tryz.func63,Tryz.ntmps63
 go_wp2_with fail
 go_loopg [5,6] (s.length) (fun g vl vi wr=>SRel s w R g vl vi wr)
 case atStart=>exact⟨0,[],zZ _,by omega,rfl,zL _,zW _ _ _ _,HR.out,zB _ _⟩
 case round =>
  obtain⟨i,acc,hi,hg,rfl,hai,hown,hL,hbel⟩:=hrel
  have HL:=zb hL
  have HGk:=zb hg
  clear HR hL hg
  by_cases hlt:i<s.length
  ·have hat:=q6E s i hlt
   have hBk:=j6A (s.getD i 0)
   have hSz:=j7T s hs i hlt
   have HBl:=zb (fun hb=>j2N HL.out hlt hb)
   have HTk:=zb (fun hb ho=>j8y HL.out hlt hb ho)
   have HBd:=zb (fun hb ho=>j8x HL.out hlt hb ho)
   have HSz:=zb (size_ok s i hlt)
   have hte:=j0e s i hlt
   have hte1:i+1≤qv s i:=by unfold qv;omega
   have HGd:=zb (fun ho=>j6z s i hlt ho)
   generalize hcd:s.getD i 0=c at *
   clear hcd HL
   cases hb:q2i c with
   |true =>
    have HB:=zb (HBl.out hb)
    rw[hb]at hBk
    clear HBl HTk HBd hb HGd
    go_wp2_with fail
    refine(hBk _).mono ?_
    rintro e w1 ⟨rfl,rfl⟩
    go_wp2_with fail
    have hg1:0<gk:=by have:=HGk.out;omega
    go_roundg (gk-1)
    case measure=>omega
    case rel=>exact⟨i+1,acc,by omega,by have:=HGk.out;omega,by go_num,by omega,hown,HB.out,hbel⟩
   |false =>
    have HTk:=zb (HTk.out hb)
    have HBd:=zb (HBd.out hb)
    rw[hb]at hBk
    clear HBl hb
    cases ho:q3S c (cut s i (qv s i))with
    |false =>
     have hsz:j3g s i=0:=by rw[HSz.out,ho];rfl
     have HRb:=zb (HBd.out ho)
     rw[hsz]at hSz
     clear hsz ho HTk HBd HGd
     go_wp2_with fail
     refine(hBk _).mono ?_
     rintro e w1 ⟨rfl,rfl⟩
     go_wp2_with fail
     refine(hSz _).mono ?_
     rintro e w1 ⟨rfl,rfl⟩
     go_wp2_with fail
     go_ret3
     have:=HRb.out
     subst this
     exact⟨.slice none 0 0,by rw[show q7k (([]:List Tok),(i:Int)).2=i from z0i i,show q5K (([]:List Tok),(i:Int)).2=false from j3k i];rfl,fun h=>absurd h (by rw[show q5K (([]:List Tok),(i:Int)).2=false from j3k i];simp),hbel⟩
    |true =>
     have hsz:j3g s i=qv s i-i:=by rw[HSz.out,ho];rfl
     have HRt:=zb (HTk.out ho)
     obtain⟨g0,g8,gd⟩:=HGd.out ho
     have hRd:=tok_read (cut s i (qv s i)) g0 g8 gd
     have hx:=HEx.out i (qv s i)
     have hcl:(cut s i (qv s i)).length=qv s i-i:=by unfold cut;simp;omega
     rw[hsz]at hSz
     rw[hcl]at hRd
     clear hsz ho HTk HBd HGd g0 g8 gd HSz
     generalize qv s i=te at *
     generalize cut s i te=t at *
     have HCL:=zb hcl
     clear hcl
     generalize hkk:zo t=kk at *
     generalize hvv:q3w t=vv at *
     generalize hnn:padP t=n at *
     have HKK:=zb hkk
     have HVV:=zb hvv
     have HNN:=zb hnn
     clear hkk hvv hnn
     have e1:((te-i:Nat):Int)=(te:Int)-i:=by omega
     rw[e1]at hSz hRd
     clear e1
     have hnz:((te:Int)-i==0)=false:=by simp;omega
     have hx':(ByteArray.mk s.toArray).extract i (i+(te-i))=ByteArray.mk t.toArray:=by rw[show i+(te-i)=te from by omega];exact hx
     clear hx
     go_wp2_with fail
     refine(hBk _).mono ?_
     rintro e w1 ⟨rfl,rfl⟩
     go_wp2_with fail
     refine(hSz _).mono ?_
     rintro e w1 ⟨rfl,rfl⟩
     go_wp2_with fail
     refine(hRd _).mono ?_
     rintro e w2 ⟨rfl,hb2⟩
     have b2:=hbel.trans (hb2.mono hbel.size)
     have hown2:=zp hown hb2
     clear hb2 hbel hown
     go_wp2_with (at_builtin;refine q3k rfl (.tmp 34) (.tmp 36) 145 187 rfl Tryz.underlying145 hi0 hz0 hz1 hz2 rfl (by decide) w w.heap.size _ _ _ (q4f kk i ((te:Int)-i) vv n) (w2.alloc (.cells #[.int .i64 kk,.int .i64 i,.int .i64 ((te:Int)-i),.int .i64 vv,.int .u8 (zn n 0),.int .u8 (zn n 1),.int .u8 (zn n 2),.int .u8 (zn n 3),.int .u8 (zn n 4),.int .u8 (zn n 5),.int .u8 (zn n 6),.int .u8 (zn n 7)] 187)) rfl (hown2.alloc _) (by simp[Act.eval]) rfl (by simp[q4f,Value.oneCell']) (by omega) (by decide) (b2.alloc b2.size _) (by have:=b2.size;simp;omega) ?_;intro v' w' hown' hbel' hne)
     have hg1:0<gk:=by have:=HGk.out;omega
     go_roundg (gk-1)
     case measure=>omega
     case rel =>
      refine srel_tok (k:=te) (t:=t) (i:=i) (acc:=acc) HRt hte (by have:=HGk.out;omega) (by omega) ?_ hbel' (by omega)
      rw[HKK.out,HVV.out,HNN.out,show(t.length:Int)=(te:Int)-i from by have:=HCL.out;omega]
      exact hown'
  ·have HRd:=zb (j5x HL.out (by omega))
   clear HL
   go_wp2_with (at_builtin;refine q3k rfl (.tmp 41) (.tmp 45) 145 187 rfl Tryz.underlying145 hi0 hz0 hz1 hz2 rfl (by decide) w w.heap.size _ _ _ (q4f 0 s.length 0 0 []) wr rfl hown (by simp[Act.eval]) rfl (by simp[q4f,Value.oneCell']) (by omega) (by decide) hbel (by have:=hbel.size;omega) ?_;intro v' w' hown' hbel' hne)
   go_ret3
   have:=HRd.out
   subst this
   exact⟨v',rfl,fun _=>hown',hbel'⟩
end Go.Proofs.YtiamjjonoeaggabGreatDoor
