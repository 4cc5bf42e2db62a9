import Derived.Test.YtiamjjonoeaggaaGreatDoorGA
import Derived.Test.YtiamjjonoeaggaaGreatDoorG30
namespace Go.Proofs.YtiamjjonoeaggaaGreatDoor
open Go.RowKit
theorem q4G (w lo hi:By)(A B:zh)(L:List LPt)(i x z:Nat):zs L (opF w lo hi A B) i x z=(decide (i<L.length)&&qz (zz 0 0 0 ⟨w,[],lo,hi⟩ A B) L (zs L A) (zs L B) i x z):=rfl
theorem q9t (L:List LPt)(i x z:Nat):zs L q7c i x z=decide (i<L.length):=by
 show(decide (i<L.length)&&qz (zz 0 0 0 ⟨[116,114,117,101],[],[],[]⟩ .nil .nil) L _ _ i x z)=_
 unfold qz
 rw[if_pos (by show zp [116,114,117,101]=5;decide),Bool.and_true]
theorem q9A {nd:PNode}(h:q4n nd.kind=true)(h10:¬nd.kind=10)(L:List LPt)(A B:Nat→Nat→Nat→Bool)(i x z:Nat):qz nd L A B i x z=q4q (fun j=>q1H nd (q0C L i j)) (q1L nd A B x z) (q0N nd A x z) (fun m=>i-m) (i+1):=by
 have hk:nd.kind=10∨nd.kind=12∨nd.kind=14∨nd.kind=15:=by
  unfold q4n at h
  simp only[Bool.or_eq_true,beq_iff_eq]at h
  omega
 unfold qz
 rw[if_neg (by omega),if_neg (by omega),if_neg (by omega),if_neg (by omega),if_neg (by omega),if_neg (by omega),if_neg h10,if_neg (by omega),if_pos h]
theorem j1i {nd:PNode}(h:nd.kind=13∨nd.kind=16∨nd.kind=17)(L:List LPt)(A B:Nat→Nat→Nat→Bool)(i x z:Nat):qz nd L A B i x z=q4q (fun j=>q1H nd (q0C L i j)) (q1L nd A B x z) (q0N nd A x z) (fun m=>i+m) (L.length-i):=by
 unfold qz
 rw[if_neg (by omega),if_neg (by omega),if_neg (by omega),if_neg (by omega),if_neg (by omega),if_neg (by omega),if_neg (by omega),if_neg (by omega),if_neg]
 unfold q4n
 rcases h with h|h|h<;>rw[h]<;>decide
theorem q8s {nd:PNode}(h:nd.kind=12∨nd.kind=13)(A B:Nat→Nat→Nat→Bool)(x z:Nat):q1L nd A B x z=(fun j=>A j x z)∧q0N nd A x z=(fun _=>true):=by
 constructor
 ·funext j;unfold q1L;rw[if_pos h]
 ·funext j;unfold q0N;rw[if_neg (by omega),if_neg (by omega)]
theorem q8t {nd:PNode}(h:nd.kind=14∨nd.kind=16)(A B:Nat→Nat→Nat→Bool)(x z:Nat):q1L nd A B x z=(fun j=>B j x z)∧q0N nd A x z=(fun j=>A j x z):=by
 constructor
 ·funext j;unfold q1L;rw[if_neg (by omega)]
 ·funext j;unfold q0N;rw[if_pos h]
theorem j0r {nd:PNode}(h:nd.kind=15∨nd.kind=17)(A B:Nat→Nat→Nat→Bool)(x z:Nat):q1L nd A B x z=(fun j=>B j x z)∧q0N nd A x z=(fun j=>!A j x z):=by
 constructor
 ·funext j;unfold q1L;rw[if_neg (by omega)]
 ·funext j;unfold q0N;rw[if_neg (by omega),if_pos h]
abbrev j6u:By:=[111,110,99,101]
abbrev j0h:By:=[115,111,111,110]
abbrev q9S:By:=[115,105,110,99,101]
abbrev q9f:By:=[117,110,115,105,110,99,101]
abbrev j4p:By:=[117,110,116,105,108]
abbrev q9g:By:=[117,110,117,110,116,105,108]
abbrev wAnd:By:=[97,110,100]
abbrev wBut:By:=[98,117,116]
abbrev wOr:By:=[111,114]
theorem q8z (L:List LPt)(lo hi:By)(A B:zh)(i x z:Nat):zs L (opF wAnd lo hi A B) i x z=(decide (i<L.length)&&(zs L A i x z&&zs L B i x z)):=by
 rw[q4G]
 unfold qz
 rw[show(zz 0 0 0 ⟨wAnd,[],lo,hi⟩ A B).kind=6 from by show zp wAnd=6;decide]
 rfl
theorem q8A (L:List LPt)(lo hi:By)(A B:zh)(i x z:Nat):zs L (opF wBut lo hi A B) i x z=(decide (i<L.length)&&(zs L A i x z&&!zs L B i x z)):=by
 rw[q4G]
 unfold qz
 rw[show(zz 0 0 0 ⟨wBut,[],lo,hi⟩ A B).kind=7 from by show zp wBut=7;decide]
 rfl
theorem hold_or (L:List LPt)(lo hi:By)(A B:zh)(i x z:Nat):zs L (opF wOr lo hi A B) i x z=(decide (i<L.length)&&(zs L A i x z || zs L B i x z)):=by
 rw[q4G]
 unfold qz
 rw[show(zz 0 0 0 ⟨wOr,[],lo,hi⟩ A B).kind=8 from by show zp wOr=8;decide]
 rfl
abbrev spX (lo hi:By)(L:List LPt)(i:Nat):Nat→Bool:=fun j=>decide (q3k lo≤(q0C L i j:Int))&&((hi==[42]) || decide ((q0C L i j:Int)≤q3k hi))
theorem j2q (L:List LPt)(lo hi:By)(A B:zh)(i x z:Nat):zs L (opF j6u lo hi A B) i x z=(decide (i<L.length)&&q4q (spX lo hi L i) (fun j=>zs L A j x z) (fun _=>true) (fun m=>i-m) (i+1)):=by
 have hk:(zz 0 0 0 ⟨j6u,[],lo,hi⟩ A B).kind=12:=by show zp j6u=12;decide
 rw[q4G,q9A (by rw[hk];decide) (by rw[hk];decide),(q8s (.inl hk) _ _ _ _).1,(q8s (.inl hk) _ (zs L B) _ _).2]
 rfl
theorem q9s (L:List LPt)(lo hi:By)(A B:zh)(i x z:Nat):zs L (opF j0h lo hi A B) i x z=(decide (i<L.length)&&q4q (spX lo hi L i) (fun j=>zs L A j x z) (fun _=>true) (fun m=>i+m) (L.length-i)):=by
 have hk:(zz 0 0 0 ⟨j0h,[],lo,hi⟩ A B).kind=13:=by show zp j0h=13;decide
 rw[q4G,j1i (.inl hk),(q8s (.inr hk) _ _ _ _).1,(q8s (.inr hk) _ (zs L B) _ _).2]
 rfl
theorem q8d (L:List LPt)(lo hi:By)(A B:zh)(i x z:Nat):zs L (opF q9S lo hi A B) i x z=(decide (i<L.length)&&q4q (spX lo hi L i) (fun j=>zs L B j x z) (fun j=>zs L A j x z) (fun m=>i-m) (i+1)):=by
 have hk:(zz 0 0 0 ⟨q9S,[],lo,hi⟩ A B).kind=14:=by show zp q9S=14;decide
 rw[q4G,q9A (by rw[hk];decide) (by rw[hk];decide),(q8t (.inl hk) _ _ _ _).1,(q8t (.inl hk) _ (zs L B) _ _).2]
 rfl
theorem j3A (L:List LPt)(lo hi:By)(A B:zh)(i x z:Nat):zs L (opF q9f lo hi A B) i x z=(decide (i<L.length)&&q4q (spX lo hi L i) (fun j=>zs L B j x z) (fun j=>!zs L A j x z) (fun m=>i-m) (i+1)):=by
 have hk:(zz 0 0 0 ⟨q9f,[],lo,hi⟩ A B).kind=15:=by show zp q9f=15;decide
 rw[q4G,q9A (by rw[hk];decide) (by rw[hk];decide),(j0r (.inl hk) _ _ _ _).1,(j0r (.inl hk) _ (zs L B) _ _).2]
 rfl
theorem j6M (L:List LPt)(lo hi:By)(A B:zh)(i x z:Nat):zs L (opF j4p lo hi A B) i x z=(decide (i<L.length)&&q4q (spX lo hi L i) (fun j=>zs L B j x z) (fun j=>zs L A j x z) (fun m=>i+m) (L.length-i)):=by
 have hk:(zz 0 0 0 ⟨j4p,[],lo,hi⟩ A B).kind=16:=by show zp j4p=16;decide
 rw[q4G,j1i (.inr (.inl hk)),(q8t (.inr hk) _ _ _ _).1,(q8t (.inr hk) _ (zs L B) _ _).2]
 rfl
theorem j3B (L:List LPt)(lo hi:By)(A B:zh)(i x z:Nat):zs L (opF q9g lo hi A B) i x z=(decide (i<L.length)&&q4q (spX lo hi L i) (fun j=>zs L B j x z) (fun j=>!zs L A j x z) (fun m=>i+m) (L.length-i)):=by
 have hk:(zz 0 0 0 ⟨q9g,[],lo,hi⟩ A B).kind=17:=by show zp q9g=17;decide
 rw[q4G,j1i (.inr (.inr hk)),(j0r (.inr hk) _ _ _ _).1,(j0r (.inr hk) _ (zs L B) _ _).2]
 rfl
end Go.Proofs.YtiamjjonoeaggaaGreatDoor
