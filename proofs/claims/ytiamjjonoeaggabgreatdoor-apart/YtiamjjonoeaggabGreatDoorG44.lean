import Derived.Test.YtiamjjonoeaggabGreatDoorGA
import Derived.Test.YtiamjjonoeaggabGreatDoorG01
import Derived.Test.YtiamjjonoeaggabGreatDoorG42
import Derived.Test.YtiamjjonoeaggabGreatDoorG43
set_option maxRecDepth 100000
set_option maxHeartbeats 16000000
namespace Go.Proofs.YtiamjjonoeaggabGreatDoor
open Go
open Go.ChangeShapes Go.WideShapes Go.ChangeAt Go.WideElems Go.RowKit
theorem door_Firm (os:Os)(args:Array Value):laidMetH Tryz.prog Rows.firmRow.laid ((World.doorLaid Tryz.prog 400 os).forCall (fun _ _=>0) ⟨#[],args,[]⟩).memory:=
 laidMetH_of_parts3 (fuel:=8) (laidMet_of_run' 8 (by kernel_rfl) (by kernel_rfl)) (by kernel_rfl) (by kernel_rfl)
theorem tab_Firm {W:World}(h:laidMetH Tryz.prog Rows.firmRow.laid W):TabB W:=by
 have h2:laidMet Tryz.prog Rows.firmRow.laid W:=h
 exact tab_laid h2 j5k.m17
theorem firm_lifted (os:Os)(started:os.Started)(H:Type)(enc:TypeId × Value→H) :
  ReturnsInHanded {} Tryz.checked os 3 .any (fun w args=>(Rows.firmSpec.pre enc Tryz.prog Tryz.f3 [] false w args∧laidMetH Tryz.prog Rows.firmRow.laid w)∧sizedMet enc Tryz.prog Tryz.f3 (OpenSpec.ofChange Rows.firmSpec) false w args)
   (Rows.firmSpec.post enc Tryz.prog Tryz.f3 false true false false):=by
 refine returnsInHanded_of_change_and (C:=Tryz.checked) (X:=fun w _=>laidMetH Tryz.prog Rows.firmRow.laid w) (fun _ _ _ hh h=>h.of_heap hh) ownK started (by kernel_rfl) Tryz.func3
  (ChangeSpec.witness_shaped (enc:=enc) (C:=Tryz.checked) (os:=os) (X:=fun w _=>laidMetH Tryz.prog Rows.firmRow.laid w) false (World.doorLaid Tryz.prog 400 os) #[.string ⟨#[]⟩,.string ⟨#[]⟩,.int .i64 0] 8 rfl (World.shaped_of_RefB (by kernel_rfl) (by kernel_rfl)) (by kernel_rfl) (by kernel_rfl) (by kernel_rfl) (door_Firm os _)) ?_
 intro W base args ds gs before hval0 hW _ _ hL _
 have hval:∀(j:Nat) t v,Tryz.f3.params[j]?=some t→args[j]?=some v→Value.okWide Tryz.prog W .any base t v:=hval0
 have hW':=hW
 obtain⟨p,q,hA0,hV,rfl,hfz,hnd⟩:=hW
 have hA:DataW.TrodAll enc Tryz.prog W 0 (fun _=>true) true Tryz.f3.params.toList args.toList ds p:=hA0
 rw[Tryz.params3]at hA hval
 obtain⟨v0,vs0,d0,ds0,p0,q0,e0,rfl,rfl,h0,hr0⟩:=trodAll_cons hA
 obtain⟨v1,vs1,d1,ds1,p1,q1,e1,rfl,rfl,h1,hr1⟩:=trodAll_cons hr0
 obtain⟨v2,vs2,d2,ds2,p2,q2,e2,rfl,rfl,h2,hr2⟩:=trodAll_cons hr1
 obtain⟨rfl,rfl,rfl⟩:=trodAll_nil hr2
 subst e1
 subst e2
 obtain rfl:args=#[v0,v1,v2]:=by cases args;simp_all
 obtain⟨rfl,rfl⟩:=trodVars_none hV
 clear hA0 hval0
 simp only[List.append_nil]at hW'
 have hlt0:∀x∈p0,x.block<W.heap.size:=fun x hx=>by simpa using hW'.lt x (List.mem_append_left _ hx)
 have ha0:∀(W':World),Below W.heap.size W W'→DataW.Trod enc Tryz.prog W' 0 (fun b=>decide (b<W.heap.size)) true 9 v0 d0 p0:=fun W' hn=>Below.trod laidOutK (by kernel_rfl) (of_decide_eq_true (by kernel_rfl)) h0 hn hlt0
 have hlt1:∀x∈p1,x.block<W.heap.size:=fun x hx=>by simpa using hW'.lt x (List.mem_append_right _ (List.mem_append_left _ hx))
 have ha1:∀(W':World),Below W.heap.size W W'→DataW.Trod enc Tryz.prog W' 0 (fun b=>decide (b<W.heap.size)) true 9 v1 d1 p1:=fun W' hn=>Below.trod laidOutK (by kernel_rfl) (of_decide_eq_true (by kernel_rfl)) h1 hn hlt1
 have hlt2:∀x∈p2,x.block<W.heap.size:=fun x hx=>by simpa using hW'.lt x (List.mem_append_right _ (List.mem_append_right _ (hx)))
 have ha2:∀(W':World),Below W.heap.size W W'→DataW.Trod enc Tryz.prog W' 0 (fun b=>decide (b<W.heap.size)) true 3 v2 d2 p2:=fun W' hn=>Below.trod laidOutK (by kernel_rfl) (of_decide_eq_true (by kernel_rfl)) h2 hn hlt2
 have fin:∀W',Below W.heap.size W W'→Rows.firmSpec.post enc Tryz.prog Tryz.f3 false true false false W #[v0,v1,v2] (.bool true) W':=fun W' hn =>
  ⟨_,_,_,[],_,[],hW',trodAll_mk1 (shut_bool Tryz.underlying4 _),trodAll_cons_mk (ha0 _ hn) (trodAll_cons_mk (ha1 _ hn) (trodAll_mk1 (ha2 _ hn))),rfl,hn.frame _,fun h=>by cases h⟩
 have key:Calls Tryz.prog 3 #[v0,v1,v2] W fun e w'=>e=.returned (.bool true)∧Below W.heap.size W w':=by
  obtain⟨s0,rfl,l0⟩:=str_in (hval 0 9 v0 rfl rfl) h0
  obtain⟨s1,rfl,l1⟩:=str_in (hval 1 9 v1 rfl rfl) h1
  obtain⟨s2,rfl,l2⟩:=int_in (hval 2 3 v2 rfl rfl) h2
  exact kep_Firm s0 s1 s2 l0 l1 l2 W (tab_Firm hL)
 refine key.mono fun e W' ⟨he,hw⟩=>?_
 subst he
 exact⟨_,rfl,fin W' hw⟩
theorem firm_said:Rows.FirmSaid:=
 OpenClaim.holds_of_wide 3 Tryz.f3 rfl rfl rfl rfl rfl rfl rfl ⟨rfl,rfl,rfl,rfl,rfl⟩ rfl rfl rfl rfl rfl (by kernel_rfl) Tryz.func3 (by kernel_rfl)
  (of_decide_eq_true (by kernel_rfl)) (by unfold Func.isWrapper;first|(rw[if_pos (by decide +kernel)];kernel_rfl)|(rw[if_neg (by decide +kernel)];exact⟨rfl,rfl⟩))
  (fun os started H enc _=>firm_lifted os started H enc)
theorem firm_card:Rows.FirmCardSaid:=
 Claim7.holds_tied_plain_at .later [] [.data,.data,.data] true _ true
  firm_said (fun _ h=>by cases h) (by kernel_rfl) (fun _ h=>by cases h) firm_row_tie rfl ⟨rfl,rfl⟩ (by kernel_rfl) rfl
  (fun f fn hf hfn=>by
    obtain rfl:f=3:=Option.some.inj ((show Tryz.prog.funcNamed Rows.firmRow.func=some 3 by kernel_rfl).symm.trans hf) |>.symm
    obtain rfl:fn=Tryz.f3:=(Option.some.inj (Tryz.func3.symm.trans hfn)).symm
    exact⟨by kernel_rfl,fun j t ht=>by
     rw[Tryz.params3]at ht
     have h3:t=3∨t=9:=by
      rcases j with _|_|_|j
      ·right;simpa using ht.symm
      ·right;simpa using ht.symm
      ·left;simpa using ht.symm
      ·simp at ht
     rcases h3 with rfl|rfl
     ·exact(show Tryz.prog.wantsStandIn 3=false by kernel_rfl)
     ·exact(show Tryz.prog.wantsStandIn 9=false by kernel_rfl)⟩)
  (by kernel_rfl)
#print axioms firm_card
end Go.Proofs.YtiamjjonoeaggabGreatDoor
namespace Go.Proofs.YtiamjjonoeaggabGreatDoor
open Go
open Go.ChangeShapes Go.WideShapes Go.ChangeAt Go.WideElems Go.RowKit
theorem door_Apart (os:Os)(args:Array Value):laidMetH Tryz.prog Rows.apartRow.laid ((World.doorLaid Tryz.prog 400 os).forCall (fun _ _=>0) ⟨#[],args,[]⟩).memory:=
 laidMetH_of_parts3 (fuel:=8) (laidMet_of_run' 8 (by kernel_rfl) (by kernel_rfl)) (by kernel_rfl) (by kernel_rfl)
theorem tab_Apart {W:World}(h:laidMetH Tryz.prog Rows.apartRow.laid W):TabB W:=by
 have h2:laidMet Tryz.prog Rows.apartRow.laid W:=h
 exact tab_laid h2 j5k.m17
theorem apart_lifted (os:Os)(started:os.Started)(H:Type)(enc:TypeId × Value→H) :
  ReturnsInHanded {} Tryz.checked os 4 .any (fun w args=>(Rows.apartSpec.pre enc Tryz.prog Tryz.f4 [] false w args∧laidMetH Tryz.prog Rows.apartRow.laid w)∧sizedMet enc Tryz.prog Tryz.f4 (OpenSpec.ofChange Rows.apartSpec) false w args)
   (Rows.apartSpec.post enc Tryz.prog Tryz.f4 false true false false):=by
 refine returnsInHanded_of_change_and (C:=Tryz.checked) (X:=fun w _=>laidMetH Tryz.prog Rows.apartRow.laid w) (fun _ _ _ hh h=>h.of_heap hh) ownK started (by kernel_rfl) Tryz.func4
  (ChangeSpec.witness_shaped (enc:=enc) (C:=Tryz.checked) (os:=os) (X:=fun w _=>laidMetH Tryz.prog Rows.apartRow.laid w) false (World.doorLaid Tryz.prog 400 os) #[.string ⟨#[]⟩,.string ⟨#[]⟩,.string ⟨#[]⟩,.string ⟨#[]⟩] 8 rfl (World.shaped_of_RefB (by kernel_rfl) (by kernel_rfl)) (by kernel_rfl) (by kernel_rfl) (by kernel_rfl) (door_Apart os _)) ?_
 intro W base args ds gs before hval0 hW _ _ hL _
 have hval:∀(j:Nat) t v,Tryz.f4.params[j]?=some t→args[j]?=some v→Value.okWide Tryz.prog W .any base t v:=hval0
 have hW':=hW
 obtain⟨p,q,hA0,hV,rfl,hfz,hnd⟩:=hW
 have hA:DataW.TrodAll enc Tryz.prog W 0 (fun _=>true) true Tryz.f4.params.toList args.toList ds p:=hA0
 rw[Tryz.params4]at hA hval
 obtain⟨v0,vs0,d0,ds0,p0,q0,e0,rfl,rfl,h0,hr0⟩:=trodAll_cons hA
 obtain⟨v1,vs1,d1,ds1,p1,q1,e1,rfl,rfl,h1,hr1⟩:=trodAll_cons hr0
 obtain⟨v2,vs2,d2,ds2,p2,q2,e2,rfl,rfl,h2,hr2⟩:=trodAll_cons hr1
 obtain⟨v3,vs3,d3,ds3,p3,q3,e3,rfl,rfl,h3,hr3⟩:=trodAll_cons hr2
 obtain⟨rfl,rfl,rfl⟩:=trodAll_nil hr3
 subst e1
 subst e2
 subst e3
 obtain rfl:args=#[v0,v1,v2,v3]:=by cases args;simp_all
 obtain⟨rfl,rfl⟩:=trodVars_none hV
 clear hA0 hval0
 simp only[List.append_nil]at hW'
 have hlt0:∀x∈p0,x.block<W.heap.size:=fun x hx=>by simpa using hW'.lt x (List.mem_append_left _ hx)
 have ha0:∀(W':World),Below W.heap.size W W'→DataW.Trod enc Tryz.prog W' 0 (fun b=>decide (b<W.heap.size)) true 9 v0 d0 p0:=fun W' hn=>Below.trod laidOutK (by kernel_rfl) (of_decide_eq_true (by kernel_rfl)) h0 hn hlt0
 have hlt1:∀x∈p1,x.block<W.heap.size:=fun x hx=>by simpa using hW'.lt x (List.mem_append_right _ (List.mem_append_left _ hx))
 have ha1:∀(W':World),Below W.heap.size W W'→DataW.Trod enc Tryz.prog W' 0 (fun b=>decide (b<W.heap.size)) true 9 v1 d1 p1:=fun W' hn=>Below.trod laidOutK (by kernel_rfl) (of_decide_eq_true (by kernel_rfl)) h1 hn hlt1
 have hlt2:∀x∈p2,x.block<W.heap.size:=fun x hx=>by simpa using hW'.lt x (List.mem_append_right _ (List.mem_append_right _ (List.mem_append_left _ hx)))
 have ha2:∀(W':World),Below W.heap.size W W'→DataW.Trod enc Tryz.prog W' 0 (fun b=>decide (b<W.heap.size)) true 9 v2 d2 p2:=fun W' hn=>Below.trod laidOutK (by kernel_rfl) (of_decide_eq_true (by kernel_rfl)) h2 hn hlt2
 have hlt3:∀x∈p3,x.block<W.heap.size:=fun x hx=>by simpa using hW'.lt x (List.mem_append_right _ (List.mem_append_right _ (List.mem_append_right _ (hx))))
 have ha3:∀(W':World),Below W.heap.size W W'→DataW.Trod enc Tryz.prog W' 0 (fun b=>decide (b<W.heap.size)) true 9 v3 d3 p3:=fun W' hn=>Below.trod laidOutK (by kernel_rfl) (of_decide_eq_true (by kernel_rfl)) h3 hn hlt3
 have fin:∀W',Below W.heap.size W W'→Rows.apartSpec.post enc Tryz.prog Tryz.f4 false true false false W #[v0,v1,v2,v3] (.bool true) W':=fun W' hn =>
  ⟨_,_,_,[],_,[],hW',trodAll_mk1 (shut_bool Tryz.underlying4 _),trodAll_cons_mk (ha0 _ hn) (trodAll_cons_mk (ha1 _ hn) (trodAll_cons_mk (ha2 _ hn) (trodAll_mk1 (ha3 _ hn)))),rfl,hn.frame _,fun h=>by cases h⟩
 have key:Calls Tryz.prog 4 #[v0,v1,v2,v3] W fun e w'=>e=.returned (.bool true)∧Below W.heap.size W w':=by
  obtain⟨s0,rfl,l0⟩:=str_in (hval 0 9 v0 rfl rfl) h0
  obtain⟨s1,rfl,l1⟩:=str_in (hval 1 9 v1 rfl rfl) h1
  obtain⟨s2,rfl,l2⟩:=str_in (hval 2 9 v2 rfl rfl) h2
  obtain⟨s3,rfl,l3⟩:=str_in (hval 3 9 v3 rfl rfl) h3
  exact kep_Apart s0 s1 s2 s3 l0 l1 l2 l3 W (tab_Apart hL)
 refine key.mono fun e W' ⟨he,hw⟩=>?_
 subst he
 exact⟨_,rfl,fin W' hw⟩
theorem apart_said:Rows.ApartSaid:=
 OpenClaim.holds_of_wide 4 Tryz.f4 rfl rfl rfl rfl rfl rfl rfl ⟨rfl,rfl,rfl,rfl,rfl⟩ rfl rfl rfl rfl rfl (by kernel_rfl) Tryz.func4 (by kernel_rfl)
  (of_decide_eq_true (by kernel_rfl)) (by unfold Func.isWrapper;first|(rw[if_pos (by decide +kernel)];kernel_rfl)|(rw[if_neg (by decide +kernel)];exact⟨rfl,rfl⟩))
  (fun os started H enc _=>apart_lifted os started H enc)
theorem apart_card:Rows.ApartCardSaid:=
 Claim7.holds_tied_plain_at .later [] [.data,.data,.data] true _ true
  apart_said (fun _ h=>by cases h) (by kernel_rfl) (fun _ h=>by cases h) apart_row_tie rfl ⟨rfl,rfl⟩ (by kernel_rfl) rfl
  (fun f fn hf hfn=>by
    obtain rfl:f=4:=Option.some.inj ((show Tryz.prog.funcNamed Rows.apartRow.func=some 4 by kernel_rfl).symm.trans hf) |>.symm
    obtain rfl:fn=Tryz.f4:=(Option.some.inj (Tryz.func4.symm.trans hfn)).symm
    exact⟨by kernel_rfl,fun j t ht=>by
     rw[Tryz.params4]at ht
     have h3:t=9:=by
      rcases j with _|_|_|_|j
      ·simpa using ht.symm
      ·simpa using ht.symm
      ·simpa using ht.symm
      ·simpa using ht.symm
      ·simp at ht
     subst h3
     exact(show Tryz.prog.wantsStandIn 9=false by kernel_rfl)⟩)
  (by kernel_rfl)
#print axioms apart_card
end Go.Proofs.YtiamjjonoeaggabGreatDoor
