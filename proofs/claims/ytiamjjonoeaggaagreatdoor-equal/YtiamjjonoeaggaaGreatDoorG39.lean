import Derived.Test.YtiamjjonoeaggaaGreatDoorGA
import Derived.Test.YtiamjjonoeaggaaGreatDoorGB
import Derived.Test.YtiamjjonoeaggaaGreatDoorG01
import Derived.Test.YtiamjjonoeaggaaGreatDoorG37
set_option maxRecDepth 100000
set_option maxHeartbeats 16000000
namespace Go.Proofs.YtiamjjonoeaggaaGreatDoor
open Go.RowKit
theorem j5c (raw lines:By)(sh:Int)(hr:raw.length≤maxLen)(hl:lines.length≤maxLen)(hsh:-9223372036854775808≤sh∧sh≤9223372036854775807)(w:World)(ht:q8i w) :
  Calls Tryz.prog 8 #[bs raw,bs lines,.int .i64 sh] w fun e w'=>e=.returned (.bool true)∧Below w.heap.size w w':=by
 have HFM:=zb (j3r raw hr 3 (by omega) w)
 have HLG:=zb (fun W q=>j1d lines hl W q)
 have HLS:=zb (fun W q=>j8c lines hl sh hsh W q)
 have fa:=fine3 raw
 have HT:=zb ht
 clear ht hr hl hsh
 generalize (mkF raw 3 0).1=F at *
 generalize q6t sh 65536=pk at *
 have HR1:=zb (fun base v W hv=>q5C F fa.fine (by have:=fa.hgt;omega) (by have:=fa.len;omega) lines 0 base v W hv)
 have HR2:=zb (fun base v W hv=>q5C F fa.fine (by have:=fa.hgt;omega) (by have:=fa.len;omega) lines pk base v W hv)
 have hll:(q0T lines pk).length=(q0T lines 0).length:=by have:=congrArg List.length (j2z lines pk 0);simpa using this
 have HAL:=zb (fun base base' va vb W hX hY=>j2u (q3l F (q0T lines 0)) (q3l F (q0T lines pk)) (by rw[q2S,q2S,hll]) (j3e hll rfl rfl (fun i=>by rw[j9y lines 0 pk F])) base base' va vb W hX hY)
 have cT:(q0o F)[0]?=some (bs (zy F)):=rfl
 have HAO:=zb (q5G F)
 have HAI:=zb (q1y F)
 have HAZ:Hid ((q0o F).size=5):=zb rfl
 generalize q0o F=MA at *
 generalize q3l F (q0T lines 0)=VA at *
 generalize q3l F (q0T lines pk)=VB at *
 generalize (q0T lines 0).map q4I=TX at *
 generalize (q0T lines pk).map q4I=TY at *
 generalize zy F=TF at *
 clear fa hll
 go_enter Tryz.func8,Tryz.ntmps8
 go_wp2_with fail
 refine HFM.out.mono ?_
 rintro e w1 ⟨rfl,b1⟩
 obtain⟨W2,s1,s2,s3,s4⟩:=qI (P:=Tryz.prog) 23 w1 q4y MA HAI.out (by rw[HAZ.out];rfl) HAO.out
 have B2:Below w.heap.size w W2:=b1.trans (s3.mono b1.size)
 have hl2:w1.heap.size<W2.heap.size:=zd s2
 have c2:=(zC _ _ 0 _ _ _ s2).trans cT
 have HS:=zb s1
 have HB2:=zb B2
 have HC2:=zb c2
 clear b1 s1 s2 s3 s4 B2 c2
 go_wp2_with (refine ze rfl 23 (.tmp 7) (.tmp 16) rfl ⟨w1.heap.size,0,none⟩ (.agg MA) rfl rfl W2 HS.out ?_)
 have D1:=(zB W2.heap.size W2).drew
 have C1:=(zw D1 w1.heap.size 0 hl2).trans HC2.out
 refine wp_region_held_drew (S:=fun w'=>w'.cell? ⟨w1.heap.size,0,none⟩=some (bs TF)) (by kernel_rfl) C1 (fun hS0=>?_)
 simp only[rz,Nat.zero_add,Nat.reduceAdd]
 refine tq 0 18 ?_
 simp only[Act.put,pz]
 refine tq 1 19 ?_
 simp only[Act.put,pz]
 refine tq 2 20 ?_
 simp only[Act.put,pz]
 refine rd1 3 rfl fun K hK=>?_
 go_simp
 refine(HLG.out _ (HT.out.below (HB2.out.trans (D1.mono HB2.out.size)) (zL _))).mono ?_
 rintro e wa1 ⟨v,rfl,r3,b3⟩
 obtain⟨va1,vc1,rfl⟩:=ql r3
 have hlx:w1.heap.size<W2.drew.heap.size:=zT hl2 D1.size
 have c3:=(zw b3 w1.heap.size 0 hlx).trans C1
 have hla1:w1.heap.size<wa1.heap.size:=zT hlx b3.size
 have HRA1:=zb r3
 have BA1:Below W2.heap.size W2 wa1:=D1.trans (b3.mono D1.size)
 have HBA1:=zb BA1
 go_simp
 refine hK.out _ _ c3 (fun hS1=>?_)
 clear hK K r3 b3 hS0 BA1 hlx
 simp only[pz]
 refine rd1 4 rfl fun K hK=>?_
 go_simp
 refine(HR1.out _ _ _ HRA1.out).mono ?_
 rintro e wb1 ⟨u,rfl,r4,b4⟩
 obtain⟨xa1,xc1,rfl⟩:=ql r4
 have c4:=(zw b4 w1.heap.size 0 hla1).trans c3
 have hlb1:w1.heap.size<wb1.heap.size:=zT hla1 b4.size
 have HX1:=zb r4
 have BB1:Below W2.heap.size W2 wb1:=HBA1.out.trans (b4.mono HBA1.out.size)
 have HBB1:=zb BB1
 have HBW1:=zb (HB2.out.trans (BB1.mono HB2.out.size))
 have HC1:=zb c4
 go_simp
 refine hK.out _ _ c4 (fun hS2=>?_)
 clear hK K r4 b4 hS1 c3 BB1
 simp only[pz]
 refine tq 5 17 ?_
 simp only[Act.put,pz]
 refine tq 6 23 ?_
 simp only[Act.put,pz]
 refine tq 7 24 ?_
 simp only[Act.put,pz]
 refine tq 8 8 ?_
 simp only[Act.put,pz]
 refine tq 9 9 ?_
 simp only[Act.put,pz]
 refine zD (by kernel_rfl) ?_ _
 clear hS2 D1 C1 HC2 HB2 HBA1 HRA1
 go_wp2_with fail
 have D2:=(zB wb1.heap.size wb1).drew
 have C2:=(zw D2 w1.heap.size 0 hlb1).trans HC1.out
 refine wp_region_held_drew (S:=fun w'=>w'.cell? ⟨w1.heap.size,0,none⟩=some (bs TF)) (by kernel_rfl) C2 (fun hS0=>?_)
 simp only[rz,Nat.zero_add,Nat.reduceAdd]
 refine tq 0 26 ?_
 simp only[Act.put,pz]
 refine tq 1 27 ?_
 simp only[Act.put,pz]
 refine tq 2 28 ?_
 simp only[Act.put,pz]
 refine tq 3 29 ?_
 simp only[Act.put,pz]
 refine rd1 4 rfl fun K hK=>?_
 go_simp
 refine(HLS.out _ (HT.out.below (HBW1.out.trans (D2.mono HBW1.out.size)) (zL _))).mono ?_
 rintro e wa2 ⟨v,rfl,r3,b3⟩
 obtain⟨va2,vc2,rfl⟩:=ql r3
 have hlx:w1.heap.size<wb1.drew.heap.size:=zT hlb1 D2.size
 have c3:=(zw b3 w1.heap.size 0 hlx).trans C2
 have hla2:w1.heap.size<wa2.heap.size:=zT hlx b3.size
 have HRA2:=zb r3
 have BA2:Below wb1.heap.size wb1 wa2:=D2.trans (b3.mono D2.size)
 have HBA2:=zb BA2
 go_simp
 refine hK.out _ _ c3 (fun hS1=>?_)
 clear hK K r3 b3 hS0 BA2 hlx
 simp only[pz]
 refine rd1 5 rfl fun K hK=>?_
 go_simp
 refine(HR2.out _ _ _ HRA2.out).mono ?_
 rintro e wb2 ⟨u,rfl,r4,b4⟩
 obtain⟨xa2,xc2,rfl⟩:=ql r4
 have c4:=(zw b4 w1.heap.size 0 hla2).trans c3
 have hlb2:w1.heap.size<wb2.heap.size:=zT hla2 b4.size
 have HX2:=zb r4
 have BB2:Below wb1.heap.size wb1 wb2:=HBA2.out.trans (b4.mono HBA2.out.size)
 have HBB2:=zb BB2
 have HBW2:=zb (HBW1.out.trans (BB2.mono HBW1.out.size))
 have HC2:=zb c4
 go_simp
 refine hK.out _ _ c4 (fun hS2=>?_)
 clear hK K r4 b4 hS1 c3 BB2
 simp only[pz]
 refine tq 6 25 ?_
 simp only[Act.put,pz]
 refine tq 7 32 ?_
 simp only[Act.put,pz]
 refine tq 8 33 ?_
 simp only[Act.put,pz]
 refine tq 9 10 ?_
 simp only[Act.put,pz]
 refine tq 10 11 ?_
 simp only[Act.put,pz]
 refine zD (by kernel_rfl) ?_ _
 have HX1b:=zb (zo HX1.out HBB2.out)
 clear hS2 D2 C2 HC1 HBW1 HBA2 HRA2 HX1
 go_wp2_with fail
 refine(HAL.out _ _ _ _ _ HX1b.out HX2.out).mono ?_
 rintro e w6 ⟨rfl,b6⟩
 have HB6:=zb (HBW2.out.trans (b6.mono HBW2.out.size))
 clear b6
 go_wp2_with fail
 go_ret
 exact⟨rfl,HB6.out⟩
end Go.Proofs.YtiamjjonoeaggaaGreatDoor
namespace Go.Proofs.YtiamjjonoeaggaaGreatDoor
open Go
open Go.ChangeShapes Go.WideShapes Go.ChangeAt Go.WideElems Go.RowKit
theorem j3o (os:Os)(args:Array Value):laidMetH Tryz.prog Rows.shiftedRow.laid ((World.doorLaid Tryz.prog 400 os).forCall (fun _ _=>0) ⟨#[],args,[]⟩).memory:=
 laidMetH_of_parts3 (fuel:=8) (laidMet_of_run' 8 (by kernel_rfl) (by kernel_rfl)) (by kernel_rfl) (by kernel_rfl)
theorem j6i {W:World}(h:laidMetH Tryz.prog Rows.shiftedRow.laid W):q8i W:=by
 have h2:laidMet Tryz.prog Rows.shiftedRow.laid W:=h
 exact j6j h2 q8C.m17
theorem j1E (os:Os)(started:os.Started)(H:Type)(enc:TypeId × Value→H) :
  ReturnsInHanded {} Tryz.checked os 8 .any (fun w args=>(Rows.shiftedSpec.pre enc Tryz.prog Tryz.f8 [] false w args∧laidMetH Tryz.prog Rows.shiftedRow.laid w)∧sizedMet enc Tryz.prog Tryz.f8 (OpenSpec.ofChange Rows.shiftedSpec) false w args)
   (Rows.shiftedSpec.post enc Tryz.prog Tryz.f8 false true false false):=by
 refine returnsInHanded_of_change_and (C:=Tryz.checked) (X:=fun w _=>laidMetH Tryz.prog Rows.shiftedRow.laid w) (fun _ _ _ hh h=>h.of_heap hh) ownK started (by kernel_rfl) Tryz.func8
  (ChangeSpec.witness_shaped (enc:=enc) (C:=Tryz.checked) (os:=os) (X:=fun w _=>laidMetH Tryz.prog Rows.shiftedRow.laid w) false (World.doorLaid Tryz.prog 400 os) #[.string ⟨#[]⟩,.string ⟨#[]⟩,.int .i64 0] 8 rfl (World.shaped_of_RefB (by kernel_rfl) (by kernel_rfl)) (by kernel_rfl) (by kernel_rfl) (by kernel_rfl) (j3o os _)) ?_
 intro W base args ds gs before hval0 hW _ _ hL _
 have hval:∀(j:Nat) t v,Tryz.f8.params[j]?=some t→args[j]?=some v→Value.okWide Tryz.prog W .any base t v:=hval0
 have hW':=hW
 obtain⟨p,q,hA0,hV,rfl,hfz,hnd⟩:=hW
 have hA:DataW.TrodAll enc Tryz.prog W 0 (fun _=>true) true Tryz.f8.params.toList args.toList ds p:=hA0
 rw[Tryz.params8]at hA hval
 obtain⟨v0,vs0,d0,ds0,p0,q0,e0,rfl,rfl,h0,hr0⟩:=trodAll_cons hA
 obtain⟨v1,vs1,d1,ds1,p1,q1,e1,rfl,rfl,h1,hr1⟩:=trodAll_cons hr0
 obtain⟨v2,vs2,d2,ds2,p2,q2,e2,rfl,rfl,h2,hr2⟩:=trodAll_cons hr1
 obtain⟨rfl,rfl,rfl⟩:=trodAll_nil hr2
 subst e1
 subst e2
 obtain rfl:args=#[v0,v1,v2]:=by cases args;simp_all
 obtain⟨rfl,rfl⟩:=trodVars_none hV
 clear hA0 hval0
 simp only[List.append_nil]at hW'
 have hlt0:∀x∈p0,x.block<W.heap.size:=fun x hx=>by simpa using hW'.lt x (List.mem_append_left _ hx)
 have ha0:∀(W':World),Below W.heap.size W W'→DataW.Trod enc Tryz.prog W' 0 (fun b=>decide (b<W.heap.size)) true 9 v0 d0 p0:=fun W' hn=>Below.trod q6L (by kernel_rfl) (of_decide_eq_true (by kernel_rfl)) h0 hn hlt0
 have hlt1:∀x∈p1,x.block<W.heap.size:=fun x hx=>by simpa using hW'.lt x (List.mem_append_right _ (List.mem_append_left _ hx))
 have ha1:∀(W':World),Below W.heap.size W W'→DataW.Trod enc Tryz.prog W' 0 (fun b=>decide (b<W.heap.size)) true 9 v1 d1 p1:=fun W' hn=>Below.trod q6L (by kernel_rfl) (of_decide_eq_true (by kernel_rfl)) h1 hn hlt1
 have hlt2:∀x∈p2,x.block<W.heap.size:=fun x hx=>by simpa using hW'.lt x (List.mem_append_right _ (List.mem_append_right _ (hx)))
 have ha2:∀(W':World),Below W.heap.size W W'→DataW.Trod enc Tryz.prog W' 0 (fun b=>decide (b<W.heap.size)) true 3 v2 d2 p2:=fun W' hn=>Below.trod q6L (by kernel_rfl) (of_decide_eq_true (by kernel_rfl)) h2 hn hlt2
 have fin:∀W',Below W.heap.size W W'→Rows.shiftedSpec.post enc Tryz.prog Tryz.f8 false true false false W #[v0,v1,v2] (.bool true) W':=fun W' hn =>
  ⟨_,_,_,[],_,[],hW',trodAll_mk1 (shut_bool Tryz.underlying4 _),trodAll_cons_mk (ha0 _ hn) (trodAll_cons_mk (ha1 _ hn) (trodAll_mk1 (ha2 _ hn))),rfl,hn.frame _,fun h=>by cases h⟩
 have key:Calls Tryz.prog 8 #[v0,v1,v2] W fun e w'=>e=.returned (.bool true)∧Below W.heap.size W w':=by
  obtain⟨s0,rfl,l0⟩:=j3Y (hval 0 9 v0 rfl rfl) h0
  obtain⟨s1,rfl,l1⟩:=j3Y (hval 1 9 v1 rfl rfl) h1
  obtain⟨s2,rfl,l2⟩:=int_in (hval 2 3 v2 rfl rfl) h2
  exact j5c s0 s1 s2 l0 l1 l2 W (j6i hL)
 refine key.mono fun e W' ⟨he,hw⟩=>?_
 subst he
 exact⟨_,rfl,fin W' hw⟩
theorem j3X:Rows.ShiftedSaid:=
 OpenClaim.holds_of_wide 8 Tryz.f8 rfl rfl rfl rfl rfl rfl rfl ⟨rfl,rfl,rfl,rfl,rfl⟩ rfl rfl rfl rfl rfl (by kernel_rfl) Tryz.func8 (by kernel_rfl)
  (of_decide_eq_true (by kernel_rfl)) (by unfold Func.isWrapper;first|(rw[if_pos (by decide +kernel)];kernel_rfl)|(rw[if_neg (by decide +kernel)];exact⟨rfl,rfl⟩))
  (fun os started H enc _=>j1E os started H enc)
theorem j3W:Rows.ShiftedCardSaid:=
 Claim7.holds_tied_plain_at .later [] [.data,.data,.data] true _ true
  j3X (fun _ h=>by cases h) (by kernel_rfl) (fun _ h=>by cases h) shifted_row_tie rfl ⟨rfl,rfl⟩ (by kernel_rfl) rfl
  (fun f fn hf hfn=>by
    obtain rfl:f=8:=Option.some.inj ((show Tryz.prog.funcNamed Rows.shiftedRow.func=some 8 by kernel_rfl).symm.trans hf) |>.symm
    obtain rfl:fn=Tryz.f8:=(Option.some.inj (Tryz.func8.symm.trans hfn)).symm
    exact⟨by kernel_rfl,fun j t ht=>by
     rw[Tryz.params8]at ht
     have h3:t=3∨t=9:=by
      rcases j with _|_|_|j
      ·right;simpa using ht.symm
      ·right;simpa using ht.symm
      ·left;simpa using ht.symm
      ·simp at ht
     rcases h3 with rfl|rfl
     ·exact(show Tryz.prog.wantsStandIn 3=false by kernel_rfl)
     ·exact(show Tryz.prog.wantsStandIn 9=false by kernel_rfl)⟩)
  (by kernel_rfl)
#print axioms j3W
end Go.Proofs.YtiamjjonoeaggaaGreatDoor
