import Derived.Test.YtiamjjonoeaggabGreatDoorGA
import Derived.Test.YtiamjjonoeaggabGreatDoorGB
import Derived.Test.YtiamjjonoeaggabGreatDoorG13
import Derived.Test.YtiamjjonoeaggabGreatDoorG18
import Derived.Test.YtiamjjonoeaggabGreatDoorG20
set_option maxRecDepth 100000
set_option maxHeartbeats 16000000
namespace Go.Proofs.YtiamjjonoeaggabGreatDoor
open Go.RowKit
theorem j5r (fb:Nat)(s:By)(i:Nat)(ta oa tb ob:By)(xa ya xb yb:Bool)(ra rb:Int)(h1:ta.length≤300)(h2:oa.length≤300)(h3:tb.length≤300)(h4:ob.length≤300)(hra:-1≤ra∧ra≤1000)(hrb:-1≤rb∧rb≤1000)(k:Nat)(hk:(zk s i 6).1=k)(hk0:k=5)(hc:((!xb || xa)&&(!yb || ya))=true)(lo hs:By)(hi ie:Nat)(hsp:q1h s (zk s i 6).2 true=((lo,hs,hi),ie))(hl1:lo.length≤9)(hl2:hs.length≤9)(hhi:hi≤100)(w:World)(h:FeedAt w fb s i) :
  Calls Tryz.prog 24 #[.pointer (some ⟨fb,0,none⟩),qx ta oa xa ya ra,qx tb ob xb yb rb] w fun e w'=>e=.returned (qx (([117,110,117,110,116,105,108]++q2O (lo,hs,hi))++[40]++tb++[44]++ta++[41]) (([117,110,117,110,116,105,108]++q2O (lo,hs,hi))++[40]++ob++[44]++oa++[41]) (xb || xa) (yb || ya) (if (if rb<ra then ra else rb) = -1 then(hi:Int)else(if rb<ra then ra else rb)+(hi:Int)))∧FeedAt w' fb s ie∧OnlyB [fb] w w':=by
 have HN:=zb (fun W q=>q1B fb s i 6 (by omega) W q)
 have HJ:=zb (q2u ([117,110,117,110,116,105,108]++q2O (lo,hs,hi)) tb ob ta oa xb yb xa ya rb ra (by simp;omega) h3 h4 h1 h2)
 have HSP:=zb (fun W q=>q6Z fb s (zk s i 6).2 true W q)
 rw[hsp]at HSP
 simp only[]at HSP
 have HLT:=zb (q5P (if rb<ra then ra else rb) hi (by split<;>omega) (by omega))
 have HF:=zb h
 have hlt:=h.lt
 clear h
 obtain⟨SP,hSP⟩:∃SP,SP=q2O (lo,hs,hi):=⟨_,rfl⟩
 have hspl:SP.length≤100:=by rw[hSP];simp;omega
 have hq:¬9223372036854775807<[117,110,117,110,116,105,108].length+SP.length:=by simp;omega
 simp only[List.length_cons,List.length_nil,Nat.zero_add,Nat.reduceAdd]at hq
 rw[←hSP]at HJ HSP ⊢
 obtain⟨T,hT⟩:∃T,T=([117,110,117,110,116,105,108]++SP)++[40]++tb++[44]++ta++[41]:=⟨_,rfl⟩
 obtain⟨O,hO⟩:∃O,O=([117,110,117,110,116,105,108]++SP)++[40]++ob++[44]++oa++[41]:=⟨_,rfl⟩
 obtain⟨X,hX⟩:∃X,X=(xb || xa):=⟨_,rfl⟩
 obtain⟨Y,hY⟩:∃Y,Y=(yb || ya):=⟨_,rfl⟩
 obtain⟨Z,hZ⟩:∃Z,Z=if rb<ra then ra else rb:=⟨_,rfl⟩
 rw[←hT,←hO,←hX,←hY,←hZ]at HJ ⊢
 rw[←hZ]at HLT
 obtain⟨ZZ,hZZ⟩:∃ZZ:Int,ZZ=(if Z = -1 then(hi:Int)else Z+(hi:Int)):=⟨_,rfl⟩
 rw[←hZZ]at HLT ⊢
 clear hZZ
 rw[show bs ([117,110,117,110,116,105,108]++SP)=.string (ByteArray.mk [117,110,117,110,116,105,108].toArray++ByteArray.mk SP.toArray)by rw[qE]]at HJ
 unfold qx at HJ
 obtain⟨MC,hMC⟩:∃MC:Array Value,MC=#[bs T,bs O,.bool X,.bool Y,.int .i64 Z]:=⟨_,rfl⟩
 rw[←hMC]at HJ
 have HMC:=zb hMC
 have hsz:MC.size=5:=by rw[hMC];rfl
 have HZ:=zb hZ
 clear hSP hsp hT hO hX hY hZ hra hrb hMC
 generalize hnx:zk s i 6=rx at *
 obtain⟨k',ik⟩:=rx
 simp only[]at hk HSP
 subst hk
 have HNX:=zb hnx
 clear hnx
 go_enter Tryz.func24,Tryz.ntmps24
 go_wp2_with fail
 obtain⟨W0,hW0⟩:∃W0,W0=((w.alloc (.cells #[bs ta,bs oa,.bool xa,.bool ya,.int .i64 ra] 23)).alloc (.cells #[bs tb,bs ob,.bool xb,.bool yb,.int .i64 rb] 23)).alloc (.cells #[bs [],bs [],.bool false,.bool false,.int .i64 0] 23):=⟨_,rfl⟩
 have BW:Below w.heap.size w W0:=by rw[hW0];exact Joins.below_alloc3 _ _ _ _
 have g0:W0.heap[w.heap.size]?=some (.cells #[bs ta,bs oa,.bool xa,.bool ya,.int .i64 ra] 23 (0,0)):=by
  rw[hW0,zO _ _ (by simp<;>omega),zO _ _ (by simp)];exact zN _ _
 have g1:W0.heap[w.heap.size+1]?=some (.cells #[bs tb,bs ob,.bool xb,.bool yb,.int .i64 rb] 23 (0,0)):=by
  rw[hW0,zO _ _ (by simp)]
  have:=zN (w.alloc (.cells #[bs ta,bs oa,.bool xa,.bool ya,.int .i64 ra] 23)) (.cells #[bs tb,bs ob,.bool xb,.bool yb,.int .i64 rb] 23)
  simpa using this
 have g2:W0.heap[w.heap.size+2]?=some (.cells #[bs [],bs [],.bool false,.bool false,.int .i64 0] 23 (0,0)):=by
  rw[hW0]
  have:=zN ((w.alloc (.cells #[bs ta,bs oa,.bool xa,.bool ya,.int .i64 ra] 23)).alloc (.cells #[bs tb,bs ob,.bool xb,.bool yb,.int .i64 rb] 23)) (.cells #[bs [],bs [],.bool false,.bool false,.int .i64 0] 23)
  simpa using this
 rw[←hW0]
 have HF0:=zb (HF.out.below BW)
 refine(HN.out _ HF0.out).mono ?_
 rintro e w1 ⟨rfl,f1,o1⟩
 have hn:∀q,fb<q→q∉[fb]:=fun q hq e=>by simp at e;omega
 have HNF:=zb hn
 have G0:=o1.row g0 (hn _ hlt)
 have G1:=o1.row g1 (hn _ (by omega))
 have G2:=o1.row g2 (hn _ (by omega))
 have HO1:Hid (OnlyB [fb] w w1):=zb ((OnlyB.of_below BW).trans o1)
 have HF1:=zb f1
 have HG2:=zb G2
 have HG0:=zb G0
 have HG1:=zb G1
 have c2:=zC _ _ 2 _ _ _ G0
 have c3:=zC _ _ 3 _ _ _ G0
 have d2:=zC _ _ 2 _ _ _ G1
 have d3:=zC _ _ 3 _ _ _ G1
 simp only[gz]at c2 c3 d2 d3
 have hl0:w.heap.size<w1.heap.size:=zd G0
 have hl1':w.heap.size+1<w1.heap.size:=zd G1
 have hl2':w.heap.size+2<w1.heap.size:=zd G2
 clear hW0 BW g0 g1 g2 f1 o1 G0 G1 G2 HF HF0 HN hn
 subst hk0
 obtain⟨CA,hCA⟩:∃CA:Array Value,CA=#[bs ta,bs oa,.bool xa,.bool ya,.int .i64 ra]:=⟨_,rfl⟩
 obtain⟨CB,hCB⟩:∃CB:Array Value,CB=#[bs tb,bs ob,.bool xb,.bool yb,.int .i64 rb]:=⟨_,rfl⟩
 rw[←hCA]at HG0
 rw[←hCB]at HG1
 rw[←hCA,←hCB]at HJ
 have hCI:(Tryz.prog.info? 23).map (·.size)=some CA.size:=by rw[hCA];exact qy
 have hCJ:(Tryz.prog.info? 23).map (·.size)=some CB.size:=by rw[hCB];exact qy
 have HCI:=zb hCI
 have HCJ:=zb hCJ
 clear hCA hCB hCI hCJ
 cases xa<;>cases ya<;>cases xb<;>cases yb<;>(try(exfalso;revert hc;decide))
 all_goals
  go_wp2_with fail
  have BA:Below w1.heap.size w1 (w1.alloc (.cells #[.string ⟨#[115,105,110,99,101]⟩,.string ⟨#[117,110,115,105,110,99,101]⟩,.string ⟨#[117,110,116,105,108]⟩,.string ⟨#[117,110,117,110,116,105,108]⟩] 9)):=(zB _ _).alloc (zL _) _
  have gA:=zN w1 (.cells #[.string ⟨#[115,105,110,99,101]⟩,.string ⟨#[117,110,115,105,110,99,101]⟩,.string ⟨#[117,110,116,105,108]⟩,.string ⟨#[117,110,117,110,116,105,108]⟩] 9)
  refine(HSP.out _ (HF1.out.below BA)).mono ?_
  rintro e w2 ⟨rfl,f2,o2⟩
  have HF2:=zb f2
  have HO2:Hid (OnlyB [fb] w w2):=zb (HO1.out.trans ((OnlyB.of_below BA).trans o2))
  have G2:=zb (o2.row ((BA.block _ hl2').trans HG2.out) (HNF.out _ (by omega)))
  have G0:=zb (o2.row ((BA.block _ hl0).trans HG0.out) (HNF.out _ (by omega)))
  have G1:=zb (o2.row ((BA.block _ hl1').trans HG1.out) (HNF.out _ (by omega)))
  have GA:=zb (o2.row gA (HNF.out _ (by omega)))
  have hlA:w1.heap.size<w2.heap.size:=zd GA.out
  have l0:w.heap.size<w2.heap.size:=by omega
  have l1:w.heap.size+1<w2.heap.size:=by omega
  have l2:w.heap.size+2<w2.heap.size:=by omega
  have HSL:Hid (∀W,Below w2.heap.size w2 W→W.cell? ⟨w1.heap.size,3,none⟩=some (.string ⟨[117,110,117,110,116,105,108].toArray⟩)):=zb (fun W hW=>(zK (a:=⟨w1.heap.size,3,none⟩) (hW.block _ hlA)).trans (by have:=zC _ _ 3 _ _ _ GA.out;simpa using this))
  clear BA gA f2 o2 c2 c3 d2 d3
  have hwz:IntKind.i64.wrap 3=3:=by decide
  go_wp2_with fail
  refine wp_region_held_drew (S:=fun w'=>Below w2.heap.size w2 w') (by kernel_rfl) ((zB _ _).drew) (fun hS0=>?_)
  simp only[rz,Nat.zero_add,Nat.reduceAdd]
  refine tq 0 75 ?_
  simp only[Act.put,pz]
  refine tq 1 76 ?_
  simp only[Act.put,pz]
  refine tq 2 77 ?_
  simp only[Act.put,pz]
  refine tq 5 80 ?_
  simp only[Act.put,pz]
  refine q1o (i:=7) (v:=.agg CB) 82 rfl rfl (by kernel_rfl) (by kernel_rfl) (by kernel_rfl) (fun _ _ _ h=>h) (by rfl) (by assumption) ?_ ?_
  ·intro W hSw;exact q1x 23 (.tmp 5) rfl ⟨w.heap.size+1,0,none⟩ _ rfl (qH (P:=Tryz.prog) 23 23 W _ _ (0,0) _ ((hSw.block _ l1).trans G1.out) Tryz.underlying23 rfl HCJ.out)
  simp only[Act.put,pz]
  refine q1o (i:=8) (v:=.agg CA) 83 rfl rfl (by kernel_rfl) (by kernel_rfl) (by kernel_rfl) (fun _ _ _ h=>h) (by rfl) (by assumption) ?_ ?_
  ·intro W hSw;exact q1x 23 (.tmp 4) rfl ⟨w.heap.size,0,none⟩ _ rfl (qH (P:=Tryz.prog) 23 23 W _ _ (0,0) _ ((hSw.block _ l0).trans G0.out) Tryz.underlying23 rfl HCI.out)
  simp only[Act.put,pz]
  refine tq 3 78 ?_
  simp only[Act.put,pz]
  refine q1o (i:=4) (v:=?_) 79 rfl rfl (by kernel_rfl) (by kernel_rfl) (by kernel_rfl) (fun _ _ _ h=>h) (by rfl) (by assumption) ?_ ?_
  rotate_left
  ·(intro W hSw;have hcl:=HSL.out W hSw;(try dsimp only at hSw);go_simp;(try with_reducible rfl))
  simp only[Act.put,pz]
  refine tq 6 81 ?_
  simp only[Act.put,pz]
  have HS0:=zb hS0
  clear hS0
  apply cutN (fun b W=>W.heap[b]?=some (.cells MC 23 (0,0))∧w2.heap.size≤b∧Below w2.heap.size w2 W)
  ·intro key
   refine zY (rs:=[9,10]) (by kernel_rfl) (by simp) ?_
   refine zR rfl (fun K hK=>?_) (zR rfl (fun K hK=>?_) zE)
   ·rw[if_pos (by rfl)]
    go_simp
    refine(HJ.out _).mono ?_
    rintro e w3 ⟨rfl,b3⟩
    have B3:Below w2.heap.size w2 w3:=HS0.out.trans (b3.mono HS0.out.size)
    have hz3:w2.heap.size≤w3.heap.size:=B3.size
    go_simp
    refine hK.out _ _ B3 (fun _=>?_)
    clear hK K b3
    simp only[pz]
    refine rd1 10 rfl fun K hK=>?_
    go_simp
    refine hK.out _ _ (B3.alloc hz3 _) (fun _=>?_)
    clear hK K
    simp only[pz]
    obtain⟨W5,s1,s2,S5⟩:=q4a B3 hsz HMC.out
    refine rd1 11 rfl fun K hK=>?_
    refine qe 23 (.tmp 12) (.tmp 84) rfl ⟨w3.heap.size,0,none⟩ (.agg MC) rfl rfl W5 s1 ?_
    refine hK.out _ _ S5 (fun _=>?_)
    clear hK K
    refine zD (by kernel_rfl) ?_ _
    simp only[Act.put,pz]
    clear s1
    obtain⟨bn,hbn⟩:∃bn,bn=w3.heap.size:=⟨_,rfl⟩
    rw[←hbn]at s2 ⊢
    exact key bn W5 ⟨s2,by omega,S5⟩
   ·rw[if_pos (by rfl)]
    go_simp
    refine hK.out _ _ (HS0.out.alloc (zL _) _) (fun _=>?_)
    clear hK K
    simp only[pz]
    refine rd1 9 rfl fun K hK=>?_
    go_simp
    refine(HJ.out _).mono ?_
    rintro e w3 ⟨rfl,b3⟩
    go_simp
    refine hK.out _ _ ((HS0.out.alloc (zL _) _).trans (b3.mono (by simp))) (fun _=>?_)
    clear hK K
    simp only[pz]
    obtain⟨W5,s1,s2,S5⟩:=q4b HS0.out b3 hsz HMC.out
    refine rd1 11 rfl fun K hK=>?_
    refine qe 23 (.tmp 12) (.tmp 84) rfl ⟨w2.heap.size,0,none⟩ (.agg MC) rfl rfl W5 s1 ?_
    refine hK.out _ _ S5 (fun _=>?_)
    clear hK K
    refine zD (by kernel_rfl) ?_ _
    simp only[Act.put,pz]
    clear s1
    obtain⟨bn,hbn⟩:∃bn,bn=w2.heap.size:=⟨_,rfl⟩
    rw[←hbn]at s2 ⊢
    exact key bn W5 ⟨s2,by omega,S5⟩
  intro bN W5 hR
  obtain⟨r1,r2,r3⟩:=hR
  have HF5:=zb (HF2.out.below r3)
  have HO5:=zb (HO2.out.trans (.of_below r3))
  have G5:=(r3.block _ l2).trans G2.out
  have hlN:bN<W5.heap.size:=zd r1
  have hne5:w.heap.size+2≠bN:=by omega
  obtain⟨MD,hMD⟩:∃MD:Array Value,MD=MC.setIfInBounds 4 (.int .i64 ZZ):=⟨_,rfl⟩
  have HMD:Hid (MD=#[bs T,bs O,.bool X,.bool Y,.int .i64 ZZ]):=zb (by rw[hMD,HMC.out];rfl)
  have hsd:MD.size=5:=by rw[HMD.out];rfl
  have c4:W5.cell? ⟨bN,4,none⟩=some (.int .i64 Z):=by rw[zC _ _ 4 _ _ _ r1,HMC.out];rfl
  have z4:=zF _ _ 4 _ _ r1
  have g6:=zH W5 bN 4 _ _ (.int .i64 ZZ) r1
  rw[←hMD]at g6
  have g7:(W5.setCell ⟨bN,4,none⟩ (.int .i64 ZZ)).heap[w.heap.size+2]?=_:=(Below.heap_setCell W5 _ _ _ hne5).trans G5
  have LD:=qH (P:=Tryz.prog) 23 23 (W5.setCell ⟨bN,4,none⟩ (.int .i64 ZZ)) bN MD (0,0) _ g6 Tryz.underlying23 rfl (by rw[hsd];exact qy)
  obtain⟨W6,s1,s2,s3,s4,s5,s6,s7⟩:=q0n (P:=Tryz.prog) 23 23 (W5.setCell ⟨bN,4,none⟩ (.int .i64 ZZ)) (w.heap.size+2) _ MD g7 (by rw[hsd];exact qy) (by rw[hsd];rfl) (by rw[HMD.out];exact j0B _ _ _ _ _)
  have HL:=zb (q1M (P:=Tryz.prog) 23 23 W6 (w.heap.size+2) MD (0,0) _ s2 Tryz.underlying23 rfl (by rw[hsd];exact qy))
  have HS:=zb s1
  have HB6:Hid (∀q,q<w2.heap.size→q≠w.heap.size+2→W6.heap[q]?=W5.heap[q]?):=zb (fun q hq hn=>(s3 q hn).trans (Below.heap_setCell W5 _ _ q (by simp;omega)))
  have s4':W6.heap.size=W5.heap.size:=by rw[s4];simp
  have HQ5:Hid (W6.os=W5.os∧W6.tape=W5.tape∧W6.output=W5.output):=zb ⟨s5,s6,s7⟩
  have hf2:fb<w2.heap.size:=by omega
  have HR1:=zb r1
  clear s1 s2 s3 s4 s5 s6 s7 r1 r3 G5 g6 g7 hMD HS0 HJ HSP HSL
  go_wp2_with fail
  refine(HLT.out _).mono ?_
  rintro e w6 ⟨rfl,rfl⟩
  go_wp2_with (first|(refine zj rfl 23 (.tmp 12) rfl ⟨bN,0,none⟩ (.agg MD) rfl LD ?_)|(refine ze rfl 23 (.tmp 6) (.tmp 92) rfl ⟨w.heap.size+1+1,0,none⟩ (.agg MD) rfl rfl W6 HS.out ?_))
  exact zP (v:=.agg MD) (zl rfl _ _ _ _ rfl HL.out) rfl ⟨by rw[HMD.out],⟨(HB6.out fb hf2 (by omega)).trans HF5.out.blk,HF5.out.le,HF5.out.sm⟩,⟨HQ5.out.1.trans HO5.out.os,HQ5.out.2.1.trans HO5.out.tape,HQ5.out.2.2.trans HO5.out.output,by rw[s4'];exact HO5.out.size,fun q hq hn=>(HB6.out q (by omega) (by omega)).trans (HO5.out.block q hq hn)⟩⟩
end Go.Proofs.YtiamjjonoeaggabGreatDoor
