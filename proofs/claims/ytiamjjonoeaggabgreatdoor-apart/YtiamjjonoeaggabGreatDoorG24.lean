import Derived.Test.YtiamjjonoeaggabGreatDoorGA
import Derived.Test.YtiamjjonoeaggabGreatDoorG19
import Derived.Test.YtiamjjonoeaggabGreatDoorG20
import Derived.Test.YtiamjjonoeaggabGreatDoorG21
import Derived.Test.YtiamjjonoeaggabGreatDoorG22
import Derived.Test.YtiamjjonoeaggabGreatDoorG23
set_option maxRecDepth 100000
set_option maxHeartbeats 16000000
namespace Go.Proofs.YtiamjjonoeaggabGreatDoor
open Go.RowKit
theorem j2t (fb:Nat)(s:By)(i:Nat)(ta oa tb ob:By)(xa ya xb yb:Bool)(ra rb:Int)(h1:ta.length≤300)(h2:oa.length≤300)(h3:tb.length≤300)(h4:ob.length≤300)(k:Nat)(hk:(zk s i 6).1=k)(hk0:k=0)(hc:(xa==xb&&ya==yb)=false)(w:World)(h:FeedAt w fb s i) :
  Calls Tryz.prog 24 #[.pointer (some ⟨fb,0,none⟩),qx ta oa xa ya ra,qx tb ob xb yb rb] w fun e w'=>e=.returned (qx ([97,110,100]++[40]++ta++[44]++tb++[41]) ([97,110,100]++[40]++oa++[44]++ob++[41]) (xa || xb) (ya || yb) (if ra<rb then rb else ra))∧FeedAt w' fb s (zk s i 6).2∧OnlyB [fb] w w':=by
 have HN:=zb (fun W q=>q1B fb s i 6 (by omega) W q)
 have HJ:=zb (q2u [97,110,100] ta oa tb ob xa ya xb yb ra rb (by decide) h1 h2 h3 h4)
 have HF:=zb h
 have hlt:=h.lt
 clear h
 obtain⟨MC,hMC⟩:∃MC:Array Value,MC=#[bs ([97,110,100]++[40]++ta++[44]++tb++[41]),bs ([97,110,100]++[40]++oa++[44]++ob++[41]),.bool (xa || xb),.bool (ya || yb),.int .i64 (if ra<rb then rb else ra)]:=⟨_,rfl⟩
 unfold qx at HJ ⊢
 rw[←hMC]at HJ ⊢
 have HMC:=zb hMC
 clear hMC
 generalize hnx:zk s i 6=rx at *
 obtain⟨k',ik⟩:=rx
 simp only[]at hk
 subst hk
 have HNX:=zb hnx
 clear hnx
 go_enter Tryz.func24,Tryz.ntmps24
 go_wp2_with fail
 obtain⟨W0,hW0⟩:∃W0,W0=((w.alloc (.cells #[bs ta,bs oa,.bool xa,.bool ya,.int .i64 ra] 23)).alloc (.cells #[bs tb,bs ob,.bool xb,.bool yb,.int .i64 rb] 23)).alloc (.cells #[bs [],bs [],.bool false,.bool false,.int .i64 0] 23):=⟨_,rfl⟩
 have BW:Below w.heap.size w W0:=by rw[hW0];exact Joins.below_alloc3 _ _ _ _
 have g0:W0.heap[w.heap.size]?=some (.cells #[bs ta,bs oa,.bool xa,.bool ya,.int .i64 ra] 23 (0,0)):=by
  rw[hW0,zO _ _ (by simp<;>omega),zO _ _ (by simp)];exact zN _ _
 have g1:W0.heap[w.heap.size+1]?=some (.cells #[bs tb,bs ob,.bool xb,.bool yb,.int .i64 rb] 23 (0,0)):=by
  rw[hW0,zO _ _ (by simp)]
  have:=zN (w.alloc (.cells #[bs ta,bs oa,.bool xa,.bool ya,.int .i64 ra] 23)) (.cells #[bs tb,bs ob,.bool xb,.bool yb,.int .i64 rb] 23)
  simpa using this
 have g2:W0.heap[w.heap.size+2]?=some (.cells #[bs [],bs [],.bool false,.bool false,.int .i64 0] 23 (0,0)):=by
  rw[hW0]
  have:=zN ((w.alloc (.cells #[bs ta,bs oa,.bool xa,.bool ya,.int .i64 ra] 23)).alloc (.cells #[bs tb,bs ob,.bool xb,.bool yb,.int .i64 rb] 23)) (.cells #[bs [],bs [],.bool false,.bool false,.int .i64 0] 23)
  simpa using this
 rw[←hW0]
 have HF0:=zb (HF.out.below BW)
 refine(HN.out _ HF0.out).mono ?_
 rintro e w1 ⟨rfl,f1,o1⟩
 have hn:∀q,fb<q→q∉[fb]:=fun q hq e=>by simp at e;omega
 have G0:=o1.row g0 (hn _ hlt)
 have G1:=o1.row g1 (hn _ (by omega))
 have G2:=o1.row g2 (hn _ (by omega))
 have HO1:Hid (OnlyB [fb] w w1):=zb ((OnlyB.of_below BW).trans o1)
 have HF1:=zb f1
 have HG2:=zb G2
 have c0:=zC _ _ 0 _ _ _ G0
 have c1:=zC _ _ 1 _ _ _ G0
 have c2:=zC _ _ 2 _ _ _ G0
 have c3:=zC _ _ 3 _ _ _ G0
 have c4:=zC _ _ 4 _ _ _ G0
 have d0:=zC _ _ 0 _ _ _ G1
 have d1:=zC _ _ 1 _ _ _ G1
 have d2:=zC _ _ 2 _ _ _ G1
 have d3:=zC _ _ 3 _ _ _ G1
 have d4:=zC _ _ 4 _ _ _ G1
 simp only[gz]at c0 c1 c2 c3 c4 d0 d1 d2 d3 d4
 have hl0:w.heap.size<w1.heap.size:=zd G0
 have hl1:w.heap.size+1<w1.heap.size:=zd G1
 have hl2:w.heap.size+2<w1.heap.size:=zd G2
 clear hW0 BW g0 g1 g2 f1 o1 G0 G1 G2 HF HF0 HN hn
 subst hk0
 cases xa<;>cases ya<;>cases xb<;>cases yb<;>(try(exfalso;revert hc;decide)) <;>
 ·go_wp2_with fail
  refine(HJ.out _).mono ?_
  rintro e w2 ⟨rfl,b2⟩
  have HF2:=zb (HF1.out.below b2)
  have HO2:=zb (HO1.out.trans (.of_below b2))
  have G2:=(b2.block _ hl2).trans HG2.out
  have hsz:MC.size=5:=by rw[HMC.out];rfl
  obtain⟨W3,s1,s2,s3,s4,s5,s6,s7⟩:=q0n (P:=Tryz.prog) 23 23 w2 (w.heap.size+2) _ MC G2 (by rw[hsz];exact qy) (by rw[hsz];rfl) (by rw[HMC.out];exact j0B _ _ _ _ _)
  have HL:=zb (q1M (P:=Tryz.prog) 23 23 W3 (w.heap.size+2) MC (0,0) _ s2 Tryz.underlying23 rfl (by rw[hsz];exact qy))
  have B3:Below w.heap.size w2 W3:=⟨s5,s6,s7,Nat.le_of_eq s4.symm,fun q hq=>s3 q (by omega)⟩
  have HS:=zb s1
  clear s1
  go_wp2_with (refine ze rfl 23 (.tmp 6) (.tmp 66) rfl ⟨w.heap.size+1+1,0,none⟩ (.agg MC) rfl rfl W3 HS.out ?_)
  have hfl:=hlt
  exact zP (v:=.agg MC) (zl rfl _ _ _ _ rfl HL.out) rfl ⟨rfl,⟨(s3 fb (by omega)).trans HF2.out.blk,HF2.out.le,HF2.out.sm⟩,⟨s5.trans HO2.out.os,s6.trans HO2.out.tape,s7.trans HO2.out.output,by rw[s4];exact HO2.out.size,fun q hq hn=>(s3 q (by omega)).trans (HO2.out.block q hq hn)⟩⟩
theorem j2u (fb:Nat)(s:By)(i:Nat)(ta oa tb ob:By)(xa ya xb yb:Bool)(ra rb:Int)(h1:ta.length≤300)(h2:oa.length≤300)(h3:tb.length≤300)(h4:ob.length≤300)(k:Nat)(hk:(zk s i 6).1=k)(hk0:k=1)(hc:((!xb || xa)&&(!yb || ya))=false)(w:World)(h:FeedAt w fb s i) :
  Calls Tryz.prog 24 #[.pointer (some ⟨fb,0,none⟩),qx ta oa xa ya ra,qx tb ob xb yb rb] w fun e w'=>e=.returned (qx ([97,110,100]++[40]++ta++[44]++tb++[41]) ([97,110,100]++[40]++oa++[44]++ob++[41]) (xa || xb) (ya || yb) (if ra<rb then rb else ra))∧FeedAt w' fb s (zk s i 6).2∧OnlyB [fb] w w':=by
 have HN:=zb (fun W q=>q1B fb s i 6 (by omega) W q)
 have HJ:=zb (q2u [97,110,100] ta oa tb ob xa ya xb yb ra rb (by decide) h1 h2 h3 h4)
 have HF:=zb h
 have hlt:=h.lt
 clear h
 obtain⟨MC,hMC⟩:∃MC:Array Value,MC=#[bs ([97,110,100]++[40]++ta++[44]++tb++[41]),bs ([97,110,100]++[40]++oa++[44]++ob++[41]),.bool (xa || xb),.bool (ya || yb),.int .i64 (if ra<rb then rb else ra)]:=⟨_,rfl⟩
 unfold qx at HJ ⊢
 rw[←hMC]at HJ ⊢
 have HMC:=zb hMC
 clear hMC
 generalize hnx:zk s i 6=rx at *
 obtain⟨k',ik⟩:=rx
 simp only[]at hk
 subst hk
 have HNX:=zb hnx
 clear hnx
 go_enter Tryz.func24,Tryz.ntmps24
 go_wp2_with fail
 obtain⟨W0,hW0⟩:∃W0,W0=((w.alloc (.cells #[bs ta,bs oa,.bool xa,.bool ya,.int .i64 ra] 23)).alloc (.cells #[bs tb,bs ob,.bool xb,.bool yb,.int .i64 rb] 23)).alloc (.cells #[bs [],bs [],.bool false,.bool false,.int .i64 0] 23):=⟨_,rfl⟩
 have BW:Below w.heap.size w W0:=by rw[hW0];exact Joins.below_alloc3 _ _ _ _
 have g0:W0.heap[w.heap.size]?=some (.cells #[bs ta,bs oa,.bool xa,.bool ya,.int .i64 ra] 23 (0,0)):=by
  rw[hW0,zO _ _ (by simp<;>omega),zO _ _ (by simp)];exact zN _ _
 have g1:W0.heap[w.heap.size+1]?=some (.cells #[bs tb,bs ob,.bool xb,.bool yb,.int .i64 rb] 23 (0,0)):=by
  rw[hW0,zO _ _ (by simp)]
  have:=zN (w.alloc (.cells #[bs ta,bs oa,.bool xa,.bool ya,.int .i64 ra] 23)) (.cells #[bs tb,bs ob,.bool xb,.bool yb,.int .i64 rb] 23)
  simpa using this
 have g2:W0.heap[w.heap.size+2]?=some (.cells #[bs [],bs [],.bool false,.bool false,.int .i64 0] 23 (0,0)):=by
  rw[hW0]
  have:=zN ((w.alloc (.cells #[bs ta,bs oa,.bool xa,.bool ya,.int .i64 ra] 23)).alloc (.cells #[bs tb,bs ob,.bool xb,.bool yb,.int .i64 rb] 23)) (.cells #[bs [],bs [],.bool false,.bool false,.int .i64 0] 23)
  simpa using this
 rw[←hW0]
 have HF0:=zb (HF.out.below BW)
 refine(HN.out _ HF0.out).mono ?_
 rintro e w1 ⟨rfl,f1,o1⟩
 have hn:∀q,fb<q→q∉[fb]:=fun q hq e=>by simp at e;omega
 have G0:=o1.row g0 (hn _ hlt)
 have G1:=o1.row g1 (hn _ (by omega))
 have G2:=o1.row g2 (hn _ (by omega))
 have HO1:Hid (OnlyB [fb] w w1):=zb ((OnlyB.of_below BW).trans o1)
 have HF1:=zb f1
 have HG2:=zb G2
 have c0:=zC _ _ 0 _ _ _ G0
 have c1:=zC _ _ 1 _ _ _ G0
 have c2:=zC _ _ 2 _ _ _ G0
 have c3:=zC _ _ 3 _ _ _ G0
 have c4:=zC _ _ 4 _ _ _ G0
 have d0:=zC _ _ 0 _ _ _ G1
 have d1:=zC _ _ 1 _ _ _ G1
 have d2:=zC _ _ 2 _ _ _ G1
 have d3:=zC _ _ 3 _ _ _ G1
 have d4:=zC _ _ 4 _ _ _ G1
 simp only[gz]at c0 c1 c2 c3 c4 d0 d1 d2 d3 d4
 have hl0:w.heap.size<w1.heap.size:=zd G0
 have hl1:w.heap.size+1<w1.heap.size:=zd G1
 have hl2:w.heap.size+2<w1.heap.size:=zd G2
 clear hW0 BW g0 g1 g2 f1 o1 G0 G1 G2 HF HF0 HN hn
 subst hk0
 cases xa<;>cases ya<;>cases xb<;>cases yb<;>(try(exfalso;revert hc;decide)) <;>
 ·go_wp2_with fail
  refine(HJ.out _).mono ?_
  rintro e w2 ⟨rfl,b2⟩
  have HF2:=zb (HF1.out.below b2)
  have HO2:=zb (HO1.out.trans (.of_below b2))
  have G2:=(b2.block _ hl2).trans HG2.out
  have hsz:MC.size=5:=by rw[HMC.out];rfl
  obtain⟨W3,s1,s2,s3,s4,s5,s6,s7⟩:=q0n (P:=Tryz.prog) 23 23 w2 (w.heap.size+2) _ MC G2 (by rw[hsz];exact qy) (by rw[hsz];rfl) (by rw[HMC.out];exact j0B _ _ _ _ _)
  have HL:=zb (q1M (P:=Tryz.prog) 23 23 W3 (w.heap.size+2) MC (0,0) _ s2 Tryz.underlying23 rfl (by rw[hsz];exact qy))
  have B3:Below w.heap.size w2 W3:=⟨s5,s6,s7,Nat.le_of_eq s4.symm,fun q hq=>s3 q (by omega)⟩
  have HS:=zb s1
  clear s1
  go_wp2_with (refine ze rfl 23 (.tmp 6) (.tmp 66) rfl ⟨w.heap.size+1+1,0,none⟩ (.agg MC) rfl rfl W3 HS.out ?_)
  have hfl:=hlt
  exact zP (v:=.agg MC) (zl rfl _ _ _ _ rfl HL.out) rfl ⟨rfl,⟨(s3 fb (by omega)).trans HF2.out.blk,HF2.out.le,HF2.out.sm⟩,⟨s5.trans HO2.out.os,s6.trans HO2.out.tape,s7.trans HO2.out.output,by rw[s4];exact HO2.out.size,fun q hq hn=>(s3 q (by omega)).trans (HO2.out.block q hq hn)⟩⟩
theorem j2v (fb:Nat)(s:By)(i:Nat)(ta oa tb ob:By)(xa ya xb yb:Bool)(ra rb:Int)(h1:ta.length≤300)(h2:oa.length≤300)(h3:tb.length≤300)(h4:ob.length≤300)(k:Nat)(hk:(zk s i 6).1=k)(hk0:¬k=0)(hk1:¬k=1)(hc:((!xb || xa)&&(!yb || ya))=false)(w:World)(h:FeedAt w fb s i) :
  Calls Tryz.prog 24 #[.pointer (some ⟨fb,0,none⟩),qx ta oa xa ya ra,qx tb ob xb yb rb] w fun e w'=>e=.returned (qx ([97,110,100]++[40]++ta++[44]++tb++[41]) ([97,110,100]++[40]++oa++[44]++ob++[41]) (xa || xb) (ya || yb) (if ra<rb then rb else ra))∧FeedAt w' fb s (zk s i 6).2∧OnlyB [fb] w w':=by
 have HN:=zb (fun W q=>q1B fb s i 6 (by omega) W q)
 have HJ:=zb (q2u [97,110,100] ta oa tb ob xa ya xb yb ra rb (by decide) h1 h2 h3 h4)
 have HF:=zb h
 have hlt:=h.lt
 clear h
 obtain⟨MC,hMC⟩:∃MC:Array Value,MC=#[bs ([97,110,100]++[40]++ta++[44]++tb++[41]),bs ([97,110,100]++[40]++oa++[44]++ob++[41]),.bool (xa || xb),.bool (ya || yb),.int .i64 (if ra<rb then rb else ra)]:=⟨_,rfl⟩
 unfold qx at HJ ⊢
 rw[←hMC]at HJ ⊢
 have HMC:=zb hMC
 clear hMC
 generalize hnx:zk s i 6=rx at *
 obtain⟨k',ik⟩:=rx
 simp only[]at hk
 subst hk
 have HNX:=zb hnx
 clear hnx
 go_enter Tryz.func24,Tryz.ntmps24
 go_wp2_with fail
 obtain⟨W0,hW0⟩:∃W0,W0=((w.alloc (.cells #[bs ta,bs oa,.bool xa,.bool ya,.int .i64 ra] 23)).alloc (.cells #[bs tb,bs ob,.bool xb,.bool yb,.int .i64 rb] 23)).alloc (.cells #[bs [],bs [],.bool false,.bool false,.int .i64 0] 23):=⟨_,rfl⟩
 have BW:Below w.heap.size w W0:=by rw[hW0];exact Joins.below_alloc3 _ _ _ _
 have g0:W0.heap[w.heap.size]?=some (.cells #[bs ta,bs oa,.bool xa,.bool ya,.int .i64 ra] 23 (0,0)):=by
  rw[hW0,zO _ _ (by simp<;>omega),zO _ _ (by simp)];exact zN _ _
 have g1:W0.heap[w.heap.size+1]?=some (.cells #[bs tb,bs ob,.bool xb,.bool yb,.int .i64 rb] 23 (0,0)):=by
  rw[hW0,zO _ _ (by simp)]
  have:=zN (w.alloc (.cells #[bs ta,bs oa,.bool xa,.bool ya,.int .i64 ra] 23)) (.cells #[bs tb,bs ob,.bool xb,.bool yb,.int .i64 rb] 23)
  simpa using this
 have g2:W0.heap[w.heap.size+2]?=some (.cells #[bs [],bs [],.bool false,.bool false,.int .i64 0] 23 (0,0)):=by
  rw[hW0]
  have:=zN ((w.alloc (.cells #[bs ta,bs oa,.bool xa,.bool ya,.int .i64 ra] 23)).alloc (.cells #[bs tb,bs ob,.bool xb,.bool yb,.int .i64 rb] 23)) (.cells #[bs [],bs [],.bool false,.bool false,.int .i64 0] 23)
  simpa using this
 rw[←hW0]
 have HF0:=zb (HF.out.below BW)
 refine(HN.out _ HF0.out).mono ?_
 rintro e w1 ⟨rfl,f1,o1⟩
 have hn:∀q,fb<q→q∉[fb]:=fun q hq e=>by simp at e;omega
 have G0:=o1.row g0 (hn _ hlt)
 have G1:=o1.row g1 (hn _ (by omega))
 have G2:=o1.row g2 (hn _ (by omega))
 have HO1:Hid (OnlyB [fb] w w1):=zb ((OnlyB.of_below BW).trans o1)
 have HF1:=zb f1
 have HG2:=zb G2
 have c0:=zC _ _ 0 _ _ _ G0
 have c1:=zC _ _ 1 _ _ _ G0
 have c2:=zC _ _ 2 _ _ _ G0
 have c3:=zC _ _ 3 _ _ _ G0
 have c4:=zC _ _ 4 _ _ _ G0
 have d0:=zC _ _ 0 _ _ _ G1
 have d1:=zC _ _ 1 _ _ _ G1
 have d2:=zC _ _ 2 _ _ _ G1
 have d3:=zC _ _ 3 _ _ _ G1
 have d4:=zC _ _ 4 _ _ _ G1
 simp only[gz]at c0 c1 c2 c3 c4 d0 d1 d2 d3 d4
 have hl0:w.heap.size<w1.heap.size:=zd G0
 have hl1:w.heap.size+1<w1.heap.size:=zd G1
 have hl2:w.heap.size+2<w1.heap.size:=zd G2
 clear hW0 BW g0 g1 g2 f1 o1 G0 G1 G2 HF HF0 HN hn
 have hka:(((k':Nat):Int)==0)=false:=by simp;omega
 have hkb:(((k':Nat):Int)==1)=false:=by simp;omega
 cases xa<;>cases ya<;>cases xb<;>cases yb<;>(try(exfalso;revert hc;decide)) <;>
 ·go_wp2_with fail
  refine(HJ.out _).mono ?_
  rintro e w2 ⟨rfl,b2⟩
  have HF2:=zb (HF1.out.below b2)
  have HO2:=zb (HO1.out.trans (.of_below b2))
  have G2:=(b2.block _ hl2).trans HG2.out
  have hsz:MC.size=5:=by rw[HMC.out];rfl
  obtain⟨W3,s1,s2,s3,s4,s5,s6,s7⟩:=q0n (P:=Tryz.prog) 23 23 w2 (w.heap.size+2) _ MC G2 (by rw[hsz];exact qy) (by rw[hsz];rfl) (by rw[HMC.out];exact j0B _ _ _ _ _)
  have HL:=zb (q1M (P:=Tryz.prog) 23 23 W3 (w.heap.size+2) MC (0,0) _ s2 Tryz.underlying23 rfl (by rw[hsz];exact qy))
  have B3:Below w.heap.size w2 W3:=⟨s5,s6,s7,Nat.le_of_eq s4.symm,fun q hq=>s3 q (by omega)⟩
  have HS:=zb s1
  clear s1
  go_wp2_with (refine ze rfl 23 (.tmp 6) (.tmp 66) rfl ⟨w.heap.size+1+1,0,none⟩ (.agg MC) rfl rfl W3 HS.out ?_)
  have hfl:=hlt
  exact zP (v:=.agg MC) (zl rfl _ _ _ _ rfl HL.out) rfl ⟨rfl,⟨(s3 fb (by omega)).trans HF2.out.blk,HF2.out.le,HF2.out.sm⟩,⟨s5.trans HO2.out.os,s6.trans HO2.out.tape,s7.trans HO2.out.output,by rw[s4];exact HO2.out.size,fun q hq hn=>(s3 q (by omega)).trans (HO2.out.block q hq hn)⟩⟩
theorem j2h (t:By):(q0M t).length=t.length:=by
 unfold q0M
 split
 ·rename_i h;rw[h];rfl
 ·split
  ·rename_i _ h;rw[h];rfl
  ·rfl
theorem q7R (F:zg):(zs (qm F)).length=(zs F).length:=by
 induction F with
 |nil=>rfl
 |node p sp y l r ihl ihr =>
  obtain⟨wd,args,lo,hi⟩:=y
  simp only[qm,zs]
  split
  ·rcases args with _|⟨a,_|⟨b,_|⟨c,rest⟩⟩⟩<;>simp[j2h]
  ·split
   ·cases args<;>simp[j2h,ihl]
   ·split
    ·simp[ihl,ihr]
    ·split
     ·simp[ihl]
     ·split
      ·simp[ihl,ihr]
      ·rfl
theorem q9b {w lo hs:By}(hi:Nat)(hw:qG w=true){A B:zg}(hA:A≠.nil)(rz:Int)(hz:rz=zf (opF w lo hs A B)):qx ((w++q2O (lo,hs,hi))++[40]++zs A++[44]++zs B++[41]) ((w++q2O (lo,hs,hi))++[40]++zs (qm A)++[44]++zs (qm B)++[41]) (zh A [120] || zh B [120]) (zh A [121] || zh B [121]) rz=q6H (opF w lo hs A B):=by
 have k:=q0d.2.2 hw
 unfold q6H
 rw[j4f,j6w hw lo hs A B hi,j6w hw lo hs (qm A) (qm B) hi,q7x hA k.2.1,q7x hA k.2.1,hz]
theorem j2Z (v:By)(F:zg):zf (exF v F)=zf F:=by
 unfold exF
 rw[zf,show q0B [101,120,105,115,116,115]=false by decide]
 simp only[Bool.false_eq_true,if_false]
 exact mx_nil _ (q2Y F)
theorem j5S (F:zg)(y:Bool):zf (q5j F y)=zf F:=by
 unfold q5j
 split
 ·exact j2Z _ _
 ·split
  ·exact j2Z _ _
  ·rfl
theorem q6B (s:By)(i:Nat):zf (q2K s i).1 = -1:=by
 have he:∀k gs,zf (evF (nmK k) gs) = -1:=fun k gs=>by
  unfold evF
  rw[zf,(q9N k).2.2.2.2.2.1]
  rfl
 unfold q2K
 split
 ·rfl
 ·split
  ·exact he _ _
  ·exact he _ _
theorem j0O (s:By)(i:Nat)(q:Bool):(q1h s i q).1.2.2≤7:=by
 have h1:=ql s i (n:=4) (by omega)
 have h2:=ql s (zk s i 4).2 (n:=5) (by omega)
 unfold q1h
 simp only[]
 split
 ·split
  ·exact zZ _
  ·simp only[];omega
 ·simp only[];omega
theorem j6n (s:By)(i:Nat)(q:Bool):(q1h s i q).1.1.length≤9∧(q1h s i q).1.2.1.length≤9:=by
 unfold q1h
 simp only[]
 split
 ·split<;>exact⟨by simp[q5H],by simp[q5H]⟩
 ·exact⟨by simp[q5H],by simp[q5H]⟩
theorem q5X {w lo hi:By}{A B:zg}{m:Int}{n:Nat}(hA:zf A≤m)(hB:zf B≤m)(hm:-1≤m)(hn:q0B w=true→q0h hi≤n):zf (opF w lo hi A B)≤m+n+1:=by
 cases hw:q0B w with
 |false =>
  rw[q4H hw]
  split<;>omega
 |true =>
  rw[q5D hw]
  have:=hn hw
  generalize hq:(if zf A<zf B then zf B else zf A)=q
  have hq2:q≤m:=by rw[←hq];split<;>omega
  split<;>omega
theorem reach_mk (s:By):∀(n i:Nat),zf (mkF s n i).1≤8*(n:Int):=by
 intro n
 induction n with
 |zero=>intro i;rw[mkF,q6B];omega
 |succ n ih =>
  intro i
  have hat:∀j,zf (q2K s j).1≤8*((n+1:Nat):Int):=fun j=>by rw[q6B];omega
  rw[mkF]
  simp only[]
  split
  ·exact hat _
  ·have hA:=ih (zk s i 10).2
   split
   ·have hB:=ih (mkF s n (zk s i 10).2).2
    generalize (mkF s n (mkF s n (zk s i 10).2).2).1=B at hB ⊢
    generalize (mkF s n (mkF s n (zk s i 10).2).2).2=j
    generalize (mkF s n (zk s i 10).2).1=A at hA ⊢
    unfold q8j
    simp only[]
    split
    ·have:=q5X (w:=[111,114]) (lo:=[]) (hi:=[]) (n:=0) hA hB (by omega) (fun e=>absurd e (by decide))
     simp only[]
     omega
    ·split
     ·have:=q5X (w:=[98,117,116]) (lo:=[]) (hi:=[]) (n:=0) hA hB (by omega) (fun e=>absurd e (by decide))
      simp only[]
      omega
     ·split
      ·have:=q5X (w:=[97,110,100]) (lo:=[]) (hi:=[]) (n:=0) hA hB (by omega) (fun e=>absurd e (by decide))
       simp only[]
       omega
      ·rename_i h1 h2 h3
       have hk2:¬(zk s j 6).1<2:=fun e=>h3 (.inr e)
       have hk6:=ql s j (n:=6) (by omega)
       have:=q5X (w:=timeW (zk s j 6).1) (lo:=(q1h s (zk s j 6).2 (decide (3<(zk s j 6).1))).1.1) (hi:=(q1h s (zk s j 6).2 (decide (3<(zk s j 6).1))).1.2.1) (n:=7) hB hA (by omega) (fun e=>by
        have e1:=(j6x (by omega) (by omega)).2 e
        have e2:=(q7O s (zk s j 6).2 (decide (3<(zk s j 6).1))).2 e1
        have e3:=j0O s (zk s j 6).2 (decide (3<(zk s j 6).1))
        omega)
       simp only[]
       omega
   ·split
    ·rw[j5S]
     omega
    ·generalize (mkF s n (zk s i 10).2).1=A at hA ⊢
     generalize (mkF s n (zk s i 10).2).2=j
     have hk4:=ql s j (n:=4) (by omega)
     have:=q5X (w:=oneW (zk s j 4).1) (lo:=(q1h s (zk s j 4).2 (decide ((zk s j 4).1 % 2=1))).1.1) (hi:=(q1h s (zk s j 4).2 (decide ((zk s j 4).1 % 2=1))).1.2.1) (n:=7) hA (B:=.nil) (by show(-1:Int)≤_;omega) (by omega) (fun e=>by
      have e1:=(j8B (by omega)).2 e
      have e2:=(q7O s (zk s j 4).2 (decide ((zk s j 4).1 % 2=1))).2 e1
      have e3:=j0O s (zk s j 4).2 (decide ((zk s j 4).1 % 2=1))
      omega)
     simp only[]
     omega
theorem j7k (fb:Nat)(s:By)(i:Nat)(A B:zg)(hA:A≠.nil)(hB:B≠.nil)(la:(zs A).length≤300)(lb:(zs B).length≤300)(ra:zf A≤1000)(rb:zf B≤1000)(w:World)(h:FeedAt w fb s i) :
  Calls Tryz.prog 24 #[.pointer (some ⟨fb,0,none⟩),q6H A,q6H B] w fun e w'=>e=.returned (q6H (q8j s i A B).1)∧FeedAt w' fb s (q8j s i A B).2∧OnlyB [fb] w w':=by
 have sa:(zs (qm A)).length≤300:=by rw[q7R];exact la
 have sb:(zs (qm B)).length≤300:=by rw[q7R];exact lb
 have ma:=q2Y A
 have mb:=q2Y B
 have hk6:=ql s i (n:=6) (by omega)
 unfold q8j
 simp only[]
 by_cases c1:(zk s i 6).1=0∧(zh A [120]==zh B [120]&&zh A [121]==zh B [121])=true
 ·rw[if_pos c1]
  have:=j5n fb s i _ _ _ _ _ _ _ _ (zf A) (zf B) la sa lb sb _ rfl c1.1 c1.2 w h
  rw[q5g (w:=[111,114]) (by decide) hA]at this
  exact this
 ·rw[if_neg c1]
  by_cases c2:(zk s i 6).1=1∧((!zh B [120] || zh A [120])&&(!zh B [121] || zh A [121]))=true
  ·rw[if_pos c2]
   have:=j3P fb s i _ _ _ _ _ _ _ _ (zf A) (zf B) la sa lb sb _ rfl c2.1 c2.2 w h
   rw[q5g (w:=[98,117,116]) (by decide) hA]at this
   exact this
  ·rw[if_neg c2]
   by_cases c3:((!zh B [120] || zh A [120])&&(!zh B [121] || zh A [121]))=false∨(zk s i 6).1<2
   ·rw[if_pos c3]
    by_cases k0:(zk s i 6).1=0
    ·have:=j2t fb s i _ _ _ _ _ _ _ _ (zf A) (zf B) la sa lb sb _ rfl k0 (by simpa[k0]using c1) w h
     rw[q5g (w:=[97,110,100]) (by decide) hA]at this
     exact this
    ·by_cases k1:(zk s i 6).1=1
     ·have:=j2u fb s i _ _ _ _ _ _ _ _ (zf A) (zf B) la sa lb sb _ rfl k1 (by
       cases hf:((!zh B [120] || zh A [120])&&(!zh B [121] || zh A [121]))with
       |false=>rfl
       |true=>exact absurd ⟨k1,hf⟩ c2) w h
      rw[q5g (w:=[97,110,100]) (by decide) hA]at this
      exact this
     ·have:=j2v fb s i _ _ _ _ _ _ _ _ (zf A) (zf B) la sa lb sb _ rfl k0 k1 (by
       rcases c3 with e|e
       ·exact e
       ·omega) w h
      rw[q5g (w:=[97,110,100]) (by decide) hA]at this
      exact this
   ·rw[if_neg c3]
    have hf:((!zh B [120] || zh A [120])&&(!zh B [121] || zh A [121]))=true:=by
     cases hf:((!zh B [120] || zh A [120])&&(!zh B [121] || zh A [121]))with
     |true=>rfl
     |false=>exact absurd (.inl hf) c3
    have hk2:¬(zk s i 6).1<2:=fun e=>c3 (.inr e)
    obtain⟨sl1,sl2⟩:=j6n s (zk s i 6).2 (decide (3<(zk s i 6).1))
    have shi:=j0O s (zk s i 6).2 (decide (3<(zk s i 6).1))
    have snv:=(q7O s (zk s i 6).2 (decide (3<(zk s i 6).1))).2
    have hk:(zk s i 6).1=2∨(zk s i 6).1=3∨(zk s i 6).1=4∨(zk s i 6).1=5:=by omega
    rcases hk with hk|hk|hk|hk
    ·rw[hk,show decide (3<2)=false from rfl]at sl1 sl2 shi snv ⊢
     generalize hsp:q1h s (zk s i 6).2 false=sp at sl1 sl2 shi snv ⊢
     obtain⟨⟨lo,hs,hi⟩,ie⟩:=sp
     simp only[]at sl1 sl2 shi snv ⊢
     have:=j5o fb s i _ _ _ _ _ _ _ _ (zf A) (zf B) la sa lb sb ⟨ma,ra⟩ ⟨mb,rb⟩ _ rfl hk hf lo hs hi ie hsp sl1 sl2 (by omega) w h
     rw[q9b (w:=[115,105,110,99,101]) hi (by decide) hB _ (q4H (by decide) _ _).symm]at this
     exact this
    ·rw[hk,show decide (3<3)=false from rfl]at sl1 sl2 shi snv ⊢
     generalize hsp:q1h s (zk s i 6).2 false=sp at sl1 sl2 shi snv ⊢
     obtain⟨⟨lo,hs,hi⟩,ie⟩:=sp
     simp only[]at sl1 sl2 shi snv ⊢
     have:=j5p fb s i _ _ _ _ _ _ _ _ (zf A) (zf B) la sa lb sb ⟨ma,ra⟩ ⟨mb,rb⟩ _ rfl hk hf lo hs hi ie hsp sl1 sl2 (by omega) w h
     rw[q9b (w:=[117,110,115,105,110,99,101]) hi (by decide) hB _ (q4H (by decide) _ _).symm]at this
     exact this
    ·rw[hk,show decide (3<4)=true from rfl]at sl1 sl2 shi snv ⊢
     generalize hsp:q1h s (zk s i 6).2 true=sp at sl1 sl2 shi snv ⊢
     obtain⟨⟨lo,hs,hi⟩,ie⟩:=sp
     simp only[]at sl1 sl2 shi snv ⊢
     have:=j5q fb s i _ _ _ _ _ _ _ _ (zf A) (zf B) la sa lb sb ⟨ma,ra⟩ ⟨mb,rb⟩ _ rfl hk hf lo hs hi ie hsp sl1 sl2 (by omega) w h
     rw[←snv trivial,q9b (w:=[117,110,116,105,108]) hi (by decide) hB _ (q5D (by decide) _ _).symm]at this
     exact this
    ·rw[hk,show decide (3<5)=true from rfl]at sl1 sl2 shi snv ⊢
     generalize hsp:q1h s (zk s i 6).2 true=sp at sl1 sl2 shi snv ⊢
     obtain⟨⟨lo,hs,hi⟩,ie⟩:=sp
     simp only[]at sl1 sl2 shi snv ⊢
     have:=j5r fb s i _ _ _ _ _ _ _ _ (zf A) (zf B) la sa lb sb ⟨ma,ra⟩ ⟨mb,rb⟩ _ rfl hk hf lo hs hi ie hsp sl1 sl2 (by omega) w h
     rw[←snv trivial,q9b (w:=[117,110,117,110,116,105,108]) hi (by decide) hB _ (q5D (by decide) _ _).symm]at this
     exact this
def q0D (F:zg):Array Value:=#[bs (zs F),bs (zs (qm F)),.bool (zh F [120]),.bool (zh F [121]),.int .i64 (zf F)]
theorem q8Z (F:zg):(q0D F).all (·.oneCell')=true:=j0B _ _ _ _ _
theorem q2b (F:zg):(Tryz.prog.info? 23).map (·.size)=some (q0D F).size:=qy
theorem q5x {fb:Nat}{s:By}{j:Nat}(F:zg){w W:World}(hlt:fb<w.heap.size)(hf:FeedAt W fb s j)(ho:OnlyB [fb] w W)(g:W.heap[w.heap.size]?=some (.cells q5o 23 (0,0))) :
  ∃W',(Instr.storeAt 23 (.pointer (some ⟨w.heap.size,0,none⟩)) (.agg (q0D F))).run Tryz.prog W=.ok () W'∧(loadVar 23 ⟨w.heap.size,0,none⟩).run Tryz.prog W'=.ok (.agg (q0D F)) W'∧FeedAt W' fb s j∧OnlyB [fb] w W'∧∀q,q≠w.heap.size→W'.heap[q]?=W.heap[q]?:=by
 obtain⟨W',s1,s2,s3,s4,s5,s6,s7⟩:=q0n (P:=Tryz.prog) 23 23 W w.heap.size _ (q0D F) g (q2b F) rfl (q8Z F)
 exact⟨W',s1,q1M (P:=Tryz.prog) 23 23 W' w.heap.size (q0D F) (0,0) _ s2 Tryz.underlying23 rfl (q2b F),⟨(s3 fb (by omega)).trans hf.blk,hf.le,hf.sm⟩,⟨s5.trans ho.os,s6.trans ho.tape,s7.trans ho.output,by rw[s4];exact ho.size,fun q hq hn=>(s3 q (by omega)).trans (ho.block q hq hn)⟩,s3⟩
theorem q6L {w lo hi:By}(hw:q0B w=false)(A:zg):zf (opF w lo hi A .nil)=zf A:=by
 rw[q4H hw]
 have:=q2Y A
 rw[if_neg (by show ¬zf A < -1;omega)]
theorem q6K {w lo hi:By}(hw:q0B w=true)(A:zg):zf (opF w lo hi A .nil)=if zf A = -1 then(q0h hi:Int)else zf A+(q0h hi:Int):=by
 rw[q5D hw]
 have:=q2Y A
 rw[if_neg (show ¬zf A<zf .nil by show ¬zf A < -1;omega)]
theorem q9a {w lo hs:By}(hi:Nat)(hw:qJ w=true){A:zg}(hA:A≠.nil)(rz:Int)(hz:rz=zf (opF w lo hs A .nil)):qx ((w++q2O (lo,hs,hi))++[40]++zs A++[41]) ((w++q2O (lo,hs,hi))++[40]++zs (qm A)++[41]) (zh A [120]) (zh A [121]) rz=.agg (q0D (opF w lo hs A .nil)):=by
 have k:=q0d.2.1 hw
 have hf:∀x,zh (opF w lo hs A .nil) x=zh A x:=fun x=>by rw[q7x hA k.2.1];show(zh A x || false)=_;rw[Bool.or_false]
 unfold q0D
 rw[j4f,j6v hw lo hs A hi,show qm (Deep.BT.nil:zg)=Deep.BT.nil from rfl,j6v hw lo hs (qm A) hi,hf,hf,hz]
theorem j8k {F:zg}(h:Fine F):F≠.nil:=fun e=>by have:=h.well;rw[e]at this;exact this
theorem lenK3 {m:Nat}(h:m≤3):lenK m≤300:=by
 have:m=0∨m=1∨m=2∨m=3:=by omega
 rcases this with rfl|rfl|rfl|rfl<;>decide
theorem j3M (fb:Nat)(s:By)(i:Nat)(w:World)(h:FeedAt w fb s i) :
  Calls Tryz.prog 6 #[.pointer (some ⟨fb,0,none⟩),.int .i64 0] w fun e w'=>e=.returned (.agg (q0D (mkF s 0 i).1))∧FeedAt w' fb s (mkF s 0 i).2∧OnlyB [fb] w w':=by
 have HN:=zb (fun W q=>q1B fb s i 10 (by omega) W q)
 have HAT:Hid (∀j W,FeedAt W fb s j→Calls Tryz.prog 23 #[.pointer (some ⟨fb,0,none⟩)] W fun e w'=>e=.returned (.agg (q0D (q2K s j).1))∧FeedAt w' fb s (q2K s j).2∧OnlyB [fb] W w'):=zb (fun j W q=>by
  have:=j5l fb s j W q
  unfold q0D
  rw[q6B]
  exact this)
 have HF:=zb h
 have hlt:=h.lt
 clear h
 rw[mkF]
 generalize zk s i 10=rx at *
 obtain⟨k,i1⟩:=rx
 simp only[]at HN ⊢
 go_enter Tryz.func6,Tryz.ntmps6
 go_wp2_with fail
 have BW:Below w.heap.size w (w.alloc (.cells q5o 23)):=(zB _ _).alloc (zL _) _
 have g0:=zN w (.cells q5o 23)
 have hn:∀q,fb<q→q∉[fb]:=fun q hq e=>by simp at e;omega
 refine(HN.out _ (HF.out.below BW)).mono ?_
 rintro e w1 ⟨rfl,f1,o1⟩
 have G1:=o1.row g0 (hn _ hlt)
 have HF1:=zb f1
 have HO1:Hid (OnlyB [fb] w w1):=zb ((OnlyB.of_below BW).trans o1)
 clear BW g0 f1 o1 HF HN
 go_wp2_with fail
 refine(HAT.out _ _ HF1.out).mono ?_
 rintro e w2 ⟨rfl,f2,o2⟩
 obtain⟨W3,s1,s2,s3,s4,_⟩:=q5x (q2K s i1).1 hlt f2 (HO1.out.trans o2) (o2.row G1 (hn _ hlt))
 go_wp2_with (refine ze rfl 23 (.tmp 4) (.tmp 22) rfl ⟨w.heap.size,0,none⟩ (.agg (q0D (q2K s i1).1)) rfl rfl W3 s1 ?_)
 exact zP (v:=.agg (q0D (q2K s i1).1)) (zl rfl _ _ _ _ rfl s2) rfl ⟨rfl,s3,s4⟩
end Go.Proofs.YtiamjjonoeaggabGreatDoor
