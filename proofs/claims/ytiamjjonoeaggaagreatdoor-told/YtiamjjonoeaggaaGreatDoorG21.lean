import Derived.Test.YtiamjjonoeaggaaGreatDoorGA
import Derived.Test.YtiamjjonoeaggaaGreatDoorG16
import Derived.Test.YtiamjjonoeaggaaGreatDoorG17
import Derived.Test.YtiamjjonoeaggaaGreatDoorG18
import Derived.Test.YtiamjjonoeaggaaGreatDoorG19
import Derived.Test.YtiamjjonoeaggaaGreatDoorG20
set_option maxRecDepth 100000
set_option maxHeartbeats 16000000
namespace Go.Proofs.YtiamjjonoeaggaaGreatDoor
open Go.RowKit
theorem j2a (fb:Nat)(s:By)(i:Nat)(ta oa tb ob:By)(xa ya xb yb:Bool)(ra rb:Int)(h1:ta.length≤300)(h2:oa.length≤300)(h3:tb.length≤300)(h4:ob.length≤300)(k:Nat)(hk:(zk s i 6).1=k)(hk0:k=0)(hc:(xa==xb&&ya==yb)=false)(w:World)(h:FeedAt w fb s i) :
  Calls Tryz.prog 31 #[.pointer (some ⟨fb,0,none⟩),qt ta oa xa ya ra,qt tb ob xb yb rb] w fun e w'=>e=.returned (qt ([97,110,100]++[40]++ta++[44]++tb++[41]) ([97,110,100]++[40]++oa++[44]++ob++[41]) (xa || xb) (ya || yb) (if ra<rb then rb else ra))∧FeedAt w' fb s (zk s i 6).2∧OnlyB [fb] w w':=by
 have HN:=zb (fun W q=>q1v fb s i 6 (by omega) W q)
 have HJ:=zb (q2l [97,110,100] ta oa tb ob xa ya xb yb ra rb (by decide) h1 h2 h3 h4)
 have HF:=zb h
 have hlt:=h.lt
 clear h
 obtain⟨MC,hMC⟩:∃MC:Array Value,MC=#[bs ([97,110,100]++[40]++ta++[44]++tb++[41]),bs ([97,110,100]++[40]++oa++[44]++ob++[41]),.bool (xa || xb),.bool (ya || yb),.int .i64 (if ra<rb then rb else ra)]:=⟨_,rfl⟩
 unfold qt at HJ ⊢
 rw[←hMC]at HJ ⊢
 have HMC:=zb hMC
 clear hMC
 generalize hnx:zk s i 6=rx at *
 obtain⟨k',ik⟩:=rx
 simp only[]at hk
 subst hk
 have HNX:=zb hnx
 clear hnx
 go_enter Tryz.func31,Tryz.ntmps31
 go_wp2_with fail
 obtain⟨W0,hW0⟩:∃W0,W0=((w.alloc (.cells #[bs ta,bs oa,.bool xa,.bool ya,.int .i64 ra] 23)).alloc (.cells #[bs tb,bs ob,.bool xb,.bool yb,.int .i64 rb] 23)).alloc (.cells #[bs [],bs [],.bool false,.bool false,.int .i64 0] 23):=⟨_,rfl⟩
 have BW:Below w.heap.size w W0:=by rw[hW0];exact Joins.below_alloc3 _ _ _ _
 have g0:W0.heap[w.heap.size]?=some (.cells #[bs ta,bs oa,.bool xa,.bool ya,.int .i64 ra] 23 (0,0)):=by
  rw[hW0,zO _ _ (by simp<;>omega),zO _ _ (by simp)];exact zN _ _
 have g1:W0.heap[w.heap.size+1]?=some (.cells #[bs tb,bs ob,.bool xb,.bool yb,.int .i64 rb] 23 (0,0)):=by
  rw[hW0,zO _ _ (by simp)]
  have:=zN (w.alloc (.cells #[bs ta,bs oa,.bool xa,.bool ya,.int .i64 ra] 23)) (.cells #[bs tb,bs ob,.bool xb,.bool yb,.int .i64 rb] 23)
  simpa using this
 have g2:W0.heap[w.heap.size+2]?=some (.cells #[bs [],bs [],.bool false,.bool false,.int .i64 0] 23 (0,0)):=by
  rw[hW0]
  have:=zN ((w.alloc (.cells #[bs ta,bs oa,.bool xa,.bool ya,.int .i64 ra] 23)).alloc (.cells #[bs tb,bs ob,.bool xb,.bool yb,.int .i64 rb] 23)) (.cells #[bs [],bs [],.bool false,.bool false,.int .i64 0] 23)
  simpa using this
 rw[←hW0]
 have HF0:=zb (HF.out.below BW)
 refine(HN.out _ HF0.out).mono ?_
 rintro e w1 ⟨rfl,f1,o1⟩
 have hn:∀q,fb<q→q∉[fb]:=fun q hq e=>by simp at e;omega
 have G0:=o1.row g0 (hn _ hlt)
 have G1:=o1.row g1 (hn _ (by omega))
 have G2:=o1.row g2 (hn _ (by omega))
 have HO1:Hid (OnlyB [fb] w w1):=zb ((OnlyB.of_below BW).trans o1)
 have HF1:=zb f1
 have HG2:=zb G2
 have c0:=zC _ _ 0 _ _ _ G0
 have c1:=zC _ _ 1 _ _ _ G0
 have c2:=zC _ _ 2 _ _ _ G0
 have c3:=zC _ _ 3 _ _ _ G0
 have c4:=zC _ _ 4 _ _ _ G0
 have d0:=zC _ _ 0 _ _ _ G1
 have d1:=zC _ _ 1 _ _ _ G1
 have d2:=zC _ _ 2 _ _ _ G1
 have d3:=zC _ _ 3 _ _ _ G1
 have d4:=zC _ _ 4 _ _ _ G1
 simp only[gz]at c0 c1 c2 c3 c4 d0 d1 d2 d3 d4
 have hl0:w.heap.size<w1.heap.size:=zd G0
 have hl1:w.heap.size+1<w1.heap.size:=zd G1
 have hl2:w.heap.size+2<w1.heap.size:=zd G2
 clear hW0 BW g0 g1 g2 f1 o1 G0 G1 G2 HF HF0 HN hn
 subst hk0
 cases xa<;>cases ya<;>cases xb<;>cases yb<;>(try(exfalso;revert hc;decide)) <;>
 ·go_wp2_with fail
  refine(HJ.out _).mono ?_
  rintro e w2 ⟨rfl,b2⟩
  have HF2:=zb (HF1.out.below b2)
  have HO2:=zb (HO1.out.trans (.of_below b2))
  have G2:=(b2.block _ hl2).trans HG2.out
  have hsz:MC.size=5:=by rw[HMC.out];rfl
  obtain⟨W3,s1,s2,s3,s4,s5,s6,s7⟩:=q0j (P:=Tryz.prog) 23 23 w2 (w.heap.size+2) _ MC G2 (by rw[hsz];exact qu) (by rw[hsz];rfl) (by rw[HMC.out];exact j0k _ _ _ _ _)
  have HL:=zb (q1G (P:=Tryz.prog) 23 23 W3 (w.heap.size+2) MC (0,0) _ s2 Tryz.underlying23 rfl (by rw[hsz];exact qu))
  have B3:Below w.heap.size w2 W3:=⟨s5,s6,s7,Nat.le_of_eq s4.symm,fun q hq=>s3 q (by omega)⟩
  have HS:=zb s1
  clear s1
  go_wp2_with (refine ze rfl 23 (.tmp 6) (.tmp 66) rfl ⟨w.heap.size+1+1,0,none⟩ (.agg MC) rfl rfl W3 HS.out ?_)
  have hfl:=hlt
  exact zP (v:=.agg MC) (zl rfl _ _ _ _ rfl HL.out) rfl ⟨rfl,⟨(s3 fb (by omega)).trans HF2.out.blk,HF2.out.le,HF2.out.sm⟩,⟨s5.trans HO2.out.os,s6.trans HO2.out.tape,s7.trans HO2.out.output,by rw[s4];exact HO2.out.size,fun q hq hn=>(s3 q (by omega)).trans (HO2.out.block q hq hn)⟩⟩
theorem j2b (fb:Nat)(s:By)(i:Nat)(ta oa tb ob:By)(xa ya xb yb:Bool)(ra rb:Int)(h1:ta.length≤300)(h2:oa.length≤300)(h3:tb.length≤300)(h4:ob.length≤300)(k:Nat)(hk:(zk s i 6).1=k)(hk0:k=1)(hc:((!xb || xa)&&(!yb || ya))=false)(w:World)(h:FeedAt w fb s i) :
  Calls Tryz.prog 31 #[.pointer (some ⟨fb,0,none⟩),qt ta oa xa ya ra,qt tb ob xb yb rb] w fun e w'=>e=.returned (qt ([97,110,100]++[40]++ta++[44]++tb++[41]) ([97,110,100]++[40]++oa++[44]++ob++[41]) (xa || xb) (ya || yb) (if ra<rb then rb else ra))∧FeedAt w' fb s (zk s i 6).2∧OnlyB [fb] w w':=by
 have HN:=zb (fun W q=>q1v fb s i 6 (by omega) W q)
 have HJ:=zb (q2l [97,110,100] ta oa tb ob xa ya xb yb ra rb (by decide) h1 h2 h3 h4)
 have HF:=zb h
 have hlt:=h.lt
 clear h
 obtain⟨MC,hMC⟩:∃MC:Array Value,MC=#[bs ([97,110,100]++[40]++ta++[44]++tb++[41]),bs ([97,110,100]++[40]++oa++[44]++ob++[41]),.bool (xa || xb),.bool (ya || yb),.int .i64 (if ra<rb then rb else ra)]:=⟨_,rfl⟩
 unfold qt at HJ ⊢
 rw[←hMC]at HJ ⊢
 have HMC:=zb hMC
 clear hMC
 generalize hnx:zk s i 6=rx at *
 obtain⟨k',ik⟩:=rx
 simp only[]at hk
 subst hk
 have HNX:=zb hnx
 clear hnx
 go_enter Tryz.func31,Tryz.ntmps31
 go_wp2_with fail
 obtain⟨W0,hW0⟩:∃W0,W0=((w.alloc (.cells #[bs ta,bs oa,.bool xa,.bool ya,.int .i64 ra] 23)).alloc (.cells #[bs tb,bs ob,.bool xb,.bool yb,.int .i64 rb] 23)).alloc (.cells #[bs [],bs [],.bool false,.bool false,.int .i64 0] 23):=⟨_,rfl⟩
 have BW:Below w.heap.size w W0:=by rw[hW0];exact Joins.below_alloc3 _ _ _ _
 have g0:W0.heap[w.heap.size]?=some (.cells #[bs ta,bs oa,.bool xa,.bool ya,.int .i64 ra] 23 (0,0)):=by
  rw[hW0,zO _ _ (by simp<;>omega),zO _ _ (by simp)];exact zN _ _
 have g1:W0.heap[w.heap.size+1]?=some (.cells #[bs tb,bs ob,.bool xb,.bool yb,.int .i64 rb] 23 (0,0)):=by
  rw[hW0,zO _ _ (by simp)]
  have:=zN (w.alloc (.cells #[bs ta,bs oa,.bool xa,.bool ya,.int .i64 ra] 23)) (.cells #[bs tb,bs ob,.bool xb,.bool yb,.int .i64 rb] 23)
  simpa using this
 have g2:W0.heap[w.heap.size+2]?=some (.cells #[bs [],bs [],.bool false,.bool false,.int .i64 0] 23 (0,0)):=by
  rw[hW0]
  have:=zN ((w.alloc (.cells #[bs ta,bs oa,.bool xa,.bool ya,.int .i64 ra] 23)).alloc (.cells #[bs tb,bs ob,.bool xb,.bool yb,.int .i64 rb] 23)) (.cells #[bs [],bs [],.bool false,.bool false,.int .i64 0] 23)
  simpa using this
 rw[←hW0]
 have HF0:=zb (HF.out.below BW)
 refine(HN.out _ HF0.out).mono ?_
 rintro e w1 ⟨rfl,f1,o1⟩
 have hn:∀q,fb<q→q∉[fb]:=fun q hq e=>by simp at e;omega
 have G0:=o1.row g0 (hn _ hlt)
 have G1:=o1.row g1 (hn _ (by omega))
 have G2:=o1.row g2 (hn _ (by omega))
 have HO1:Hid (OnlyB [fb] w w1):=zb ((OnlyB.of_below BW).trans o1)
 have HF1:=zb f1
 have HG2:=zb G2
 have c0:=zC _ _ 0 _ _ _ G0
 have c1:=zC _ _ 1 _ _ _ G0
 have c2:=zC _ _ 2 _ _ _ G0
 have c3:=zC _ _ 3 _ _ _ G0
 have c4:=zC _ _ 4 _ _ _ G0
 have d0:=zC _ _ 0 _ _ _ G1
 have d1:=zC _ _ 1 _ _ _ G1
 have d2:=zC _ _ 2 _ _ _ G1
 have d3:=zC _ _ 3 _ _ _ G1
 have d4:=zC _ _ 4 _ _ _ G1
 simp only[gz]at c0 c1 c2 c3 c4 d0 d1 d2 d3 d4
 have hl0:w.heap.size<w1.heap.size:=zd G0
 have hl1:w.heap.size+1<w1.heap.size:=zd G1
 have hl2:w.heap.size+2<w1.heap.size:=zd G2
 clear hW0 BW g0 g1 g2 f1 o1 G0 G1 G2 HF HF0 HN hn
 subst hk0
 cases xa<;>cases ya<;>cases xb<;>cases yb<;>(try(exfalso;revert hc;decide)) <;>
 ·go_wp2_with fail
  refine(HJ.out _).mono ?_
  rintro e w2 ⟨rfl,b2⟩
  have HF2:=zb (HF1.out.below b2)
  have HO2:=zb (HO1.out.trans (.of_below b2))
  have G2:=(b2.block _ hl2).trans HG2.out
  have hsz:MC.size=5:=by rw[HMC.out];rfl
  obtain⟨W3,s1,s2,s3,s4,s5,s6,s7⟩:=q0j (P:=Tryz.prog) 23 23 w2 (w.heap.size+2) _ MC G2 (by rw[hsz];exact qu) (by rw[hsz];rfl) (by rw[HMC.out];exact j0k _ _ _ _ _)
  have HL:=zb (q1G (P:=Tryz.prog) 23 23 W3 (w.heap.size+2) MC (0,0) _ s2 Tryz.underlying23 rfl (by rw[hsz];exact qu))
  have B3:Below w.heap.size w2 W3:=⟨s5,s6,s7,Nat.le_of_eq s4.symm,fun q hq=>s3 q (by omega)⟩
  have HS:=zb s1
  clear s1
  go_wp2_with (refine ze rfl 23 (.tmp 6) (.tmp 66) rfl ⟨w.heap.size+1+1,0,none⟩ (.agg MC) rfl rfl W3 HS.out ?_)
  have hfl:=hlt
  exact zP (v:=.agg MC) (zl rfl _ _ _ _ rfl HL.out) rfl ⟨rfl,⟨(s3 fb (by omega)).trans HF2.out.blk,HF2.out.le,HF2.out.sm⟩,⟨s5.trans HO2.out.os,s6.trans HO2.out.tape,s7.trans HO2.out.output,by rw[s4];exact HO2.out.size,fun q hq hn=>(s3 q (by omega)).trans (HO2.out.block q hq hn)⟩⟩
theorem j2c (fb:Nat)(s:By)(i:Nat)(ta oa tb ob:By)(xa ya xb yb:Bool)(ra rb:Int)(h1:ta.length≤300)(h2:oa.length≤300)(h3:tb.length≤300)(h4:ob.length≤300)(k:Nat)(hk:(zk s i 6).1=k)(hk0:¬k=0)(hk1:¬k=1)(hc:((!xb || xa)&&(!yb || ya))=false)(w:World)(h:FeedAt w fb s i) :
  Calls Tryz.prog 31 #[.pointer (some ⟨fb,0,none⟩),qt ta oa xa ya ra,qt tb ob xb yb rb] w fun e w'=>e=.returned (qt ([97,110,100]++[40]++ta++[44]++tb++[41]) ([97,110,100]++[40]++oa++[44]++ob++[41]) (xa || xb) (ya || yb) (if ra<rb then rb else ra))∧FeedAt w' fb s (zk s i 6).2∧OnlyB [fb] w w':=by
 have HN:=zb (fun W q=>q1v fb s i 6 (by omega) W q)
 have HJ:=zb (q2l [97,110,100] ta oa tb ob xa ya xb yb ra rb (by decide) h1 h2 h3 h4)
 have HF:=zb h
 have hlt:=h.lt
 clear h
 obtain⟨MC,hMC⟩:∃MC:Array Value,MC=#[bs ([97,110,100]++[40]++ta++[44]++tb++[41]),bs ([97,110,100]++[40]++oa++[44]++ob++[41]),.bool (xa || xb),.bool (ya || yb),.int .i64 (if ra<rb then rb else ra)]:=⟨_,rfl⟩
 unfold qt at HJ ⊢
 rw[←hMC]at HJ ⊢
 have HMC:=zb hMC
 clear hMC
 generalize hnx:zk s i 6=rx at *
 obtain⟨k',ik⟩:=rx
 simp only[]at hk
 subst hk
 have HNX:=zb hnx
 clear hnx
 go_enter Tryz.func31,Tryz.ntmps31
 go_wp2_with fail
 obtain⟨W0,hW0⟩:∃W0,W0=((w.alloc (.cells #[bs ta,bs oa,.bool xa,.bool ya,.int .i64 ra] 23)).alloc (.cells #[bs tb,bs ob,.bool xb,.bool yb,.int .i64 rb] 23)).alloc (.cells #[bs [],bs [],.bool false,.bool false,.int .i64 0] 23):=⟨_,rfl⟩
 have BW:Below w.heap.size w W0:=by rw[hW0];exact Joins.below_alloc3 _ _ _ _
 have g0:W0.heap[w.heap.size]?=some (.cells #[bs ta,bs oa,.bool xa,.bool ya,.int .i64 ra] 23 (0,0)):=by
  rw[hW0,zO _ _ (by simp<;>omega),zO _ _ (by simp)];exact zN _ _
 have g1:W0.heap[w.heap.size+1]?=some (.cells #[bs tb,bs ob,.bool xb,.bool yb,.int .i64 rb] 23 (0,0)):=by
  rw[hW0,zO _ _ (by simp)]
  have:=zN (w.alloc (.cells #[bs ta,bs oa,.bool xa,.bool ya,.int .i64 ra] 23)) (.cells #[bs tb,bs ob,.bool xb,.bool yb,.int .i64 rb] 23)
  simpa using this
 have g2:W0.heap[w.heap.size+2]?=some (.cells #[bs [],bs [],.bool false,.bool false,.int .i64 0] 23 (0,0)):=by
  rw[hW0]
  have:=zN ((w.alloc (.cells #[bs ta,bs oa,.bool xa,.bool ya,.int .i64 ra] 23)).alloc (.cells #[bs tb,bs ob,.bool xb,.bool yb,.int .i64 rb] 23)) (.cells #[bs [],bs [],.bool false,.bool false,.int .i64 0] 23)
  simpa using this
 rw[←hW0]
 have HF0:=zb (HF.out.below BW)
 refine(HN.out _ HF0.out).mono ?_
 rintro e w1 ⟨rfl,f1,o1⟩
 have hn:∀q,fb<q→q∉[fb]:=fun q hq e=>by simp at e;omega
 have G0:=o1.row g0 (hn _ hlt)
 have G1:=o1.row g1 (hn _ (by omega))
 have G2:=o1.row g2 (hn _ (by omega))
 have HO1:Hid (OnlyB [fb] w w1):=zb ((OnlyB.of_below BW).trans o1)
 have HF1:=zb f1
 have HG2:=zb G2
 have c0:=zC _ _ 0 _ _ _ G0
 have c1:=zC _ _ 1 _ _ _ G0
 have c2:=zC _ _ 2 _ _ _ G0
 have c3:=zC _ _ 3 _ _ _ G0
 have c4:=zC _ _ 4 _ _ _ G0
 have d0:=zC _ _ 0 _ _ _ G1
 have d1:=zC _ _ 1 _ _ _ G1
 have d2:=zC _ _ 2 _ _ _ G1
 have d3:=zC _ _ 3 _ _ _ G1
 have d4:=zC _ _ 4 _ _ _ G1
 simp only[gz]at c0 c1 c2 c3 c4 d0 d1 d2 d3 d4
 have hl0:w.heap.size<w1.heap.size:=zd G0
 have hl1:w.heap.size+1<w1.heap.size:=zd G1
 have hl2:w.heap.size+2<w1.heap.size:=zd G2
 clear hW0 BW g0 g1 g2 f1 o1 G0 G1 G2 HF HF0 HN hn
 have hka:(((k':Nat):Int)==0)=false:=by simp;omega
 have hkb:(((k':Nat):Int)==1)=false:=by simp;omega
 cases xa<;>cases ya<;>cases xb<;>cases yb<;>(try(exfalso;revert hc;decide)) <;>
 ·go_wp2_with fail
  refine(HJ.out _).mono ?_
  rintro e w2 ⟨rfl,b2⟩
  have HF2:=zb (HF1.out.below b2)
  have HO2:=zb (HO1.out.trans (.of_below b2))
  have G2:=(b2.block _ hl2).trans HG2.out
  have hsz:MC.size=5:=by rw[HMC.out];rfl
  obtain⟨W3,s1,s2,s3,s4,s5,s6,s7⟩:=q0j (P:=Tryz.prog) 23 23 w2 (w.heap.size+2) _ MC G2 (by rw[hsz];exact qu) (by rw[hsz];rfl) (by rw[HMC.out];exact j0k _ _ _ _ _)
  have HL:=zb (q1G (P:=Tryz.prog) 23 23 W3 (w.heap.size+2) MC (0,0) _ s2 Tryz.underlying23 rfl (by rw[hsz];exact qu))
  have B3:Below w.heap.size w2 W3:=⟨s5,s6,s7,Nat.le_of_eq s4.symm,fun q hq=>s3 q (by omega)⟩
  have HS:=zb s1
  clear s1
  go_wp2_with (refine ze rfl 23 (.tmp 6) (.tmp 66) rfl ⟨w.heap.size+1+1,0,none⟩ (.agg MC) rfl rfl W3 HS.out ?_)
  have hfl:=hlt
  exact zP (v:=.agg MC) (zl rfl _ _ _ _ rfl HL.out) rfl ⟨rfl,⟨(s3 fb (by omega)).trans HF2.out.blk,HF2.out.le,HF2.out.sm⟩,⟨s5.trans HO2.out.os,s6.trans HO2.out.tape,s7.trans HO2.out.output,by rw[s4];exact HO2.out.size,fun q hq hn=>(s3 q (by omega)).trans (HO2.out.block q hq hn)⟩⟩
theorem j1P (t:By):(q0J t).length=t.length:=by
 unfold q0J
 split
 ·rename_i h;rw[h];rfl
 ·split
  ·rename_i _ h;rw[h];rfl
  ·rfl
theorem q5S (F:zh):(zy (zV F)).length=(zy F).length:=by
 induction F with
 |nil=>rfl
 |node p sp y l r ihl ihr =>
  obtain⟨wd,args,lo,hi⟩:=y
  simp only[zV,zy]
  split
  ·rcases args with _|⟨a,_|⟨b,_|⟨c,rest⟩⟩⟩<;>simp[j1P]
  ·split
   ·cases args<;>simp[j1P,ihl]
   ·split
    ·simp[ihl,ihr]
    ·split
     ·simp[ihl]
     ·split
      ·simp[ihl,ihr]
      ·rfl
theorem q8L {w lo hs:By}(hi:Nat)(hw:qB w=true){A B:zh}(hA:A≠.nil)(rz:Int)(hz:rz=zf (opF w lo hs A B)):qt ((w++q2E (lo,hs,hi))++[40]++zy A++[44]++zy B++[41]) ((w++q2E (lo,hs,hi))++[40]++zy (zV A)++[44]++zy (zV B)++[41]) (zg A [120] || zg B [120]) (zg A [121] || zg B [121]) rz=q6r (opF w lo hs A B):=by
 have k:=q0a.2.2 hw
 unfold q6r
 rw[j3Z,j6m hw lo hs A B hi,j6m hw lo hs (zV A) (zV B) hi,q7j hA k.2.1,q7j hA k.2.1,hz]
theorem j2L (v:By)(F:zh):zf (exF v F)=zf F:=by
 unfold exF
 rw[zf,show q0y [101,120,105,115,116,115]=false by decide]
 simp only[Bool.false_eq_true,if_false]
 exact mx_nil _ (q2O F)
theorem j5H (F:zh)(y:Bool):zf (q4Z F y)=zf F:=by
 unfold q4Z
 split
 ·exact j2L _ _
 ·split
  ·exact j2L _ _
  ·rfl
theorem q6m (s:By)(i:Nat):zf (q2C s i).1 = -1:=by
 have he:∀k gs,zf (evF (nmK k) gs) = -1:=fun k gs=>by
  unfold evF
  rw[zf,(q9z k).2.2.2.2.2.1]
  rfl
 unfold q2C
 split
 ·rfl
 ·split
  ·exact he _ _
  ·exact he _ _
theorem j0x (s:By)(i:Nat)(q:Bool):(q1d s i q).1.2.2≤7:=by
 have h1:=qj s i (n:=4) (by omega)
 have h2:=qj s (zk s i 4).2 (n:=5) (by omega)
 unfold q1d
 simp only[]
 split
 ·split
  ·exact zZ _
  ·simp only[];omega
 ·simp only[];omega
theorem j6c (s:By)(i:Nat)(q:Bool):(q1d s i q).1.1.length≤9∧(q1d s i q).1.2.1.length≤9:=by
 unfold q1d
 simp only[]
 split
 ·split<;>exact⟨by simp[q5v],by simp[q5v]⟩
 ·exact⟨by simp[q5v],by simp[q5v]⟩
theorem q5L {w lo hi:By}{A B:zh}{m:Int}{n:Nat}(hA:zf A≤m)(hB:zf B≤m)(hm:-1≤m)(hn:q0y w=true→q0e hi≤n):zf (opF w lo hi A B)≤m+n+1:=by
 cases hw:q0y w with
 |false =>
  rw[q4u hw]
  split<;>omega
 |true =>
  rw[q5s hw]
  have:=hn hw
  generalize hq:(if zf A<zf B then zf B else zf A)=q
  have hq2:q≤m:=by rw[←hq];split<;>omega
  split<;>omega
theorem reach_mk (s:By):∀(n i:Nat),zf (mkF s n i).1≤8*(n:Int):=by
 intro n
 induction n with
 |zero=>intro i;rw[mkF,q6m];omega
 |succ n ih =>
  intro i
  have hat:∀j,zf (q2C s j).1≤8*((n+1:Nat):Int):=fun j=>by rw[q6m];omega
  rw[mkF]
  simp only[]
  split
  ·exact hat _
  ·have hA:=ih (zk s i 10).2
   split
   ·have hB:=ih (mkF s n (zk s i 10).2).2
    generalize (mkF s n (mkF s n (zk s i 10).2).2).1=B at hB ⊢
    generalize (mkF s n (mkF s n (zk s i 10).2).2).2=j
    generalize (mkF s n (zk s i 10).2).1=A at hA ⊢
    unfold q7U
    simp only[]
    split
    ·have:=q5L (w:=[111,114]) (lo:=[]) (hi:=[]) (n:=0) hA hB (by omega) (fun e=>absurd e (by decide))
     simp only[]
     omega
    ·split
     ·have:=q5L (w:=[98,117,116]) (lo:=[]) (hi:=[]) (n:=0) hA hB (by omega) (fun e=>absurd e (by decide))
      simp only[]
      omega
     ·split
      ·have:=q5L (w:=[97,110,100]) (lo:=[]) (hi:=[]) (n:=0) hA hB (by omega) (fun e=>absurd e (by decide))
       simp only[]
       omega
      ·rename_i h1 h2 h3
       have hk2:¬(zk s j 6).1<2:=fun e=>h3 (.inr e)
       have hk6:=qj s j (n:=6) (by omega)
       have:=q5L (w:=timeW (zk s j 6).1) (lo:=(q1d s (zk s j 6).2 (decide (3<(zk s j 6).1))).1.1) (hi:=(q1d s (zk s j 6).2 (decide (3<(zk s j 6).1))).1.2.1) (n:=7) hB hA (by omega) (fun e=>by
        have e1:=(j6n (by omega) (by omega)).2 e
        have e2:=(q7y s (zk s j 6).2 (decide (3<(zk s j 6).1))).2 e1
        have e3:=j0x s (zk s j 6).2 (decide (3<(zk s j 6).1))
        omega)
       simp only[]
       omega
   ·split
    ·rw[j5H]
     omega
    ·generalize (mkF s n (zk s i 10).2).1=A at hA ⊢
     generalize (mkF s n (zk s i 10).2).2=j
     have hk4:=qj s j (n:=4) (by omega)
     have:=q5L (w:=oneW (zk s j 4).1) (lo:=(q1d s (zk s j 4).2 (decide ((zk s j 4).1 % 2=1))).1.1) (hi:=(q1d s (zk s j 4).2 (decide ((zk s j 4).1 % 2=1))).1.2.1) (n:=7) hA (B:=.nil) (by show(-1:Int)≤_;omega) (by omega) (fun e=>by
      have e1:=(j8k (by omega)).2 e
      have e2:=(q7y s (zk s j 4).2 (decide ((zk s j 4).1 % 2=1))).2 e1
      have e3:=j0x s (zk s j 4).2 (decide ((zk s j 4).1 % 2=1))
      omega)
     simp only[]
     omega
theorem j6U (fb:Nat)(s:By)(i:Nat)(A B:zh)(hA:A≠.nil)(hB:B≠.nil)(la:(zy A).length≤300)(lb:(zy B).length≤300)(ra:zf A≤1000)(rb:zf B≤1000)(w:World)(h:FeedAt w fb s i) :
  Calls Tryz.prog 31 #[.pointer (some ⟨fb,0,none⟩),q6r A,q6r B] w fun e w'=>e=.returned (q6r (q7U s i A B).1)∧FeedAt w' fb s (q7U s i A B).2∧OnlyB [fb] w w':=by
 have sa:(zy (zV A)).length≤300:=by rw[q5S];exact la
 have sb:(zy (zV B)).length≤300:=by rw[q5S];exact lb
 have ma:=q2O A
 have mb:=q2O B
 have hk6:=qj s i (n:=6) (by omega)
 unfold q7U
 simp only[]
 by_cases c1:(zk s i 6).1=0∧(zg A [120]==zg B [120]&&zg A [121]==zg B [121])=true
 ·rw[if_pos c1]
  have:=j5f fb s i _ _ _ _ _ _ _ _ (zf A) (zf B) la sa lb sb _ rfl c1.1 c1.2 w h
  rw[q4W (w:=[111,114]) (by decide) hA]at this
  exact this
 ·rw[if_neg c1]
  by_cases c2:(zk s i 6).1=1∧((!zg B [120] || zg A [120])&&(!zg B [121] || zg A [121]))=true
  ·rw[if_pos c2]
   have:=j3E fb s i _ _ _ _ _ _ _ _ (zf A) (zf B) la sa lb sb _ rfl c2.1 c2.2 w h
   rw[q4W (w:=[98,117,116]) (by decide) hA]at this
   exact this
  ·rw[if_neg c2]
   by_cases c3:((!zg B [120] || zg A [120])&&(!zg B [121] || zg A [121]))=false∨(zk s i 6).1<2
   ·rw[if_pos c3]
    by_cases k0:(zk s i 6).1=0
    ·have:=j2a fb s i _ _ _ _ _ _ _ _ (zf A) (zf B) la sa lb sb _ rfl k0 (by simpa[k0]using c1) w h
     rw[q4W (w:=[97,110,100]) (by decide) hA]at this
     exact this
    ·by_cases k1:(zk s i 6).1=1
     ·have:=j2b fb s i _ _ _ _ _ _ _ _ (zf A) (zf B) la sa lb sb _ rfl k1 (by
       cases hf:((!zg B [120] || zg A [120])&&(!zg B [121] || zg A [121]))with
       |false=>rfl
       |true=>exact absurd ⟨k1,hf⟩ c2) w h
      rw[q4W (w:=[97,110,100]) (by decide) hA]at this
      exact this
     ·have:=j2c fb s i _ _ _ _ _ _ _ _ (zf A) (zf B) la sa lb sb _ rfl k0 k1 (by
       rcases c3 with e|e
       ·exact e
       ·omega) w h
      rw[q4W (w:=[97,110,100]) (by decide) hA]at this
      exact this
   ·rw[if_neg c3]
    have hf:((!zg B [120] || zg A [120])&&(!zg B [121] || zg A [121]))=true:=by
     cases hf:((!zg B [120] || zg A [120])&&(!zg B [121] || zg A [121]))with
     |true=>rfl
     |false=>exact absurd (.inl hf) c3
    have hk2:¬(zk s i 6).1<2:=fun e=>c3 (.inr e)
    obtain⟨sl1,sl2⟩:=j6c s (zk s i 6).2 (decide (3<(zk s i 6).1))
    have shi:=j0x s (zk s i 6).2 (decide (3<(zk s i 6).1))
    have snv:=(q7y s (zk s i 6).2 (decide (3<(zk s i 6).1))).2
    have hk:(zk s i 6).1=2∨(zk s i 6).1=3∨(zk s i 6).1=4∨(zk s i 6).1=5:=by omega
    rcases hk with hk|hk|hk|hk
    ·rw[hk,show decide (3<2)=false from rfl]at sl1 sl2 shi snv ⊢
     generalize hsp:q1d s (zk s i 6).2 false=sp at sl1 sl2 shi snv ⊢
     obtain⟨⟨lo,hs,hi⟩,ie⟩:=sp
     simp only[]at sl1 sl2 shi snv ⊢
     have:=j5g fb s i _ _ _ _ _ _ _ _ (zf A) (zf B) la sa lb sb ⟨ma,ra⟩ ⟨mb,rb⟩ _ rfl hk hf lo hs hi ie hsp sl1 sl2 (by omega) w h
     rw[q8L (w:=[115,105,110,99,101]) hi (by decide) hB _ (q4u (by decide) _ _).symm]at this
     exact this
    ·rw[hk,show decide (3<3)=false from rfl]at sl1 sl2 shi snv ⊢
     generalize hsp:q1d s (zk s i 6).2 false=sp at sl1 sl2 shi snv ⊢
     obtain⟨⟨lo,hs,hi⟩,ie⟩:=sp
     simp only[]at sl1 sl2 shi snv ⊢
     have:=j5h fb s i _ _ _ _ _ _ _ _ (zf A) (zf B) la sa lb sb ⟨ma,ra⟩ ⟨mb,rb⟩ _ rfl hk hf lo hs hi ie hsp sl1 sl2 (by omega) w h
     rw[q8L (w:=[117,110,115,105,110,99,101]) hi (by decide) hB _ (q4u (by decide) _ _).symm]at this
     exact this
    ·rw[hk,show decide (3<4)=true from rfl]at sl1 sl2 shi snv ⊢
     generalize hsp:q1d s (zk s i 6).2 true=sp at sl1 sl2 shi snv ⊢
     obtain⟨⟨lo,hs,hi⟩,ie⟩:=sp
     simp only[]at sl1 sl2 shi snv ⊢
     have:=j5i fb s i _ _ _ _ _ _ _ _ (zf A) (zf B) la sa lb sb ⟨ma,ra⟩ ⟨mb,rb⟩ _ rfl hk hf lo hs hi ie hsp sl1 sl2 (by omega) w h
     rw[←snv trivial,q8L (w:=[117,110,116,105,108]) hi (by decide) hB _ (q5s (by decide) _ _).symm]at this
     exact this
    ·rw[hk,show decide (3<5)=true from rfl]at sl1 sl2 shi snv ⊢
     generalize hsp:q1d s (zk s i 6).2 true=sp at sl1 sl2 shi snv ⊢
     obtain⟨⟨lo,hs,hi⟩,ie⟩:=sp
     simp only[]at sl1 sl2 shi snv ⊢
     have:=j5j fb s i _ _ _ _ _ _ _ _ (zf A) (zf B) la sa lb sb ⟨ma,ra⟩ ⟨mb,rb⟩ _ rfl hk hf lo hs hi ie hsp sl1 sl2 (by omega) w h
     rw[←snv trivial,q8L (w:=[117,110,117,110,116,105,108]) hi (by decide) hB _ (q5s (by decide) _ _).symm]at this
     exact this
def q0o (F:zh):Array Value:=#[bs (zy F),bs (zy (zV F)),.bool (zg F [120]),.bool (zg F [121]),.int .i64 (zf F)]
theorem q5G (F:zh):(q0o F).all (·.oneCell')=true:=j0k _ _ _ _ _
theorem q1y (F:zh):(Tryz.prog.info? 23).map (·.size)=some (q0o F).size:=qu
theorem q5m {fb:Nat}{s:By}{j:Nat}(F:zh){w W:World}(hlt:fb<w.heap.size)(hf:FeedAt W fb s j)(ho:OnlyB [fb] w W)(g:W.heap[w.heap.size]?=some (.cells q4y 23 (0,0))) :
  ∃W',(Instr.storeAt 23 (.pointer (some ⟨w.heap.size,0,none⟩)) (.agg (q0o F))).run Tryz.prog W=.ok () W'∧(loadVar 23 ⟨w.heap.size,0,none⟩).run Tryz.prog W'=.ok (.agg (q0o F)) W'∧FeedAt W' fb s j∧OnlyB [fb] w W'∧∀q,q≠w.heap.size→W'.heap[q]?=W.heap[q]?:=by
 obtain⟨W',s1,s2,s3,s4,s5,s6,s7⟩:=q0j (P:=Tryz.prog) 23 23 W w.heap.size _ (q0o F) g (q1y F) rfl (q5G F)
 exact⟨W',s1,q1G (P:=Tryz.prog) 23 23 W' w.heap.size (q0o F) (0,0) _ s2 Tryz.underlying23 rfl (q1y F),⟨(s3 fb (by omega)).trans hf.blk,hf.le,hf.sm⟩,⟨s5.trans ho.os,s6.trans ho.tape,s7.trans ho.output,by rw[s4];exact ho.size,fun q hq hn=>(s3 q (by omega)).trans (ho.block q hq hn)⟩,s3⟩
theorem q6v {w lo hi:By}(hw:q0y w=false)(A:zh):zf (opF w lo hi A .nil)=zf A:=by
 rw[q4u hw]
 have:=q2O A
 rw[if_neg (by show ¬zf A < -1;omega)]
theorem q6u {w lo hi:By}(hw:q0y w=true)(A:zh):zf (opF w lo hi A .nil)=if zf A = -1 then(q0e hi:Int)else zf A+(q0e hi:Int):=by
 rw[q5s hw]
 have:=q2O A
 rw[if_neg (show ¬zf A<zf .nil by show ¬zf A < -1;omega)]
theorem q8K {w lo hs:By}(hi:Nat)(hw:qE w=true){A:zh}(hA:A≠.nil)(rz:Int)(hz:rz=zf (opF w lo hs A .nil)):qt ((w++q2E (lo,hs,hi))++[40]++zy A++[41]) ((w++q2E (lo,hs,hi))++[40]++zy (zV A)++[41]) (zg A [120]) (zg A [121]) rz=.agg (q0o (opF w lo hs A .nil)):=by
 have k:=q0a.2.1 hw
 have hf:∀x,zg (opF w lo hs A .nil) x=zg A x:=fun x=>by rw[q7j hA k.2.1];show(zg A x || false)=_;rw[Bool.or_false]
 unfold q0o
 rw[j3Z,j6l hw lo hs A hi,show zV (Deep.BT.nil:zh)=Deep.BT.nil from rfl,j6l hw lo hs (zV A) hi,hf,hf,hz]
theorem j0q {F:zh}(h:Fine F):F≠.nil:=fun e=>by have:=h.well;rw[e]at this;exact this
theorem lenK3 {m:Nat}(h:m≤3):lenK m≤300:=by
 have:m=0∨m=1∨m=2∨m=3:=by omega
 rcases this with rfl|rfl|rfl|rfl<;>decide
theorem j3C (fb:Nat)(s:By)(i:Nat)(w:World)(h:FeedAt w fb s i) :
  Calls Tryz.prog 12 #[.pointer (some ⟨fb,0,none⟩),.int .i64 0] w fun e w'=>e=.returned (.agg (q0o (mkF s 0 i).1))∧FeedAt w' fb s (mkF s 0 i).2∧OnlyB [fb] w w':=by
 have HN:=zb (fun W q=>q1v fb s i 10 (by omega) W q)
 have HAT:Hid (∀j W,FeedAt W fb s j→Calls Tryz.prog 30 #[.pointer (some ⟨fb,0,none⟩)] W fun e w'=>e=.returned (.agg (q0o (q2C s j).1))∧FeedAt w' fb s (q2C s j).2∧OnlyB [fb] W w'):=zb (fun j W q=>by
  have:=j5d fb s j W q
  unfold q0o
  rw[q6m]
  exact this)
 have HF:=zb h
 have hlt:=h.lt
 clear h
 rw[mkF]
 generalize zk s i 10=rx at *
 obtain⟨k,i1⟩:=rx
 simp only[]at HN ⊢
 go_enter Tryz.func12,Tryz.ntmps12
 go_wp2_with fail
 have BW:Below w.heap.size w (w.alloc (.cells q4y 23)):=(zB _ _).alloc (zL _) _
 have g0:=zN w (.cells q4y 23)
 have hn:∀q,fb<q→q∉[fb]:=fun q hq e=>by simp at e;omega
 refine(HN.out _ (HF.out.below BW)).mono ?_
 rintro e w1 ⟨rfl,f1,o1⟩
 have G1:=o1.row g0 (hn _ hlt)
 have HF1:=zb f1
 have HO1:Hid (OnlyB [fb] w w1):=zb ((OnlyB.of_below BW).trans o1)
 clear BW g0 f1 o1 HF HN
 go_wp2_with fail
 refine(HAT.out _ _ HF1.out).mono ?_
 rintro e w2 ⟨rfl,f2,o2⟩
 obtain⟨W3,s1,s2,s3,s4,_⟩:=q5m (q2C s i1).1 hlt f2 (HO1.out.trans o2) (o2.row G1 (hn _ hlt))
 go_wp2_with (refine ze rfl 23 (.tmp 4) (.tmp 22) rfl ⟨w.heap.size,0,none⟩ (.agg (q0o (q2C s i1).1)) rfl rfl W3 s1 ?_)
 exact zP (v:=.agg (q0o (q2C s i1).1)) (zl rfl _ _ _ _ rfl s2) rfl ⟨rfl,s3,s4⟩
end Go.Proofs.YtiamjjonoeaggaaGreatDoor
