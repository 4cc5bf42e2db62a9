import Derived.Test.YtiamjjonoeaggaaGreatDoorGA
import Derived.Test.YtiamjjonoeaggaaGreatDoorGB
import Derived.Test.YtiamjjonoeaggaaGreatDoorG21
import Derived.Test.YtiamjjonoeaggaaGreatDoorG34
import Derived.Test.YtiamjjonoeaggaaGreatDoorG36
import Derived.Test.YtiamjjonoeaggaaGreatDoorG37
set_option maxRecDepth 100000
set_option maxHeartbeats 16000000
namespace Go.Proofs.YtiamjjonoeaggaaGreatDoor
open Go.RowKit
theorem j3D (fb:Nat)(s:By)(m:Nat)(hm:m≤3)(HIH:Hid (∀j W,FeedAt W fb s j→Calls Tryz.prog 12 #[.pointer (some ⟨fb,0,none⟩),.int .i64 m] W fun e w'=>e=.returned (.agg (q0o (mkF s m j).1))∧FeedAt w' fb s (mkF s m j).2∧OnlyB [fb] W w'))(i:Nat)(w:World)(h:FeedAt w fb s i) :
  Calls Tryz.prog 12 #[.pointer (some ⟨fb,0,none⟩),.int .i64 ((m+1:Nat):Int)] w fun e w'=>e=.returned (.agg (q0o (mkF s (m+1) i).1))∧FeedAt w' fb s (mkF s (m+1) i).2∧OnlyB [fb] w w':=by
 have HN:=zb (fun W q=>q1v fb s i 10 (by omega) W q)
 have HNX:=zb (fun j n hn W q=>q1v fb s j n hn W q)
 have HAT:Hid (∀j W,FeedAt W fb s j→Calls Tryz.prog 30 #[.pointer (some ⟨fb,0,none⟩)] W fun e w'=>e=.returned (.agg (q0o (q2C s j).1))∧FeedAt w' fb s (q2C s j).2∧OnlyB [fb] W w'):=zb (fun j W q=>by
  have:=j5d fb s j W q
  unfold q0o
  rw[q6m]
  exact this)
 have HFM:=zb (fun j=>j7T s m j)
 have HRM:=zb (fun j=>reach_mk s m j)
 have hl3:=lenK3 hm
 have HF:=zb h
 have hlt:=h.lt
 clear h
 obtain⟨D,hD⟩:∃D:Int,D=((m+1:Nat):Int):=⟨_,rfl⟩
 rw[←hD]
 have hD0:(D==0)=false:=by rw[hD];simp;omega
 have hDw:IntKind.i64.wrap (D-1)=(m:Int):=by rw[hD,IntKind.wrap_i64];omega
 clear hD
 obtain⟨R,hR⟩:∃R,R=mkF s (m+1) i:=⟨_,rfl⟩
 rw[←hR]
 rw[mkF]at hR
 generalize zk s i 10=rx at *
 obtain⟨k,i1⟩:=rx
 simp only[]at HN hR
 have HR:=zb hR
 clear hR
 have hn:∀q,fb<q→q∉[fb]:=fun q hq e=>by simp at e;omega
 have HNF:=zb hn
 clear hn
 go_enter Tryz.func12,Tryz.ntmps12
 go_wp2_with fail
 have BW:Below w.heap.size w (w.alloc (.cells q4y 23)):=(zB _ _).alloc (zL _) _
 have g0:=zN w (.cells q4y 23)
 refine(HN.out _ (HF.out.below BW)).mono ?_
 rintro e w1 ⟨rfl,f1,o1⟩
 have G1:=zb (o1.row g0 (HNF.out _ hlt))
 have HF1:=zb f1
 have HO1:Hid (OnlyB [fb] w w1):=zb ((OnlyB.of_below BW).trans o1)
 clear BW g0 f1 o1 HF HN
 by_cases hk2:k<2
 ·have hr:=HR.out
  rw[if_pos hk2]at hr
  clear HIH HFM HRM HNX
  go_wp2_with fail
  refine(HAT.out _ _ HF1.out).mono ?_
  rintro e w2 ⟨rfl,f2,o2⟩
  obtain⟨W3,s1,s2,s3,s4,_⟩:=q5m (q2C s i1).1 hlt f2 (HO1.out.trans o2) (o2.row G1.out (HNF.out _ hlt))
  go_wp2_with (refine ze rfl 23 (.tmp 4) (.tmp 22) rfl ⟨w.heap.size,0,none⟩ (.agg (q0o (q2C s i1).1)) rfl rfl W3 s1 ?_)
  exact zP (v:=.agg (q0o (q2C s i1).1)) (zl rfl _ _ _ _ rfl s2) rfl ⟨by rw[hr],by rw[hr];exact s3,s4⟩
 ·have hr:=HR.out
  rw[if_neg hk2]at hr
  have HR2:=zb hr
  clear HR hr
  clear HAT
  go_wp2_with fail
  refine(HIH.out i1 _ HF1.out).mono ?_
  rintro e w2 ⟨rfl,f2,o2⟩
  have fa:=HFM.out i1
  have ra:=HRM.out i1
  generalize mkF s m i1=rA at *
  obtain⟨A,i2⟩:=rA
  simp only[]at f2 fa ra HR2
  have G2:=o2.row G1.out (HNF.out _ hlt)
  have O2:=HO1.out.trans o2
  have hl0:w.heap.size<w2.heap.size:=zd G2
  obtain⟨W3,s1,s2,s3,s4⟩:=qI (P:=Tryz.prog) 23 w2 q4y (q0o A) (q1y A) rfl (q5G A)
  have HS1:=zb s1
  have HA3:=zb s2
  have HF3:=zb (f2.below s3)
  have HO3:Hid (OnlyB [fb] w W3):=zb (O2.trans (.of_below s3))
  have G3:=zb ((s3.block _ hl0).trans G2)
  have hfa:=j0q fa.fine
  have hla:(zy A).length≤300:=zM fa.len hl3
  have hra:zf A≤1000:=by omega
  have hlA:w2.heap.size<W3.heap.size:=zd s2
  have hfb2:fb<w2.heap.size:=by omega
  clear f2 fa ra G2 O2 s1 s2 s3 s4 o2 G1 HF1 HO1
  by_cases hk6:k<6
  ·have hr:=HR2.out
   rw[if_pos hk6]at hr
   have HR3:=zb hr
   clear HR2 hr
   go_wp2_with (refine ze rfl 23 (.tmp 6) (.tmp 26) rfl ⟨w2.heap.size,0,none⟩ (.agg (q0o A)) rfl rfl W3 HS1.out ?_)
   refine(HIH.out i2 _ HF3.out).mono ?_
   rintro e w4 ⟨rfl,f4,o4⟩
   have fb4:=HFM.out i2
   have rb4:=HRM.out i2
   generalize mkF s m i2=rB at *
   obtain⟨B,i3⟩:=rB
   simp only[]at f4 fb4 rb4 HR3
   have G4:=o4.row G3.out (HNF.out _ hlt)
   have A4:=o4.row HA3.out (HNF.out _ hfb2)
   have O4:=HO3.out.trans o4
   have hl04:w.heap.size<w4.heap.size:=zd G4
   have hlA4:w2.heap.size<w4.heap.size:=zd A4
   obtain⟨W5,s1,s2,s3,s4⟩:=qI (P:=Tryz.prog) 23 w4 q4y (q0o B) (q1y B) rfl (q5G B)
   have HS5:=zb s1
   have hfB:=j0q fb4.fine
   have hlB:(zy B).length≤300:=zM fb4.len hl3
   have hrB:zf B≤1000:=by omega
   have HF5:=zb (f4.below s3)
   have HO5:Hid (OnlyB [fb] w W5):=zb (O4.trans (.of_below s3))
   have G5:=zb ((s3.block _ hl04).trans G4)
   have A5:=(s3.block _ hlA4).trans A4
   have HPA:=zb (fun W q=>j6U fb s i3 A B hfa hfB hla hlB hra hrB W q)
   have LA:=qC (P:=Tryz.prog) 23 23 W5 w2.heap.size (q0o A) (0,0) _ A5 Tryz.underlying23 rfl (q1y A)
   have LB:=qC (P:=Tryz.prog) 23 23 W5 w4.heap.size (q0o B) (0,0) _ s2 Tryz.underlying23 rfl (q1y B)
   clear f4 fb4 rb4 G4 A4 O4 s1 s2 s3 s4 A5 o4 HIH HFM HRM HNX HS1
   go_wp2_with (first|(refine ze rfl 23 (.tmp 7) (.tmp 32) rfl ⟨w4.heap.size,0,none⟩ (.agg (q0o B)) rfl rfl W5 HS5.out ?_)|(refine zj rfl 23 (.tmp 6) rfl ⟨w2.heap.size,0,none⟩ (.agg (q0o A)) rfl LA ?_)|(refine zj rfl 23 (.tmp 7) rfl ⟨w4.heap.size,0,none⟩ (.agg (q0o B)) rfl LB ?_))
   refine(HPA.out _ HF5.out).mono ?_
   rintro e w6 ⟨rfl,f6,o6⟩
   obtain⟨W7,s1,s2,s3,s4,_⟩:=q5m (q7U s i3 A B).1 hlt f6 (HO5.out.trans o6) (o6.row G5.out (HNF.out _ hlt))
   go_wp2_with (refine ze rfl 23 (.tmp 4) (.tmp 36) rfl ⟨w.heap.size,0,none⟩ (.agg (q0o (q7U s i3 A B).1)) rfl rfl W7 s1 ?_)
   exact zP (v:=.agg (q0o (q7U s i3 A B).1)) (zl rfl _ _ _ _ rfl s2) rfl ⟨by rw[HR3.out],by rw[HR3.out];exact s3,s4⟩
  ·have hr:=HR2.out
   rw[if_neg hk6]at hr
   have hk6':¬(k:Int)<6:=by omega
   clear HIH HFM HRM HR2
   by_cases h6:k=6
   ·rw[if_pos h6]at hr
    have HR3:=zb hr
    clear hr
    have hk6e:((k:Int)==6)=true:=by simp;omega
    have HN2:=zb (fun W q=>q1v fb s i2 2 (by omega) W q)
    clear HNX
    generalize zk s i2 2=ry at *
    obtain⟨y2,i3⟩:=ry
    simp only[]at HN2 HR3
    have hyb:((y2:Int)==1)=decide (y2=1):=by
     by_cases e:y2=1
     ·subst e;rfl
     ·rw[decide_eq_false e];simp;omega
    have HQ:Hid (∀W,Calls Tryz.prog 32 #[.agg (q0o A),.bool (decide (y2=1))] W fun e w'=>e=.returned (.agg (q0o (q4Z A (decide (y2=1)))))∧Below W.heap.size W w'):=zb (fun W=>by
     have:=j0Z (zy A) (zy (zV A)) (zg A [120]) (zg A [121]) (zf A) (decide (y2=1)) hla (by rw[q5S];exact hla) W
     rw[j6Z hfa]at this
     exact this)
    go_wp2_with (refine ze rfl 23 (.tmp 6) (.tmp 26) rfl ⟨w2.heap.size,0,none⟩ (.agg (q0o A)) rfl rfl W3 HS1.out ?_)
    have D3:=(zB W3.heap.size W3).drew
    refine wp_region_held_drew (S:=fun w'=>w'.heap[w2.heap.size]?=some (.cells (q0o A) 23 (0,0))) (by kernel_rfl) ((D3.block _ hlA).trans HA3.out) (fun hS0=>?_)
    simp only[rz,Nat.zero_add,Nat.reduceAdd]
    refine q0V (i:=0) (v:=.agg (q0o A)) 39 rfl rfl (by kernel_rfl) (by kernel_rfl) (by kernel_rfl) (fun _ _ _ h=>h) (by rfl) (by assumption) ?_ ?_
    ·intro W hSw;exact q1q 23 (.tmp 6) rfl ⟨w2.heap.size,0,none⟩ _ rfl (qC (P:=Tryz.prog) 23 23 W _ _ (0,0) _ hSw Tryz.underlying23 rfl (q1y A))
    simp only[Act.put,pz]
    refine tq 1 40 ?_
    simp only[Act.put,pz]
    refine rd1 2 rfl fun K hK=>?_
    go_simp
    refine(HN2.out _ (HF3.out.below D3)).mono ?_
    rintro e w4 ⟨rfl,f4,o4⟩
    have A4:=o4.row (k:=w2.heap.size) ((D3.block _ hlA).trans HA3.out) (HNF.out _ hfb2)
    have G4:=zb (o4.row (k:=w.heap.size) ((D3.block _ (zd G3.out)).trans G3.out) (HNF.out _ hlt))
    have HF4:=zb f4
    have HO4:Hid (OnlyB [fb] w w4):=zb ((HO3.out.drew).trans o4)
    go_simp
    refine hK.out _ _ A4 (fun hS1=>?_)
    clear hK K f4 o4 A4 hS0
    simp only[pz]
    refine tq 3 42 ?_
    simp only[Act.put,pz]
    refine rd1 4 rfl fun K hK=>?_
    go_simp
    refine(HQ.out _).mono ?_
    rintro e w5 ⟨rfl,b5⟩
    have A5:=(b5.block _ (zd hS1)).trans hS1
    have G5:=zb ((b5.block _ (zd G4.out)).trans G4.out)
    have HF5:=zb (HF4.out.below b5)
    have HO5:Hid (OnlyB [fb] w w5):=zb (HO4.out.trans (.of_below b5))
    go_simp
    refine hK.out _ _ A5 (fun hS2=>?_)
    clear hK K b5 A5 hS1
    simp only[pz]
    obtain⟨W7,s1,s2,s3,s4,s5⟩:=q5m (q4Z A (decide (y2=1))) hlt HF5.out HO5.out G5.out
    refine rd1 5 rfl fun K hK=>?_
    refine qa 23 (.tmp 4) (.tmp 43) rfl ⟨w.heap.size,0,none⟩ (.agg (q0o (q4Z A (decide (y2=1))))) rfl rfl W7 s1 ?_
    refine hK.out _ _ ((s5 _ (by omega)).trans hS2) (fun _=>?_)
    clear hK K
    refine zD (by kernel_rfl) ?_ _
    simp only[Act.put,pz]
    clear hS2 s1
    go_wp2_with fail
    exact zP (v:=.agg (q0o (q4Z A (decide (y2=1))))) (zl rfl _ _ _ _ rfl s2) rfl ⟨by rw[HR3.out],by rw[HR3.out];exact s3,s4⟩
   ·rw[if_neg h6]at hr
    have hk6e:((k:Int)==6)=false:=by simp;omega
    have HR3:=zb hr
    clear hr
    have HN4:=zb (fun W q=>q1v fb s i2 4 (by omega) W q)
    have ho4:=qj s i2 (n:=4) (by omega)
    clear HNX
    generalize zk s i2 4=ry at *
    obtain⟨o,i3⟩:=ry
    simp only[]at HN4 HR3 ho4
    obtain⟨sl1,sl2⟩:=j6c s i3 (decide (o % 2=1))
    have shi:=j0x s i3 (decide (o % 2=1))
    have snv:=(q7y s i3 (decide (o % 2=1))).2
    have HSP:=zb (fun W q=>q6J fb s i3 (decide (o % 2=1)) W q)
    generalize q1d s i3 (decide (o % 2=1))=sp at *
    obtain⟨⟨lo,hs,hi⟩,ie⟩:=sp
    simp only[]at sl1 sl2 shi snv HSP HR3
    obtain⟨SP,hSP⟩:∃SP,SP=q2E (lo,hs,hi):=⟨_,rfl⟩
    have hspl:SP.length≤100:=by rw[hSP];simp;omega
    have hq:¬9223372036854775807<4+SP.length:=by omega
    have HSE:=zb hSP
    rw[←hSP]at HSP
    have hmr:=q2O A
    have hsa:(zy (zV A)).length≤300:=by rw[q5S];exact hla
    have cA4:(q0o A)[4]?=some (.int .i64 (zf A)):=rfl
    have HLT:=zb (q5B (zf A) hi (by omega) (by omega))
    have HWR:Hid (∀op rc,op.length≤300→∀W,Calls Tryz.prog 35 #[bs op,.agg (q0o A),.int .i64 rc] W fun e w'=>e=.returned (qt (op++[40]++zy A++[41]) (op++[40]++zy (zV A)++[41]) (zg A [120]) (zg A [121]) rc)∧Below W.heap.size W w'):=zb (fun op rc h1 W=>j5k op (zy A) (zy (zV A)) (zg A [120]) (zg A [121]) (zf A) rc h1 hla hsa W)
    clear hSP
    have ho:o=0∨o=1∨o=2∨o=3:=by omega
    rcases ho with rfl|rfl|rfl|rfl
    ·rw[show decide (0 % 2=1)=false from rfl]at HSP snv
     have HW2:=zb (fun W=>HWR.out ([112,114,101,118]++SP) (zf A) (by simp;omega) W)
     rw[HSE.out,q8K (w:=[112,114,101,118]) hi (by decide) hfa _ ((q6v (by decide) A).symm),←HSE.out]at HW2
     rw[show bs ([112,114,101,118]++SP)=.string (ByteArray.mk [112,114,101,118].toArray++ByteArray.mk SP.toArray)by rw[qD]]at HW2
     clear HWR
     go_wp2_with (refine ze rfl 23 (.tmp 6) (.tmp 26) rfl ⟨w2.heap.size,0,none⟩ (.agg (q0o A)) rfl rfl W3 HS1.out ?_)
     have BL:Below W3.heap.size W3 (W3.alloc (.cells #[.string ⟨#[112,114,101,118]⟩,.string ⟨#[110,101,120,116]⟩,.string ⟨#[111,110,99,101]⟩,.string ⟨#[115,111,111,110]⟩] 9)):=(zB _ _).alloc (zL _) _
     have gL:=zN W3 (.cells #[.string ⟨#[112,114,101,118]⟩,.string ⟨#[110,101,120,116]⟩,.string ⟨#[111,110,99,101]⟩,.string ⟨#[115,111,111,110]⟩] 9)
     have hfb3:fb<W3.heap.size:=by omega
     refine(HN4.out _ (HF3.out.below BL)).mono ?_
     rintro e w4 ⟨rfl,f4,o4⟩
     have GL4:=o4.row gL (HNF.out _ hfb3)
     have A4:=o4.row ((BL.block _ hlA).trans HA3.out) (HNF.out _ hfb2)
     have G4:=o4.row ((BL.block _ (zd G3.out)).trans G3.out) (HNF.out _ hlt)
     have O4:OnlyB [fb] w w4:=HO3.out.trans ((OnlyB.of_below BL).trans o4)
     have HF4:=zb f4
     clear f4 o4 BL gL HS1
     go_wp2_with fail
     refine(HSP.out _ HF4.out).mono ?_
     rintro e w5 ⟨rfl,f5,o5⟩
     have GL5:=o5.row GL4 (HNF.out _ hfb3)
     have A5:=o5.row A4 (HNF.out _ hfb2)
     have G5:=zb (o5.row G4 (HNF.out _ hlt))
     have HO5:Hid (OnlyB [fb] w w5):=zb (O4.trans o5)
     have HF5:=zb f5
     have c64:=(zC _ _ 4 _ _ _ A5).trans cA4
     have hl6:w2.heap.size<w5.heap.size:=zd A5
     have HA5:=zb A5
     have HGL5:=zb GL5
     clear GL4 A4 G4 O4 f5 o5 A5 GL5
     go_wp2_with fail
     have D5:=(zB w5.heap.size w5).drew
     have HSL:Hid (∀W:World,W.heap[w2.heap.size]?=some (.cells (q0o A) 23 (0,0))∧W.heap[W3.heap.size]?=some (.cells #[.string ⟨#[112,114,101,118]⟩,.string ⟨#[110,101,120,116]⟩,.string ⟨#[111,110,99,101]⟩,.string ⟨#[115,111,111,110]⟩] 9 (0,0))→W.cell? ⟨W3.heap.size,0,none⟩=some (.string ⟨[112,114,101,118].toArray⟩)):=zb (fun W hW=>by have:=zC _ _ 0 _ _ _ hW.2;simpa using this)
     refine wp_region_held_drew (S:=fun w'=>w'.heap[w2.heap.size]?=some (.cells (q0o A) 23 (0,0))∧w'.heap[W3.heap.size]?=some (.cells #[.string ⟨#[112,114,101,118]⟩,.string ⟨#[110,101,120,116]⟩,.string ⟨#[111,110,99,101]⟩,.string ⟨#[115,111,111,110]⟩] 9 (0,0))) (by kernel_rfl) ⟨(D5.block _ hl6).trans HA5.out,(D5.block _ (zd HGL5.out)).trans HGL5.out⟩ (fun hS0=>?_)
     simp only[rz,Nat.zero_add,Nat.reduceAdd]
     refine tq 0 63 ?_
     simp only[Act.put,pz]
     refine tq 1 64 ?_
     simp only[Act.put,pz]
     refine tq 4 67 ?_
     simp only[Act.put,pz]
     refine tq 7 70 ?_
     simp only[Act.put,pz]
     refine q0V (i:=6) (v:=.agg (q0o A)) 69 rfl rfl (by kernel_rfl) (by kernel_rfl) (by kernel_rfl) (fun _ _ _ h=>h) (by rfl) (by assumption) ?_ ?_
     ·intro W hSw;exact q1q 23 (.tmp 6) rfl ⟨w2.heap.size,0,none⟩ _ rfl (qC (P:=Tryz.prog) 23 23 W _ _ (0,0) _ hSw.1 Tryz.underlying23 rfl (q1y A))
     simp only[Act.put,pz]
     refine tq 2 65 ?_
     simp only[Act.put,pz]
     refine q0V (i:=3) (v:=?_) 66 rfl rfl (by kernel_rfl) (by kernel_rfl) (by kernel_rfl) (fun _ _ _ h=>h) (by rfl) (by assumption) ?_ ?_
     rotate_left
     ·(intro W hSw;have hcl:=HSL.out W hSw;(try dsimp only at hSw);go_simp;(try with_reducible rfl))
     simp only[Act.put,pz]
     refine tq 5 68 ?_
     simp only[Act.put,pz]
     refine rd1 8 rfl fun K hK=>?_
     go_simp
     refine(HW2.out _).mono ?_
     rintro e w7 ⟨rfl,b7⟩
     have B7:Below w5.heap.size w5 w7:=D5.trans (b7.mono D5.size)
     have S7:w7.heap[w2.heap.size]?=some (.cells (q0o A) 23 (0,0))∧w7.heap[W3.heap.size]?=some (.cells #[.string ⟨#[112,114,101,118]⟩,.string ⟨#[110,101,120,116]⟩,.string ⟨#[111,110,99,101]⟩,.string ⟨#[115,111,111,110]⟩] 9 (0,0)):=⟨(B7.block _ hl6).trans HA5.out,(B7.block _ (zd HGL5.out)).trans HGL5.out⟩
     go_simp
     refine hK.out _ _ S7 (fun hS2=>?_)
     clear hK K b7 hS0
     simp only[pz]
     obtain⟨W8,s1,s2,s3,s4,s5⟩:=q5m (opF [112,114,101,118] lo hs A .nil) hlt (HF5.out.below B7) (HO5.out.trans (.of_below B7)) ((B7.block _ (zd G5.out)).trans G5.out)
     refine rd1 9 rfl fun K hK=>?_
     refine qa 23 (.tmp 4) (.tmp 71) rfl ⟨w.heap.size,0,none⟩ (.agg (q0o (opF [112,114,101,118] lo hs A .nil))) rfl rfl W8 s1 ?_
     refine hK.out _ _ ⟨(s5 _ (by omega)).trans hS2.1,(s5 _ (by omega)).trans hS2.2⟩ (fun _=>?_)
     clear hK K
     refine zD (by kernel_rfl) ?_ _
     simp only[Act.put,pz]
     clear hS2 s1
     go_wp2_with fail
     exact zP (v:=.agg (q0o (opF [112,114,101,118] lo hs A .nil))) (zl rfl _ _ _ _ rfl s2) rfl ⟨by rw[HR3.out];rfl,by rw[HR3.out];exact s3,s4⟩
    ·rw[show decide (1 % 2=1)=true from rfl]at HSP snv
     have HW2:=zb (fun W=>HWR.out ([110,101,120,116]++SP) (if zf A = -1 then(hi:Int)else zf A+(hi:Int)) (by simp;omega) W)
     rw[HSE.out,q8K (w:=[110,101,120,116]) hi (by decide) hfa _ (by rw[q6u (by decide),snv rfl]),←HSE.out]at HW2
     rw[show bs ([110,101,120,116]++SP)=.string (ByteArray.mk [110,101,120,116].toArray++ByteArray.mk SP.toArray)by rw[qD]]at HW2
     obtain⟨ZZ,hZZ⟩:∃ZZ:Int,ZZ=(if zf A = -1 then(hi:Int)else zf A+(hi:Int)):=⟨_,rfl⟩
     rw[←hZZ]at HLT HW2
     clear hZZ
     clear HWR
     go_wp2_with (refine ze rfl 23 (.tmp 6) (.tmp 26) rfl ⟨w2.heap.size,0,none⟩ (.agg (q0o A)) rfl rfl W3 HS1.out ?_)
     have BL:Below W3.heap.size W3 (W3.alloc (.cells #[.string ⟨#[112,114,101,118]⟩,.string ⟨#[110,101,120,116]⟩,.string ⟨#[111,110,99,101]⟩,.string ⟨#[115,111,111,110]⟩] 9)):=(zB _ _).alloc (zL _) _
     have gL:=zN W3 (.cells #[.string ⟨#[112,114,101,118]⟩,.string ⟨#[110,101,120,116]⟩,.string ⟨#[111,110,99,101]⟩,.string ⟨#[115,111,111,110]⟩] 9)
     have hfb3:fb<W3.heap.size:=by omega
     refine(HN4.out _ (HF3.out.below BL)).mono ?_
     rintro e w4 ⟨rfl,f4,o4⟩
     have GL4:=o4.row gL (HNF.out _ hfb3)
     have A4:=o4.row ((BL.block _ hlA).trans HA3.out) (HNF.out _ hfb2)
     have G4:=o4.row ((BL.block _ (zd G3.out)).trans G3.out) (HNF.out _ hlt)
     have O4:OnlyB [fb] w w4:=HO3.out.trans ((OnlyB.of_below BL).trans o4)
     have HF4:=zb f4
     clear f4 o4 BL gL HS1
     go_wp2_with fail
     refine(HSP.out _ HF4.out).mono ?_
     rintro e w5 ⟨rfl,f5,o5⟩
     have GL5:=o5.row GL4 (HNF.out _ hfb3)
     have A5:=o5.row A4 (HNF.out _ hfb2)
     have G5:=zb (o5.row G4 (HNF.out _ hlt))
     have HO5:Hid (OnlyB [fb] w w5):=zb (O4.trans o5)
     have HF5:=zb f5
     have c64:=(zC _ _ 4 _ _ _ A5).trans cA4
     have hl6:w2.heap.size<w5.heap.size:=zd A5
     have HA5:=zb A5
     have HGL5:=zb GL5
     clear GL4 A4 G4 O4 f5 o5 A5 GL5
     go_wp2_with fail
     refine(HLT.out _).mono ?_
     rintro e w6 ⟨rfl,hw6⟩
     rw[hw6]
     clear hw6
     go_wp2_with fail
     have D5:=(zB w5.heap.size w5).drew
     have HSL:Hid (∀W:World,W.heap[w2.heap.size]?=some (.cells (q0o A) 23 (0,0))∧W.heap[W3.heap.size]?=some (.cells #[.string ⟨#[112,114,101,118]⟩,.string ⟨#[110,101,120,116]⟩,.string ⟨#[111,110,99,101]⟩,.string ⟨#[115,111,111,110]⟩] 9 (0,0))→W.cell? ⟨W3.heap.size,1,none⟩=some (.string ⟨[110,101,120,116].toArray⟩)):=zb (fun W hW=>by have:=zC _ _ 1 _ _ _ hW.2;simpa using this)
     refine wp_region_held_drew (S:=fun w'=>w'.heap[w2.heap.size]?=some (.cells (q0o A) 23 (0,0))∧w'.heap[W3.heap.size]?=some (.cells #[.string ⟨#[112,114,101,118]⟩,.string ⟨#[110,101,120,116]⟩,.string ⟨#[111,110,99,101]⟩,.string ⟨#[115,111,111,110]⟩] 9 (0,0))) (by kernel_rfl) ⟨(D5.block _ hl6).trans HA5.out,(D5.block _ (zd HGL5.out)).trans HGL5.out⟩ (fun hS0=>?_)
     simp only[rz,Nat.zero_add,Nat.reduceAdd]
     refine tq 0 63 ?_
     simp only[Act.put,pz]
     refine tq 1 64 ?_
     simp only[Act.put,pz]
     refine tq 4 67 ?_
     simp only[Act.put,pz]
     refine tq 7 70 ?_
     simp only[Act.put,pz]
     refine q0V (i:=6) (v:=.agg (q0o A)) 69 rfl rfl (by kernel_rfl) (by kernel_rfl) (by kernel_rfl) (fun _ _ _ h=>h) (by rfl) (by assumption) ?_ ?_
     ·intro W hSw;exact q1q 23 (.tmp 6) rfl ⟨w2.heap.size,0,none⟩ _ rfl (qC (P:=Tryz.prog) 23 23 W _ _ (0,0) _ hSw.1 Tryz.underlying23 rfl (q1y A))
     simp only[Act.put,pz]
     refine tq 2 65 ?_
     simp only[Act.put,pz]
     refine q0V (i:=3) (v:=?_) 66 rfl rfl (by kernel_rfl) (by kernel_rfl) (by kernel_rfl) (fun _ _ _ h=>h) (by rfl) (by assumption) ?_ ?_
     rotate_left
     ·(intro W hSw;have hcl:=HSL.out W hSw;(try dsimp only at hSw);go_simp;(try with_reducible rfl))
     simp only[Act.put,pz]
     refine tq 5 68 ?_
     simp only[Act.put,pz]
     refine rd1 8 rfl fun K hK=>?_
     go_simp
     refine(HW2.out _).mono ?_
     rintro e w7 ⟨rfl,b7⟩
     have B7:Below w5.heap.size w5 w7:=D5.trans (b7.mono D5.size)
     have S7:w7.heap[w2.heap.size]?=some (.cells (q0o A) 23 (0,0))∧w7.heap[W3.heap.size]?=some (.cells #[.string ⟨#[112,114,101,118]⟩,.string ⟨#[110,101,120,116]⟩,.string ⟨#[111,110,99,101]⟩,.string ⟨#[115,111,111,110]⟩] 9 (0,0)):=⟨(B7.block _ hl6).trans HA5.out,(B7.block _ (zd HGL5.out)).trans HGL5.out⟩
     go_simp
     refine hK.out _ _ S7 (fun hS2=>?_)
     clear hK K b7 hS0
     simp only[pz]
     obtain⟨W8,s1,s2,s3,s4,s5⟩:=q5m (opF [110,101,120,116] lo hs A .nil) hlt (HF5.out.below B7) (HO5.out.trans (.of_below B7)) ((B7.block _ (zd G5.out)).trans G5.out)
     refine rd1 9 rfl fun K hK=>?_
     refine qa 23 (.tmp 4) (.tmp 71) rfl ⟨w.heap.size,0,none⟩ (.agg (q0o (opF [110,101,120,116] lo hs A .nil))) rfl rfl W8 s1 ?_
     refine hK.out _ _ ⟨(s5 _ (by omega)).trans hS2.1,(s5 _ (by omega)).trans hS2.2⟩ (fun _=>?_)
     clear hK K
     refine zD (by kernel_rfl) ?_ _
     simp only[Act.put,pz]
     clear hS2 s1
     go_wp2_with fail
     exact zP (v:=.agg (q0o (opF [110,101,120,116] lo hs A .nil))) (zl rfl _ _ _ _ rfl s2) rfl ⟨by rw[HR3.out];rfl,by rw[HR3.out];exact s3,s4⟩
    ·rw[show decide (2 % 2=1)=false from rfl]at HSP snv
     have HW2:=zb (fun W=>HWR.out ([111,110,99,101]++SP) (zf A) (by simp;omega) W)
     rw[HSE.out,q8K (w:=[111,110,99,101]) hi (by decide) hfa _ ((q6v (by decide) A).symm),←HSE.out]at HW2
     rw[show bs ([111,110,99,101]++SP)=.string (ByteArray.mk [111,110,99,101].toArray++ByteArray.mk SP.toArray)by rw[qD]]at HW2
     clear HWR
     go_wp2_with (refine ze rfl 23 (.tmp 6) (.tmp 26) rfl ⟨w2.heap.size,0,none⟩ (.agg (q0o A)) rfl rfl W3 HS1.out ?_)
     have BL:Below W3.heap.size W3 (W3.alloc (.cells #[.string ⟨#[112,114,101,118]⟩,.string ⟨#[110,101,120,116]⟩,.string ⟨#[111,110,99,101]⟩,.string ⟨#[115,111,111,110]⟩] 9)):=(zB _ _).alloc (zL _) _
     have gL:=zN W3 (.cells #[.string ⟨#[112,114,101,118]⟩,.string ⟨#[110,101,120,116]⟩,.string ⟨#[111,110,99,101]⟩,.string ⟨#[115,111,111,110]⟩] 9)
     have hfb3:fb<W3.heap.size:=by omega
     refine(HN4.out _ (HF3.out.below BL)).mono ?_
     rintro e w4 ⟨rfl,f4,o4⟩
     have GL4:=o4.row gL (HNF.out _ hfb3)
     have A4:=o4.row ((BL.block _ hlA).trans HA3.out) (HNF.out _ hfb2)
     have G4:=o4.row ((BL.block _ (zd G3.out)).trans G3.out) (HNF.out _ hlt)
     have O4:OnlyB [fb] w w4:=HO3.out.trans ((OnlyB.of_below BL).trans o4)
     have HF4:=zb f4
     clear f4 o4 BL gL HS1
     go_wp2_with fail
     refine(HSP.out _ HF4.out).mono ?_
     rintro e w5 ⟨rfl,f5,o5⟩
     have GL5:=o5.row GL4 (HNF.out _ hfb3)
     have A5:=o5.row A4 (HNF.out _ hfb2)
     have G5:=zb (o5.row G4 (HNF.out _ hlt))
     have HO5:Hid (OnlyB [fb] w w5):=zb (O4.trans o5)
     have HF5:=zb f5
     have c64:=(zC _ _ 4 _ _ _ A5).trans cA4
     have hl6:w2.heap.size<w5.heap.size:=zd A5
     have HA5:=zb A5
     have HGL5:=zb GL5
     clear GL4 A4 G4 O4 f5 o5 A5 GL5
     go_wp2_with fail
     have D5:=(zB w5.heap.size w5).drew
     have HSL:Hid (∀W:World,W.heap[w2.heap.size]?=some (.cells (q0o A) 23 (0,0))∧W.heap[W3.heap.size]?=some (.cells #[.string ⟨#[112,114,101,118]⟩,.string ⟨#[110,101,120,116]⟩,.string ⟨#[111,110,99,101]⟩,.string ⟨#[115,111,111,110]⟩] 9 (0,0))→W.cell? ⟨W3.heap.size,2,none⟩=some (.string ⟨[111,110,99,101].toArray⟩)):=zb (fun W hW=>by have:=zC _ _ 2 _ _ _ hW.2;simpa using this)
     refine wp_region_held_drew (S:=fun w'=>w'.heap[w2.heap.size]?=some (.cells (q0o A) 23 (0,0))∧w'.heap[W3.heap.size]?=some (.cells #[.string ⟨#[112,114,101,118]⟩,.string ⟨#[110,101,120,116]⟩,.string ⟨#[111,110,99,101]⟩,.string ⟨#[115,111,111,110]⟩] 9 (0,0))) (by kernel_rfl) ⟨(D5.block _ hl6).trans HA5.out,(D5.block _ (zd HGL5.out)).trans HGL5.out⟩ (fun hS0=>?_)
     simp only[rz,Nat.zero_add,Nat.reduceAdd]
     refine tq 0 63 ?_
     simp only[Act.put,pz]
     refine tq 1 64 ?_
     simp only[Act.put,pz]
     refine tq 4 67 ?_
     simp only[Act.put,pz]
     refine tq 7 70 ?_
     simp only[Act.put,pz]
     refine q0V (i:=6) (v:=.agg (q0o A)) 69 rfl rfl (by kernel_rfl) (by kernel_rfl) (by kernel_rfl) (fun _ _ _ h=>h) (by rfl) (by assumption) ?_ ?_
     ·intro W hSw;exact q1q 23 (.tmp 6) rfl ⟨w2.heap.size,0,none⟩ _ rfl (qC (P:=Tryz.prog) 23 23 W _ _ (0,0) _ hSw.1 Tryz.underlying23 rfl (q1y A))
     simp only[Act.put,pz]
     refine tq 2 65 ?_
     simp only[Act.put,pz]
     refine q0V (i:=3) (v:=?_) 66 rfl rfl (by kernel_rfl) (by kernel_rfl) (by kernel_rfl) (fun _ _ _ h=>h) (by rfl) (by assumption) ?_ ?_
     rotate_left
     ·(intro W hSw;have hcl:=HSL.out W hSw;(try dsimp only at hSw);go_simp;(try with_reducible rfl))
     simp only[Act.put,pz]
     refine tq 5 68 ?_
     simp only[Act.put,pz]
     refine rd1 8 rfl fun K hK=>?_
     go_simp
     refine(HW2.out _).mono ?_
     rintro e w7 ⟨rfl,b7⟩
     have B7:Below w5.heap.size w5 w7:=D5.trans (b7.mono D5.size)
     have S7:w7.heap[w2.heap.size]?=some (.cells (q0o A) 23 (0,0))∧w7.heap[W3.heap.size]?=some (.cells #[.string ⟨#[112,114,101,118]⟩,.string ⟨#[110,101,120,116]⟩,.string ⟨#[111,110,99,101]⟩,.string ⟨#[115,111,111,110]⟩] 9 (0,0)):=⟨(B7.block _ hl6).trans HA5.out,(B7.block _ (zd HGL5.out)).trans HGL5.out⟩
     go_simp
     refine hK.out _ _ S7 (fun hS2=>?_)
     clear hK K b7 hS0
     simp only[pz]
     obtain⟨W8,s1,s2,s3,s4,s5⟩:=q5m (opF [111,110,99,101] lo hs A .nil) hlt (HF5.out.below B7) (HO5.out.trans (.of_below B7)) ((B7.block _ (zd G5.out)).trans G5.out)
     refine rd1 9 rfl fun K hK=>?_
     refine qa 23 (.tmp 4) (.tmp 71) rfl ⟨w.heap.size,0,none⟩ (.agg (q0o (opF [111,110,99,101] lo hs A .nil))) rfl rfl W8 s1 ?_
     refine hK.out _ _ ⟨(s5 _ (by omega)).trans hS2.1,(s5 _ (by omega)).trans hS2.2⟩ (fun _=>?_)
     clear hK K
     refine zD (by kernel_rfl) ?_ _
     simp only[Act.put,pz]
     clear hS2 s1
     go_wp2_with fail
     exact zP (v:=.agg (q0o (opF [111,110,99,101] lo hs A .nil))) (zl rfl _ _ _ _ rfl s2) rfl ⟨by rw[HR3.out];rfl,by rw[HR3.out];exact s3,s4⟩
    ·rw[show decide (3 % 2=1)=true from rfl]at HSP snv
     have HW2:=zb (fun W=>HWR.out ([115,111,111,110]++SP) (if zf A = -1 then(hi:Int)else zf A+(hi:Int)) (by simp;omega) W)
     rw[HSE.out,q8K (w:=[115,111,111,110]) hi (by decide) hfa _ (by rw[q6u (by decide),snv rfl]),←HSE.out]at HW2
     rw[show bs ([115,111,111,110]++SP)=.string (ByteArray.mk [115,111,111,110].toArray++ByteArray.mk SP.toArray)by rw[qD]]at HW2
     obtain⟨ZZ,hZZ⟩:∃ZZ:Int,ZZ=(if zf A = -1 then(hi:Int)else zf A+(hi:Int)):=⟨_,rfl⟩
     rw[←hZZ]at HLT HW2
     clear hZZ
     clear HWR
     go_wp2_with (refine ze rfl 23 (.tmp 6) (.tmp 26) rfl ⟨w2.heap.size,0,none⟩ (.agg (q0o A)) rfl rfl W3 HS1.out ?_)
     have BL:Below W3.heap.size W3 (W3.alloc (.cells #[.string ⟨#[112,114,101,118]⟩,.string ⟨#[110,101,120,116]⟩,.string ⟨#[111,110,99,101]⟩,.string ⟨#[115,111,111,110]⟩] 9)):=(zB _ _).alloc (zL _) _
     have gL:=zN W3 (.cells #[.string ⟨#[112,114,101,118]⟩,.string ⟨#[110,101,120,116]⟩,.string ⟨#[111,110,99,101]⟩,.string ⟨#[115,111,111,110]⟩] 9)
     have hfb3:fb<W3.heap.size:=by omega
     refine(HN4.out _ (HF3.out.below BL)).mono ?_
     rintro e w4 ⟨rfl,f4,o4⟩
     have GL4:=o4.row gL (HNF.out _ hfb3)
     have A4:=o4.row ((BL.block _ hlA).trans HA3.out) (HNF.out _ hfb2)
     have G4:=o4.row ((BL.block _ (zd G3.out)).trans G3.out) (HNF.out _ hlt)
     have O4:OnlyB [fb] w w4:=HO3.out.trans ((OnlyB.of_below BL).trans o4)
     have HF4:=zb f4
     clear f4 o4 BL gL HS1
     go_wp2_with fail
     refine(HSP.out _ HF4.out).mono ?_
     rintro e w5 ⟨rfl,f5,o5⟩
     have GL5:=o5.row GL4 (HNF.out _ hfb3)
     have A5:=o5.row A4 (HNF.out _ hfb2)
     have G5:=zb (o5.row G4 (HNF.out _ hlt))
     have HO5:Hid (OnlyB [fb] w w5):=zb (O4.trans o5)
     have HF5:=zb f5
     have c64:=(zC _ _ 4 _ _ _ A5).trans cA4
     have hl6:w2.heap.size<w5.heap.size:=zd A5
     have HA5:=zb A5
     have HGL5:=zb GL5
     clear GL4 A4 G4 O4 f5 o5 A5 GL5
     go_wp2_with fail
     refine(HLT.out _).mono ?_
     rintro e w6 ⟨rfl,hw6⟩
     rw[hw6]
     clear hw6
     go_wp2_with fail
     have D5:=(zB w5.heap.size w5).drew
     have HSL:Hid (∀W:World,W.heap[w2.heap.size]?=some (.cells (q0o A) 23 (0,0))∧W.heap[W3.heap.size]?=some (.cells #[.string ⟨#[112,114,101,118]⟩,.string ⟨#[110,101,120,116]⟩,.string ⟨#[111,110,99,101]⟩,.string ⟨#[115,111,111,110]⟩] 9 (0,0))→W.cell? ⟨W3.heap.size,3,none⟩=some (.string ⟨[115,111,111,110].toArray⟩)):=zb (fun W hW=>by have:=zC _ _ 3 _ _ _ hW.2;simpa using this)
     refine wp_region_held_drew (S:=fun w'=>w'.heap[w2.heap.size]?=some (.cells (q0o A) 23 (0,0))∧w'.heap[W3.heap.size]?=some (.cells #[.string ⟨#[112,114,101,118]⟩,.string ⟨#[110,101,120,116]⟩,.string ⟨#[111,110,99,101]⟩,.string ⟨#[115,111,111,110]⟩] 9 (0,0))) (by kernel_rfl) ⟨(D5.block _ hl6).trans HA5.out,(D5.block _ (zd HGL5.out)).trans HGL5.out⟩ (fun hS0=>?_)
     simp only[rz,Nat.zero_add,Nat.reduceAdd]
     refine tq 0 63 ?_
     simp only[Act.put,pz]
     refine tq 1 64 ?_
     simp only[Act.put,pz]
     refine tq 4 67 ?_
     simp only[Act.put,pz]
     refine tq 7 70 ?_
     simp only[Act.put,pz]
     refine q0V (i:=6) (v:=.agg (q0o A)) 69 rfl rfl (by kernel_rfl) (by kernel_rfl) (by kernel_rfl) (fun _ _ _ h=>h) (by rfl) (by assumption) ?_ ?_
     ·intro W hSw;exact q1q 23 (.tmp 6) rfl ⟨w2.heap.size,0,none⟩ _ rfl (qC (P:=Tryz.prog) 23 23 W _ _ (0,0) _ hSw.1 Tryz.underlying23 rfl (q1y A))
     simp only[Act.put,pz]
     refine tq 2 65 ?_
     simp only[Act.put,pz]
     refine q0V (i:=3) (v:=?_) 66 rfl rfl (by kernel_rfl) (by kernel_rfl) (by kernel_rfl) (fun _ _ _ h=>h) (by rfl) (by assumption) ?_ ?_
     rotate_left
     ·(intro W hSw;have hcl:=HSL.out W hSw;(try dsimp only at hSw);go_simp;(try with_reducible rfl))
     simp only[Act.put,pz]
     refine tq 5 68 ?_
     simp only[Act.put,pz]
     refine rd1 8 rfl fun K hK=>?_
     go_simp
     refine(HW2.out _).mono ?_
     rintro e w7 ⟨rfl,b7⟩
     have B7:Below w5.heap.size w5 w7:=D5.trans (b7.mono D5.size)
     have S7:w7.heap[w2.heap.size]?=some (.cells (q0o A) 23 (0,0))∧w7.heap[W3.heap.size]?=some (.cells #[.string ⟨#[112,114,101,118]⟩,.string ⟨#[110,101,120,116]⟩,.string ⟨#[111,110,99,101]⟩,.string ⟨#[115,111,111,110]⟩] 9 (0,0)):=⟨(B7.block _ hl6).trans HA5.out,(B7.block _ (zd HGL5.out)).trans HGL5.out⟩
     go_simp
     refine hK.out _ _ S7 (fun hS2=>?_)
     clear hK K b7 hS0
     simp only[pz]
     obtain⟨W8,s1,s2,s3,s4,s5⟩:=q5m (opF [115,111,111,110] lo hs A .nil) hlt (HF5.out.below B7) (HO5.out.trans (.of_below B7)) ((B7.block _ (zd G5.out)).trans G5.out)
     refine rd1 9 rfl fun K hK=>?_
     refine qa 23 (.tmp 4) (.tmp 71) rfl ⟨w.heap.size,0,none⟩ (.agg (q0o (opF [115,111,111,110] lo hs A .nil))) rfl rfl W8 s1 ?_
     refine hK.out _ _ ⟨(s5 _ (by omega)).trans hS2.1,(s5 _ (by omega)).trans hS2.2⟩ (fun _=>?_)
     clear hK K
     refine zD (by kernel_rfl) ?_ _
     simp only[Act.put,pz]
     clear hS2 s1
     go_wp2_with fail
     exact zP (v:=.agg (q0o (opF [115,111,111,110] lo hs A .nil))) (zl rfl _ _ _ _ rfl s2) rfl ⟨by rw[HR3.out];rfl,by rw[HR3.out];exact s3,s4⟩
theorem j5e (fb:Nat)(s:By):∀(n:Nat),n≤4→∀(i:Nat) (w:World),FeedAt w fb s i→Calls Tryz.prog 12 #[.pointer (some ⟨fb,0,none⟩),.int .i64 n] w fun e w'=>e=.returned (.agg (q0o (mkF s n i).1))∧FeedAt w' fb s (mkF s n i).2∧OnlyB [fb] w w':=by
 intro n
 induction n with
 |zero=>intro _ i w h;exact j3C fb s i w h
 |succ n ih=>intro hn i w h;exact j3D fb s n (by omega) (zb (ih (by omega))) i w h
theorem j9Z {F G:zh}(h:q1f G=q1f F)(L:List LPt)(a c:Nat):q0D G L a c=q0D F L a c:=by
 unfold q0D verR qi
 rw[q8m h,q8m h,j1V h]
def q3l (F:zh)(X:List LnK):List Ver:=q0D F (q7G X) 0 X.length
theorem q2S (F:zh)(X:List LnK):(q3l F X).length=X.length:=by
 unfold q3l
 rw[q1W]
 omega
theorem j0z (F:zh)(X:List LnK)(i:Nat)(h:i<(q3l F X).length):(q3l F X)[i]=verR F (q7G X) i:=by
 unfold q3l q0D
 simp
theorem log_oks (s:By)(sh:Nat)(k:Nat)(h:k<((q0T s sh).map q4t).length):LinOk (q0A (((q0T s sh).map q4t).take k)) (((q0T s sh).map q4I)[k]'(by simpa using h)).2.2.2 ((q0T s sh).map q4t)[k]:=by
 have hlen:=q8J s sh
 obtain⟨st,h0,hc⟩:=q9w s sh
 have hk:=(j0H (q0T s sh) 0 st 0 [] h0 hc .nil rfl (fun e=>absurd e (by omega)) (fun _=>rfl) (by omega)).1 k (by simpa using h)
 rw[List.map_take]at hk
 simp only[List.getElem_map]
 exact hk
theorem q5C (F:zh)(hF:Fine F)(hh:hgt F≤8)(hl:(zy F).length≤240)(s:By)(sh:Nat)(base:Nat)(v:Value)(w:World)(hv:w.ownsRow base 44 4 v ((q0T s sh).map q4I).length (q1U ((q0T s sh).map q4I))) :
  Calls Tryz.prog 24 #[bs (zy F),v] w fun e w'=>∃u,e=.returned (.tuple #[u,.bool true])∧w'.ownsRow w.heap.size 49 12 u (q3l F (q0T s sh)).length (qn (q3l F (q0T s sh)))∧Below w.heap.size w w':=by
 obtain⟨hc,hb⟩:=j0O hF hh hl
 have hlen:=q8J s sh
 refine(kep_run (zy F) (by rw[hc]) (by unfold maxLen;omega) ((q0T s sh).map q4I) ((q0T s sh).map q4t) (by simp) (log_oks s sh) (by simp;omega) base v w hv).mono ?_
 rintro e w' ⟨u,rfl,h1,h2⟩
 refine⟨u,rfl,?_,h2⟩
 rw[j9Z hb,List.length_map]at h1
 rw[q2S]
 exact h1
theorem j3e {F G:zh}{X Y:List LnK}(hl:Y.length=X.length)(hx:zg F [120]=zg G [120])(hy:zg F [121]=zg G [121])(hh:∀i,zs (q7G X) F i=zs (q7G Y) G i):∀i (h:i<(q3l F X).length),(q3l F X)[i].1=i∧((q3l G Y)[i]'(by rw[q2S]at h ⊢;omega)).1=i∧(q3l F X)[i].2.2=((q3l G Y)[i]'(by rw[q2S]at h ⊢;omega)).2.2:=by
 intro i h
 rw[j0z,j0z]
 refine⟨rfl,rfl,?_⟩
 show q6M (zg F [120]) (zg F [121]) (zs (q7G X) F i)=q6M (zg G [120]) (zg G [121]) (zs (q7G Y) G i)
 rw[hx,hy,hh]
theorem j7l:q6t 0 65536=0:=by decide
theorem j1d (s:By)(hs:s.length≤maxLen)(w:World)(ht:q8i w):Calls Tryz.prog 15 #[bs s,.int .i64 0] w fun e w'=>∃v,e=.returned v∧w'.ownsRow w.heap.size 44 4 v ((q0T s 0).map q4I).length (q1U ((q0T s 0).map q4I))∧Below w.heap.size w w':=by
 have:=j8c s hs 0 (by omega) w ht
 rw[j7l]at this
 exact this
theorem j3r (s:By)(hs:s.length≤maxLen)(n:Nat)(hn:n≤4)(w:World) :
  Calls Tryz.prog 12 #[.pointer (some ⟨w.heap.size,0,none⟩),.int .i64 n] (w.alloc (.cells #[bs s,.int .i64 0] 27)) fun e w'=>e=.returned (.agg (q0o (mkF s n 0).1))∧Below w.heap.size w w':=by
 have BW:Below w.heap.size w (w.alloc (.cells #[bs s,.int .i64 0] 27)):=(zB _ _).alloc (zL _) _
 refine(j5e w.heap.size s n hn 0 _ ⟨zN w _,zZ _,hs⟩).mono ?_
 rintro e w' ⟨rfl,_,o⟩
 exact⟨rfl,BW.trans (o.below BW.size (fun q hq=>by simp at hq;omega))⟩
abbrev j0e:zh:=opF j0h [48] [57,57,57] q7c .nil
abbrev q7Q (F:zh):zh:=opF wAnd [] [] F j0e
theorem j8G:Fine j0e:=by
 refine⟨?_,?_,?_⟩
 ·refine .inr (.inr (.inr (.inl ⟨by decide,rfl,rfl,by decide,by decide,?_⟩)))
  exact .inr (.inr (.inr (.inr (.inr ⟨rfl,rfl,rfl,rfl,rfl,rfl⟩))))
 ·have e:qJ j0e=[j0h,[91],[48],[44],[57,57,57],[93],[40],[116,114,117,101],[41]]:=by decide
  rw[e]
  intro t ht
  simp only[List.mem_cons,List.not_mem_nil,or_false]at ht
  rcases ht with rfl|rfl|rfl|rfl|rfl|rfl|rfl|rfl|rfl
  ·exact q1D _ (by decide) (by decide) (by decide)
  ·exact sgn91
  ·exact⟨.inr (.inl ⟨by decide,by decide,by decide⟩)⟩
  ·exact j2S
  ·exact⟨.inr (.inl ⟨by decide,by decide,by decide⟩)⟩
  ·exact sgn93
  ·exact j1C
  ·exact q1D _ (by decide) (by decide) (by decide)
  ·exact j1D
 ·intro G hG
  have e:zv j0e=[j0e,q7c]:=rfl
  rw[e]at hG
  simp only[List.mem_cons,List.not_mem_nil,or_false]at hG
  rcases hG with rfl|rfl<;>exact⟨by decide,by decide,by decide⟩
theorem j2x (F:zh):zy (q7Q F)=[97,110,100,40]++zy F++[44,115,111,111,110,91,48,44,57,57,57,93,40,116,114,117,101,41,41]:=by
 have e:zy j0e=[115,111,111,110,91,48,44,57,57,57,93,40,116,114,117,101,41]:=by decide
 rw[q8g (by decide),e]
 simp
theorem j9g {F:zh}(f:FineB F 4 153):Fine (q7Q F)∧hgt (q7Q F)≤8∧(zy (q7Q F)).length≤240:=by
 have hs:FineB j0e 4 153:=⟨j8G,by decide,by decide⟩
 have h:=q6c f hs wAnd (by decide) (.inl rfl)
 refine⟨h.fine,by have h2:hgt (q7Q F)≤4+1:=h.hgt;omega,?_⟩
 rw[j2x]
 have:=f.len
 simp
 omega
theorem j2w {F:zh}(hF:F≠.nil)(x:By):zg (q7Q F) x=zg F x:=by
 rw[q7j hF (by decide)]
 have:zg j0e x=false:=rfl
 rw[this,Bool.or_false]
theorem fine3 (s:By):FineB (mkF s 3 0).1 4 153:=j7T s 3 0
theorem kep_Late (raw lines:By)(hr:raw.length≤maxLen)(hl:lines.length≤maxLen)(w:World)(ht:q8i w) :
  Calls Tryz.prog 9 #[bs raw,bs lines] w fun e w'=>e=.returned (.bool true)∧Below w.heap.size w w':=by
 have HFM:=zb (j3r raw hr 3 (by omega) w)
 have HLG:=zb (fun W q=>j1d lines hl W q)
 have fa:=fine3 raw
 have HT:=zb ht
 clear ht hr hl
 generalize (mkF raw 3 0).1=F at *
 obtain⟨l1,l2,l3⟩:=j9g fa
 have HR1:=zb (fun base v W hv=>q5C F fa.fine (by have:=fa.hgt;omega) (by have:=fa.len;omega) lines 0 base v W hv)
 have HR2:=zb (fun base v W hv=>q5C (q7Q F) l1 l2 l3 lines 0 base v W hv)
 have HAL:=zb (fun base base' va vb W hX hY=>j2u (q3l F (q0T lines 0)) (q3l (q7Q F) (q0T lines 0)) (by rw[q2S,q2S]) (j3e rfl (j2w (j0q fa.fine) _).symm (j2w (j0q fa.fine) _).symm (fun i=>by funext x z;exact(j6W F _ i x z).symm)) base base' va vb W hX hY)
 have hlF:=fa.len
 have htx:bs (zy (q7Q F))=.string (ByteArray.mk #[97,110,100,40]++ByteArray.mk (zy F).toArray++ByteArray.mk #[44,115,111,111,110,91,48,44,57,57,57,93,40,116,114,117,101,41,41]):=by
  rw[j2x]
  exact congrArg Value.string (mk3 [97,110,100,40] (zy F) [44,115,111,111,110,91,48,44,57,57,57,93,40,116,114,117,101,41,41]).symm
 rw[htx]at HR2
 have cT:(q0o F)[0]?=some (bs (zy F)):=rfl
 have HAO:=zb (q5G F)
 have HAI:=zb (q1y F)
 have HAZ:Hid ((q0o F).size=5):=zb rfl
 generalize q0o F=MA at *
 generalize q3l F (q0T lines 0)=VA at *
 generalize q3l (q7Q F) (q0T lines 0)=VB at *
 generalize (q0T lines 0).map q4I=TX at *
 generalize zy F=TF at *
 clear htx l1 l2 l3 fa
 go_enter Tryz.func9,Tryz.ntmps9
 go_wp2_with fail
 refine HFM.out.mono ?_
 rintro e w1 ⟨rfl,b1⟩
 obtain⟨W2,s1,s2,s3,s4⟩:=qI (P:=Tryz.prog) 23 w1 q4y MA HAI.out (by rw[HAZ.out];rfl) HAO.out
 have B2:Below w.heap.size w W2:=b1.trans (s3.mono b1.size)
 have hl2:w1.heap.size<W2.heap.size:=zd s2
 have c2:=(zC _ _ 0 _ _ _ s2).trans cT
 have HS:=zb s1
 have HB2:=zb B2
 have HC2:=zb c2
 clear b1 s1 s2 s3 s4 B2 c2
 go_wp2_with (refine ze rfl 23 (.tmp 5) (.tmp 15) rfl ⟨w1.heap.size,0,none⟩ (.agg MA) rfl rfl W2 HS.out ?_)
 refine(HLG.out _ (HT.out.below HB2.out (zL _))).mono ?_
 rintro e w3 ⟨v,rfl,r3,b3⟩
 obtain⟨va,vc,rfl⟩:=ql r3
 have c3:=(zw b3 w1.heap.size 0 hl2).trans HC2.out
 have hl3:w1.heap.size<w3.heap.size:=zT hl2 b3.size
 have HR3:=zb r3
 have HB3:=zb (HB2.out.trans (b3.mono HB2.out.size))
 have HC3:=zb c3
 clear r3 b3 HC2 HS
 go_wp2_with fail
 refine(HR1.out _ _ _ HR3.out).mono ?_
 rintro e w4 ⟨u4,rfl,r4,b4⟩
 obtain⟨xa,xc,rfl⟩:=ql r4
 have c4:=(zw b4 w1.heap.size 0 hl3).trans HC3.out
 have hl4:w1.heap.size<w4.heap.size:=zT hl3 b4.size
 have HX4:=zb r4
 have HR4:=zb (zo HR3.out b4)
 have HB4:=zb (HB3.out.trans (b4.mono HB3.out.size))
 clear r4 b4 c3 HC3 HR3
 go_wp2_with fail
 refine(HR2.out _ _ _ HR4.out).mono ?_
 rintro e w5 ⟨u5,rfl,r5,b5⟩
 obtain⟨ya,yc,rfl⟩:=ql r5
 have HY5:=zb r5
 have HX5:=zb (zo HX4.out b5)
 have HB5:=zb (HB4.out.trans (b5.mono HB4.out.size))
 clear r5 b5 c4 HR4 HX4
 go_wp2_with fail
 refine(HAL.out _ _ _ _ _ HX5.out HY5.out).mono ?_
 rintro e w6 ⟨rfl,b6⟩
 have HB6:=zb (HB5.out.trans (b6.mono HB5.out.size))
 clear b6
 go_wp2_with fail
 go_ret
 exact⟨rfl,HB6.out⟩
end Go.Proofs.YtiamjjonoeaggaaGreatDoor
