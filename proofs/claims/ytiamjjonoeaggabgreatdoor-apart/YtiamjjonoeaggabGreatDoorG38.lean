import Derived.Test.YtiamjjonoeaggabGreatDoorGA
import Derived.Test.YtiamjjonoeaggabGreatDoorGB
import Derived.Test.YtiamjjonoeaggabGreatDoorG24
import Derived.Test.YtiamjjonoeaggabGreatDoorG34
import Derived.Test.YtiamjjonoeaggabGreatDoorG35
import Derived.Test.YtiamjjonoeaggabGreatDoorG37
set_option maxRecDepth 100000
set_option maxHeartbeats 16000000
namespace Go.Proofs.YtiamjjonoeaggabGreatDoor
open Go.RowKit
theorem j3N (fb:Nat)(s:By)(m:Nat)(hm:m≤3)(HIH:Hid (∀j W,FeedAt W fb s j→Calls Tryz.prog 6 #[.pointer (some ⟨fb,0,none⟩),.int .i64 m] W fun e w'=>e=.returned (.agg (q0D (mkF s m j).1))∧FeedAt w' fb s (mkF s m j).2∧OnlyB [fb] W w'))(i:Nat)(w:World)(h:FeedAt w fb s i) :
  Calls Tryz.prog 6 #[.pointer (some ⟨fb,0,none⟩),.int .i64 ((m+1:Nat):Int)] w fun e w'=>e=.returned (.agg (q0D (mkF s (m+1) i).1))∧FeedAt w' fb s (mkF s (m+1) i).2∧OnlyB [fb] w w':=by
 have HN:=zb (fun W q=>q1B fb s i 10 (by omega) W q)
 have HNX:=zb (fun j n hn W q=>q1B fb s j n hn W q)
 have HAT:Hid (∀j W,FeedAt W fb s j→Calls Tryz.prog 23 #[.pointer (some ⟨fb,0,none⟩)] W fun e w'=>e=.returned (.agg (q0D (q2K s j).1))∧FeedAt w' fb s (q2K s j).2∧OnlyB [fb] W w'):=zb (fun j W q=>by
  have:=j5l fb s j W q
  unfold q0D
  rw[q6B]
  exact this)
 have HFM:=zb (fun j=>j8j s m j)
 have HRM:=zb (fun j=>reach_mk s m j)
 have hl3:=lenK3 hm
 have HF:=zb h
 have hlt:=h.lt
 clear h
 obtain⟨D,hD⟩:∃D:Int,D=((m+1:Nat):Int):=⟨_,rfl⟩
 rw[←hD]
 have hD0:(D==0)=false:=by rw[hD];simp;omega
 have hDw:IntKind.i64.wrap (D-1)=(m:Int):=by rw[hD,IntKind.wrap_i64];omega
 clear hD
 obtain⟨R,hR⟩:∃R,R=mkF s (m+1) i:=⟨_,rfl⟩
 rw[←hR]
 rw[mkF]at hR
 generalize zk s i 10=rx at *
 obtain⟨k,i1⟩:=rx
 simp only[]at HN hR
 have HR:=zb hR
 clear hR
 have hn:∀q,fb<q→q∉[fb]:=fun q hq e=>by simp at e;omega
 have HNF:=zb hn
 clear hn
 go_enter Tryz.func6,Tryz.ntmps6
 go_wp2_with fail
 have BW:Below w.heap.size w (w.alloc (.cells q5o 23)):=(zB _ _).alloc (zL _) _
 have g0:=zN w (.cells q5o 23)
 refine(HN.out _ (HF.out.below BW)).mono ?_
 rintro e w1 ⟨rfl,f1,o1⟩
 have G1:=zb (o1.row g0 (HNF.out _ hlt))
 have HF1:=zb f1
 have HO1:Hid (OnlyB [fb] w w1):=zb ((OnlyB.of_below BW).trans o1)
 clear BW g0 f1 o1 HF HN
 by_cases hk2:k<2
 ·have hr:=HR.out
  rw[if_pos hk2]at hr
  clear HIH HFM HRM HNX
  go_wp2_with fail
  refine(HAT.out _ _ HF1.out).mono ?_
  rintro e w2 ⟨rfl,f2,o2⟩
  obtain⟨W3,s1,s2,s3,s4,_⟩:=q5x (q2K s i1).1 hlt f2 (HO1.out.trans o2) (o2.row G1.out (HNF.out _ hlt))
  go_wp2_with (refine ze rfl 23 (.tmp 4) (.tmp 22) rfl ⟨w.heap.size,0,none⟩ (.agg (q0D (q2K s i1).1)) rfl rfl W3 s1 ?_)
  exact zP (v:=.agg (q0D (q2K s i1).1)) (zl rfl _ _ _ _ rfl s2) rfl ⟨by rw[hr],by rw[hr];exact s3,s4⟩
 ·have hr:=HR.out
  rw[if_neg hk2]at hr
  have HR2:=zb hr
  clear HR hr
  clear HAT
  go_wp2_with fail
  refine(HIH.out i1 _ HF1.out).mono ?_
  rintro e w2 ⟨rfl,f2,o2⟩
  have fa:=HFM.out i1
  have ra:=HRM.out i1
  generalize mkF s m i1=rA at *
  obtain⟨A,i2⟩:=rA
  simp only[]at f2 fa ra HR2
  have G2:=o2.row G1.out (HNF.out _ hlt)
  have O2:=HO1.out.trans o2
  have hl0:w.heap.size<w2.heap.size:=zd G2
  obtain⟨W3,s1,s2,s3,s4⟩:=q0m (P:=Tryz.prog) 23 w2 q5o (q0D A) (q2b A) rfl (q8Z A)
  have HS1:=zb s1
  have HA3:=zb s2
  have HF3:=zb (f2.below s3)
  have HO3:Hid (OnlyB [fb] w W3):=zb (O2.trans (.of_below s3))
  have G3:=zb ((s3.block _ hl0).trans G2)
  have hfa:=j8k fa.fine
  have hla:(zs A).length≤300:=zM fa.len hl3
  have hra:zf A≤1000:=by omega
  have hlA:w2.heap.size<W3.heap.size:=zd s2
  have hfb2:fb<w2.heap.size:=by omega
  clear f2 fa ra G2 O2 s1 s2 s3 s4 o2 G1 HF1 HO1
  by_cases hk6:k<6
  ·have hr:=HR2.out
   rw[if_pos hk6]at hr
   have HR3:=zb hr
   clear HR2 hr
   go_wp2_with (refine ze rfl 23 (.tmp 6) (.tmp 26) rfl ⟨w2.heap.size,0,none⟩ (.agg (q0D A)) rfl rfl W3 HS1.out ?_)
   refine(HIH.out i2 _ HF3.out).mono ?_
   rintro e w4 ⟨rfl,f4,o4⟩
   have fb4:=HFM.out i2
   have rb4:=HRM.out i2
   generalize mkF s m i2=rB at *
   obtain⟨B,i3⟩:=rB
   simp only[]at f4 fb4 rb4 HR3
   have G4:=o4.row G3.out (HNF.out _ hlt)
   have A4:=o4.row HA3.out (HNF.out _ hfb2)
   have O4:=HO3.out.trans o4
   have hl04:w.heap.size<w4.heap.size:=zd G4
   have hlA4:w2.heap.size<w4.heap.size:=zd A4
   obtain⟨W5,s1,s2,s3,s4⟩:=q0m (P:=Tryz.prog) 23 w4 q5o (q0D B) (q2b B) rfl (q8Z B)
   have HS5:=zb s1
   have hfB:=j8k fb4.fine
   have hlB:(zs B).length≤300:=zM fb4.len hl3
   have hrB:zf B≤1000:=by omega
   have HF5:=zb (f4.below s3)
   have HO5:Hid (OnlyB [fb] w W5):=zb (O4.trans (.of_below s3))
   have G5:=zb ((s3.block _ hl04).trans G4)
   have A5:=(s3.block _ hlA4).trans A4
   have HPA:=zb (fun W q=>j7k fb s i3 A B hfa hfB hla hlB hra hrB W q)
   have LA:=qH (P:=Tryz.prog) 23 23 W5 w2.heap.size (q0D A) (0,0) _ A5 Tryz.underlying23 rfl (q2b A)
   have LB:=qH (P:=Tryz.prog) 23 23 W5 w4.heap.size (q0D B) (0,0) _ s2 Tryz.underlying23 rfl (q2b B)
   clear f4 fb4 rb4 G4 A4 O4 s1 s2 s3 s4 A5 o4 HIH HFM HRM HNX HS1
   go_wp2_with (first|(refine ze rfl 23 (.tmp 7) (.tmp 32) rfl ⟨w4.heap.size,0,none⟩ (.agg (q0D B)) rfl rfl W5 HS5.out ?_)|(refine zj rfl 23 (.tmp 6) rfl ⟨w2.heap.size,0,none⟩ (.agg (q0D A)) rfl LA ?_)|(refine zj rfl 23 (.tmp 7) rfl ⟨w4.heap.size,0,none⟩ (.agg (q0D B)) rfl LB ?_))
   refine(HPA.out _ HF5.out).mono ?_
   rintro e w6 ⟨rfl,f6,o6⟩
   obtain⟨W7,s1,s2,s3,s4,_⟩:=q5x (q8j s i3 A B).1 hlt f6 (HO5.out.trans o6) (o6.row G5.out (HNF.out _ hlt))
   go_wp2_with (refine ze rfl 23 (.tmp 4) (.tmp 36) rfl ⟨w.heap.size,0,none⟩ (.agg (q0D (q8j s i3 A B).1)) rfl rfl W7 s1 ?_)
   exact zP (v:=.agg (q0D (q8j s i3 A B).1)) (zl rfl _ _ _ _ rfl s2) rfl ⟨by rw[HR3.out],by rw[HR3.out];exact s3,s4⟩
  ·have hr:=HR2.out
   rw[if_neg hk6]at hr
   have hk6':¬(k:Int)<6:=by omega
   clear HIH HFM HRM HR2
   by_cases h6:k=6
   ·rw[if_pos h6]at hr
    have HR3:=zb hr
    clear hr
    have hk6e:((k:Int)==6)=true:=by simp;omega
    have HN2:=zb (fun W q=>q1B fb s i2 2 (by omega) W q)
    clear HNX
    generalize zk s i2 2=ry at *
    obtain⟨y2,i3⟩:=ry
    simp only[]at HN2 HR3
    have hyb:((y2:Int)==1)=decide (y2=1):=by
     by_cases e:y2=1
     ·subst e;rfl
     ·rw[decide_eq_false e];simp;omega
    have HQ:Hid (∀W,Calls Tryz.prog 25 #[.agg (q0D A),.bool (decide (y2=1))] W fun e w'=>e=.returned (.agg (q0D (q5j A (decide (y2=1)))))∧Below W.heap.size W w'):=zb (fun W=>by
     have:=j1r (zs A) (zs (qm A)) (zh A [120]) (zh A [121]) (zf A) (decide (y2=1)) hla (by rw[q7R];exact hla) W
     rw[j7p hfa]at this
     exact this)
    go_wp2_with (refine ze rfl 23 (.tmp 6) (.tmp 26) rfl ⟨w2.heap.size,0,none⟩ (.agg (q0D A)) rfl rfl W3 HS1.out ?_)
    have D3:=(zB W3.heap.size W3).drew
    refine wp_region_held_drew (S:=fun w'=>w'.heap[w2.heap.size]?=some (.cells (q0D A) 23 (0,0))) (by kernel_rfl) ((D3.block _ hlA).trans HA3.out) (fun hS0=>?_)
    simp only[rz,Nat.zero_add,Nat.reduceAdd]
    refine q1o (i:=0) (v:=.agg (q0D A)) 39 rfl rfl (by kernel_rfl) (by kernel_rfl) (by kernel_rfl) (fun _ _ _ h=>h) (by rfl) (by assumption) ?_ ?_
    ·intro W hSw;exact q1x 23 (.tmp 6) rfl ⟨w2.heap.size,0,none⟩ _ rfl (qH (P:=Tryz.prog) 23 23 W _ _ (0,0) _ hSw Tryz.underlying23 rfl (q2b A))
    simp only[Act.put,pz]
    refine tq 1 40 ?_
    simp only[Act.put,pz]
    refine rd1 2 rfl fun K hK=>?_
    go_simp
    refine(HN2.out _ (HF3.out.below D3)).mono ?_
    rintro e w4 ⟨rfl,f4,o4⟩
    have A4:=o4.row (k:=w2.heap.size) ((D3.block _ hlA).trans HA3.out) (HNF.out _ hfb2)
    have G4:=zb (o4.row (k:=w.heap.size) ((D3.block _ (zd G3.out)).trans G3.out) (HNF.out _ hlt))
    have HF4:=zb f4
    have HO4:Hid (OnlyB [fb] w w4):=zb ((HO3.out.drew).trans o4)
    go_simp
    refine hK.out _ _ A4 (fun hS1=>?_)
    clear hK K f4 o4 A4 hS0
    simp only[pz]
    refine tq 3 42 ?_
    simp only[Act.put,pz]
    refine rd1 4 rfl fun K hK=>?_
    go_simp
    refine(HQ.out _).mono ?_
    rintro e w5 ⟨rfl,b5⟩
    have A5:=(b5.block _ (zd hS1)).trans hS1
    have G5:=zb ((b5.block _ (zd G4.out)).trans G4.out)
    have HF5:=zb (HF4.out.below b5)
    have HO5:Hid (OnlyB [fb] w w5):=zb (HO4.out.trans (.of_below b5))
    go_simp
    refine hK.out _ _ A5 (fun hS2=>?_)
    clear hK K b5 A5 hS1
    simp only[pz]
    obtain⟨W7,s1,s2,s3,s4,s5⟩:=q5x (q5j A (decide (y2=1))) hlt HF5.out HO5.out G5.out
    refine rd1 5 rfl fun K hK=>?_
    refine qe 23 (.tmp 4) (.tmp 43) rfl ⟨w.heap.size,0,none⟩ (.agg (q0D (q5j A (decide (y2=1))))) rfl rfl W7 s1 ?_
    refine hK.out _ _ ((s5 _ (by omega)).trans hS2) (fun _=>?_)
    clear hK K
    refine zD (by kernel_rfl) ?_ _
    simp only[Act.put,pz]
    clear hS2 s1
    go_wp2_with fail
    exact zP (v:=.agg (q0D (q5j A (decide (y2=1))))) (zl rfl _ _ _ _ rfl s2) rfl ⟨by rw[HR3.out],by rw[HR3.out];exact s3,s4⟩
   ·rw[if_neg h6]at hr
    have hk6e:((k:Int)==6)=false:=by simp;omega
    have HR3:=zb hr
    clear hr
    have HN4:=zb (fun W q=>q1B fb s i2 4 (by omega) W q)
    have ho4:=ql s i2 (n:=4) (by omega)
    clear HNX
    generalize zk s i2 4=ry at *
    obtain⟨o,i3⟩:=ry
    simp only[]at HN4 HR3 ho4
    obtain⟨sl1,sl2⟩:=j6n s i3 (decide (o % 2=1))
    have shi:=j0O s i3 (decide (o % 2=1))
    have snv:=(q7O s i3 (decide (o % 2=1))).2
    have HSP:=zb (fun W q=>q6Z fb s i3 (decide (o % 2=1)) W q)
    generalize q1h s i3 (decide (o % 2=1))=sp at *
    obtain⟨⟨lo,hs,hi⟩,ie⟩:=sp
    simp only[]at sl1 sl2 shi snv HSP HR3
    obtain⟨SP,hSP⟩:∃SP,SP=q2O (lo,hs,hi):=⟨_,rfl⟩
    have hspl:SP.length≤100:=by rw[hSP];simp;omega
    have hq:¬9223372036854775807<4+SP.length:=by omega
    have HSE:=zb hSP
    rw[←hSP]at HSP
    have hmr:=q2Y A
    have hsa:(zs (qm A)).length≤300:=by rw[q7R];exact hla
    have cA4:(q0D A)[4]?=some (.int .i64 (zf A)):=rfl
    have HLT:=zb (q5P (zf A) hi (by omega) (by omega))
    have HWR:Hid (∀op rc,op.length≤300→∀W,Calls Tryz.prog 28 #[bs op,.agg (q0D A),.int .i64 rc] W fun e w'=>e=.returned (qx (op++[40]++zs A++[41]) (op++[40]++zs (qm A)++[41]) (zh A [120]) (zh A [121]) rc)∧Below W.heap.size W w'):=zb (fun op rc h1 W=>j5u op (zs A) (zs (qm A)) (zh A [120]) (zh A [121]) (zf A) rc h1 hla hsa W)
    clear hSP
    have ho:o=0∨o=1∨o=2∨o=3:=by omega
    rcases ho with rfl|rfl|rfl|rfl
    ·rw[show decide (0 % 2=1)=false from rfl]at HSP snv
     have HW2:=zb (fun W=>HWR.out ([112,114,101,118]++SP) (zf A) (by simp;omega) W)
     rw[HSE.out,q9a (w:=[112,114,101,118]) hi (by decide) hfa _ ((q6L (by decide) A).symm),←HSE.out]at HW2
     rw[show bs ([112,114,101,118]++SP)=.string (ByteArray.mk [112,114,101,118].toArray++ByteArray.mk SP.toArray)by rw[qE]]at HW2
     clear HWR
     go_wp2_with (refine ze rfl 23 (.tmp 6) (.tmp 26) rfl ⟨w2.heap.size,0,none⟩ (.agg (q0D A)) rfl rfl W3 HS1.out ?_)
     have BL:Below W3.heap.size W3 (W3.alloc (.cells #[.string ⟨#[112,114,101,118]⟩,.string ⟨#[110,101,120,116]⟩,.string ⟨#[111,110,99,101]⟩,.string ⟨#[115,111,111,110]⟩] 9)):=(zB _ _).alloc (zL _) _
     have gL:=zN W3 (.cells #[.string ⟨#[112,114,101,118]⟩,.string ⟨#[110,101,120,116]⟩,.string ⟨#[111,110,99,101]⟩,.string ⟨#[115,111,111,110]⟩] 9)
     have hfb3:fb<W3.heap.size:=by omega
     refine(HN4.out _ (HF3.out.below BL)).mono ?_
     rintro e w4 ⟨rfl,f4,o4⟩
     have GL4:=o4.row gL (HNF.out _ hfb3)
     have A4:=o4.row ((BL.block _ hlA).trans HA3.out) (HNF.out _ hfb2)
     have G4:=o4.row ((BL.block _ (zd G3.out)).trans G3.out) (HNF.out _ hlt)
     have O4:OnlyB [fb] w w4:=HO3.out.trans ((OnlyB.of_below BL).trans o4)
     have HF4:=zb f4
     clear f4 o4 BL gL HS1
     go_wp2_with fail
     refine(HSP.out _ HF4.out).mono ?_
     rintro e w5 ⟨rfl,f5,o5⟩
     have GL5:=o5.row GL4 (HNF.out _ hfb3)
     have A5:=o5.row A4 (HNF.out _ hfb2)
     have G5:=zb (o5.row G4 (HNF.out _ hlt))
     have HO5:Hid (OnlyB [fb] w w5):=zb (O4.trans o5)
     have HF5:=zb f5
     have c64:=(zC _ _ 4 _ _ _ A5).trans cA4
     have hl6:w2.heap.size<w5.heap.size:=zd A5
     have HA5:=zb A5
     have HGL5:=zb GL5
     clear GL4 A4 G4 O4 f5 o5 A5 GL5
     go_wp2_with fail
     have D5:=(zB w5.heap.size w5).drew
     have HSL:Hid (∀W:World,W.heap[w2.heap.size]?=some (.cells (q0D A) 23 (0,0))∧W.heap[W3.heap.size]?=some (.cells #[.string ⟨#[112,114,101,118]⟩,.string ⟨#[110,101,120,116]⟩,.string ⟨#[111,110,99,101]⟩,.string ⟨#[115,111,111,110]⟩] 9 (0,0))→W.cell? ⟨W3.heap.size,0,none⟩=some (.string ⟨[112,114,101,118].toArray⟩)):=zb (fun W hW=>by have:=zC _ _ 0 _ _ _ hW.2;simpa using this)
     refine wp_region_held_drew (S:=fun w'=>w'.heap[w2.heap.size]?=some (.cells (q0D A) 23 (0,0))∧w'.heap[W3.heap.size]?=some (.cells #[.string ⟨#[112,114,101,118]⟩,.string ⟨#[110,101,120,116]⟩,.string ⟨#[111,110,99,101]⟩,.string ⟨#[115,111,111,110]⟩] 9 (0,0))) (by kernel_rfl) ⟨(D5.block _ hl6).trans HA5.out,(D5.block _ (zd HGL5.out)).trans HGL5.out⟩ (fun hS0=>?_)
     simp only[rz,Nat.zero_add,Nat.reduceAdd]
     refine tq 0 63 ?_
     simp only[Act.put,pz]
     refine tq 1 64 ?_
     simp only[Act.put,pz]
     refine tq 4 67 ?_
     simp only[Act.put,pz]
     refine tq 7 70 ?_
     simp only[Act.put,pz]
     refine q1o (i:=6) (v:=.agg (q0D A)) 69 rfl rfl (by kernel_rfl) (by kernel_rfl) (by kernel_rfl) (fun _ _ _ h=>h) (by rfl) (by assumption) ?_ ?_
     ·intro W hSw;exact q1x 23 (.tmp 6) rfl ⟨w2.heap.size,0,none⟩ _ rfl (qH (P:=Tryz.prog) 23 23 W _ _ (0,0) _ hSw.1 Tryz.underlying23 rfl (q2b A))
     simp only[Act.put,pz]
     refine tq 2 65 ?_
     simp only[Act.put,pz]
     refine q1o (i:=3) (v:=?_) 66 rfl rfl (by kernel_rfl) (by kernel_rfl) (by kernel_rfl) (fun _ _ _ h=>h) (by rfl) (by assumption) ?_ ?_
     rotate_left
     ·(intro W hSw;have hcl:=HSL.out W hSw;(try dsimp only at hSw);go_simp;(try with_reducible rfl))
     simp only[Act.put,pz]
     refine tq 5 68 ?_
     simp only[Act.put,pz]
     refine rd1 8 rfl fun K hK=>?_
     go_simp
     refine(HW2.out _).mono ?_
     rintro e w7 ⟨rfl,b7⟩
     have B7:Below w5.heap.size w5 w7:=D5.trans (b7.mono D5.size)
     have S7:w7.heap[w2.heap.size]?=some (.cells (q0D A) 23 (0,0))∧w7.heap[W3.heap.size]?=some (.cells #[.string ⟨#[112,114,101,118]⟩,.string ⟨#[110,101,120,116]⟩,.string ⟨#[111,110,99,101]⟩,.string ⟨#[115,111,111,110]⟩] 9 (0,0)):=⟨(B7.block _ hl6).trans HA5.out,(B7.block _ (zd HGL5.out)).trans HGL5.out⟩
     go_simp
     refine hK.out _ _ S7 (fun hS2=>?_)
     clear hK K b7 hS0
     simp only[pz]
     obtain⟨W8,s1,s2,s3,s4,s5⟩:=q5x (opF [112,114,101,118] lo hs A .nil) hlt (HF5.out.below B7) (HO5.out.trans (.of_below B7)) ((B7.block _ (zd G5.out)).trans G5.out)
     refine rd1 9 rfl fun K hK=>?_
     refine qe 23 (.tmp 4) (.tmp 71) rfl ⟨w.heap.size,0,none⟩ (.agg (q0D (opF [112,114,101,118] lo hs A .nil))) rfl rfl W8 s1 ?_
     refine hK.out _ _ ⟨(s5 _ (by omega)).trans hS2.1,(s5 _ (by omega)).trans hS2.2⟩ (fun _=>?_)
     clear hK K
     refine zD (by kernel_rfl) ?_ _
     simp only[Act.put,pz]
     clear hS2 s1
     go_wp2_with fail
     exact zP (v:=.agg (q0D (opF [112,114,101,118] lo hs A .nil))) (zl rfl _ _ _ _ rfl s2) rfl ⟨by rw[HR3.out];rfl,by rw[HR3.out];exact s3,s4⟩
    ·rw[show decide (1 % 2=1)=true from rfl]at HSP snv
     have HW2:=zb (fun W=>HWR.out ([110,101,120,116]++SP) (if zf A = -1 then(hi:Int)else zf A+(hi:Int)) (by simp;omega) W)
     rw[HSE.out,q9a (w:=[110,101,120,116]) hi (by decide) hfa _ (by rw[q6K (by decide),snv rfl]),←HSE.out]at HW2
     rw[show bs ([110,101,120,116]++SP)=.string (ByteArray.mk [110,101,120,116].toArray++ByteArray.mk SP.toArray)by rw[qE]]at HW2
     obtain⟨ZZ,hZZ⟩:∃ZZ:Int,ZZ=(if zf A = -1 then(hi:Int)else zf A+(hi:Int)):=⟨_,rfl⟩
     rw[←hZZ]at HLT HW2
     clear hZZ
     clear HWR
     go_wp2_with (refine ze rfl 23 (.tmp 6) (.tmp 26) rfl ⟨w2.heap.size,0,none⟩ (.agg (q0D A)) rfl rfl W3 HS1.out ?_)
     have BL:Below W3.heap.size W3 (W3.alloc (.cells #[.string ⟨#[112,114,101,118]⟩,.string ⟨#[110,101,120,116]⟩,.string ⟨#[111,110,99,101]⟩,.string ⟨#[115,111,111,110]⟩] 9)):=(zB _ _).alloc (zL _) _
     have gL:=zN W3 (.cells #[.string ⟨#[112,114,101,118]⟩,.string ⟨#[110,101,120,116]⟩,.string ⟨#[111,110,99,101]⟩,.string ⟨#[115,111,111,110]⟩] 9)
     have hfb3:fb<W3.heap.size:=by omega
     refine(HN4.out _ (HF3.out.below BL)).mono ?_
     rintro e w4 ⟨rfl,f4,o4⟩
     have GL4:=o4.row gL (HNF.out _ hfb3)
     have A4:=o4.row ((BL.block _ hlA).trans HA3.out) (HNF.out _ hfb2)
     have G4:=o4.row ((BL.block _ (zd G3.out)).trans G3.out) (HNF.out _ hlt)
     have O4:OnlyB [fb] w w4:=HO3.out.trans ((OnlyB.of_below BL).trans o4)
     have HF4:=zb f4
     clear f4 o4 BL gL HS1
     go_wp2_with fail
     refine(HSP.out _ HF4.out).mono ?_
     rintro e w5 ⟨rfl,f5,o5⟩
     have GL5:=o5.row GL4 (HNF.out _ hfb3)
     have A5:=o5.row A4 (HNF.out _ hfb2)
     have G5:=zb (o5.row G4 (HNF.out _ hlt))
     have HO5:Hid (OnlyB [fb] w w5):=zb (O4.trans o5)
     have HF5:=zb f5
     have c64:=(zC _ _ 4 _ _ _ A5).trans cA4
     have hl6:w2.heap.size<w5.heap.size:=zd A5
     have HA5:=zb A5
     have HGL5:=zb GL5
     clear GL4 A4 G4 O4 f5 o5 A5 GL5
     go_wp2_with fail
     refine(HLT.out _).mono ?_
     rintro e w6 ⟨rfl,hw6⟩
     rw[hw6]
     clear hw6
     go_wp2_with fail
     have D5:=(zB w5.heap.size w5).drew
     have HSL:Hid (∀W:World,W.heap[w2.heap.size]?=some (.cells (q0D A) 23 (0,0))∧W.heap[W3.heap.size]?=some (.cells #[.string ⟨#[112,114,101,118]⟩,.string ⟨#[110,101,120,116]⟩,.string ⟨#[111,110,99,101]⟩,.string ⟨#[115,111,111,110]⟩] 9 (0,0))→W.cell? ⟨W3.heap.size,1,none⟩=some (.string ⟨[110,101,120,116].toArray⟩)):=zb (fun W hW=>by have:=zC _ _ 1 _ _ _ hW.2;simpa using this)
     refine wp_region_held_drew (S:=fun w'=>w'.heap[w2.heap.size]?=some (.cells (q0D A) 23 (0,0))∧w'.heap[W3.heap.size]?=some (.cells #[.string ⟨#[112,114,101,118]⟩,.string ⟨#[110,101,120,116]⟩,.string ⟨#[111,110,99,101]⟩,.string ⟨#[115,111,111,110]⟩] 9 (0,0))) (by kernel_rfl) ⟨(D5.block _ hl6).trans HA5.out,(D5.block _ (zd HGL5.out)).trans HGL5.out⟩ (fun hS0=>?_)
     simp only[rz,Nat.zero_add,Nat.reduceAdd]
     refine tq 0 63 ?_
     simp only[Act.put,pz]
     refine tq 1 64 ?_
     simp only[Act.put,pz]
     refine tq 4 67 ?_
     simp only[Act.put,pz]
     refine tq 7 70 ?_
     simp only[Act.put,pz]
     refine q1o (i:=6) (v:=.agg (q0D A)) 69 rfl rfl (by kernel_rfl) (by kernel_rfl) (by kernel_rfl) (fun _ _ _ h=>h) (by rfl) (by assumption) ?_ ?_
     ·intro W hSw;exact q1x 23 (.tmp 6) rfl ⟨w2.heap.size,0,none⟩ _ rfl (qH (P:=Tryz.prog) 23 23 W _ _ (0,0) _ hSw.1 Tryz.underlying23 rfl (q2b A))
     simp only[Act.put,pz]
     refine tq 2 65 ?_
     simp only[Act.put,pz]
     refine q1o (i:=3) (v:=?_) 66 rfl rfl (by kernel_rfl) (by kernel_rfl) (by kernel_rfl) (fun _ _ _ h=>h) (by rfl) (by assumption) ?_ ?_
     rotate_left
     ·(intro W hSw;have hcl:=HSL.out W hSw;(try dsimp only at hSw);go_simp;(try with_reducible rfl))
     simp only[Act.put,pz]
     refine tq 5 68 ?_
     simp only[Act.put,pz]
     refine rd1 8 rfl fun K hK=>?_
     go_simp
     refine(HW2.out _).mono ?_
     rintro e w7 ⟨rfl,b7⟩
     have B7:Below w5.heap.size w5 w7:=D5.trans (b7.mono D5.size)
     have S7:w7.heap[w2.heap.size]?=some (.cells (q0D A) 23 (0,0))∧w7.heap[W3.heap.size]?=some (.cells #[.string ⟨#[112,114,101,118]⟩,.string ⟨#[110,101,120,116]⟩,.string ⟨#[111,110,99,101]⟩,.string ⟨#[115,111,111,110]⟩] 9 (0,0)):=⟨(B7.block _ hl6).trans HA5.out,(B7.block _ (zd HGL5.out)).trans HGL5.out⟩
     go_simp
     refine hK.out _ _ S7 (fun hS2=>?_)
     clear hK K b7 hS0
     simp only[pz]
     obtain⟨W8,s1,s2,s3,s4,s5⟩:=q5x (opF [110,101,120,116] lo hs A .nil) hlt (HF5.out.below B7) (HO5.out.trans (.of_below B7)) ((B7.block _ (zd G5.out)).trans G5.out)
     refine rd1 9 rfl fun K hK=>?_
     refine qe 23 (.tmp 4) (.tmp 71) rfl ⟨w.heap.size,0,none⟩ (.agg (q0D (opF [110,101,120,116] lo hs A .nil))) rfl rfl W8 s1 ?_
     refine hK.out _ _ ⟨(s5 _ (by omega)).trans hS2.1,(s5 _ (by omega)).trans hS2.2⟩ (fun _=>?_)
     clear hK K
     refine zD (by kernel_rfl) ?_ _
     simp only[Act.put,pz]
     clear hS2 s1
     go_wp2_with fail
     exact zP (v:=.agg (q0D (opF [110,101,120,116] lo hs A .nil))) (zl rfl _ _ _ _ rfl s2) rfl ⟨by rw[HR3.out];rfl,by rw[HR3.out];exact s3,s4⟩
    ·rw[show decide (2 % 2=1)=false from rfl]at HSP snv
     have HW2:=zb (fun W=>HWR.out ([111,110,99,101]++SP) (zf A) (by simp;omega) W)
     rw[HSE.out,q9a (w:=[111,110,99,101]) hi (by decide) hfa _ ((q6L (by decide) A).symm),←HSE.out]at HW2
     rw[show bs ([111,110,99,101]++SP)=.string (ByteArray.mk [111,110,99,101].toArray++ByteArray.mk SP.toArray)by rw[qE]]at HW2
     clear HWR
     go_wp2_with (refine ze rfl 23 (.tmp 6) (.tmp 26) rfl ⟨w2.heap.size,0,none⟩ (.agg (q0D A)) rfl rfl W3 HS1.out ?_)
     have BL:Below W3.heap.size W3 (W3.alloc (.cells #[.string ⟨#[112,114,101,118]⟩,.string ⟨#[110,101,120,116]⟩,.string ⟨#[111,110,99,101]⟩,.string ⟨#[115,111,111,110]⟩] 9)):=(zB _ _).alloc (zL _) _
     have gL:=zN W3 (.cells #[.string ⟨#[112,114,101,118]⟩,.string ⟨#[110,101,120,116]⟩,.string ⟨#[111,110,99,101]⟩,.string ⟨#[115,111,111,110]⟩] 9)
     have hfb3:fb<W3.heap.size:=by omega
     refine(HN4.out _ (HF3.out.below BL)).mono ?_
     rintro e w4 ⟨rfl,f4,o4⟩
     have GL4:=o4.row gL (HNF.out _ hfb3)
     have A4:=o4.row ((BL.block _ hlA).trans HA3.out) (HNF.out _ hfb2)
     have G4:=o4.row ((BL.block _ (zd G3.out)).trans G3.out) (HNF.out _ hlt)
     have O4:OnlyB [fb] w w4:=HO3.out.trans ((OnlyB.of_below BL).trans o4)
     have HF4:=zb f4
     clear f4 o4 BL gL HS1
     go_wp2_with fail
     refine(HSP.out _ HF4.out).mono ?_
     rintro e w5 ⟨rfl,f5,o5⟩
     have GL5:=o5.row GL4 (HNF.out _ hfb3)
     have A5:=o5.row A4 (HNF.out _ hfb2)
     have G5:=zb (o5.row G4 (HNF.out _ hlt))
     have HO5:Hid (OnlyB [fb] w w5):=zb (O4.trans o5)
     have HF5:=zb f5
     have c64:=(zC _ _ 4 _ _ _ A5).trans cA4
     have hl6:w2.heap.size<w5.heap.size:=zd A5
     have HA5:=zb A5
     have HGL5:=zb GL5
     clear GL4 A4 G4 O4 f5 o5 A5 GL5
     go_wp2_with fail
     have D5:=(zB w5.heap.size w5).drew
     have HSL:Hid (∀W:World,W.heap[w2.heap.size]?=some (.cells (q0D A) 23 (0,0))∧W.heap[W3.heap.size]?=some (.cells #[.string ⟨#[112,114,101,118]⟩,.string ⟨#[110,101,120,116]⟩,.string ⟨#[111,110,99,101]⟩,.string ⟨#[115,111,111,110]⟩] 9 (0,0))→W.cell? ⟨W3.heap.size,2,none⟩=some (.string ⟨[111,110,99,101].toArray⟩)):=zb (fun W hW=>by have:=zC _ _ 2 _ _ _ hW.2;simpa using this)
     refine wp_region_held_drew (S:=fun w'=>w'.heap[w2.heap.size]?=some (.cells (q0D A) 23 (0,0))∧w'.heap[W3.heap.size]?=some (.cells #[.string ⟨#[112,114,101,118]⟩,.string ⟨#[110,101,120,116]⟩,.string ⟨#[111,110,99,101]⟩,.string ⟨#[115,111,111,110]⟩] 9 (0,0))) (by kernel_rfl) ⟨(D5.block _ hl6).trans HA5.out,(D5.block _ (zd HGL5.out)).trans HGL5.out⟩ (fun hS0=>?_)
     simp only[rz,Nat.zero_add,Nat.reduceAdd]
     refine tq 0 63 ?_
     simp only[Act.put,pz]
     refine tq 1 64 ?_
     simp only[Act.put,pz]
     refine tq 4 67 ?_
     simp only[Act.put,pz]
     refine tq 7 70 ?_
     simp only[Act.put,pz]
     refine q1o (i:=6) (v:=.agg (q0D A)) 69 rfl rfl (by kernel_rfl) (by kernel_rfl) (by kernel_rfl) (fun _ _ _ h=>h) (by rfl) (by assumption) ?_ ?_
     ·intro W hSw;exact q1x 23 (.tmp 6) rfl ⟨w2.heap.size,0,none⟩ _ rfl (qH (P:=Tryz.prog) 23 23 W _ _ (0,0) _ hSw.1 Tryz.underlying23 rfl (q2b A))
     simp only[Act.put,pz]
     refine tq 2 65 ?_
     simp only[Act.put,pz]
     refine q1o (i:=3) (v:=?_) 66 rfl rfl (by kernel_rfl) (by kernel_rfl) (by kernel_rfl) (fun _ _ _ h=>h) (by rfl) (by assumption) ?_ ?_
     rotate_left
     ·(intro W hSw;have hcl:=HSL.out W hSw;(try dsimp only at hSw);go_simp;(try with_reducible rfl))
     simp only[Act.put,pz]
     refine tq 5 68 ?_
     simp only[Act.put,pz]
     refine rd1 8 rfl fun K hK=>?_
     go_simp
     refine(HW2.out _).mono ?_
     rintro e w7 ⟨rfl,b7⟩
     have B7:Below w5.heap.size w5 w7:=D5.trans (b7.mono D5.size)
     have S7:w7.heap[w2.heap.size]?=some (.cells (q0D A) 23 (0,0))∧w7.heap[W3.heap.size]?=some (.cells #[.string ⟨#[112,114,101,118]⟩,.string ⟨#[110,101,120,116]⟩,.string ⟨#[111,110,99,101]⟩,.string ⟨#[115,111,111,110]⟩] 9 (0,0)):=⟨(B7.block _ hl6).trans HA5.out,(B7.block _ (zd HGL5.out)).trans HGL5.out⟩
     go_simp
     refine hK.out _ _ S7 (fun hS2=>?_)
     clear hK K b7 hS0
     simp only[pz]
     obtain⟨W8,s1,s2,s3,s4,s5⟩:=q5x (opF [111,110,99,101] lo hs A .nil) hlt (HF5.out.below B7) (HO5.out.trans (.of_below B7)) ((B7.block _ (zd G5.out)).trans G5.out)
     refine rd1 9 rfl fun K hK=>?_
     refine qe 23 (.tmp 4) (.tmp 71) rfl ⟨w.heap.size,0,none⟩ (.agg (q0D (opF [111,110,99,101] lo hs A .nil))) rfl rfl W8 s1 ?_
     refine hK.out _ _ ⟨(s5 _ (by omega)).trans hS2.1,(s5 _ (by omega)).trans hS2.2⟩ (fun _=>?_)
     clear hK K
     refine zD (by kernel_rfl) ?_ _
     simp only[Act.put,pz]
     clear hS2 s1
     go_wp2_with fail
     exact zP (v:=.agg (q0D (opF [111,110,99,101] lo hs A .nil))) (zl rfl _ _ _ _ rfl s2) rfl ⟨by rw[HR3.out];rfl,by rw[HR3.out];exact s3,s4⟩
    ·rw[show decide (3 % 2=1)=true from rfl]at HSP snv
     have HW2:=zb (fun W=>HWR.out ([115,111,111,110]++SP) (if zf A = -1 then(hi:Int)else zf A+(hi:Int)) (by simp;omega) W)
     rw[HSE.out,q9a (w:=[115,111,111,110]) hi (by decide) hfa _ (by rw[q6K (by decide),snv rfl]),←HSE.out]at HW2
     rw[show bs ([115,111,111,110]++SP)=.string (ByteArray.mk [115,111,111,110].toArray++ByteArray.mk SP.toArray)by rw[qE]]at HW2
     obtain⟨ZZ,hZZ⟩:∃ZZ:Int,ZZ=(if zf A = -1 then(hi:Int)else zf A+(hi:Int)):=⟨_,rfl⟩
     rw[←hZZ]at HLT HW2
     clear hZZ
     clear HWR
     go_wp2_with (refine ze rfl 23 (.tmp 6) (.tmp 26) rfl ⟨w2.heap.size,0,none⟩ (.agg (q0D A)) rfl rfl W3 HS1.out ?_)
     have BL:Below W3.heap.size W3 (W3.alloc (.cells #[.string ⟨#[112,114,101,118]⟩,.string ⟨#[110,101,120,116]⟩,.string ⟨#[111,110,99,101]⟩,.string ⟨#[115,111,111,110]⟩] 9)):=(zB _ _).alloc (zL _) _
     have gL:=zN W3 (.cells #[.string ⟨#[112,114,101,118]⟩,.string ⟨#[110,101,120,116]⟩,.string ⟨#[111,110,99,101]⟩,.string ⟨#[115,111,111,110]⟩] 9)
     have hfb3:fb<W3.heap.size:=by omega
     refine(HN4.out _ (HF3.out.below BL)).mono ?_
     rintro e w4 ⟨rfl,f4,o4⟩
     have GL4:=o4.row gL (HNF.out _ hfb3)
     have A4:=o4.row ((BL.block _ hlA).trans HA3.out) (HNF.out _ hfb2)
     have G4:=o4.row ((BL.block _ (zd G3.out)).trans G3.out) (HNF.out _ hlt)
     have O4:OnlyB [fb] w w4:=HO3.out.trans ((OnlyB.of_below BL).trans o4)
     have HF4:=zb f4
     clear f4 o4 BL gL HS1
     go_wp2_with fail
     refine(HSP.out _ HF4.out).mono ?_
     rintro e w5 ⟨rfl,f5,o5⟩
     have GL5:=o5.row GL4 (HNF.out _ hfb3)
     have A5:=o5.row A4 (HNF.out _ hfb2)
     have G5:=zb (o5.row G4 (HNF.out _ hlt))
     have HO5:Hid (OnlyB [fb] w w5):=zb (O4.trans o5)
     have HF5:=zb f5
     have c64:=(zC _ _ 4 _ _ _ A5).trans cA4
     have hl6:w2.heap.size<w5.heap.size:=zd A5
     have HA5:=zb A5
     have HGL5:=zb GL5
     clear GL4 A4 G4 O4 f5 o5 A5 GL5
     go_wp2_with fail
     refine(HLT.out _).mono ?_
     rintro e w6 ⟨rfl,hw6⟩
     rw[hw6]
     clear hw6
     go_wp2_with fail
     have D5:=(zB w5.heap.size w5).drew
     have HSL:Hid (∀W:World,W.heap[w2.heap.size]?=some (.cells (q0D A) 23 (0,0))∧W.heap[W3.heap.size]?=some (.cells #[.string ⟨#[112,114,101,118]⟩,.string ⟨#[110,101,120,116]⟩,.string ⟨#[111,110,99,101]⟩,.string ⟨#[115,111,111,110]⟩] 9 (0,0))→W.cell? ⟨W3.heap.size,3,none⟩=some (.string ⟨[115,111,111,110].toArray⟩)):=zb (fun W hW=>by have:=zC _ _ 3 _ _ _ hW.2;simpa using this)
     refine wp_region_held_drew (S:=fun w'=>w'.heap[w2.heap.size]?=some (.cells (q0D A) 23 (0,0))∧w'.heap[W3.heap.size]?=some (.cells #[.string ⟨#[112,114,101,118]⟩,.string ⟨#[110,101,120,116]⟩,.string ⟨#[111,110,99,101]⟩,.string ⟨#[115,111,111,110]⟩] 9 (0,0))) (by kernel_rfl) ⟨(D5.block _ hl6).trans HA5.out,(D5.block _ (zd HGL5.out)).trans HGL5.out⟩ (fun hS0=>?_)
     simp only[rz,Nat.zero_add,Nat.reduceAdd]
     refine tq 0 63 ?_
     simp only[Act.put,pz]
     refine tq 1 64 ?_
     simp only[Act.put,pz]
     refine tq 4 67 ?_
     simp only[Act.put,pz]
     refine tq 7 70 ?_
     simp only[Act.put,pz]
     refine q1o (i:=6) (v:=.agg (q0D A)) 69 rfl rfl (by kernel_rfl) (by kernel_rfl) (by kernel_rfl) (fun _ _ _ h=>h) (by rfl) (by assumption) ?_ ?_
     ·intro W hSw;exact q1x 23 (.tmp 6) rfl ⟨w2.heap.size,0,none⟩ _ rfl (qH (P:=Tryz.prog) 23 23 W _ _ (0,0) _ hSw.1 Tryz.underlying23 rfl (q2b A))
     simp only[Act.put,pz]
     refine tq 2 65 ?_
     simp only[Act.put,pz]
     refine q1o (i:=3) (v:=?_) 66 rfl rfl (by kernel_rfl) (by kernel_rfl) (by kernel_rfl) (fun _ _ _ h=>h) (by rfl) (by assumption) ?_ ?_
     rotate_left
     ·(intro W hSw;have hcl:=HSL.out W hSw;(try dsimp only at hSw);go_simp;(try with_reducible rfl))
     simp only[Act.put,pz]
     refine tq 5 68 ?_
     simp only[Act.put,pz]
     refine rd1 8 rfl fun K hK=>?_
     go_simp
     refine(HW2.out _).mono ?_
     rintro e w7 ⟨rfl,b7⟩
     have B7:Below w5.heap.size w5 w7:=D5.trans (b7.mono D5.size)
     have S7:w7.heap[w2.heap.size]?=some (.cells (q0D A) 23 (0,0))∧w7.heap[W3.heap.size]?=some (.cells #[.string ⟨#[112,114,101,118]⟩,.string ⟨#[110,101,120,116]⟩,.string ⟨#[111,110,99,101]⟩,.string ⟨#[115,111,111,110]⟩] 9 (0,0)):=⟨(B7.block _ hl6).trans HA5.out,(B7.block _ (zd HGL5.out)).trans HGL5.out⟩
     go_simp
     refine hK.out _ _ S7 (fun hS2=>?_)
     clear hK K b7 hS0
     simp only[pz]
     obtain⟨W8,s1,s2,s3,s4,s5⟩:=q5x (opF [115,111,111,110] lo hs A .nil) hlt (HF5.out.below B7) (HO5.out.trans (.of_below B7)) ((B7.block _ (zd G5.out)).trans G5.out)
     refine rd1 9 rfl fun K hK=>?_
     refine qe 23 (.tmp 4) (.tmp 71) rfl ⟨w.heap.size,0,none⟩ (.agg (q0D (opF [115,111,111,110] lo hs A .nil))) rfl rfl W8 s1 ?_
     refine hK.out _ _ ⟨(s5 _ (by omega)).trans hS2.1,(s5 _ (by omega)).trans hS2.2⟩ (fun _=>?_)
     clear hK K
     refine zD (by kernel_rfl) ?_ _
     simp only[Act.put,pz]
     clear hS2 s1
     go_wp2_with fail
     exact zP (v:=.agg (q0D (opF [115,111,111,110] lo hs A .nil))) (zl rfl _ _ _ _ rfl s2) rfl ⟨by rw[HR3.out];rfl,by rw[HR3.out];exact s3,s4⟩
theorem j5m (fb:Nat)(s:By):∀(n:Nat),n≤4→∀(i:Nat) (w:World),FeedAt w fb s i→Calls Tryz.prog 6 #[.pointer (some ⟨fb,0,none⟩),.int .i64 n] w fun e w'=>e=.returned (.agg (q0D (mkF s n i).1))∧FeedAt w' fb s (mkF s n i).2∧OnlyB [fb] w w':=by
 intro n
 induction n with
 |zero=>intro _ i w h;exact j3M fb s i w h
 |succ n ih=>intro hn i w h;exact j3N fb s n (by omega) (zb (ih (by omega))) i w h
theorem j0d {F G:zg}(h:q1k G=q1k F)(L:List LPt)(a c:Nat):qI G L a c=qI F L a c:=by
 unfold qI verR qk
 rw[q4R h,q4R h,j2p h]
def j0g (F:zg)(X:List LnK):List Ver:=qI F (q4p X) 0 X.length
theorem j2l (F:zg)(X:List LnK):(j0g F X).length=X.length:=by
 unfold j0g
 rw[q0q]
 omega
theorem j8M (F:zg)(X:List LnK)(i:Nat)(h:i<(j0g F X).length):(j0g F X)[i]=verR F (q4p X) i:=by
 unfold j0g qI
 simp
theorem j3S (s:By)(sh:Nat)(k:Nat)(h:k<((q1v s sh).map qu).length):LinOk (qa (((q1v s sh).map qu).take k)) (((q1v s sh).map q1F)[k]'(by simpa using h)).2.2.2 ((q1v s sh).map qu)[k]:=by
 have hlen:=q7C s sh
 obtain⟨st,h0,hc⟩:=q7B s sh
 have hk:=(q8C (q1v s sh) 0 st 0 [] h0 hc .nil rfl (fun e=>absurd e (by omega)) (fun _=>rfl) (by omega)).1 k (by simpa using h)
 rw[List.map_take]at hk
 simp only[List.getElem_map]
 exact hk
theorem kep_runK (F:zg)(hF:Fine F)(hh:hgt F≤8)(hl:(zs F).length≤240)(s:By)(sh:Nat)(base:Nat)(v:Value)(w:World)(hv:w.ownsRow base 41 4 v ((q1v s sh).map q1F).length (q0O ((q1v s sh).map q1F))) :
  Calls Tryz.prog 16 #[bs (zs F),v] w fun e w'=>∃u,e=.returned (.tuple #[u,.bool true])∧w'.ownsRow w.heap.size 45 12 u (j0g F (q1v s sh)).length (zV (j0g F (q1v s sh)))∧Below w.heap.size w w':=by
 obtain⟨hc,hb⟩:=q8o hF hh hl
 have hlen:=q7C s sh
 refine(kep_run (zs F) (by rw[hc]) (by unfold maxLen;omega) ((q1v s sh).map q1F) ((q1v s sh).map qu) (by simp) (j3S s sh) (by simp;omega) base v w hv).mono ?_
 rintro e w' ⟨u,rfl,h1,h2⟩
 refine⟨u,rfl,?_,h2⟩
 rw[j0d hb,List.length_map]at h1
 rw[j2l]
 exact h1
theorem j7B:q6J 0 65536=0:=by decide
theorem log_zero (s:By)(hs:s.length≤maxLen)(w:World)(ht:TabB w):Calls Tryz.prog 8 #[bs s,.int .i64 0] w fun e w'=>∃v,e=.returned v∧w'.ownsRow w.heap.size 41 4 v ((q1v s 0).map q1F).length (q0O ((q1v s 0).map q1F))∧Below w.heap.size w w':=by
 have:=kep_log s hs 0 (by omega) w ht
 rw[j7B]at this
 exact this
theorem frm_new (s:By)(hs:s.length≤maxLen)(n:Nat)(hn:n≤4)(w:World) :
  Calls Tryz.prog 6 #[.pointer (some ⟨w.heap.size,0,none⟩),.int .i64 n] (w.alloc (.cells #[bs s,.int .i64 0] 27)) fun e w'=>e=.returned (.agg (q0D (mkF s n 0).1))∧Below w.heap.size w w':=by
 have BW:Below w.heap.size w (w.alloc (.cells #[bs s,.int .i64 0] 27)):=(zB _ _).alloc (zL _) _
 refine(j5m w.heap.size s n hn 0 _ ⟨zN w _,zZ _,hs⟩).mono ?_
 rintro e w' ⟨rfl,_,o⟩
 exact⟨rfl,BW.trans (o.below BW.size (fun q hq=>by simp at hq;omega))⟩
theorem tell_at (F:zg)(L:List LPt)(a c j:Nat)(h:j<(qI F L a c).length):(qI F L a c)[j]=verR F L (a+j):=by
 have h2:=h
 rw[q0q]at h2
 have e:(qI F L a c)[j]?=some (verR F L (a+j)):=by
  unfold qI
  rw[List.getElem?_map,List.getElem?_range' (by omega)]
  simp
 exact Option.some.inj ((zG h).symm.trans e)
theorem ver_whole {w:World}{base g c:Nat}{X:List Ver}(h:w.ownsRow base 45 12 (.slice (some ⟨g,0,none⟩) X.length c) X.length (zV X)){k:Nat}(hk:k<X.length):(Instr.loadAt 45 (.pointer (some ⟨g,k*12,none⟩))).run Tryz.prog w=.ok (.agg (q3O X[k]).toArray) w:=by
 refine run_loadAt_mid w g (k*12) 45 (q3O X[k]) _ (fun j v hv=>?_) Tryz.underlying45 rfl (by kernel_rfl)
 have hj:j<12:=(List.getElem?_eq_some_iff.1 hv).1
 rw[h.cellAt _ (by omega),j2m X k hk j hj]
 exact hv
theorem ln_cell {w:World}{base g c:Nat}{X:List LnV}(h:w.ownsRow base 41 4 (.slice (some ⟨g,0,none⟩) X.length c) X.length (q0O X)){k:Nat}(hk:k<X.length):w.cell? ⟨g,k*4+1,none⟩=some (.int .i64 X[k].2.1)∧w.cell? ⟨g,k*4+3,none⟩=some (bs X[k].2.2.2):=by
 constructor
 ·rw[h.cellAt _ (by omega),j5z X k hk 1 (by omega)]
  rfl
 ·rw[h.cellAt _ (by omega),j5z X k hk 3 (by omega)]
  rfl
theorem fine3 (s:By):FineB (mkF s 3 0).1 4 153:=j8j s 3 0
end Go.Proofs.YtiamjjonoeaggabGreatDoor
