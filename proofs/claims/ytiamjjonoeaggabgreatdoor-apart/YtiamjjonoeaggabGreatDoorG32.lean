import Derived.Test.YtiamjjonoeaggabGreatDoorGA
import Derived.Test.YtiamjjonoeaggabGreatDoorGB
import Derived.Test.YtiamjjonoeaggabGreatDoorG01
import Derived.Test.YtiamjjonoeaggabGreatDoorG13
import Derived.Test.YtiamjjonoeaggabGreatDoorG15
import Derived.Test.YtiamjjonoeaggabGreatDoorG31
import Derived.Deep.Slices
import Derived.ChangeArms
set_option maxRecDepth 100000
set_option maxHeartbeats 16000000
namespace Go.Proofs.YtiamjjonoeaggabGreatDoor
open Go.RowKit
theorem j4T (bp bt ct:Nat)(ts:List PTok)(d:Nat)(hd8:d<8)(ih:PartsC bp bt ct ts d)(w:World)(nx:Nat)(ns:List PNode)(dp:Int)(hd:dp+(d+1:Nat)=9)(hpn:PN w bp bt ct ts nx ns)(hbt:bt<bp)(hn:nx+q4Z (d+1)≤4000)(hm:ns.length+q3r (d+1)≤1000)(hcase:(q1c ts nx).1=true∧¬(q1c ts nx).2.2.kind=5∧¬(q1c ts nx).2.2.kind=2) :
  Calls Tryz.prog 91 #[.pointer (some ⟨bp,0,none⟩),.int .i64 dp] w fun e w'=>e=.returned (.bool (q0i ts (d+1) nx ns.length).1)∧q9z w w' bp bt ct ts ns (q0i ts (d+1) nx ns.length):=by
 have HC:=zb hcase
 clear hcase
 have hdp1:1≤dp:=by omega
 have hdp8:dp≤8:=by omega
 have HD:Hid (dp+1+d=9):=zb (by omega)
 have hn6:nx≤4000:=by omega
 have HL:=zb (q8P ts nx)
 obtain⟨nv,hP,hown⟩:=hpn
 have HO:=zb hown
 have hh:=q9q bp bt ct ts nv nx w hP (by omega)
 generalize hr:q0i ts (d+1) nx ns.length=r
 have HT:=zb hr
 have HN:Hid (nx+9+2*q4Z d≤4000∧ns.length+1+2*q3r d≤1000):=zb (by simp only[q4Z,q3r]at hn hm;omega)
 clear hr hown hn hm hd
 generalize hhd:q1c ts nx=hr at *
 have HH:=zb hhd
 clear hhd
 obtain⟨ok,m,nd⟩:=hr
 obtain⟨V,hV⟩:∃V,V=q1C nd:=⟨_,rfl⟩
 rw[←hV]at hh
 have HV:=zb hV
 clear hV
 have H:=zb hP
 have hlt:=hP.lt.2
 clear hP
 go_enter Tryz.func91,Tryz.ntmps91
 go_wp2_with fail
 refine hh.mono ?_
 rintro e w1 ⟨rfl,hP1,ho1⟩
 have hown1:=q2w HO.out ho1 (by simp)
 obtain⟨ao,cap,rfl⟩:=qn hown1
 have hrow:=hown1.lt
 have hl1:=hP1.lt.2
 obtain⟨w2,hst2,hB2,hb2,hs2⟩:=q0m (P:=Tryz.prog) 166 w1 (zq q5h).toArray (zq nd).toArray (by kernel_rfl) rfl (by simp[zq,Value.oneCell'])
 rw[show Value.agg (zq nd).toArray=V from HV.out.symm]at hst2
 simp only[zq]at hst2
 have HP1:=zb hP1
 have HO1:=zb hown1
 have HB2:=zb hB2
 have HS2:=zb hs2
 clear hh hP1 hown1 hB2 hs2
 simp only[]at *
 have hok:ok=true:=by have:=HC.out.1;simpa using this
 subst hok
 have HK:Hid (¬nd.kind=5∧¬nd.kind=2):=zb (by have:=HC.out.2;simpa using this)
 have hP2:=HP1.out.only (bl:=[]) (.of_below hb2) (by simp) (by simp)
 have c2:=hP2.nodes
 have f2:=hP2.free 2
 have hl2:=hP2.lt.2
 have HP2:=zb hP2
 clear hP2
 have q0:=zC w2 w1.heap.size 0 _ _ _ HB2.out
 simp only[zq,List.getElem?_toArray,List.getElem?_cons_zero]at q0
 have Q0:=zb q0
 clear q0
 have L5:=fun(W:World) (h:W.heap[w1.heap.size]?=w2.heap[w1.heap.size]?)=>(NodeAt.of_block (h.trans HB2.out)).load
 rw[show q1C nd=V from HV.out.symm]at L5
 have S6:=q9Z nd
 rw[show q1C nd=V from HV.out.symm]at S6
 have HL5:=zb L5
 have HS6:=zb S6
 clear L5 S6
 go_wp2_with (refine ze rfl 166 (.tmp 5) (.tmp 13) rfl ⟨w1.heap.size,0,none⟩ _ rfl rfl w2 hst2 ?_)
 have hown2:=zp HO1.out hb2
 have HOD:=fun o:Obj=>zb (hown2.drew.alloc o)
 have HRO:Hid (∀k,(Value.slice ao ns.length cap).ownBlock=some k→bp+1≤k):=zb (fun k e=>(hrow k e).1)
 have HRW:=zb hrow
 have hns:ns.length≤1000:=by have:=HN.out.2;omega
 clear hown2 hrow
 obtain⟨i0,hi0,hz0,hz1,hz2⟩:=info_parts q8t
 refine wp_region_any (by kernel_rfl) ?_
 change wpAny _ _ _ _ _ _ _ (World.drew _)
 refine wpAny_take (i:=0) (v:=.pointer (some ⟨bp,0,none⟩)) rfl (by kernel_rfl) (by kernel_rfl) (by kernel_rfl) (fun _ _ _ h=>h) (Or.inl ⟨by rfl,?_⟩) ?_
 ·intro w;go_simp
 simp only[Act.put,List.setIfInBounds_toArray]
 refine wpAny_take (i:=1) (v:=.pointer (some ⟨bp,0,none⟩)) rfl (by kernel_rfl) (by kernel_rfl) (by kernel_rfl) (fun _ _ _ h=>h) (Or.inl ⟨by rfl,?_⟩) ?_
 ·intro w;go_simp
 simp only[Act.put]
 refine wpAny_take (i:=2) (v:=.pointer (some ⟨bp,0,none⟩)) rfl (by kernel_rfl) (by kernel_rfl) (by kernel_rfl) (fun _ _ _ h=>h) (Or.inl ⟨by rfl,?_⟩) ?_
 ·intro w;go_simp
 simp only[Act.put]
 refine wpAny_take (i:=3) (v:=.pointer (some ⟨bp,2,none⟩)) rfl (by kernel_rfl) (by kernel_rfl) (by kernel_rfl) (fun _ _ _ h=>h) (Or.inl ⟨by rfl,?_⟩) ?_
 ·intro w;go_simp
 simp only[Act.put]
 refine wpAny_ready (rs:=[4,5]) (by kernel_rfl) (by simp) ?_
 refine AllReady.cons rfl (fun K hK=>?_) (AllReady.cons rfl (fun K hK=>?_) AllReady.nil)
 ·go_simp
  refine hK _ _ ?_
  clear hK K
  refine wpAny_ready (rs:=[5]) (by kernel_rfl) (by simp) ?_
  refine AllReady.cons rfl (fun K hK=>?_) AllReady.nil
  rw[if_pos (by rfl)]
  refine q0e 166 (.tmp 5) rfl ⟨w1.heap.size,0,none⟩ V rfl (HL5.out _ rfl) ?_
  refine hK _ _ ?_
  clear hK K
  simp only[Act.put,List.setIfInBounds_toArray]
  refine wpAny_ready (rs:=[6]) (by kernel_rfl) (by simp) ?_
  refine AllReady.cons rfl (fun K hK=>?_) AllReady.nil
  rw[if_pos (by rfl)]
  refine q1O 86 (.tmp 27) rfl V _ _ rfl (HS6.out _) ?_
  refine hK _ _ ?_
  clear hK K
  simp only[Act.put]
  refine wpAny_ready (rs:=[7]) (by kernel_rfl) (by simp) ?_
  refine AllReady.cons rfl (fun K hK=>?_) AllReady.nil
  refine q0F rfl (.tmp 26) (.tmp 28) 86 rfl (bp+1) 166 Tryz.underlying86 hi0 hz0 hz1 hz2 rfl (by decide) (.slice ao ns.length cap) ns.length (qw ns) rfl (HOD _).out ⟨w2.heap.size,0,none⟩ 1 1 (zq nd) rfl rfl (q4U w2.drew nd _) (q2v nd) (by unfold maxLen;omega) (by omega) (by simp;omega) ?_
  intro v' w' hown' hgrow'
  obtain⟨g',cap',rfl⟩:=zJ hown' (by omega)
  obtain⟨c2',f2'⟩:=q3P hgrow' HRO.out hl2 c2 f2
  refine hK _ _ ?_
  clear hK K
  simp only[Act.put]
  refine wpAny_take (i:=8) (v:=.pointer (some ⟨bp,0,none⟩)) rfl (by kernel_rfl) (by kernel_rfl) (by kernel_rfl) (fun _ _ _ h=>h) (Or.inl ⟨by rfl,?_⟩) ?_
  ·intro w;go_simp
  simp only[Act.put]
  refine wpAny_take (i:=9) (v:=.pointer (some ⟨bp,2,none⟩)) rfl (by kernel_rfl) (by kernel_rfl) (by kernel_rfl) (fun _ _ _ h=>h) (Or.inl ⟨by rfl,?_⟩) ?_
  ·intro w;go_simp
  simp only[Act.put]
  refine wpAny_ready (rs:=[10]) (by kernel_rfl) (by simp) ?_
  refine AllReady.cons rfl (fun K hK=>?_) AllReady.nil
  go_simp
  refine hK _ _ ?_
  clear hK K
  refine wpAny_done (by kernel_rfl) ?_ _
  obtain⟨hpn,hk0,hbl⟩:=q1K HP1.out hbt hb2 HRW.out Q0.out hgrow' hown'
  obtain⟨w5,hw5⟩:∃W:World,W=w'.setCell ⟨bp,2,none⟩ (.slice (some ⟨g',0,none⟩) (ns.length+1) cap'):=⟨_,rfl⟩
  rw[←hw5]at hpn hk0 hbl
  rw[←hw5]
  have B5:Below bp w w5:=(ho1.below (B:=bp) (by omega) (by simp)).trans hbl
  have HPN:=zb hpn
  have HB5:=zb B5
  clear hw5 hpn hbl B5 hown' hgrow' c2' f2' c2 f2 hst2 hi0 hz0 hz1 hz2
  have er:=HT.out
  rw[q0i,HH.out]at er
  simp only[if_true]at er
  rw[if_neg (fun h=>h.elim HK.out.1 HK.out.2)]at er
  have hih:=ih w5 m ns nd (dp+1) HD.out HPN.out hbt (by have:=HN.out.1;have:=HL.out;omega) HN.out.2
  rw[er]at hih
  have HIH:=zb hih
  clear er hih
  generalize nd.kind=kd at *
  have k5:¬kd=5:=HK.out.1
  have k2:¬kd=2:=HK.out.2
  have e5:(kd==5)=false:=by simpa using k5
  have e2:(kd==2)=false:=by simpa using k2
  go_wp2_with fail
  refine(HIH.out).mono ?_
  rintro e w6 ⟨rfl,ho,hb6⟩
  have HO6:=zb ho
  clear ho
  go_wp2_with fail
  go_ret
  exact⟨rfl,HO6.out,HB5.out.trans hb6⟩
 ·rw[if_pos (by rfl)]
  refine q0e 166 (.tmp 5) rfl ⟨w1.heap.size,0,none⟩ V rfl (HL5.out _ rfl) ?_
  refine hK _ _ ?_
  clear hK K
  simp only[Act.put]
  refine wpAny_ready (rs:=[4,6]) (by kernel_rfl) (by simp) ?_
  refine AllReady.cons rfl (fun K hK=>?_) (AllReady.cons rfl (fun K hK=>?_) AllReady.nil)
  ·go_simp
   refine hK _ _ ?_
   clear hK K
   refine wpAny_ready (rs:=[6]) (by kernel_rfl) (by simp) ?_
   refine AllReady.cons rfl (fun K hK=>?_) AllReady.nil
   rw[if_pos (by rfl)]
   refine q1O 86 (.tmp 27) rfl V _ _ rfl (HS6.out _) ?_
   refine hK _ _ ?_
   clear hK K
   simp only[Act.put,List.setIfInBounds_toArray]
   refine wpAny_ready (rs:=[7]) (by kernel_rfl) (by simp) ?_
   refine AllReady.cons rfl (fun K hK=>?_) AllReady.nil
   refine q0F rfl (.tmp 26) (.tmp 28) 86 rfl (bp+1) 166 Tryz.underlying86 hi0 hz0 hz1 hz2 rfl (by decide) (.slice ao ns.length cap) ns.length (qw ns) rfl (HOD _).out ⟨w2.heap.size,0,none⟩ 1 1 (zq nd) rfl rfl (q4U w2.drew nd _) (q2v nd) (by unfold maxLen;omega) (by omega) (by simp;omega) ?_
   intro v' w' hown' hgrow'
   obtain⟨g',cap',rfl⟩:=zJ hown' (by omega)
   obtain⟨c2',f2'⟩:=q3P hgrow' HRO.out hl2 c2 f2
   refine hK _ _ ?_
   clear hK K
   simp only[Act.put]
   refine wpAny_take (i:=8) (v:=.pointer (some ⟨bp,0,none⟩)) rfl (by kernel_rfl) (by kernel_rfl) (by kernel_rfl) (fun _ _ _ h=>h) (Or.inl ⟨by rfl,?_⟩) ?_
   ·intro w;go_simp
   simp only[Act.put]
   refine wpAny_take (i:=9) (v:=.pointer (some ⟨bp,2,none⟩)) rfl (by kernel_rfl) (by kernel_rfl) (by kernel_rfl) (fun _ _ _ h=>h) (Or.inl ⟨by rfl,?_⟩) ?_
   ·intro w;go_simp
   simp only[Act.put]
   refine wpAny_ready (rs:=[10]) (by kernel_rfl) (by simp) ?_
   refine AllReady.cons rfl (fun K hK=>?_) AllReady.nil
   go_simp
   refine hK _ _ ?_
   clear hK K
   refine wpAny_done (by kernel_rfl) ?_ _
   obtain⟨hpn,hk0,hbl⟩:=q1K HP1.out hbt hb2 HRW.out Q0.out hgrow' hown'
   obtain⟨w5,hw5⟩:∃W:World,W=w'.setCell ⟨bp,2,none⟩ (.slice (some ⟨g',0,none⟩) (ns.length+1) cap'):=⟨_,rfl⟩
   rw[←hw5]at hpn hk0 hbl
   rw[←hw5]
   have B5:Below bp w w5:=(ho1.below (B:=bp) (by omega) (by simp)).trans hbl
   have HPN:=zb hpn
   have HB5:=zb B5
   clear hw5 hpn hbl B5 hown' hgrow' c2' f2' c2 f2 hst2 hi0 hz0 hz1 hz2
   have er:=HT.out
   rw[q0i,HH.out]at er
   simp only[if_true]at er
   rw[if_neg (fun h=>h.elim HK.out.1 HK.out.2)]at er
   have hih:=ih w5 m ns nd (dp+1) HD.out HPN.out hbt (by have:=HN.out.1;have:=HL.out;omega) HN.out.2
   rw[er]at hih
   have HIH:=zb hih
   clear er hih
   generalize nd.kind=kd at *
   have k5:¬kd=5:=HK.out.1
   have k2:¬kd=2:=HK.out.2
   have e5:(kd==5)=false:=by simpa using k5
   have e2:(kd==2)=false:=by simpa using k2
   go_wp2_with fail
   refine(HIH.out).mono ?_
   rintro e w6 ⟨rfl,ho,hb6⟩
   have HO6:=zb ho
   clear ho
   go_wp2_with fail
   go_ret
   exact⟨rfl,HO6.out,HB5.out.trans hb6⟩
  ·rw[if_pos (by rfl)]
   refine q1O 86 (.tmp 27) rfl V _ _ rfl (HS6.out _) ?_
   refine hK _ _ ?_
   clear hK K
   simp only[Act.put]
   refine wpAny_ready (rs:=[4]) (by kernel_rfl) (by simp) ?_
   refine AllReady.cons rfl (fun K hK=>?_) AllReady.nil
   go_simp
   refine hK _ _ ?_
   clear hK K
   refine wpAny_ready (rs:=[7]) (by kernel_rfl) (by simp) ?_
   refine AllReady.cons rfl (fun K hK=>?_) AllReady.nil
   refine q0F rfl (.tmp 26) (.tmp 28) 86 rfl (bp+1) 166 Tryz.underlying86 hi0 hz0 hz1 hz2 rfl (by decide) (.slice ao ns.length cap) ns.length (qw ns) rfl (HOD _).out ⟨w2.heap.size,0,none⟩ 1 1 (zq nd) rfl rfl (q4U w2.drew nd _) (q2v nd) (by unfold maxLen;omega) (by omega) (by simp;omega) ?_
   intro v' w' hown' hgrow'
   obtain⟨g',cap',rfl⟩:=zJ hown' (by omega)
   obtain⟨c2',f2'⟩:=q3P hgrow' HRO.out hl2 c2 f2
   refine hK _ _ ?_
   clear hK K
   simp only[Act.put,List.setIfInBounds_toArray]
   refine wpAny_take (i:=8) (v:=.pointer (some ⟨bp,0,none⟩)) rfl (by kernel_rfl) (by kernel_rfl) (by kernel_rfl) (fun _ _ _ h=>h) (Or.inl ⟨by rfl,?_⟩) ?_
   ·intro w;go_simp
   simp only[Act.put]
   refine wpAny_take (i:=9) (v:=.pointer (some ⟨bp,2,none⟩)) rfl (by kernel_rfl) (by kernel_rfl) (by kernel_rfl) (fun _ _ _ h=>h) (Or.inl ⟨by rfl,?_⟩) ?_
   ·intro w;go_simp
   simp only[Act.put]
   refine wpAny_ready (rs:=[10]) (by kernel_rfl) (by simp) ?_
   refine AllReady.cons rfl (fun K hK=>?_) AllReady.nil
   go_simp
   refine hK _ _ ?_
   clear hK K
   refine wpAny_done (by kernel_rfl) ?_ _
   obtain⟨hpn,hk0,hbl⟩:=q1K HP1.out hbt hb2 HRW.out Q0.out hgrow' hown'
   obtain⟨w5,hw5⟩:∃W:World,W=w'.setCell ⟨bp,2,none⟩ (.slice (some ⟨g',0,none⟩) (ns.length+1) cap'):=⟨_,rfl⟩
   rw[←hw5]at hpn hk0 hbl
   rw[←hw5]
   have B5:Below bp w w5:=(ho1.below (B:=bp) (by omega) (by simp)).trans hbl
   have HPN:=zb hpn
   have HB5:=zb B5
   clear hw5 hpn hbl B5 hown' hgrow' c2' f2' c2 f2 hst2 hi0 hz0 hz1 hz2
   have er:=HT.out
   rw[q0i,HH.out]at er
   simp only[if_true]at er
   rw[if_neg (fun h=>h.elim HK.out.1 HK.out.2)]at er
   have hih:=ih w5 m ns nd (dp+1) HD.out HPN.out hbt (by have:=HN.out.1;have:=HL.out;omega) HN.out.2
   rw[er]at hih
   have HIH:=zb hih
   clear er hih
   generalize nd.kind=kd at *
   have k5:¬kd=5:=HK.out.1
   have k2:¬kd=2:=HK.out.2
   have e5:(kd==5)=false:=by simpa using k5
   have e2:(kd==2)=false:=by simpa using k2
   go_wp2_with fail
   refine(HIH.out).mono ?_
   rintro e w6 ⟨rfl,ho,hb6⟩
   have HO6:=zb ho
   clear ho
   go_wp2_with fail
   go_ret
   exact⟨rfl,HO6.out,HB5.out.trans hb6⟩
theorem j6W (bp bt ct:Nat)(ts:List PTok):∀d,d≤8→FormC bp bt ct ts d:=by
 intro d
 induction d with
 |zero=>intro _;exact j9h bp bt ct ts
 |succ d ih =>
  intro hd
  have hp:=j9P bp bt ct ts d (ih (by omega))
  intro w nx ns dp h1 h2 h3 h4 h5
  cases hk:(q1c ts nx).1 with
  |false=>exact j4Q bp bt ct ts d (by omega) w nx ns dp h1 h2 h3 h4 h5 hk
  |true =>
   by_cases k5:(q1c ts nx).2.2.kind=5
   ·exact j4S bp bt ct ts d (by omega) w nx ns dp h1 h2 h3 h4 h5 ⟨hk,k5⟩
   ·by_cases k2:(q1c ts nx).2.2.kind=2
    ·exact j4R bp bt ct ts d (by omega) w nx ns dp h1 h2 h3 h4 h5 ⟨hk,k2⟩
    ·exact j4T bp bt ct ts d (by omega) hp w nx ns dp h1 h2 h3 h4 h5 ⟨hk,k5,k2⟩
structure ToksAt (w:World)(bt ct:Nat)(ts:List PTok):Prop where
 cap:ts.length≤ct∧ct≤maxLen∧ts.length≤1000
 lt:bt<w.heap.size
 cells:∀i (h:i<ts.length),(∀j,j<12→w.cell? ⟨bt,i*12+j,none⟩=(q4f (ts[i]).kind (ts[i]).pos (ts[i]).size (ts[i]).val (ts[i]).name)[j]?)
def q2j (ts:List PTok):Bool:=(q0i ts 8 0 0).1&&(zt ts (q0i ts 8 0 0).2.1).kind==0
def q2X (ts:List PTok):Int:=if q2j ts=true then 0 else(zt ts (q0i ts 8 0 0).2.1).pos
theorem j3o (bt ct:Nat)(ts:List PTok)(w:World)(h:ToksAt w bt ct ts) :
  Calls Tryz.prog 64 #[.slice (some ⟨bt,0,none⟩) ts.length ct] w fun e w'=>∃nv,e=.returned (.tuple #[nv,.int .i64 (q2X ts),.bool (q2j ts)])∧(q2j ts=true→w'.ownsRow (w.heap.size+1) 166 22 nv (q0i ts 8 0 0).2.2.length (qw (q0i ts 8 0 0).2.2))∧Below w.heap.size w w':=by
 have hlt:=h.lt
 have hP:Pars (w.alloc (.cells #[.slice (some ⟨bt,0,none⟩) ts.length ct,.int .i64 0,.slice none 0 0] 190)) w.heap.size bt ct ts (.slice none 0 0) 0:=by
  have hg:=zN w (.cells #[.slice (some ⟨bt,0,none⟩) ts.length ct,.int .i64 0,.slice none 0 0] 190)
  refine⟨?_,?_,?_,fun o=>zF _ _ o _ _ hg,h.cap,by omega,⟨by simp;omega,by simp⟩,fun i hi j hj=>?_⟩
  ·rw[zC _ _ 0 _ _ _ hg];rfl
  ·rw[zC _ _ 1 _ _ _ hg];rfl
  ·rw[zC _ _ 2 _ _ _ hg];rfl
  ·rw[World.cell?_alloc_lt _ _ _ hlt];exact h.cells i hi j hj
 have hF:=j6W w.heap.size bt ct ts 8 (by omega) _ 0 [] 1 (by decide) ⟨_,hP,zW _ _ _ _⟩ hlt (by decide) (by decide)
 have hle:=j3C ts 8 0 0
 have HPB:Hid (q2j ts=((q0i ts 8 0 0).1&&(zt ts (q0i ts 8 0 0).2.1).kind==0)):=zb rfl
 have HPA:Hid (q2X ts=if q2j ts=true then 0 else(zt ts (q0i ts 8 0 0).2.1).pos):=zb rfl
 simp only[List.length_nil]at hF
 generalize q0i ts 8 0 0=o at *
 generalize q2j ts=pb at *
 generalize q2X ts=pa at *
 obtain⟨ok,k,l⟩:=o
 have hk:k≤100000:=zM hle (by decide)
 have HF:=zb hF
 clear hF hP h hle
 go_enter Tryz.func64,Tryz.ntmps64
 go_wp2_with fail
 refine(HF.out).mono ?_
 rintro e w1 ⟨rfl,⟨nv,P1,own1⟩,b1⟩
 have hh:=q3v w.heap.size bt ct ts nv k w1 P1 hk
 have H1:=zb P1
 have HO:=zb own1
 have B1:Below w.heap.size w w1:=((zB _ _).alloc (zL _) _).trans b1
 clear P1 own1 b1
 go_wp2_with fail
 refine hh.mono ?_
 rintro e w2 ⟨rfl,b2⟩
 have c2:=(H1.out.only (bl:=[]) (.of_below b2) (by simp) (by simp)).nodes
 have hl2:=(H1.out.only (bl:=[]) (.of_below b2) (by simp) (by simp)).lt.2
 have B2:Below w.heap.size w w2:=B1.trans (b2.mono (by have:=B1.size;omega))
 have HB2:=zb B2
 have HB:=zb b2
 have hpb:=HPB.out
 have hpa:=HPA.out
 generalize zt ts k=t at *
 obtain⟨tk,tp,tz,tv,tnm⟩:=t
 simp only[]at hpb hpa
 unfold ptV q7p
 have HS:=zb B1.size
 clear hh B1 B2 b2 HPB HPA
 cases ok with
 |false =>
  simp only[Bool.false_and]at hpb
  subst hpb
  simp only[Bool.false_eq_true,if_false]at hpa
  subst hpa
  go_wp2_with fail
  go_quiet (fail)
  go_wp2_with fail
  go_ret3
  exact⟨_,rfl,fun h=>absurd h (by simp),q3e _ (HB2.out.alloc HB2.out.size _)⟩
 |true =>
  by_cases hkd:tk=0
  ·subst hkd
   simp only[beq_self_eq_true,Bool.and_self]at hpb
   subst hpb
   simp only[if_true]at hpa
   subst hpa
   go_wp2_with fail
   go_ret3
   exact⟨nv,rfl,by simpa using zp (HO.out (by trivial)) (HB.out.alloc (by have:=HB.out.size;omega) _),HB2.out.alloc HB2.out.size _⟩
  ·have e:(true&&tk==0)=false:=by simp[hkd]
   rw[e]at hpb
   subst hpb
   simp only[Bool.false_eq_true,if_false]at hpa
   subst hpa
   clear e
   go_wp2_with fail
   go_quiet (fail)
   go_wp2_with fail
   go_ret3
   exact⟨_,rfl,fun h=>absurd h (by simp),q3e _ (HB2.out.alloc HB2.out.size _)⟩
theorem atS_self (toks:List Tok):atS toks toks=0:=by unfold atS;omega
theorem j9o (L:Nat)(r:List Tok):(q2T L r).pos=(plc L r:Int):=by cases r<;>rfl
theorem j7y (s:By)(h1:¬240<s.length)(h2:¬0≤(q0Y s).2) :
  (q2j (q1d (q0Y s).1 s.length)=false∧q1m s=(3,q2X (q1d (q0Y s).1 s.length))) ∨
  (q2j (q1d (q0Y s).1 s.length)=true∧q2X (q1d (q0Y s).1 s.length)=0∧(q1m s).1=0∧(q0i (q1d (q0Y s).1 s.length) 8 0 0).2.2=q0p (qb s) 0):=by
 have hg:q5E (q0Y s).1:=q5R s
 have hsim:=form_sim s.length hg 8 (q0Y s).1 0 (List.suffix_refl _)
 rw[atS_self]at hsim
 rw[j1M h1 h2]
 unfold q6x qb
 generalize hts:q1d (q0Y s).1 s.length=ts at *
 generalize (q0Y s).1=toks at *
 cases hp:q0A 8 toks with
 |inl r =>
  rw[hp]at hsim
  obtain⟨a1,a2,a3⟩:=hsim
  left
  have hb:q2j ts=false:=by unfold q2j;rw[a1];rfl
  refine⟨hb,?_⟩
  unfold q2X
  rw[if_neg (by rw[hb];decide),a2,←hts,j1h _ a3,j9o]
  rfl
 |inr z =>
  obtain⟨F,r⟩:=z
  rw[hp]at hsim
  obtain⟨a1,a2,_⟩:=hsim
  have hh:=j1h s.length a2
  rw[hts]at hh
  cases r with
  |nil =>
   right
   have hb:q2j ts=true:=by unfold q2j;rw[a1];simp only[];rw[hh];rfl
   refine⟨hb,?_,rfl,by rw[a1]⟩
   unfold q2X
   rw[if_pos hb]
  |cons t q =>
   left
   have hk:(zt ts (atS toks (t::q))).kind≠0:=by rw[hh];exact(q0C (q8K hg a2)).nz
   have hb:q2j ts=false:=by
    unfold q2j
    rw[a1]
    simp only[Bool.true_and]
    simpa using hk
   refine⟨hb,?_⟩
   unfold q2X
   rw[if_neg (by rw[hb];decide),a1]
   simp only[]
   rw[hh]
   rfl
def q2s (s:By):PInfo:=⟨j1o s,j1p s,j1n s⟩
theorem q9B {s:By}(h:(q1m s).1≠0):q2s s=⟨false,false,0⟩∧zA s=q1m s:=by
 have e:zA s=q1m s:=by unfold zA;rw[if_pos h]
 have e1:¬(zA s).1=0:=by rw[e];exact h
 refine⟨?_,e⟩
 unfold q2s j1o j1p j1n
 rw[decide_eq_false e1,if_neg e1]
 rfl
theorem j0Y {s:By}(h:(q1m s).1=0):q3X (qb s)=(q2s s,(zA s).1,(zA s).2):=by
 have e:zA s=q0J (qb s):=by unfold zA;rw[if_neg (by simp[h])]
 unfold q3X q2s j1o j1p j1n
 rw[e]
 by_cases hc:(q0J (qb s)).1=0
 ·rw[if_pos hc,if_pos hc,decide_eq_true hc,hc,j0m hc]
  rfl
 ·rw[if_neg hc,if_neg hc,decide_eq_false hc]
  rfl
theorem parse_no (ts:List PTok)(pb:q2j ts=false)(bt ct:Nat)(w:World)(h:ToksAt w bt ct ts) :
  Calls Tryz.prog 64 #[.slice (some ⟨bt,0,none⟩) ts.length ct] w fun e w'=>∃nv,e=.returned (.tuple #[nv,.int .i64 (q2X ts),.bool false])∧Below w.heap.size w w':=by
 refine(j3o bt ct ts w h).mono ?_
 rintro e w' ⟨nv,he,_,hb⟩
 rw[pb]at he
 exact⟨nv,he,hb⟩
theorem j9O (ts:List PTok)(F:zg)(pb:q2j ts=true)(pa:q2X ts=0)(hnd:(q0i ts 8 0 0).2.2=q0p F 0)(bt ct:Nat)(w:World)(h:ToksAt w bt ct ts) :
  Calls Tryz.prog 64 #[.slice (some ⟨bt,0,none⟩) ts.length ct] w fun e w'=>∃nv,e=.returned (.tuple #[nv,.int .i64 0,.bool true])∧w'.ownsRow (w.heap.size+1) 166 22 nv (zv F) (qw (q0p F 0))∧Below w.heap.size w w':=by
 refine(j3o bt ct ts w h).mono ?_
 rintro e w' ⟨nv,he,ho,hb⟩
 rw[pb,pa]at he
 have ho:=ho pb
 rw[hnd,q1S]at ho
 exact⟨nv,he,ho,hb⟩
def j2Y (t:PTok):List Value:=q4f t.kind t.pos t.size t.val t.name
theorem j7D (toks:List Tok)(L:Nat):q5C toks++q4f 0 L 0 0 []=(q1d toks L).flatMap j2Y:=by
 unfold q5C q1d
 rw[List.flatMap_append,List.flatMap_map]
 simp[j2Y,endT,q6P]
theorem ptk_at (l:List PTok)(i:Nat)(h:i<l.length)(j:Nat)(hj:j<12):(l.flatMap j2Y)[i*12+j]?=(j2Y l[i])[j]?:=by
 induction l generalizing i with
 |nil=>simp at h
 |cons n r ih =>
  have e2:(j2Y n).length=12:=rfl
  rw[List.flatMap_cons]
  cases i with
  |zero=>rw[List.getElem?_append_left (by omega)];simp
  |succ i =>
   have hi:i<r.length:=by simpa using h
   rw[List.getElem?_append_right (by omega),e2,show(i+1)*12+j-12=i*12+j by omega,ih i hi]
   rfl
theorem ToksAt.of_row {w:World}{base bt ct:Nat}{ts:List PTok}(h:w.ownsRow base 187 12 (.slice (some ⟨bt,0,none⟩) ts.length ct) ts.length (ts.flatMap j2Y))(hl:ts.length≤1000):ToksAt w bt ct ts:=by
 refine⟨?_,(h.lt bt rfl).2,fun i hi j hj=>?_⟩
 ·rcases h.2 with⟨h',_⟩|⟨g',cap',cur,h',_,_,a,b,_⟩
  ·simp at h'
  ·simp only[Value.slice.injEq,Option.some.injEq,Addr.mk.injEq,and_true,true_and]at h'
   obtain⟨rfl,rfl⟩:=h'
   exact⟨a,b,hl⟩
 ·rw[h.cellAt _ (by omega)]
  exact ptk_at ts i hi j hj
theorem j4d {P:Program}{fn:Func}{a p q r:Tmp}{ty:TypeId}(h:fn.results=#[.tmp a,.cell p ty,.tmp q,.tmp r])(tmps:Array Value)(w:World)(g:Nat)(va v vq vr:Value)(ha:tmps.getD a undef=va)(hp:tmps.getD p undef=.pointer (some ⟨g,0,none⟩))(hq:tmps.getD q undef=vq)(hr:tmps.getD r undef=vr)
  (hl:(loadVar ty ⟨g,0,none⟩).run P w=.ok v w):(results fn tmps).run P w=.ok (.tuple #[va,v,vq,vr]) w:=by
 have ha':tmps[a]?.getD undef=va:=by simpa using ha
 have hp':tmps[p]?.getD undef=.pointer (some ⟨g,0,none⟩):=by simpa using hp
 have hq':tmps[q]?.getD undef=vq:=by simpa using hq
 have hr':tmps[r]?.getD undef=vr:=by simpa using hr
 simp[results,h,ha',hp',hq',hr',asAddr,hl]
theorem j9v (w:World)(b:Nat)(rx ry:Bool)(rr:Int)(h:w.rangeAt b 0 [.bool rx,.bool ry,.int .i64 rr]):(loadVar 88 ⟨b,0,none⟩).run Tryz.prog w.drew=.ok (.agg #[.bool rx,.bool ry,.int .i64 rr]) w.drew:=
 run_loadVar_mid w.drew b 0 88 [.bool rx,.bool ry,.int .i64 rr] _ h Tryz.underlying88 rfl (by kernel_rfl)
theorem j7i (w:World)(b:Nat)(rx ry:Bool)(rr:Int)(h:w.rangeAt b 0 [.bool rx,.bool ry,.int .i64 rr]):(loadVar 88 ⟨b,0,none⟩).run Tryz.prog w=.ok (.agg #[.bool rx,.bool ry,.int .i64 rr]) w:=
 run_loadVar_mid w b 0 88 [.bool rx,.bool ry,.int .i64 rr] _ h Tryz.underlying88 rfl (by kernel_rfl)
theorem j6c {P:Program}{fn:Func}{p q r:Tmp}{ty:TypeId}(h:fn.results=#[.cell p ty,.tmp q,.tmp r])(tmps:Array Value)(w:World)(g:Nat)(v vq vr:Value)(hp:tmps.getD p undef=.pointer (some ⟨g,0,none⟩))(hq:tmps.getD q undef=vq)(hr:tmps.getD r undef=vr)
  (hl:(loadVar ty ⟨g,0,none⟩).run P w=.ok v w):(results fn tmps).run P w=.ok (.tuple #[v,vq,vr]) w:=by
 have hp':tmps[p]?.getD undef=.pointer (some ⟨g,0,none⟩):=by simpa using hp
 have hq':tmps[q]?.getD undef=vq:=by simpa using hq
 have hr':tmps[r]?.getD undef=vr:=by simpa using hr
 simp[results,h,hp',hq',hr',asAddr,hl]
theorem j5f (w3:World)(b:Nat)(rx ry:Bool)(rr:Int){v0 v1 v2:Value}(t0:w3.cell? ⟨b,0,none⟩=some v0)(t1:w3.cell? ⟨b,1,none⟩=some v1)(t2:w3.cell? ⟨b,2,none⟩=some v2):(((w3.setCell ⟨b,0,none⟩ (.bool rx)).setCell ⟨b,1,none⟩ (.bool ry)).setCell ⟨b,2,none⟩ (.int .i64 rr)).rangeAt b 0 [.bool rx,.bool ry,.int .i64 rr]:=by
 intro j v hv
 have hj:j<3:=(List.getElem?_eq_some_iff.1 hv).1
 rw[Nat.zero_add]
 rcases(by omega:j=0∨j=1∨j=2)with rfl|rfl|rfl
 ·simp at hv
  rw[zX _ _ _ _ (by simp),zX _ _ _ _ (by simp),zS _ _ _ t0,hv]
 ·simp at hv
  have q:(w3.setCell ⟨b,0,none⟩ (.bool rx)).cell? ⟨b,1,none⟩=some v1:=by rw[zX _ _ _ _ (by simp)];exact t1
  rw[zX _ _ _ _ (by simp),zS _ _ _ q,hv]
 ·simp at hv
  have q:((w3.setCell ⟨b,0,none⟩ (.bool rx)).setCell ⟨b,1,none⟩ (.bool ry)).cell? ⟨b,2,none⟩=some v2:=by rw[zX _ _ _ _ (by simp),zX _ _ _ _ (by simp)];exact t2
  rw[zS _ _ _ q,hv]
theorem j1E {w:World}{b b':Nat}{e:TypeId}{size:Nat}{v:Value}{n:Nat}{xs:List Value}(hb:b≤b')(h:w.ownsRow b' e size v n xs):w.ownsRow b e size v n xs:=by
 refine⟨h.1,?_⟩
 rcases h.2 with h|⟨g,cap,cur,h1,h2,h3⟩
 ·exact .inl h
 ·exact .inr ⟨g,cap,cur,h1,zM hb h2,h3⟩
theorem j6G (s:By)(hs64:s.length≤maxLen)(w:World) :
  Calls Tryz.prog 46 #[bs s] w fun e w'=>∃nv,e=.returned (.tuple #[nv,q2g (q2s s),.int .i64 (zA s).1,.int .i64 (zA s).2])∧((zA s).1=0→w'.ownsRow w.heap.size 166 22 nv (zv (qb s)) (qw (q0p (qb s) 0)))∧Below w.heap.size w w':=by
 by_cases h240:240<s.length
 ·have hr:q1m s=(1,0):=by unfold q1m;rw[if_pos h240]
  obtain⟨e1,e2⟩:=q9B (s:=s) (by rw[hr];decide)
  rw[e1,e2,hr]
  unfold maxLen at hs64
  clear e1 e2 hr
  go_enter Tryz.func46,Tryz.ntmps46
  go_wp2_with fail
  exact zP (v:=.tuple #[.slice none 0 0,q2g ⟨false,false,0⟩,.int .i64 1,.int .i64 0]) (by simp[results,Tryz.results46,go_sem]) rfl ⟨.slice none 0 0,rfl,fun h=>absurd h (by decide),(zB _ _).alloc (zL _) _⟩
 ·have hsp:=z0t s (by omega)
  have hll:=j3R s
  have HPC:=zb (j7y s h240)
  have HG:Hid (q5E (q0Y s).1):=zb (q5R s)
  by_cases hz:0≤(q0Y s).2
  ·have hr:q1m s=(2,(q0Y s).2):=by unfold q1m;rw[if_neg h240,if_pos hz]
   obtain⟨e1,e2⟩:=q9B (s:=s) (by rw[hr];simp)
   rw[e1,e2,hr]
   have hb:q5K (q0Y s).2=false:=by unfold q5K;exact decide_eq_false (by omega)
   have hp:q7k (q0Y s).2=(q0Y s).2:=by unfold q7k;rw[if_pos hz]
   rw[hb,hp]at hsp
   clear e1 e2 hr HPC HG hb hp
   generalize (q0Y s).2=z at *
   go_enter Tryz.func46,Tryz.ntmps46
   go_wp2_with fail
   refine(hsp _).mono ?_
   rintro e w1 ⟨v,rfl,_,b1⟩
   have hR:ResAt w1 w.heap.size:=⟨by rw[b1.block w.heap.size (by simp)];exact zN _ _⟩
   obtain⟨t0,t1,t2,t3,t4⟩:=hR.facts
   have HB:Hid (Below w.heap.size w w1):=zb (((zB _ _).alloc (zL _) _).trans (b1.mono (by simp)))
   clear hR b1 hsp
   go_wp2_with fail
   exact zP (v:=.tuple #[.slice none 0 0,q2g ⟨false,false,0⟩,.int .i64 2,.int .i64 z]) (by simp[results,Tryz.results46,go_sem,t0,t1,t2]) rfl ⟨.slice none 0 0,rfl,fun h=>absurd h (by decide),((HB.out.setCell (zL _) _).setCell (zL _) _).setCell (zL _) _⟩
  ·have hb:q5K (q0Y s).2=true:=by unfold q5K;exact decide_eq_true (by omega)
   have hp:q7k (q0Y s).2=0:=by unfold q7k;rw[if_neg hz]
   rw[hb,hp]at hsp
   have hpc:=HPC.out hz
   have hcells:=j7D (q0Y s).1 s.length
   have hts:(q1d (q0Y s).1 s.length).length=(q0Y s).1.length+1:=by unfold q1d;simp
   obtain⟨ts,hte⟩:∃ts,ts=q1d (q0Y s).1 s.length:=⟨_,rfl⟩
   rw[←hte]at hpc hcells hts
   rw[hcells,←hts]at hsp
   have hl1:ts.length≤241:=by omega
   have hl0:0<ts.length:=by omega
   clear hb hp hcells hte HPC
   rcases hpc with⟨pb,hr⟩|⟨pb,pa,hr0,hnd⟩
   ·obtain⟨e1,e2⟩:=q9B (s:=s) (by rw[hr];simp)
    rw[e1,e2,hr]
    have hpar:=parse_no ts pb
    generalize q2X ts=pa at *
    clear e1 e2 hr pb HG hts hll
    go_enter Tryz.func46,Tryz.ntmps46
    go_wp2_with fail
    refine(hsp _).mono ?_
    rintro e w1 ⟨v,rfl,hown,b1⟩
    have hown:=hown (by trivial)
    have hR:ResAt w1 w.heap.size:=⟨by rw[b1.block w.heap.size (by simp)];exact zN _ _⟩
    have HB:Hid (Below w.heap.size w w1):=zb (((zB _ _).alloc (zL _) _).trans (b1.mono (by simp)))
    obtain⟨bt,ct,rfl⟩:=zJ hown (by omega)
    have hpar:=hpar bt ct w1 (ToksAt.of_row hown (by omega))
    have HP:=zb hpar
    have HR:=zb hR
    clear hown hR b1 hsp hpar
    go_wp2_with fail
    refine(HP.out).mono ?_
    rintro e w2 ⟨nv,rfl,b2⟩
    obtain⟨t0,t1,t2,t3,t4⟩:=(HR.out.below b2 HR.out.facts.2.2.2.2).facts
    have HB2:Hid (Below w.heap.size w w2):=zb (HB.out.trans (b2.mono HB.out.size))
    clear b2 HP
    go_wp2_with fail
    exact zP (v:=.tuple #[.slice none 0 0,q2g ⟨false,false,0⟩,.int .i64 3,.int .i64 pa]) (by simp[results,Tryz.results46,go_sem,t0,t1,t2]) rfl ⟨.slice none 0 0,rfl,fun h=>absurd h (by decide),((HB2.out.setCell (zL _) _).setCell (zL _) _).setCell (zL _) _⟩
   ·have hgd:=j0Y hr0
    have e1:q2s s=(q3X (qb s)).1:=by rw[hgd]
    have e2:(zA s).1=(q3X (qb s)).2.1:=by rw[hgd]
    have e3:(zA s).2=(q3X (qb s)).2.2:=by rw[hgd]
    rw[e1,e2,e3]
    have hrd:=q7J hr0
    have hfo:=j5U _ _ hrd HG.out
    have hsm:=j5W _ _ hrd HG.out
    have hsz:=j2f _ _ hrd
    rw[q0f]at hsz
    have hne:=q3L hrd
    generalize qb s=F at *
    have hpos:0<zv F:=(q3N hne).2
    have hpar:=j9O ts F pb pa hnd
    have hru:=fun gn cn w h=>j9X F hfo hsm (by omega) hne gn cn w h
    generalize q3X F=r at *
    obtain⟨⟨rx,ry,rr⟩,rerr,rpl⟩:=r
    have HRU:=zb hru
    have hlen:(q0p F 0).length=zv F:=q1S F 0
    have HLEN:=zb hlen
    clear e1 e2 e3 hgd hr0 pb pa hnd hrd hfo hsm hsz hne HG hru hts hll hlen
    go_enter Tryz.func46,Tryz.ntmps46
    go_wp2_with fail
    refine(hsp _).mono ?_
    rintro e w1 ⟨v,rfl,hown,b1⟩
    have hown:=hown (by trivial)
    have hR:ResAt w1 w.heap.size:=⟨by rw[b1.block w.heap.size (by simp)];exact zN _ _⟩
    have HB:Hid (Below w.heap.size w w1):=zb (((zB _ _).alloc (zL _) _).trans (b1.mono (by simp)))
    obtain⟨bt,ct,rfl⟩:=zJ hown (by omega)
    have hpar:=hpar bt ct w1 (ToksAt.of_row hown (by omega))
    have HP:=zb hpar
    have HR:=zb hR
    clear hown hR b1 hsp hpar
    go_wp2_with fail
    refine(HP.out).mono ?_
    rintro e w2 ⟨nv,rfl,hown2,b2⟩
    obtain⟨gn,cn,rfl⟩:=zJ hown2 hpos
    have hna:NodesAt w2 gn cn (q0p F 0):=NodesAt.of_row (by rw[HLEN.out];exact hown2)
    have hr2:=HR.out.below b2 HR.out.facts.2.2.2.2
    have HR2:=zb hr2
    have HB2:Hid (Below w.heap.size w w2):=zb (HB.out.trans (b2.mono HB.out.size))
    have hcall:=HRU.out gn cn w2 hna
    have HC:=zb hcall
    have HOW:=zb hown2
    clear hown2 b2 HP hna hr2 hcall HRU
    go_wp2_with fail
    refine(HC.out).mono ?_
    rintro e w3 ⟨rfl,b3⟩
    obtain⟨t0,t1,t2,t3,t4⟩:=(HR2.out.below b3 HR2.out.facts.2.2.2.2).facts
    have HB3:Hid (Below w.heap.size w w3):=zb (HB2.out.trans (b3.mono HB2.out.size))
    have HOW3:=zb (zp HOW.out b3)
    have hlw:w.heap.size<w1.heap.size:=HR.out.facts.2.2.2.2
    clear b3 HC HOW
    go_wp2_with fail
    go_region
    go_wp2_with fail
    have hown:=ownsRow_setCell_below (a:=⟨w.heap.size,2,none⟩) (ownsRow_setCell_below (a:=⟨w.heap.size,1,none⟩) (ownsRow_setCell_below (a:=⟨w.heap.size,0,none⟩) HOW3.out (by simp;omega) (.bool rx)) (by simp;omega) (.bool ry)) (by simp;omega) (.int .i64 rr)
    have hres:=j5f w3 w.heap.size rx ry rr t0 t1 t2
    have hB:=((HB3.out.setCell (p:=⟨w.heap.size,0,none⟩) (zL _) (.bool rx)).setCell (p:=⟨w.heap.size,1,none⟩) (zL _) (.bool ry)).setCell (p:=⟨w.heap.size,2,none⟩) (zL _) (.int .i64 rr)
    generalize ((w3.setCell ⟨w.heap.size,0,none⟩ (.bool rx)).setCell ⟨w.heap.size,1,none⟩ (.bool ry)).setCell ⟨w.heap.size,2,none⟩ (.int .i64 rr)=W4 at *
    exact zP (v:=.tuple #[.slice (some ⟨gn,0,none⟩) (zv F) cn,q2g ⟨rx,ry,rr⟩,.int .i64 rerr,.int .i64 rpl]) (j4d rfl _ _ w.heap.size _ _ _ _ rfl rfl rfl rfl (j9v _ _ _ _ _ (World.rangeAt_alloc hres _))) rfl ⟨_,rfl,fun _=>j1E (by omega) (hown.alloc (.cells #[.bool rx,.bool ry,.int .i64 rr] 88)),(hB.alloc hB.size _).drew⟩
theorem q6g (s:By)(hs64:s.length≤maxLen)(w:World) :
  Calls Tryz.prog 37 #[bs s] w fun e w'=>e=.returned (.tuple #[q2g (q2s s),.int .i64 (zA s).1,.int .i64 (zA s).2])∧Below w.heap.size w w':=by
 have h1:=j6G s hs64
 generalize q2s s=ic at *
 obtain⟨x,y,r⟩:=ic
 generalize zA s=c at *
 obtain⟨ce,cp⟩:=c
 simp only[]at h1
 go_enter Tryz.func37,Tryz.ntmps37
 go_wp2_with fail
 refine(h1 _).mono ?_
 rintro e w1 ⟨nv,rfl,_,b1⟩
 have hR:ResAt w1 w.heap.size:=⟨by rw[b1.block w.heap.size (by simp)];exact zN _ _⟩
 obtain⟨t0,t1,t2,t3,t4⟩:=hR.facts
 have HB:Hid (Below w.heap.size w w1):=zb (((zB _ _).alloc (zL _) _).trans (b1.mono (by simp)))
 clear hR b1 h1
 go_wp2_with fail
 have hres:=j5f w1 w.heap.size x y r t0 t1 t2
 have hB:=((HB.out.setCell (p:=⟨w.heap.size,0,none⟩) (zL _) (.bool x)).setCell (p:=⟨w.heap.size,1,none⟩) (zL _) (.bool y)).setCell (p:=⟨w.heap.size,2,none⟩) (zL _) (.int .i64 r)
 generalize ((w1.setCell ⟨w.heap.size,0,none⟩ (.bool x)).setCell ⟨w.heap.size,1,none⟩ (.bool y)).setCell ⟨w.heap.size,2,none⟩ (.int .i64 r)=W4 at *
 exact zP (v:=.tuple #[q2g ⟨x,y,r⟩,.int .i64 ce,.int .i64 cp]) (j6c rfl _ _ w.heap.size _ _ _ rfl rfl rfl (j7i _ _ _ _ _ (World.rangeAt_alloc hres _))) rfl ⟨rfl,hB.alloc hB.size _⟩
structure ScrAt (w:World)(b off len:Nat)(K:Nat→Int)(S:Nat→By):Prop where
 cells:∀i,i<len→w.cell? ⟨b,off+i*4,none⟩=some (.int .i64 (K i))∧w.cell? ⟨b,off+i*4+3,none⟩=some (bs (S i))∧(S i).length≤maxLen
 lt:b<w.heap.size
 len:len≤maxLen
theorem ScrAt.below {w w':World}{b off len:Nat}{K:Nat→Int}{S:Nat→By}(h:ScrAt w b off len K S)(hb:Below w.heap.size w w'):ScrAt w' b off len K S:=
 ⟨fun i hi=>by
  obtain⟨h1,h2,h3⟩:=h.cells i hi
  exact⟨by rw[zK (w:=w) (hb.block b h.lt)];exact h1,by rw[zK (w:=w) (hb.block b h.lt)];exact h2,h3⟩,zT h.lt hb.size,h.len⟩
abbrev j2O (nv:Value)(x y:Bool)(r:Int)(vp:Value)(told:Int)(ended:Bool):Array Value:=#[nv,.bool x,.bool y,.int .i64 r,vp,.int .i64 told,.bool ended]
theorem j6E (s:By)(hs64:s.length≤maxLen)(w:World) :
  Calls Tryz.prog 29 #[bs s] w fun e w'=>∃p,e=.returned (.tuple #[.pointer p,.int .i64 (zA s).1,.int .i64 (zA s).2])∧(p=none↔(zA s).1≠0) ∧
   ((zA s).1=0→∃b nv,p=some ⟨b,0,none⟩∧w.heap.size≤b∧w'.heap[b]?=some (.cells (j2O nv (q2s s).x (q2s s).y (q2s s).reach (.slice none 0 0) 0 false) 93 (0,0))∧w'.ownsRow w.heap.size 166 22 nv (zv (qb s)) (qw (q0p (qb s) 0)))∧Below w.heap.size w w':=by
 have h1:=j6G s hs64
 have HP2:Hid ((zA s).1=0→(zA s).2=0):=fun h=>q5t h
 generalize q2s s=ic at *
 obtain⟨x,y,r⟩:=ic
 generalize zA s=c at *
 obtain⟨ce,cp⟩:=c
 simp only[]at h1
 by_cases hc:ce=0
 ·have hp:cp=0:=HP2.out hc
  subst hc hp
  go_enter Tryz.func29,Tryz.ntmps29
  go_wp2_with fail
  refine(h1 _).mono ?_
  rintro e w1 ⟨nv,rfl,hown,b1⟩
  have hown:=hown (by trivial)
  obtain⟨na,nc,rfl⟩:=qn hown
  have HB:=zb b1
  have HO:=zb hown
  clear b1 h1 hown
  go_wp2_with fail
  go_ret3
  have B3:=(HB.out.alloc HB.out.size (.cells #[.bool x,.bool y,.int .i64 r] 88)).alloc (by have:=HB.out.size;simp;omega) (.cells (j2O (.slice na (zv (qb s)) nc) x y r (.slice none 0 0) 0 false) 93)
  refine⟨_,rfl,by simp,fun _=>⟨w1.heap.size+1,_,rfl,by have:=HB.out.size;omega,?_,(HO.out.alloc _).alloc _⟩,B3⟩
  have:=zN (w1.alloc (.cells #[.bool x,.bool y,.int .i64 r] 88)) (.cells (j2O (.slice na (zv (qb s)) nc) x y r (.slice none 0 0) 0 false) 93)
  simpa using this
 ·have hne:(ce != 0)=true:=by simpa using hc
  go_enter Tryz.func29,Tryz.ntmps29
  go_wp2_with fail
  refine(h1 _).mono ?_
  rintro e w1 ⟨nv,rfl,_,b1⟩
  have HB:=zb b1
  clear b1 h1
  go_wp2_with fail
  go_ret3
  exact⟨none,rfl,by simp[hc],fun h=>absurd h hc,HB.out.alloc HB.out.size _⟩
theorem vig_New (s:By)(hs64:s.length≤maxLen)(w:World) :
  Calls Tryz.prog 29 #[bs s] w fun e w'=>∃p,e=.returned (.tuple #[.pointer p,.int .i64 (zA s).1,.int .i64 (zA s).2])∧(p=none↔(zA s).1≠0)∧Below w.heap.size w w':=by
 refine(j6E s hs64 w).mono ?_
 rintro e w1 ⟨p,h1,h2,_,h3⟩
 exact⟨p,h1,h2,h3⟩
end Go.Proofs.YtiamjjonoeaggabGreatDoor
