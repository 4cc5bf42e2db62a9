import Derived.Test.YtiamjjonoeaggaaGreatDoorGA
import Derived.Test.YtiamjjonoeaggaaGreatDoorGB
import Derived.Test.YtiamjjonoeaggaaGreatDoorG09
set_option maxRecDepth 100000
set_option maxHeartbeats 16000000
namespace Go.Proofs.YtiamjjonoeaggaaGreatDoor
open Go.RowKit
abbrev q5z (h:Hp):List Value:=[.int .u8 (zn h.nm 0),.int .u8 (zn h.nm 1),.int .u8 (zn h.nm 2),.int .u8 (zn h.nm 3),.int .u8 (zn h.nm 4),.int .u8 (zn h.nm 5),.int .u8 (zn h.nm 6),.int .u8 (zn h.nm 7),.int .i64 (h.ds.getD 0 0:Nat),.int .i64 (h.ds.getD 1 0:Nat),.int .i64 h.ds.length]
abbrev q4A (h:Hp):Value:=.agg #[.int .u8 (zn h.nm 0),.int .u8 (zn h.nm 1),.int .u8 (zn h.nm 2),.int .u8 (zn h.nm 3),.int .u8 (zn h.nm 4),.int .u8 (zn h.nm 5),.int .u8 (zn h.nm 6),.int .u8 (zn h.nm 7),.int .i64 (h.ds.getD 0 0:Nat),.int .i64 (h.ds.getD 1 0:Nat),.int .i64 h.ds.length]
abbrev z11:Array Value:=#[.int .u8 0,.int .u8 0,.int .u8 0,.int .u8 0,.int .u8 0,.int .u8 0,.int .u8 0,.int .u8 0,.int .i64 0,.int .i64 0,.int .i64 0]
structure HapAt (w:World)(b:Nat)(cs:List Value):Prop where
 len:cs.length=11
 cells:∀j,j<11→w.cell? ⟨b,j,none⟩=cs[j]?
 free:∀j,w.frozen? ⟨b,j,none⟩=false
 lt:b<w.heap.size
theorem HapAt.of_row {w:World}{b:Nat}{cs:List Value}{t:TypeId}(hl:cs.length=11)(h:w.heap[b]?=some (.cells cs.toArray t (0,0))):HapAt w b cs:=by
 refine⟨hl,fun j hj=>?_,fun j=>zF _ _ j _ _ h,?_⟩
 ·rw[zC _ _ j _ _ _ h,List.getElem?_toArray]
 ·rcases Nat.lt_or_ge b w.heap.size with g|g
  ·exact g
  ·rw[Array.getElem?_eq_none g]at h;simp at h
theorem HapAt.set {w:World}{b:Nat}{cs:List Value}(h:HapAt w b cs)(o:Nat)(ho:o<11)(u:Value):HapAt (w.setCell ⟨b,o,none⟩ u) b (cs.set o u):=by
 have hl:=h.len
 refine⟨by simpa using h.len,fun j hj=>?_,fun q=>by rw[World.frozen?_setCell];exact h.free q,by simpa using h.lt⟩
 by_cases e:j=o
 ·subst e
  have hc:=h.cells j ho
  rw[zG (by omega)]at hc
  rw[zS w _ _ hc,List.getElem?_set_self (by omega)]
 ·rw[zX w _ _ _ (by intro q;injection q with q1 q2;exact e q2.symm),List.getElem?_set_ne (by omega)]
  exact h.cells j hj
theorem HapAt.only {w w':World}{bl:List Nat}{b:Nat}{cs:List Value}(h:HapAt w b cs)(ho:OnlyB bl w w')(hn:b∉bl):HapAt w' b cs:=
 ⟨h.len,fun j hj=>by rw[ho.cell h.lt hn];exact h.cells j hj,fun o=>by rw[ho.frozen h.lt hn];exact h.free o,zT h.lt ho.size⟩
theorem HapAt.load {w:World}{b:Nat}{cs:List Value}(h:HapAt w b cs):(Instr.loadAt 130 (.pointer (some ⟨b,0,none⟩))).run Tryz.prog w=.ok (.agg cs.toArray) w:=
 run_loadAt_mid w b 0 130 cs _ (fun j v hv=>by rw[Nat.zero_add,h.cells j (by have:=(List.getElem?_eq_some_iff.1 hv).1;have:=h.len;omega)];exact hv) Tryz.underlying130 rfl (by rw[h.len];kernel_rfl)
theorem HapAt.loadV {w:World}{b:Nat}{cs:List Value}(h:HapAt w b cs):(loadVar 130 ⟨b,0,none⟩).run Tryz.prog w=.ok (.agg cs.toArray) w:=
 run_loadVar_mid w b 0 130 cs _ (fun j v hv=>by rw[Nat.zero_add,h.cells j (by have:=(List.getElem?_eq_some_iff.1 hv).1;have:=h.len;omega)];exact hv) Tryz.underlying130 rfl (by rw[h.len];kernel_rfl)
theorem hap_out {s:By}{w W:World}{br i:Nat}(hbr:br<w.heap.size)(hr:Rdr W br s i)(ho:OnlyB [br] w W)(hz:W.heap[w.heap.size]?=some (.cells z11 130 (0,0)))(h:Hp) :
  ∃W',(Instr.storeAt 130 (.pointer (some ⟨w.heap.size,0,none⟩)) (q4A h)).run Tryz.prog W=.ok () W'∧(loadVar 130 ⟨w.heap.size,0,none⟩).run Tryz.prog W'=.ok (q4A h) W'∧Rdr W' br s i∧OnlyB [br] w W':=by
 obtain⟨W',s1,s2,s3,s4,s5,s6,s7⟩:=q0j (P:=Tryz.prog) 130 130 W w.heap.size z11 #[.int .u8 (zn h.nm 0),.int .u8 (zn h.nm 1),.int .u8 (zn h.nm 2),.int .u8 (zn h.nm 3),.int .u8 (zn h.nm 4),.int .u8 (zn h.nm 5),.int .u8 (zn h.nm 6),.int .u8 (zn h.nm 7),.int .i64 (h.ds.getD 0 0:Nat),.int .i64 (h.ds.getD 1 0:Nat),.int .i64 h.ds.length] hz (by kernel_rfl) rfl (by simp[Value.oneCell'])
 have hne:br≠w.heap.size:=by omega
 refine⟨W',s1,(HapAt.of_row (cs:=q5z h) rfl s2).loadV,?_,⟨s5.trans ho.os,s6.trans ho.tape,s7.trans ho.output,by rw[s4];exact ho.size,fun q hq hn=>by rw[s3 q (by omega)];exact ho.block q hq hn⟩⟩
 exact⟨by rw[zK (w:=W) (s3 br hne)];exact hr.text,by rw[zK (w:=W) (s3 br hne)];exact hr.at',fun o=>by rw[World.frozen?_of_block (w:=W) (s3 br hne)];exact hr.free o,by rw[s4];exact hr.lt⟩
structure Mid (s:By)(w:World)(br i:Nat)(W:World):Prop where
 rd:Rdr W br s i
 on:OnlyB [br] w W
 lt:w.heap.size<W.heap.size
 z:W.heap[w.heap.size]?=some (.cells z11 130 (0,0))
theorem Mid.below {s:By}{w W W':World}{br i:Nat}(h:Mid s w br i W)(hb:Below W.heap.size W W'):Mid s w br i W':=
 ⟨h.rd.only (OnlyB.of_below (bl:=[]) hb) (by simp),h.on.trans (.of_below hb),zT h.lt hb.size,(hb.block _ h.lt).trans h.z⟩
theorem Mid.next {s:By}{w W W':World}{br i i':Nat}(h:Mid s w br i W)(hbr:br<w.heap.size)(hr:Rdr W' br s i')(ho:OnlyB [br] W W'):Mid s w br i' W':=
 ⟨hr,h.on.trans ho,zT h.lt ho.size,(ho.block _ h.lt (by simp;omega)).trans h.z⟩
theorem Mid.start {s:By}{w:World}{br i:Nat}(h:Rdr w br s i):Mid s w br i (w.alloc (.cells z11 130)):=by
 have B:Below w.heap.size w (w.alloc (.cells z11 130)):=(zB _ _).alloc (zL _) _
 exact⟨h.only (OnlyB.of_below (bl:=[]) B) (by simp),.of_below B,by simp,zN _ _⟩
theorem Mid.out {s:By}{w W:World}{br i:Nat}(h:Mid s w br i W)(hbr:br<w.heap.size)(hp:Hp) :
 ∃W',(Instr.storeAt 130 (.pointer (some ⟨w.heap.size,0,none⟩)) (q4A hp)).run Tryz.prog W=.ok () W'∧(loadVar 130 ⟨w.heap.size,0,none⟩).run Tryz.prog W'=.ok (q4A hp) W'∧Rdr W' br s i∧OnlyB [br] w W':=hap_out hbr h.rd h.on h.z hp
theorem Mid.setNew {s:By}{w W:World}{br i b o:Nat}(h:Mid s w br i W)(hbr:br<w.heap.size)(hb:w.heap.size<b)(u:Value):Mid s w br i (W.setCell ⟨b,o,none⟩ u):=
 ⟨h.rd.other (by omega) u,h.on.setNew (by omega) u,by simpa using h.lt,by rw[Below.heap_setCell _ _ _ _ (by simp;omega)];exact h.z⟩
theorem Mid.fin {s:By}{w W:World}{br i b:Nat}(h:Mid s w br i W)(hbr:br<w.heap.size)(hp:Hp)(ha:HapAt W b (q5z hp)) :
  ∃V,V=q4A hp∧(Instr.loadAt 130 (.pointer (some ⟨b,0,none⟩))).run Tryz.prog W=.ok V W∧∃W',(Instr.storeAt 130 (.pointer (some ⟨w.heap.size,0,none⟩)) V).run Tryz.prog W=.ok () W'∧(loadVar 130 ⟨w.heap.size,0,none⟩).run Tryz.prog W'=.ok V W'∧Rdr W' br s i∧OnlyB [br] w W':=by
 obtain⟨W',h1,h2,h3,h4⟩:=h.out hbr hp
 exact⟨_,rfl,ha.load,W',h1,h2,h3,h4⟩
theorem q7S (s:By)(hs:s.length≤80)(br i:Nat)(hi:i≤s.length)(w:World)(h:Rdr w br s i)(R:Bool × Nat × Hp)(hR:q2H s i=R) :
  Calls Tryz.prog 55 #[.pointer (some ⟨br,0,none⟩)] w fun e w'=>e=.returned (.tuple #[q4A R.2.2,.bool R.1])∧Rdr w' br s R.2.1∧OnlyB [br] w w':=by
 have hbr:=h.lt
 have HM:=zb (Mid.start h)
 unfold q2H at hR
 clear h
 by_cases h1:cI s i=32
 ·rw[if_pos h1]at hR
  have hn:=q9y s 8 (i+1) (by have:=q2I (s:=s) (i:=i) (by omega);omega)
  have HT:=zb (fun W (h:Rdr W br s i)=>q1V s hs br i (by omega) 32 h1 W h)
  have HN:=zb (fun W (h:Rdr W br s (i+1))=>log_name s hs br (i+1) (by omega) W h (nmF s 8 (i+1)) rfl)
  have HR:=zb hR
  clear h1 hR
  go_enter Tryz.func55,Tryz.ntmps55
  go_wp2_with fail
  refine(HT.out _ HM.out.rd).mono ?_
  rintro e w1 ⟨rfl,r1,o1⟩
  have M1:=HM.out.next hbr r1 o1
  have HM1:=zb M1
  clear r1 o1 M1 HM HT
  go_wp2_with fail
  refine(HN.out _ HM1.out.rd).mono ?_
  rintro e w2 ⟨rfl,r2,o2⟩
  have M2:=HM1.out.next hbr r2 o2
  have hcl:(cut s (i+1) (nmF s 8 (i+1))).length=nmF s 8 (i+1)-(i+1):=by unfold cut;simp;omega
  generalize nmF s 8 (i+1)=j at *
  generalize cut s (i+1) j=nm at *
  have hj:j≤s.length:=hn.2.1
  obtain⟨W3,S3,g3,b3,z3⟩:=qI (P:=Tryz.prog) 127 w2 z8 #[.int .u8 (zn nm 0),.int .u8 (zn nm 1),.int .u8 (zn nm 2),.int .u8 (zn nm 3),.int .u8 (zn nm 4),.int .u8 (zn nm 5),.int .u8 (zn nm 6),.int .u8 (zn nm 7)] (by kernel_rfl) rfl (by simp[Value.oneCell'])
  have HM3:=zb (M2.below b3)
  have HW3:Hid (WArr W3 w2.heap.size nm):=zb (WArr.of_row g3)
  have hb1:w2.heap.size<W3.heap.size:=by omega
  have hb1r:w2.heap.size≠br:=by have:=M2.lt;omega
  obtain⟨V,hV⟩:∃V,V=q3U nm:=⟨_,rfl⟩
  have S3':(Instr.storeAt 127 (.pointer (some ⟨w2.heap.size,0,none⟩)) V).run Tryz.prog (w2.alloc (.cells z8 127))=.ok () W3:=by rw[hV];exact S3
  rw[←hV]
  have HV:=zb hV
  clear r2 o2 M2 HM1 HN b3 g3 z3 S3 hV hcl
  by_cases h2:i+1<j
  ·have hR:=HR.out
   rw[if_pos h2]at hR
   have HR:=zb hR
   rw[decide_eq_true h2]
   clear hR
   by_cases h3:cI s j=40
   ·have hR:=HR.out
    rw[if_pos h3]at hR
    have HT:=zb (fun W (h:Rdr W br s j)=>q1V s hs br j (by omega) 40 h3 W h)
    have HR:=zb hR
    have hj1:=q2I (s:=s) (i:=j) (by omega)
    clear hR h3
    go_wp2_with (refine ze rfl 127 (.tmp 4) (.tmp 17) rfl ⟨w2.heap.size,0,none⟩ V rfl rfl W3 S3' ?_)
    refine(HT.out _ HM3.out.rd).mono ?_
    rintro e w4 ⟨rfl,r4,o4⟩
    have HM4:=zb (HM3.out.next hbr r4 o4)
    have HO4:=zb o4
    clear r4 o4 HM3 HT S3'
    by_cases h4:zQ (cI s (j+1))=true
    ·have hR:=HR.out
     rw[if_pos h4]at hR
     have hj2:=(q3o h4).1
     have hd9:=(j0M h4).2
     have HT:=zb (fun W (h:Rdr W br s (j+1))=>q7R s hs br (j+1) (by omega) h4 W h)
     generalize dI s (j+1)=d at *
     have HR:=zb hR
     clear hR h4
     go_wp2_with fail
     refine(HT.out _ HM4.out.rd).mono ?_
     rintro e w5 ⟨rfl,r5,o5⟩
     have M5:=HM4.out.next hbr r5 o5
     have O5:=HO4.out.trans o5
     have L5:(Instr.loadAt 127 (.pointer (some ⟨w2.heap.size,0,none⟩))).run Tryz.prog w5=.ok (q3U nm) w5:=
      WArr.load ⟨fun q hq=>by rw[O5.cell hb1 (by simpa using hb1r)];exact HW3.out.cells q hq,fun q=>by rw[O5.frozen hb1 (by simpa using hb1r)];exact HW3.out.free q,zT hb1 O5.size⟩
     obtain⟨W6,S6,g6,b6,z6⟩:=qI (P:=Tryz.prog) 130 w5 z11 #[.int .u8 (zn nm 0),.int .u8 (zn nm 1),.int .u8 (zn nm 2),.int .u8 (zn nm 3),.int .u8 (zn nm 4),.int .u8 (zn nm 5),.int .u8 (zn nm 6),.int .u8 (zn nm 7),.int .i64 0,.int .i64 0,.int .i64 1] (by kernel_rfl) rfl (by simp[Value.oneCell'])
     have A6:HapAt W6 w5.heap.size [.int .u8 (zn nm 0),.int .u8 (zn nm 1),.int .u8 (zn nm 2),.int .u8 (zn nm 3),.int .u8 (zn nm 4),.int .u8 (zn nm 5),.int .u8 (zn nm 6),.int .u8 (zn nm 7),.int .i64 0,.int .i64 0,.int .i64 1]:=HapAt.of_row rfl g6
     have c8:=A6.cells 8 (by omega)
     have f8:=A6.free 8
     simp only[List.getElem?_cons_succ,List.getElem?_cons_zero]at c8
     have l6:=A6.lt
     have HA6:=zb A6
     have HM6:=zb (M5.below b6)
     have hb2:=M5.lt
     clear r5 o5 M5 O5 HM4 HO4 HT HW3 g6 b6 z6 A6
     go_wp2_with (first|(refine ze rfl 130 (.tmp 7) (.tmp 36) rfl ⟨w5.heap.size,0,none⟩ _ rfl rfl W6 S6 ?_)|(refine zj rfl 127 (.tmp 4) rfl ⟨w2.heap.size,0,none⟩ (q3U nm) rfl L5 ?_))
     generalize Value.agg _=g36
     have A7:=HA6.out.set 8 (by omega) (.int .i64 d)
     have HM7:=zb (HM6.out.setNew hbr hb2 (o:=8) (.int .i64 d))
     have HA7:=zb A7
     clear HM6 HA6 A7 c8 f8 S6 L5
     generalize W6.setCell ⟨w5.heap.size,8,none⟩ (.int .i64 d)=W7 at *
     have hb2r:w5.heap.size≠br:=by omega
     generalize w5.heap.size=b2 at *
     have hR:=HR.out
     unfold q7D at hR
     clear HV hb1 hb1r
     by_cases h5:cI s (j+2)=44
     ·rw[if_pos h5]at hR
      have HT:=zb (fun W (h:Rdr W br s (j+2))=>q1V s hs br (j+2) (by omega) 44 h5 W h)
      have hj3:=q2I (s:=s) (i:=j+2) (by omega)
      clear h5 HR
      refine(HT.out _ HM7.out.rd).mono ?_
      rintro e w8 ⟨rfl,r8,o8⟩
      have HM8:=zb (HM7.out.next hbr r8 o8)
      have HA8:=zb (HA7.out.only o8 (by simpa using hb2r))
      clear r8 o8 HM7 HA7 HT
      by_cases h6:zQ (cI s (j+2+1))=true
      ·rw[if_pos h6]at hR
       have hj4:=(q3o h6).1
       have HT:=zb (fun W (h:Rdr W br s (j+2+1))=>q7R s hs br (j+2+1) (by omega) h6 W h)
       generalize dI s (j+2+1)=d' at *
       clear h6
       have HR:=zb hR
       clear hR
       go_wp2_with fail
       refine(HT.out _ HM8.out.rd).mono ?_
       rintro e w9 ⟨rfl,r9,o9⟩
       have M9:=HM8.out.next hbr r9 o9
       have A9:=HA8.out.only o9 (by simpa using hb2r)
       have c9:=A9.cells 9 (by omega)
       have c10:=A9.cells 10 (by omega)
       have f9:=A9.free 9
       have f10:=A9.free 10
       have l9:=A9.lt
       simp only[List.set_cons_succ,List.set_cons_zero,List.getElem?_cons_succ,List.getElem?_cons_zero]at c9 c10
       have HM10:=zb ((M9.setNew hbr hb2 (o:=9) (.int .i64 d')).setNew hbr hb2 (o:=10) (.int .i64 2))
       have HA10:=zb ((A9.set 9 (by omega) (.int .i64 d')).set 10 (by omega) (.int .i64 2))
       clear r9 o9 M9 A9 HM8 HA8 HT
       by_cases h7:cI s (j+2+2)=41
       ·have hR:=HR.out
        rw[if_pos h7]at hR
        have HT:=zb (fun W (h:Rdr W br s (j+2+2))=>q1V s hs br (j+2+2) (by omega) 41 h7 W h)
        have HR:=zb hR
        clear hR h7
        go_wp2_with fail
        refine(HT.out _ HM10.out.rd).mono ?_
        rintro e w11 ⟨rfl,r11,o11⟩
        obtain⟨V',hV',L',W',S1,S2,S3,S4⟩:=(HM10.out.next hbr r11 o11).fin hbr ⟨nm,[d,d']⟩ (HA10.out.only o11 (by simpa using hb2r))
        have HV':=zb hV'
        clear r11 o11 HM10 HA10 HT hV'
        go_wp2_with (first|(refine zj rfl 130 (.tmp 7) rfl ⟨b2,0,none⟩ V' rfl L' ?_)|(refine ze rfl 130 (.tmp 2) (.tmp 58) rfl ⟨w.heap.size,0,none⟩ V' rfl rfl W' S1 ?_))
        exact zP (v:=.tuple #[V',.bool true]) (qg rfl _ _ _ _ _ rfl rfl S2) rfl ⟨by rw[HV'.out,←HR.out],by rw[←HR.out];exact S3,S4⟩
       ·have hR:=HR.out
        rw[if_neg h7]at hR
        have HT:=zb (fun W (h:Rdr W br s (j+2+2))=>q3v s hs br (j+2+2) (by omega) 41 h7 W h)
        have HR:=zb hR
        clear hR h7
        go_wp2_with fail
        refine(HT.out _ HM10.out.rd).mono ?_
        rintro e w11 ⟨rfl,b11⟩
        obtain⟨W',S1,S2,S3,S4⟩:=(HM10.out.below b11).out hbr ⟨[],[]⟩
        clear b11 HM10 HA10 HT
        go_wp2_with (refine ze rfl 130 (.tmp 2) (.tmp 57) rfl ⟨w.heap.size,0,none⟩ (q4A ⟨[],[]⟩) rfl rfl W' S1 ?_)
        exact zP (v:=.tuple #[q4A ⟨[],[]⟩,.bool false]) (qg rfl _ _ _ _ _ rfl rfl S2) rfl ⟨by rw[←HR.out],by rw[←HR.out];exact S3,S4⟩
      ·have h6':zQ (cI s (j+2+1))=false:=by simpa using h6
       rw[if_neg h6]at hR
       have HT:=zb (fun W (h:Rdr W br s (j+2+1))=>q8I s hs br (j+2+1) (by omega) h6' W h)
       have HR:=zb hR
       clear hR h6 h6'
       go_wp2_with fail
       refine(HT.out _ HM8.out.rd).mono ?_
       rintro e w9 ⟨rfl,b9⟩
       obtain⟨W',S1,S2,S3,S4⟩:=(HM8.out.below b9).out hbr ⟨[],[]⟩
       clear b9 HM8 HA8 HT
       go_wp2_with (refine ze rfl 130 (.tmp 2) (.tmp 49) rfl ⟨w.heap.size,0,none⟩ (q4A ⟨[],[]⟩) rfl rfl W' S1 ?_)
       exact zP (v:=.tuple #[q4A ⟨[],[]⟩,.bool false]) (qg rfl _ _ _ _ _ rfl rfl S2) rfl ⟨by rw[←HR.out],by rw[←HR.out];exact S3,S4⟩
     ·rw[if_neg h5]at hR
      have HT:=zb (fun W (h:Rdr W br s (j+2))=>q3v s hs br (j+2) (by omega) 44 h5 W h)
      clear h5 HR
      refine(HT.out _ HM7.out.rd).mono ?_
      rintro e w8 ⟨rfl,b8⟩
      have HM8:=zb (HM7.out.below b8)
      have HA8:=zb (HA7.out.only (OnlyB.of_below (bl:=[]) b8) (by simp))
      clear b8 HM7 HA7 HT
      by_cases h7:cI s (j+2)=41
      ·rw[if_pos h7]at hR
       have HT:=zb (fun W (h:Rdr W br s (j+2))=>q1V s hs br (j+2) (by omega) 41 h7 W h)
       have HR:=zb hR
       clear hR h7
       go_wp2_with fail
       refine(HT.out _ HM8.out.rd).mono ?_
       rintro e w11 ⟨rfl,r11,o11⟩
       obtain⟨V',hV',L',W',S1,S2,S3,S4⟩:=(HM8.out.next hbr r11 o11).fin hbr ⟨nm,[d]⟩ (HA8.out.only o11 (by simpa using hb2r))
       have HV':=zb hV'
       clear r11 o11 HM8 HA8 HT hV'
       go_wp2_with (first|(refine zj rfl 130 (.tmp 7) rfl ⟨b2,0,none⟩ V' rfl L' ?_)|(refine ze rfl 130 (.tmp 2) (.tmp 58) rfl ⟨w.heap.size,0,none⟩ V' rfl rfl W' S1 ?_))
       exact zP (v:=.tuple #[V',.bool true]) (qg rfl _ _ _ _ _ rfl rfl S2) rfl ⟨by rw[HV'.out,←HR.out],by rw[←HR.out];exact S3,S4⟩
      ·rw[if_neg h7]at hR
       have HT:=zb (fun W (h:Rdr W br s (j+2))=>q3v s hs br (j+2) (by omega) 41 h7 W h)
       have HR:=zb hR
       clear hR h7
       go_wp2_with fail
       refine(HT.out _ HM8.out.rd).mono ?_
       rintro e w11 ⟨rfl,b11⟩
       obtain⟨W',S1,S2,S3,S4⟩:=(HM8.out.below b11).out hbr ⟨[],[]⟩
       clear b11 HM8 HA8 HT
       go_wp2_with (refine ze rfl 130 (.tmp 2) (.tmp 57) rfl ⟨w.heap.size,0,none⟩ (q4A ⟨[],[]⟩) rfl rfl W' S1 ?_)
       exact zP (v:=.tuple #[q4A ⟨[],[]⟩,.bool false]) (qg rfl _ _ _ _ _ rfl rfl S2) rfl ⟨by rw[←HR.out],by rw[←HR.out];exact S3,S4⟩
    ·have h4':zQ (cI s (j+1))=false:=by simpa using h4
     have hR:=HR.out
     rw[if_neg h4]at hR
     have HT:=zb (fun W (h:Rdr W br s (j+1))=>q8I s hs br (j+1) (by omega) h4' W h)
     have HR:=zb hR
     clear hR h4 h4'
     go_wp2_with fail
     refine(HT.out _ HM4.out.rd).mono ?_
     rintro e w5 ⟨rfl,b5⟩
     obtain⟨W',S1,S2,S3,S4⟩:=(HM4.out.below b5).out hbr ⟨[],[]⟩
     clear b5 HM4 HT HO4 HW3
     go_wp2_with (refine ze rfl 130 (.tmp 2) (.tmp 34) rfl ⟨w.heap.size,0,none⟩ (q4A ⟨[],[]⟩) rfl rfl W' S1 ?_)
     exact zP (v:=.tuple #[q4A ⟨[],[]⟩,.bool false]) (qg rfl _ _ _ _ _ rfl rfl S2) rfl ⟨by rw[←HR.out],by rw[←HR.out];exact S3,S4⟩
   ·have hR:=HR.out
    rw[if_neg h3]at hR
    have HT:=zb (fun W (h:Rdr W br s j)=>q3v s hs br j (by omega) 40 h3 W h)
    have HR:=zb hR
    clear hR h3
    go_wp2_with (refine ze rfl 127 (.tmp 4) (.tmp 17) rfl ⟨w2.heap.size,0,none⟩ V rfl rfl W3 S3' ?_)
    refine(HT.out _ HM3.out.rd).mono ?_
    rintro e w4 ⟨rfl,b4⟩
    obtain⟨W',S1,S2,S3,S4⟩:=(HM3.out.below b4).out hbr ⟨[],[]⟩
    clear b4 HM3 HT HW3 S3'
    go_wp2_with (refine ze rfl 130 (.tmp 2) (.tmp 26) rfl ⟨w.heap.size,0,none⟩ (q4A ⟨[],[]⟩) rfl rfl W' S1 ?_)
    exact zP (v:=.tuple #[q4A ⟨[],[]⟩,.bool false]) (qg rfl _ _ _ _ _ rfl rfl S2) rfl ⟨by rw[←HR.out],by rw[←HR.out];exact S3,S4⟩
  ·have hR:=HR.out
   rw[if_neg h2]at hR
   have HR:=zb hR
   have hj0:j=i+1:=by omega
   rw[decide_eq_false h2]
   obtain⟨W',S1,S2,S3,S4⟩:=HM3.out.out hbr ⟨[],[]⟩
   have HJ:=zb hj0
   clear hR hj0 h2 HM3 HW3
   go_wp2_with (first|(refine ze rfl 127 (.tmp 4) (.tmp 17) rfl ⟨w2.heap.size,0,none⟩ V rfl rfl W3 S3' ?_)|(refine ze rfl 130 (.tmp 2) (.tmp 26) rfl ⟨w.heap.size,0,none⟩ (q4A ⟨[],[]⟩) rfl rfl W' S1 ?_))
   exact zP (v:=.tuple #[q4A ⟨[],[]⟩,.bool false]) (qg rfl _ _ _ _ _ rfl rfl S2) rfl ⟨by rw[←HR.out],by rw[←HR.out,←HJ.out];exact S3,S4⟩
 ·rw[if_neg h1]at hR
  have HT:=zb (fun W (h:Rdr W br s i)=>q3v s hs br i (by omega) 32 h1 W h)
  have HR:=zb hR
  clear hR h1
  go_enter Tryz.func55,Tryz.ntmps55
  go_wp2_with fail
  refine(HT.out _ HM.out.rd).mono ?_
  rintro e w1 ⟨rfl,b1⟩
  obtain⟨W',S1,S2,S3,S4⟩:=(HM.out.below b1).out hbr ⟨[],[]⟩
  clear b1 HM HT
  go_wp2_with (refine ze rfl 130 (.tmp 2) (.tmp 13) rfl ⟨w.heap.size,0,none⟩ (q4A ⟨[],[]⟩) rfl rfl W' S1 ?_)
  exact zP (v:=.tuple #[q4A ⟨[],[]⟩,.bool false]) (qg rfl _ _ _ _ _ rfl rfl S2) rfl ⟨by rw[←HR.out],by rw[←HR.out];exact S3,S4⟩
def qH (l:List Hp):List Value:=l.flatMap q5z
theorem q7L (l:List Hp)(h:Hp):qH (l++[h])=qH l++q5z h:=by simp[qH]
theorem q8Q {w w':World}{bl:List Nat}{base:Nat}{e:TypeId}{size:Nat}{v:Value}{n:Nat}{xs:List Value}(h:w.ownsRow base e size v n xs)(ho:OnlyB bl w w')(hb:∀k∈bl,k<base):w'.ownsRow base e size v n xs:=by
 refine⟨h.1,?_⟩
 rcases h.2 with h'|⟨g,cap,cur,h1,h2,h3,h4⟩
 ·exact .inl h'
 ·have hl:g<w.heap.size:=by
   rcases Nat.lt_or_ge g w.heap.size with q|q
   ·exact q
   ·rw[Array.getElem?_eq_none q]at h3;simp at h3
  exact .inr ⟨g,cap,cur,h1,h2,by rw[ho.block g hl (fun hm=>by have:=hb g hm;omega)];exact h3,h4⟩
theorem q1i {w:World}{base:Nat}{e:TypeId}{size:Nat}{v:Value}{n:Nat}{xs:List Value}(h:w.ownsRow base e size v n xs):∃ao cap,v=.slice ao n cap:=by
 rcases h.2 with⟨rfl,rfl⟩|⟨g,cap,cur,rfl,_⟩
 ·exact⟨none,0,rfl⟩
 ·exact⟨_,cap,rfl⟩
theorem j0Y:(Tryz.prog.info? 130).map (fun i=>(i.zero,i.size,i.bytes))=some (some (.agg z11),11,32):=by kernel_rfl
abbrev q0i:Array Value:=#[.int .u16 0,.slice none 0 0]
def RdRel (s:By)(w:World)(R:Sum Nat (List Hp))(g:Nat)(vh:Value)(wr:World):Prop:=
 ∃(i f:Nat) (acc:List Hp),i≤s.length∧s.length-i≤f∧f≤g∧acc.length≤i∧wr.ownsRow (w.heap.size+2) 130 11 vh acc.length (qH acc)∧q2g s f i acc=R∧Rdr wr (w.heap.size+1) s i∧wr.heap[w.heap.size]?=some (.cells q0i 92 (0,0))∧Below w.heap.size w wr∧w.heap.size+2≤wr.heap.size
theorem q8H (s:By)(hs:s.length≤80)(n:Nat)(l:List Hp)(hR:q3D s=.inr (n,l))(w:World) :
  Calls Tryz.prog 38 #[bs s] w fun e w'=>∃hv,e=.returned (.tuple #[.agg #[.int .u16 n,hv],.int .i64 0,.bool true])∧w'.ownsRow (w.heap.size+2) 130 11 hv l.length (qH l)∧Below w.heap.size w w':=by
 unfold q3D at hR
 by_cases h1:cI s 0=64
 ·rw[if_pos h1]at hR
  have hl0:=q2I (s:=s) (i:=0) (by omega)
  have hin:=q9N s 5 0 1 (by omega) (by omega)
  by_cases h2:(stF s 5 0 1).1=true∧1<(stF s 5 0 1).2.2
  ·rw[if_pos h2]at hR
   have hR2:q2g s s.length (stF s 5 0 1).2.2 []=.inr l∧(stF s 5 0 1).2.1=n:=by
    cases hh:q2g s s.length (stF s 5 0 1).2.2 []with
    |inl p=>rw[hh]at hR;simp at hR
    |inr l'=>rw[hh]at hR;simp at hR;exact⟨by rw[hR.2],hR.1⟩
   have HT:=zb (fun br W (h:Rdr W br s 0)=>q1V s hs br 0 (by omega) 64 h1 W h)
   have HS:=zb (fun br W (h:Rdr W br s 1)=>q9x s hs br 1 (by omega) W h (stF s 5 0 1) rfl)
   have HR2:=zb hR2
   have hv6:=hin.2.2.2
   generalize stF s 5 0 1=q at *
   obtain⟨q1,q2,q3⟩:=q
   simp only[]at h2 hin
   obtain⟨h2a,h2b⟩:=h2
   subst h2a
   have HQ:=zb h2b
   have hi3:q3≤s.length:=hin.2.1
   clear hR hR2 h1 hin h2b
   obtain⟨i0,hi0,hz0,hz1,hz2⟩:=info_parts j0Y
   go_enter Tryz.func38,Tryz.ntmps38
   go_wp2_with fail
   have R0:Rdr ((w.alloc (.cells q0i 92)).alloc (.cells #[bs s,.int .i64 0] 122)) (w.heap.size+1) s 0:=by
    have hg:=zN (w.alloc (.cells q0i 92)) (.cells #[bs s,.int .i64 0] 122)
    have hg':((w.alloc (.cells q0i 92)).alloc (.cells #[bs s,.int .i64 0] 122)).heap[w.heap.size+1]?=some (.cells #[bs s,.int .i64 0] 122 (0,0)):=by simpa using hg
    exact⟨by rw[zC _ _ 0 _ _ _ hg'];rfl,by rw[zC _ _ 1 _ _ _ hg'];rfl,fun o=>zF _ _ o _ _ hg',by simp⟩
   have Z0:((w.alloc (.cells q0i 92)).alloc (.cells #[bs s,.int .i64 0] 122)).heap[w.heap.size]?=some (.cells q0i 92 (0,0)):=by rw[zO _ _ (by simp)];exact zN _ _
   have B0:Below w.heap.size w ((w.alloc (.cells q0i 92)).alloc (.cells #[bs s,.int .i64 0] 122)):=((zB _ _).alloc (zL _) _).alloc (by simp) _
   have s0:((w.alloc (.cells q0i 92)).alloc (.cells #[bs s,.int .i64 0] 122)).heap.size=w.heap.size+2:=by simp
   generalize (w.alloc (.cells q0i 92)).alloc (.cells #[bs s,.int .i64 0] 122)=W0 at *
   refine(HT.out _ _ R0).mono ?_
   rintro e w1 ⟨rfl,r1,o1⟩
   have HR1:=zb r1
   have HO1:=zb o1
   have HB0:=zb B0
   have HZ0:=zb Z0
   clear r1 o1 R0 HT B0 Z0
   go_wp2_with fail
   refine(HS.out _ _ HR1.out).mono ?_
   rintro e w2 ⟨⟨v,rfl,hv⟩,r2,o2⟩
   have ev:=hv (by trivial)
   subst ev
   have HR2':=zb r2
   have O2:=HO1.out.trans o2
   have Z2:w2.heap[w.heap.size]?=some (.cells q0i 92 (0,0)):=(O2.block w.heap.size (by omega) (by simp)).trans HZ0.out
   have B2:Below w.heap.size w w2:=HB0.out.trans (O2.below (by omega) (by simp))
   have hs2:w.heap.size+2≤w2.heap.size:=by have:=O2.size;omega
   have HB2:=zb B2
   have HZ2:=zb Z2
   rw[show(true&&decide (1<q3))=true by simpa using HQ.out]
   clear r2 o2 O2 Z2 B2 HR1 HO1 HS HB0 HZ0 hv s0 W0
   go_wp2_with fail
   go_loopg [8] s.length (fun g vh wr=>RdRel s w (.inr l) g vh wr)
   case atStart=>exact⟨q3,s.length,[],hi3,by omega,zL _,by simp,zW _ _ _ _,HR2.out.1,HR2'.out,HZ2.out,HB2.out,hs2⟩
   case round =>
    obtain⟨i,f,acc,hi,hf,hfg,hac,hown,hst,hrd,hz,hb,hsz⟩:=hrel
    have HO:=zb hown
    have HST:=zb hst
    have HRD:=zb hrd
    have HZ:=zb hz
    have HB:=zb hb
    have HF:=zb hf
    have HFG:=zb hfg
    have c1:=hrd.at'
    have hlr:=hrd.lt
    clear hown hst hrd hz hb hf hfg
    by_cases hil:i<s.length
    ·obtain⟨f',hf'⟩:∃f',f=f'+1:=⟨f-1,by have:=HF.out;omega⟩
     have hst:=HST.out
     rw[hf',q2g,if_pos hil]at hst
     have hok:(q2H s i).1=true:=by
      cases hq:(q2H s i).1 with
      |true=>rfl
      |false=>rw[if_neg (by rw[hq];decide)]at hst;simp at hst
     rw[if_pos hok]at hst
     have hin:=j0s s i hi
     have HH:=zb (q7S s hs (w.heap.size+1) i hi wr HRD.out (q2H s i) rfl)
     generalize q2H s i=q at *
     obtain⟨p1,p2,hp⟩:=q
     simp only[]at hok hin hst
     subst hok
     have HST':=zb hst
     have hp2:p2≤s.length:=hin.2.1
     have hp3:i<p2:=hin.2.2 rfl
     have HFF:=zb hf'
     clear hst hin HST hf'
     go_wp2_with fail
     refine(HH.out).mono ?_
     rintro e w3 ⟨rfl,r3,o3⟩
     have hown3:=q8Q HO.out o3 (by simp)
     have z3:=(o3.block w.heap.size (by omega) (by simp)).trans HZ.out
     have b3:Below w.heap.size w w3:=HB.out.trans (o3.below (by omega) (by simp))
     obtain⟨W4,S4,g4,b4,z4⟩:=qI (P:=Tryz.prog) 130 w3 z11 #[.int .u8 (zn hp.nm 0),.int .u8 (zn hp.nm 1),.int .u8 (zn hp.nm 2),.int .u8 (zn hp.nm 3),.int .u8 (zn hp.nm 4),.int .u8 (zn hp.nm 5),.int .u8 (zn hp.nm 6),.int .u8 (zn hp.nm 7),.int .i64 (hp.ds.getD 0 0:Nat),.int .i64 (hp.ds.getD 1 0:Nat),.int .i64 hp.ds.length] (by kernel_rfl) rfl (by simp[Value.oneCell'])
     have L4:=(HapAt.of_row (cs:=q5z hp) rfl g4).load
     have HO4:=zb (zo hown3 b4)
     have HZ4:=zb ((b4.block w.heap.size (by have:=o3.size;omega)).trans z3)
     have HR4:=zb (r3.only (OnlyB.of_below (bl:=[]) b4) (by simp))
     have HB4:=zb (b3.trans (b4.mono b3.size))
     have hs4:w.heap.size+2≤W4.heap.size:=by have:=o3.size;omega
     have hl4:w3.heap.size<W4.heap.size:=by omega
     obtain⟨V,hV⟩:∃V,V=q4A hp:=⟨_,rfl⟩
     have S4':(Instr.storeAt 130 (.pointer (some ⟨w3.heap.size,0,none⟩)) V).run Tryz.prog (w3.alloc (.cells z11 130))=.ok () W4:=by rw[hV];exact S4
     rw[←hV]
     clear r3 o3 hown3 z3 b3 g4 b4 z4 S4 hV HH HO HZ HRD HB
     go_wp2_with (first|(refine ze rfl 130 (.tmp 9) (.tmp 34) rfl ⟨w3.heap.size,0,none⟩ V rfl rfl W4 S4' ?_)|(refine zj rfl 130 (.tmp 9) rfl ⟨w3.heap.size,0,none⟩ (q4A hp) rfl L4 ?_)|(at_builtin;refine q3a rfl (.tmp 41) (.tmp 43) 90 130 rfl Tryz.underlying90 hi0 hz0 hz1 hz2 rfl (by decide) W4 (w.heap.size+2) _ _ _ (q5z hp) W4 rfl HO4.out (by simp[Act.eval]) rfl (by simp[Value.oneCell']) (by omega) (by decide) (zB _ _) hs4 ?_;intro v' w' hown' hbel' hne))
     have hg1:0<gk:=by have:=HFG.out;have:=HFF.out;omega
     go_roundg (gk-1)
     case measure=>omega
     case rel =>
      refine⟨p2,f',acc++[hp],hp2,by have:=HF.out;have:=HFF.out;omega,by have:=HFG.out;have:=HFF.out;omega,by simp;omega,by rw[q7L];simpa using hown',HST'.out,?_,(hbel'.block w.heap.size (by omega)).trans HZ4.out,HB4.out.trans (hbel'.mono (by omega)),by have:=hbel'.size;omega⟩
      have hq:=hbel'.block (w.heap.size+1) (by omega)
      exact⟨by rw[zK (w:=W4) hq];exact HR4.out.text,by rw[zK (w:=W4) hq];exact HR4.out.at',fun o=>by rw[World.frozen?_of_block (w:=W4) hq];exact HR4.out.free o,zT HR4.out.lt hbel'.size⟩
    ·have hst:=HST.out
     have hfin:q2g s f i acc=.inr acc:=by
      cases f with
      |zero=>rfl
      |succ f=>rw[q2g,if_neg hil]
     rw[hfin]at hst
     simp at hst
     subst hst
     have hown:=HO.out
     obtain⟨va,vc,rfl⟩:=q1i hown
     have z0:=zC _ _ 0 _ _ _ HZ.out
     have z1:=zC _ _ 1 _ _ _ HZ.out
     have y0:=fun j=>zF _ _ j _ _ HZ.out
     simp only[gz]at z0 z1
     have hlz:w.heap.size<wr.heap.size:=by omega
     have HOW:=zb hown
     have HN:=zb HR2.out.2
     clear hown hfin HO HST HR2 HRD
     go_wp2_with fail
     have hown2:=ownsRow_setCell_below (a:=⟨w.heap.size,1,none⟩) (ownsRow_setCell_below (a:=⟨w.heap.size,0,none⟩) HOW.out (by simp) (.int .u16 q2)) (by simp) (.slice va acc.length vc)
     exact zP (v:=.tuple #[.agg #[.int .u16 q2,.slice va acc.length vc],.int .i64 0,.bool true]) (by simp[results,Tryz.results38,go_sem,z0,z1]) rfl ⟨.slice va acc.length vc,by rw[←HN.out],hown2,(HB.out.setCell (zL _) _).setCell (zL _) _⟩
  ·rw[if_neg h2]at hR;simp at hR
 ·rw[if_neg h1]at hR;simp at hR
abbrev PPt:=LPt × Value
abbrev ptCs (p:PPt):List Value:=[.int .u16 p.1.stamp,p.2,.int .i64 p.1.time]
def q2r (l:List PPt):List Value:=l.flatMap ptCs
theorem q6P (l:List PPt):∀(i:Nat) (h:i<l.length) (j:Nat),j<3→(q2r l)[i*3+j]?=(ptCs l[i])[j]?:=by
 induction l with
 |nil=>intro i h;simp at h
 |cons n r ih =>
  intro i h j hj
  have e:q2r (n::r)=ptCs n++q2r r:=rfl
  have e2:(ptCs n).length=3:=rfl
  rw[e]
  cases i with
  |zero=>rw[List.getElem?_append_left (by omega)];simp
  |succ i =>
   have hi:i<r.length:=by simpa using h
   rw[List.getElem?_append_right (by omega),e2,show(i+1)*3+j-3=i*3+j by omega,ih i hi j hj]
   rfl
structure LogAt (w:World)(b o:Nat)(ao:OA)(cap:Nat)(PL:List PPt):Prop where
 cell:w.cell? ⟨b,o,none⟩=some (.slice ao PL.length cap)
 lt:b<w.heap.size
 row:w.ownsRow 0 137 3 (.slice ao PL.length cap) PL.length (q2r PL)
 small:PL.length≤40
 times:∀(i:Nat) (hi:i<PL.length),(PL[i]).1.time≤32768*i∧(PL[i]).1.stamp≤65535
theorem LogAt.below {w w':World}{b o:Nat}{ao:OA}{cap:Nat}{PL:List PPt}(h:LogAt w b o ao cap PL)(hb:Below w.heap.size w w'):LogAt w' b o ao cap PL:=
 ⟨by rw[zK (w:=w) (hb.block b h.lt)];exact h.cell,zT h.lt hb.size,zo h.row hb,h.small,h.times⟩
theorem LogAt.bnd {w:World}{b o:Nat}{ao:OA}{cap:Nat}{PL:List PPt}(h:LogAt w b o ao cap PL){i:Nat}(hi:i<PL.length):(PL[i]).1.time≤2000000∧(PL[i]).1.stamp≤65535:=by
 have h1:=h.times i hi
 have h2:=h.small
 exact⟨by omega,h1.2⟩
theorem LogAt.at' {w:World}{b o:Nat}{ao:OA}{cap:Nat}{PL:List PPt}(h:LogAt w b o ao cap PL){i:Nat}(hi:i<PL.length) :
  ∃g,ao=some ⟨g,0,none⟩∧g<w.heap.size∧PL.length≤cap∧cap≤maxLen∧w.cell? ⟨g,i*3,none⟩=some (.int .u16 (PL[i]).1.stamp)∧w.cell? ⟨g,i*3+1,none⟩=some (PL[i]).2∧w.cell? ⟨g,i*3+2,none⟩=some (.int .i64 (PL[i]).1.time):=by
 have hr:=h.row
 obtain⟨g,cap',e⟩:=zJ hr (by omega)
 injection e with e1 e2 e3
 subst e1 e3
 have hlt:=(hr.lt g rfl).2
 refine⟨g,rfl,hlt,?_⟩
 have hc:PL.length≤cap∧cap≤maxLen:=by
  rcases hr.2 with⟨h',_⟩|⟨g',cap',cur,h',_,_,p1,p2,_⟩
  ·simp at h'
  ·simp only[Value.slice.injEq,Option.some.injEq,Addr.mk.injEq,and_true,true_and]at h'
   obtain⟨rfl,rfl⟩:=h'
   exact⟨p1,p2⟩
 have hl:(q2r PL).length=PL.length*3:=hr.1
 refine⟨hc.1,hc.2,?_,?_,?_⟩
 ·have:=hr.cellAt (i*3) (by omega)
  rw[this,show i*3=i*3+0 from rfl,q6P PL i hi 0 (by omega)]
  rfl
 ·have:=hr.cellAt (i*3+1) (by omega)
  rw[this,q6P PL i hi 1 (by omega)]
  rfl
 ·have:=hr.cellAt (i*3+2) (by omega)
  rw[this,q6P PL i hi 2 (by omega)]
  rfl
def hasB (n:Nat)(i:Int):Bool:=decide (0≤i)&&decide (i<n)
theorem q7s (b o:Nat)(ao:OA)(cap:Nat)(PL:List PPt)(i:Int)(w:World)(h:LogAt w b o ao cap PL) :
  Calls Tryz.prog 82 #[.pointer (some ⟨b,o,none⟩),.int .i64 i] w fun e w'=>e=.returned (.bool (hasB PL.length i))∧Below w.heap.size w w':=by
 have c0:=h.cell
 have hlt:=h.lt
 have hsm:=h.small
 clear h
 generalize PL.length=n at *
 unfold hasB
 go_enter Tryz.func82,Tryz.ntmps82
 go_wp2_with fail
 ·go_ret
  exact⟨q0r (by have h0:0≤i:=(by omega);simp[h0]),zB _ _⟩
 ·go_ret
  exact⟨q0r (by have h0:¬0≤i:=(by omega);simp[h0]),zB _ _⟩
theorem q7r (b o:Nat)(ao:OA)(cap:Nat)(PL:List PPt)(w:World)(h:LogAt w b o ao cap PL) :
  Calls Tryz.prog 42 #[.pointer (some ⟨b,o,none⟩)] w fun e w'=>e=.returned (.int .i64 PL.length)∧w'=w:=by
 have c0:=h.cell
 have hlt:=h.lt
 clear h
 generalize PL.length=n at *
 go_enter Tryz.func42,Tryz.ntmps42
 go_wp2_with fail
 go_ret
 exact⟨rfl,rfl⟩
theorem q8x {n:Nat}{i:Nat}(h:i<n):hasB n (i:Int)=true:=by unfold hasB;simp[h]
theorem j7Z {n:Nat}{i:Int}(h:i<0∨(n:Int)≤i):hasB n i=false:=by
 unfold hasB
 rcases h with h|h
 ·rw[decide_eq_false (by omega),Bool.false_and]
 ·rw[decide_eq_false (show ¬i<(n:Int)by omega),Bool.and_false]
abbrev zA (PL:List PPt):List LPt:=PL.map Prod.fst
theorem j4a {PL:List PPt}{i:Nat}(h:i<PL.length):tmL (zA PL) i=(PL[i]).1.time:=by
 unfold tmL
 rw[List.getElem?_map,zG h]
 rfl
theorem q6Q (b o:Nat)(ao:OA)(cap:Nat)(PL:List PPt)(i j:Nat)(hi:i<PL.length)(hj:j<PL.length)(w:World)(h:LogAt w b o ao cap PL) :
  Calls Tryz.prog 57 #[.pointer (some ⟨b,o,none⟩),.int .i64 i,.int .i64 j] w fun e w'=>e=.returned (.int .i64 (q0C (zA PL) i j))∧Below w.heap.size w w':=by
 have HI:=zb (fun W (h:LogAt W b o ao cap PL)=>q7s b o ao cap PL i W h)
 have HJ:=zb (fun W (h:LogAt W b o ao cap PL)=>q7s b o ao cap PL j W h)
 rw[q8x hi]at HI
 rw[q8x hj]at HJ
 have H:=zb h
 have hsm:=h.small
 have ti:=h.bnd hi
 have tj:=h.bnd hj
 have HD:Hid ((q0C (zA PL) i j:Int)=if (PL[j]).1.time<(PL[i]).1.time then -(((PL[j]).1.time:Int)-(PL[i]).1.time)else((PL[j]).1.time:Int)-(PL[i]).1.time):=zb (by
  unfold q0C
  rw[j4a hi,j4a hj]
  split<;>omega)
 generalize q0C (zA PL) i j=d at *
 clear h
 go_enter Tryz.func57,Tryz.ntmps57
 go_wp2_with fail
 refine(HI.out _ H.out).mono ?_
 rintro e w1 ⟨rfl,b1⟩
 have HB1:=zb b1
 have H1:=zb (H.out.below b1)
 clear b1
 go_wp2_with fail
 refine(HJ.out _ H1.out).mono ?_
 rintro e w2 ⟨rfl,b2⟩
 have HB2:Hid (Below w.heap.size w w2):=zb (HB1.out.trans (b2.mono HB1.out.size))
 have h2:=H1.out.below b2
 have c0:=h2.cell
 have hlt:=h2.lt
 obtain⟨g,rfl,hg,k1,k2,_,_,ci⟩:=h2.at' hi
 obtain⟨g',eg,_,_,_,_,_,cj⟩:=h2.at' hj
 injection eg with eg
 injection eg with eg
 subst eg
 unfold maxLen at k2
 generalize (PL[i]).1.time=x at *
 generalize (PL[j]).1.time=y at *
 obtain⟨tx,_⟩:=ti
 obtain⟨ty,_⟩:=tj
 clear b2 h2 H1 HB1 H HI HJ
 by_cases hxy:y<x
 ·have hd:=HD.out
  rw[if_pos hxy]at hd
  have HD2:=zb hd
  clear HD hd
  go_wp2_with fail
  go_region
  go_wp2_with fail
  go_ret
  exact⟨q1m (by rw[HD2.out]),HB2.out.drew⟩
 ·have hd:=HD.out
  rw[if_neg hxy]at hd
  have HD2:=zb hd
  clear HD hd
  go_wp2_with fail
  go_region
  go_wp2_with fail
  go_ret
  exact⟨q1m (by rw[HD2.out]),HB2.out.drew⟩
end Go.Proofs.YtiamjjonoeaggaaGreatDoor
