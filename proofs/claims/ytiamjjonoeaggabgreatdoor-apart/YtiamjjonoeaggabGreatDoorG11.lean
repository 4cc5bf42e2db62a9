import Derived.Test.YtiamjjonoeaggabGreatDoorGA
import Derived.Test.YtiamjjonoeaggabGreatDoorG00
import Derived.Test.YtiamjjonoeaggabGreatDoorG06
set_option maxRecDepth 100000
set_option maxHeartbeats 16000000
namespace Go.Proofs.YtiamjjonoeaggabGreatDoor
open Go.RowKit
def StRel (s:By)(br i0:Nat)(w:World)(R:Bool × Nat × Nat)(g:Nat)(vs vk:Value)(wr:World):Prop:=
 ∃k n i:Nat,k≤5∧5-k≤g∧n≤65535∧i≤s.length∧i=i0+k∧vs=.int .i64 n∧vk=.int .i64 k∧stF s (5-k) n i=R∧Rdr wr br s i∧OnlyB [br] w wr
theorem q9L (s:By)(hs:s.length≤80)(br i0:Nat)(hi:i0≤s.length)(w:World)(h:Rdr w br s i0)(R:Bool × Nat × Nat)(hR:stF s 5 0 i0=R) :
  Calls Tryz.prog 49 #[.pointer (some ⟨br,0,none⟩)] w fun e w'=>(∃v:Int,e=.returned (.tuple #[.int .u16 v,.bool (R.1&&decide (i0<R.2.2))])∧(R.1=true→v=R.2.1))∧Rdr w' br s R.2.2∧OnlyB [br] w w':=by
 have H:=zb h
 have HR:=zb hR
 have hlt:=h.lt
 clear h hR
 go_enter Tryz.func49,Tryz.ntmps49
 go_wp2_with fail
 go_loopg [4,5] 5 (fun g vs vk wr=>StRel s br i0 w R g vs vk wr)
 case atStart=>exact⟨0,0,i0,by omega,by omega,by omega,hi,rfl,rfl,rfl,HR.out,H.out,OnlyB.refl _ _⟩
 case round =>
  obtain⟨k,n,i,hk,hg,hn,hil,hik,rfl,rfl,hst,hrd,hob⟩:=hrel
  have HG:=zb hg
  have HRD:=zb hrd
  have HO:=zb hob
  have hlr:=hrd.lt
  have hdg:=q4K (cI s i)
  have HH:Hid (∀W,Rdr W br s i→Calls Tryz.prog 67 #[.pointer (some ⟨br,0,none⟩)] W fun e w'=>e=.returned (.int .u8 (cI s i))∧Below W.heap.size W w'):=zb (fun W h=>q5S s hs br i (by omega) W h)
  clear hg hrd hob HR H
  have fin:(R=(true,n,i)→∀b:Bool,b=decide (0<k)→(∃v:Int,Ending.returned (.tuple #[.int .u16 (n:Int),.bool b])=.returned (.tuple #[.int .u16 v,.bool (R.1&&decide (i0<R.2.2))])∧(R.1=true→v=R.2.1))):=fun e1 b hb=>by
   refine⟨n,?_,fun _=>by rw[e1]⟩
   rw[e1,hik,Bool.true_and,hb]
   have:decide (0<k)=decide (i0<i0+k):=by
    rw[Bool.eq_iff_iff]
    simp
   rw[this]
  have FIN:=zb fin
  have HIK:=zb hik
  clear fin hik
  by_cases hk5:k=5
  ·subst hk5
   rw[Nat.sub_self,stF]at hst
   have HE:=zb hst.symm
   clear hst
   go_wp2_with fail
   go_ret2
   exact⟨FIN.out HE.out _ (by simp),by rw[HE.out];exact HRD.out,HO.out⟩
  ·have hk4:k<5:=by omega
   rw[show 5-k=(5-(k+1))+1 by omega,stF]at hst
   by_cases hd:qd (cI s i)=true
   ·rw[if_pos hd]at hst
    have hin:=q3A hd
    have hdi:=dI_eq hd
    rw[hd]at hdg
    clear hd
    by_cases hov:65535<10*n+dI s i
    ·rw[if_pos hov]at hst
     have HE:=zb hst.symm
     clear hst
     have hc1:48≤cI s i:=hin.2.1
     have hc2:cI s i≤57:=hin.2.2
     generalize cI s i=c at *
     have hov':65535<10*(n:Int)+(c-48):=by omega
     clear hdi hin hov
     go_wp2_with fail
     refine(HH.out _ HRD.out).mono ?_
     rintro e w1 ⟨rfl,b1⟩
     have HR1:=zb (HRD.out.only (OnlyB.of_below (bl:=[]) b1) (by simp))
     have HO1:Hid (OnlyB [br] w w1):=zb (HO.out.trans (.of_below b1))
     clear b1
     go_wp2_with fail
     refine(hdg _).mono ?_
     rintro e w1 ⟨rfl,rfl⟩
     go_wp2_with fail
     refine(HH.out _ HR1.out).mono ?_
     rintro e w2 ⟨rfl,b2⟩
     have HR2:=zb (HR1.out.only (OnlyB.of_below (bl:=[]) b2) (by simp))
     have HO2:Hid (OnlyB [br] w w2):=zb (HO1.out.trans (.of_below b2))
     clear b2
     go_wp2_with fail
     go_ret2
     exact⟨⟨0,by rw[HE.out];rfl,by rw[HE.out];intro e;simp at e⟩,by rw[HE.out];exact HR2.out,HO2.out⟩
    ·rw[if_neg hov]at hst
     have HE:=zb hst
     clear hst
     have hc1:48≤cI s i:=hin.2.1
     have hc2:cI s i≤57:=hin.2.2
     have hi1:=hin.1
     have HD:=zb hdi
     generalize cI s i=c at *
     have hov':10*(n:Int)+(c-48)≤65535:=by omega
     have HOV:=zb hov
     clear hdi hin hov
     go_wp2_with fail
     refine(HH.out _ HRD.out).mono ?_
     rintro e w1 ⟨rfl,b1⟩
     have HR1:=zb (HRD.out.only (OnlyB.of_below (bl:=[]) b1) (by simp))
     have HO1:Hid (OnlyB [br] w w1):=zb (HO.out.trans (.of_below b1))
     clear b1
     go_wp2_with fail
     refine(hdg _).mono ?_
     rintro e w1 ⟨rfl,rfl⟩
     go_wp2_with fail
     refine(HH.out _ HR1.out).mono ?_
     rintro e w2 ⟨rfl,b2⟩
     have R2:=HR1.out.only (OnlyB.of_below (bl:=[]) b2) (by simp)
     have c1:=R2.at'
     have f1:=R2.free 1
     have hl2:=R2.lt
     have HR2:=zb R2
     have HO2:Hid (OnlyB [br] w w2):=zb (HO1.out.trans (.of_below b2))
     clear b2 R2
     go_wp2_with fail
     have hg1:0<gk:=by have:=HG.out;omega
     go_roundg (gk-1)
     case measure=>omega
     case rel=>exact⟨k+1,10*n+dI s i,i+1,by omega,by have:=HG.out;omega,by have:=HOV.out;omega,by omega,by have:=HIK.out;omega,by have:=HD.out;first|go_num|(congr 1;omega),by go_num,HE.out,by have:=HR2.out.step (i+1);simpa using this,HO2.out.setCell (by simp) _⟩
   ·rw[if_neg hd]at hst
    have HE:=zb hst.symm
    have hd':qd (cI s i)=false:=by simpa using hd
    rw[hd']at hdg
    clear hst hd hd'
    generalize cI s i=c at *
    go_wp2_with fail
    refine(HH.out _ HRD.out).mono ?_
    rintro e w1 ⟨rfl,b1⟩
    have HR1:=zb (HRD.out.only (OnlyB.of_below (bl:=[]) b1) (by simp))
    have HO1:Hid (OnlyB [br] w w1):=zb (HO.out.trans (.of_below b1))
    clear b1
    go_wp2_with fail
    refine(hdg _).mono ?_
    rintro e w1 ⟨rfl,rfl⟩
    go_wp2_with fail
    go_ret2
    exact⟨FIN.out HE.out _ (by simp),by rw[HE.out];exact HR1.out,HO1.out⟩
theorem pad_cut {s:By}{i0 i:Nat}(h0:i0≤i)(hi:i<s.length)(j:Nat):zn (cut s i0 (i+1)) j=if j=i-i0 then cI s i else zn (cut s i0 i) j:=by
 have e:cut s i0 (i+1)=cut s i0 i++[s.getD i 0]:=by
  rw[j4G (m:=i) h0 (by omega) (by omega),q3Q (i:=i) (by omega) (by omega),q5u]
 have hl:(cut s i0 i).length=i-i0:=by unfold cut;simp;omega
 unfold zn
 rw[e]
 by_cases hj:j=i-i0
 ·rw[if_pos hj]
  simp only[List.getD]
  rw[List.getElem?_append_right (by omega),hl,hj,Nat.sub_self]
  rfl
 ·rw[if_neg hj]
  simp only[List.getD]
  rcases Nat.lt_or_ge j (i-i0)with g|g
  ·rw[List.getElem?_append_left (by omega)]
  ·rw[List.getElem?_eq_none (by simp;omega),List.getElem?_eq_none (by omega)]
abbrev q8x (t:By):List Value:=[.int .u8 (zn t 0),.int .u8 (zn t 1),.int .u8 (zn t 2),.int .u8 (zn t 3),.int .u8 (zn t 4),.int .u8 (zn t 5),.int .u8 (zn t 6),.int .u8 (zn t 7)]
theorem j3s (t:By)(j:Nat)(h:j<8):(q8x t)[j]?=some (.int .u8 (zn t j)):=by
 rcases(by omega:j=0∨j=1∨j=2∨j=3∨j=4∨j=5∨j=6∨j=7)with rfl|rfl|rfl|rfl|rfl|rfl|rfl|rfl<;>rfl
structure WArr (w:World)(b:Nat)(t:By):Prop where
 cells:∀j,j<8→w.cell? ⟨b,j,none⟩=some (.int .u8 (zn t j))
 free:∀j,w.frozen? ⟨b,j,none⟩=false
 lt:b<w.heap.size
theorem WArr.of_row {w:World}{b:Nat}{f:By}{t:TypeId}(h:w.heap[b]?=some (.cells (q8x f).toArray t (0,0))):WArr w b f:=by
 refine⟨fun j hj=>?_,fun j=>zF _ _ j _ _ h,?_⟩
 ·rw[zC _ _ j _ _ _ h,List.getElem?_toArray]
  exact j3s f j hj
 ·rcases Nat.lt_or_ge b w.heap.size with g|g
  ·exact g
  ·rw[Array.getElem?_eq_none g]at h;simp at h
theorem WArr.range {w:World}{b:Nat}{t:By}(h:WArr w b t):w.rangeAt b 0 (q8x t):=fun j v hv=>by
 have hj:j<8:=(List.getElem?_eq_some_iff.1 hv).1
 rw[j3s t j hj]at hv
 rw[Nat.zero_add,h.cells j hj,hv]
theorem WArr.load {w:World}{b:Nat}{t:By}(h:WArr w b t):(Instr.loadAt 126 (.pointer (some ⟨b,0,none⟩))).run Tryz.prog w=.ok (q4g t) w:=
 run_loadAt_mid w b 0 126 (q8x t) _ h.range Tryz.underlying126 rfl (by kernel_rfl)
theorem WArr.loadV {w:World}{b:Nat}{t:By}(h:WArr w b t):(loadVar 126 ⟨b,0,none⟩).run Tryz.prog w=.ok (q4g t) w:=
 run_loadVar_mid w b 0 126 (q8x t) _ h.range Tryz.underlying126 rfl (by kernel_rfl)
theorem warr_in (W:World)(b:Nat)(old:Array Value)(t:By)(hg:W.heap[b]?=some (.cells old 126 (0,0)))(ho:old.size=8) :
  ∃W',(Instr.storeAt 126 (.pointer (some ⟨b,0,none⟩)) (q4g t)).run Tryz.prog W=.ok () W'∧W'.heap[b]?=some (.cells (q8x t).toArray 126 (0,0))∧(∀k,k≠b→W'.heap[k]?=W.heap[k]?)∧W'.heap.size=W.heap.size∧W'.os=W.os∧W'.tape=W.tape∧W'.output=W.output:=
 q0n (P:=Tryz.prog) 126 126 W b old #[.int .u8 (zn t 0),.int .u8 (zn t 1),.int .u8 (zn t 2),.int .u8 (zn t 3),.int .u8 (zn t 4),.int .u8 (zn t 5),.int .u8 (zn t 6),.int .u8 (zn t 7)] hg (by kernel_rfl) (by rw[ho];rfl) (by simp[Value.oneCell'])
theorem WArr.put {w:World}{b k:Nat}{t t':By}{c:Int}(h:∀j,j<8→w.cell? ⟨b,j,none⟩=some (.int .u8 (zn t j)))(hf:∀j,w.frozen? ⟨b,j,none⟩=false)(hl:b<w.heap.size)(hk:k<8)(ht:∀j,zn t' j=if j=k then c else zn t j):WArr (w.setCell ⟨b,k,none⟩ (.int .u8 c)) b t':=by
 refine⟨fun j hj=>?_,fun j=>by rw[World.frozen?_setCell];exact hf j,by simpa using hl⟩
 rw[ht j]
 by_cases e:j=k
 ·subst e
  rw[if_pos rfl]
  exact zS w _ _ (h j hk)
 ·rw[if_neg e,zX w _ _ _ (by intro q;injection q with q1 q2;exact e q2.symm)]
  exact h j hj
theorem WArr.other {w:World}{b b' o:Nat}{t:By}(h:WArr w b t)(hb:b≠b')(v:Value):WArr (w.setCell ⟨b',o,none⟩ v) b t:=by
 refine⟨fun i hi=>?_,fun i=>by rw[World.frozen?_setCell];exact h.free i,by simpa using h.lt⟩
 rw[zX w _ _ _ (by intro q;injection q with q1 _;exact hb q1.symm)]
 exact h.cells i hi
theorem Rdr.other {w:World}{br b' o i:Nat}{s:By}(h:Rdr w br s i)(hb:br≠b')(v:Value):Rdr (w.setCell ⟨b',o,none⟩ v) br s i:=
 ⟨by rw[zX w _ _ _ (by intro q;injection q with q1 _;exact hb q1.symm)];exact h.text,by rw[zX w _ _ _ (by intro q;injection q with q1 _;exact hb q1.symm)];exact h.at',fun o=>by rw[World.frozen?_setCell];exact h.free o,by simpa using h.lt⟩
abbrev z8:Array Value:=#[.int .u8 0,.int .u8 0,.int .u8 0,.int .u8 0,.int .u8 0,.int .u8 0,.int .u8 0,.int .u8 0]
def NmRel (s:By)(br i0:Nat)(w:World)(R:Nat)(g:Nat)(vk:Value)(wr:World):Prop:=
 ∃k i:Nat,k≤8∧8-k≤g∧i≤s.length∧i=i0+k∧vk=.int .i64 k∧nmF s (8-k) i=R∧Rdr wr br s i∧WArr wr (w.heap.size+1) (cut s i0 i)∧wr.heap[w.heap.size]?=some (.cells z8 126 (0,0))∧OnlyB [br] w wr
theorem log_name (s:By)(hs:s.length≤80)(br i0:Nat)(hi:i0≤s.length)(w:World)(h:Rdr w br s i0)(R:Nat)(hR:nmF s 8 i0=R) :
  Calls Tryz.prog 69 #[.pointer (some ⟨br,0,none⟩)] w fun e w'=>e=.returned (.tuple #[q4g (cut s i0 R),.bool (decide (i0<R))])∧Rdr w' br s R∧OnlyB [br] w w':=by
 have H:=zb h
 have HR:=zb hR
 have hlt:=h.lt
 clear h hR
 go_enter Tryz.func69,Tryz.ntmps69
 go_wp2_with fail
 go_loopg [5] 8 (fun g vk wr=>NmRel s br i0 w R g vk wr)
 case atStart =>
  have B:Below w.heap.size w ((w.alloc (.cells z8 126)).alloc (.cells z8 126)):=((zB _ _).alloc (zL _) _).alloc (by simp) _
  refine⟨0,i0,by omega,by omega,hi,rfl,rfl,HR.out,H.out.only (OnlyB.of_below (bl:=[]) B) (by simp),WArr.of_row (t:=126) ?_,?_,.of_below B⟩
  ·have e9:(q8x []).toArray=z8:=rfl
   rw[q5u,e9]
   have:=zN (w.alloc (.cells z8 126)) (.cells z8 126)
   simpa using this
  ·rw[zO _ _ (by simp)];exact zN _ _
 case round =>
  obtain⟨k,i,hk,hg,hil,hik,rfl,hst,hrd,ha,hz,hob⟩:=hrel
  have HG:=zb hg
  have HRD:=zb hrd
  have HO:=zb hob
  have HA:=zb ha
  have HZ:=zb hz
  have hlr:=hrd.lt
  have hdg:=q6D (cI s i)
  have HH:Hid (∀W,Rdr W br s i→Calls Tryz.prog 67 #[.pointer (some ⟨br,0,none⟩)] W fun e w'=>e=.returned (.int .u8 (cI s i))∧Below W.heap.size W w'):=zb (fun W h=>q5S s hs br i (by omega) W h)
  have HIK:=zb hik
  have hsz:w.heap.size+1<wr.heap.size:=ha.lt
  clear hg hrd hob HR H ha hz hik
  have fin:R=i→∀W,Below wr.heap.size wr W→(Instr.loadAt 126 (.pointer (some ⟨w.heap.size+1,0,none⟩))).run Tryz.prog W=.ok (q4g (cut s i0 R)) W∧∃W',(Instr.storeAt 126 (.pointer (some ⟨w.heap.size,0,none⟩)) (q4g (cut s i0 R))).run Tryz.prog W=.ok () W'∧(loadVar 126 ⟨w.heap.size,0,none⟩).run Tryz.prog W'=.ok (q4g (cut s i0 R)) W'∧Rdr W' br s R∧OnlyB [br] w W':=fun e W hb=>by
   rw[e]
   have ha:WArr W (w.heap.size+1) (cut s i0 i):=⟨fun j hj=>by rw[zK (w:=wr) (hb.block _ hsz)];exact HA.out.cells j hj,fun j=>by rw[World.frozen?_of_block (w:=wr) (hb.block _ hsz)];exact HA.out.free j,zT hsz hb.size⟩
   refine⟨ha.load,?_⟩
   have hz:W.heap[w.heap.size]?=_:=(hb.block w.heap.size (by omega)).trans HZ.out
   obtain⟨W',s1,s2,s3,s4,s5,s6,s7⟩:=warr_in W w.heap.size _ (cut s i0 i) hz rfl
   have O2:OnlyB [br] w W:=HO.out.trans (.of_below hb)
   have hne:br≠w.heap.size:=by have:=hlt;omega
   refine⟨W',s1,(WArr.of_row s2).loadV,?_,⟨s5.trans O2.os,s6.trans O2.tape,s7.trans O2.output,by rw[s4];exact O2.size,fun q hq hn=>by rw[s3 q (by omega)];exact O2.block q hq hn⟩⟩
   have hr:=HRD.out.only (OnlyB.of_below (bl:=[]) hb) (by simp)
   exact⟨by rw[zK (w:=W) (s3 br hne)];exact hr.text,by rw[zK (w:=W) (s3 br hne)];exact hr.at',fun o=>by rw[World.frozen?_of_block (w:=W) (s3 br hne)];exact hr.free o,by rw[s4];exact hr.lt⟩
  have FIN:=zb fin
  clear fin
  by_cases hk8:k=8
  ·subst hk8
   rw[Nat.sub_self,nmF]at hst
   have HE:=zb hst.symm
   clear hst
   obtain⟨L1,W',S1,S2,S3,S4⟩:=FIN.out HE.out wr (zB _ _)
   have HB:Hid (decide (i0<R)=true):=zb (by have:=HE.out;have:=HIK.out;simp;omega)
   obtain⟨V,hV⟩:∃V,V=q4g (cut s i0 R):=⟨_,rfl⟩
   rw[←hV]at L1 S1 S2
   have HV:=zb hV
   clear hV
   go_wp2_with (first|(refine ze rfl 126 (.tmp 2) (.tmp 26) rfl ⟨w.heap.size,0,none⟩ V rfl rfl W' S1 ?_)|(refine zj rfl 126 (.tmp 4) rfl ⟨w.heap.size+1,0,none⟩ V rfl L1 ?_))
   exact zP (v:=.tuple #[V,.bool true]) (qi rfl _ _ _ _ _ rfl rfl S2) rfl ⟨by rw[HB.out,HV.out],S3,S4⟩
  ·have hk4:k<8:=by omega
   rw[show 8-k=(8-(k+1))+1 by omega,nmF]at hst
   by_cases hd:q0s (cI s i)=true
   ·rw[if_pos hd]at hst
    have hin:=(j1t hd).1
    have HPC:Hid (∀j,zn (cut s i0 (i+1)) j=if j=k then cI s i else zn (cut s i0 i) j):=zb (fun j=>by rw[pad_cut (by have:=HIK.out;omega) hin j];rw[show i-i0=k by have:=HIK.out;omega])
    rw[hd]at hdg
    have HE:=zb hst
    clear hst hd FIN
    generalize cI s i=c at *
    go_wp2_with fail
    refine(HH.out _ HRD.out).mono ?_
    rintro e w1 ⟨rfl,b1⟩
    have HB1:=zb b1
    have HR1:=zb (HRD.out.only (OnlyB.of_below (bl:=[]) b1) (by simp))
    clear b1
    go_wp2_with fail
    refine(hdg _).mono ?_
    rintro e w1 ⟨rfl,rfl⟩
    go_wp2_with fail
    refine(HH.out _ HR1.out).mono ?_
    rintro e w2 ⟨rfl,b2⟩
    have B2:Below wr.heap.size wr w2:=HB1.out.trans (b2.mono HB1.out.size)
    have R2:=HR1.out.only (OnlyB.of_below (bl:=[]) b2) (by simp)
    have c1:=R2.at'
    have f1:=R2.free 1
    have hl2:=R2.lt
    have hal:w.heap.size+1<w2.heap.size:=zT hsz B2.size
    have cx:∀j,j<8→w2.cell? ⟨w.heap.size+1,j,none⟩=some (.int .u8 (zn (cut s i0 i) j)):=fun j hj=>by rw[zK (w:=wr) (B2.block _ hsz)];exact HA.out.cells j hj
    have fx:∀j,w2.frozen? ⟨w.heap.size+1,j,none⟩=false:=fun j=>by rw[World.frozen?_of_block (w:=wr) (B2.block _ hsz)];exact HA.out.free j
    have ck:=cx k hk4
    have fk:=fx k
    have hbr:br≠w.heap.size+1:=by omega
    have hbr0:br≠w.heap.size:=by omega
    have HZ2:Hid (w2.heap[w.heap.size]?=some (.cells z8 126 (0,0))):=zb ((B2.block w.heap.size (by omega)).trans HZ.out)
    have HCX:=zb cx
    have HFX:=zb fx
    have HR2:=zb R2
    have HO2:Hid (OnlyB [br] w w2):=zb (HO.out.trans (.of_below B2))
    generalize zn (cut s i0 i) k=old at ck
    clear b2 R2 B2 cx fx
    go_wp2_with fail
    have hg1:0<gk:=by have:=HG.out;omega
    go_roundg (gk-1)
    case measure=>omega
    case rel =>
     refine⟨k+1,i+1,by omega,by have:=HG.out;omega,by omega,by have:=HIK.out;omega,by go_num,HE.out,?_,(WArr.put HCX.out HFX.out hal hk4 HPC.out).other (fun e=>hbr e.symm) _,?_,(HO2.out.setNew (by omega) _).setCell (by simp) _⟩
     ·have:=(HR2.out.other hbr (o:=k) (.int .u8 c)).step (i+1)
      simpa using this
     ·rw[Below.heap_setCell _ _ _ _ (by simp;omega),Below.heap_setCell _ _ _ _ (by simp)]
      exact HZ2.out
   ·rw[if_neg hd]at hst
    have HE:=zb hst.symm
    have hd':q0s (cI s i)=false:=by simpa using hd
    rw[hd']at hdg
    clear hst hd hd'
    generalize cI s i=c at *
    go_wp2_with fail
    refine(HH.out _ HRD.out).mono ?_
    rintro e w1 ⟨rfl,b1⟩
    obtain⟨L1,W',S1,S2,S3,S4⟩:=FIN.out HE.out w1 b1
    have HB:Hid (decide (0<k)=decide (i0<R)):=zb (by have:=HE.out;have:=HIK.out;rw[Bool.eq_iff_iff];simp;omega)
    obtain⟨V,hV⟩:∃V,V=q4g (cut s i0 R):=⟨_,rfl⟩
    rw[←hV]at L1 S1 S2
    have HV:=zb hV
    clear hV b1
    go_wp2_with fail
    refine(hdg _).mono ?_
    rintro e w1 ⟨rfl,rfl⟩
    go_wp2_with (first|(refine ze rfl 126 (.tmp 2) (.tmp 26) rfl ⟨w.heap.size,0,none⟩ V rfl rfl W' S1 ?_)|(refine zj rfl 126 (.tmp 4) rfl ⟨w.heap.size+1,0,none⟩ V rfl L1 ?_))
    exact zP (v:=.tuple #[V,.bool (decide (0<k))]) (qi rfl _ _ _ _ _ rfl (by first|rfl|simp) S2) rfl ⟨by rw[HB.out,HV.out],S3,S4⟩
abbrev q5N (h:Hp):List Value:=[.int .u8 (zn h.nm 0),.int .u8 (zn h.nm 1),.int .u8 (zn h.nm 2),.int .u8 (zn h.nm 3),.int .u8 (zn h.nm 4),.int .u8 (zn h.nm 5),.int .u8 (zn h.nm 6),.int .u8 (zn h.nm 7),.int .i64 (h.ds.getD 0 0:Nat),.int .i64 (h.ds.getD 1 0:Nat),.int .i64 h.ds.length]
abbrev q4M (h:Hp):Value:=.agg #[.int .u8 (zn h.nm 0),.int .u8 (zn h.nm 1),.int .u8 (zn h.nm 2),.int .u8 (zn h.nm 3),.int .u8 (zn h.nm 4),.int .u8 (zn h.nm 5),.int .u8 (zn h.nm 6),.int .u8 (zn h.nm 7),.int .i64 (h.ds.getD 0 0:Nat),.int .i64 (h.ds.getD 1 0:Nat),.int .i64 h.ds.length]
abbrev z11:Array Value:=#[.int .u8 0,.int .u8 0,.int .u8 0,.int .u8 0,.int .u8 0,.int .u8 0,.int .u8 0,.int .u8 0,.int .i64 0,.int .i64 0,.int .i64 0]
structure HapAt (w:World)(b:Nat)(cs:List Value):Prop where
 len:cs.length=11
 cells:∀j,j<11→w.cell? ⟨b,j,none⟩=cs[j]?
 free:∀j,w.frozen? ⟨b,j,none⟩=false
 lt:b<w.heap.size
theorem HapAt.of_row {w:World}{b:Nat}{cs:List Value}{t:TypeId}(hl:cs.length=11)(h:w.heap[b]?=some (.cells cs.toArray t (0,0))):HapAt w b cs:=by
 refine⟨hl,fun j hj=>?_,fun j=>zF _ _ j _ _ h,?_⟩
 ·rw[zC _ _ j _ _ _ h,List.getElem?_toArray]
 ·rcases Nat.lt_or_ge b w.heap.size with g|g
  ·exact g
  ·rw[Array.getElem?_eq_none g]at h;simp at h
theorem HapAt.set {w:World}{b:Nat}{cs:List Value}(h:HapAt w b cs)(o:Nat)(ho:o<11)(u:Value):HapAt (w.setCell ⟨b,o,none⟩ u) b (cs.set o u):=by
 have hl:=h.len
 refine⟨by simpa using h.len,fun j hj=>?_,fun q=>by rw[World.frozen?_setCell];exact h.free q,by simpa using h.lt⟩
 by_cases e:j=o
 ·subst e
  have hc:=h.cells j ho
  rw[zG (by omega)]at hc
  rw[zS w _ _ hc,List.getElem?_set_self (by omega)]
 ·rw[zX w _ _ _ (by intro q;injection q with q1 q2;exact e q2.symm),List.getElem?_set_ne (by omega)]
  exact h.cells j hj
theorem HapAt.only {w w':World}{bl:List Nat}{b:Nat}{cs:List Value}(h:HapAt w b cs)(ho:OnlyB bl w w')(hn:b∉bl):HapAt w' b cs:=
 ⟨h.len,fun j hj=>by rw[ho.cell h.lt hn];exact h.cells j hj,fun o=>by rw[ho.frozen h.lt hn];exact h.free o,zT h.lt ho.size⟩
theorem HapAt.load {w:World}{b:Nat}{cs:List Value}(h:HapAt w b cs):(Instr.loadAt 129 (.pointer (some ⟨b,0,none⟩))).run Tryz.prog w=.ok (.agg cs.toArray) w:=
 run_loadAt_mid w b 0 129 cs _ (fun j v hv=>by rw[Nat.zero_add,h.cells j (by have:=(List.getElem?_eq_some_iff.1 hv).1;have:=h.len;omega)];exact hv) Tryz.underlying129 rfl (by rw[h.len];kernel_rfl)
theorem HapAt.loadV {w:World}{b:Nat}{cs:List Value}(h:HapAt w b cs):(loadVar 129 ⟨b,0,none⟩).run Tryz.prog w=.ok (.agg cs.toArray) w:=
 run_loadVar_mid w b 0 129 cs _ (fun j v hv=>by rw[Nat.zero_add,h.cells j (by have:=(List.getElem?_eq_some_iff.1 hv).1;have:=h.len;omega)];exact hv) Tryz.underlying129 rfl (by rw[h.len];kernel_rfl)
theorem hap_out {s:By}{w W:World}{br i:Nat}(hbr:br<w.heap.size)(hr:Rdr W br s i)(ho:OnlyB [br] w W)(hz:W.heap[w.heap.size]?=some (.cells z11 129 (0,0)))(h:Hp) :
  ∃W',(Instr.storeAt 129 (.pointer (some ⟨w.heap.size,0,none⟩)) (q4M h)).run Tryz.prog W=.ok () W'∧(loadVar 129 ⟨w.heap.size,0,none⟩).run Tryz.prog W'=.ok (q4M h) W'∧Rdr W' br s i∧OnlyB [br] w W':=by
 obtain⟨W',s1,s2,s3,s4,s5,s6,s7⟩:=q0n (P:=Tryz.prog) 129 129 W w.heap.size z11 #[.int .u8 (zn h.nm 0),.int .u8 (zn h.nm 1),.int .u8 (zn h.nm 2),.int .u8 (zn h.nm 3),.int .u8 (zn h.nm 4),.int .u8 (zn h.nm 5),.int .u8 (zn h.nm 6),.int .u8 (zn h.nm 7),.int .i64 (h.ds.getD 0 0:Nat),.int .i64 (h.ds.getD 1 0:Nat),.int .i64 h.ds.length] hz (by kernel_rfl) rfl (by simp[Value.oneCell'])
 have hne:br≠w.heap.size:=by omega
 refine⟨W',s1,(HapAt.of_row (cs:=q5N h) rfl s2).loadV,?_,⟨s5.trans ho.os,s6.trans ho.tape,s7.trans ho.output,by rw[s4];exact ho.size,fun q hq hn=>by rw[s3 q (by omega)];exact ho.block q hq hn⟩⟩
 exact⟨by rw[zK (w:=W) (s3 br hne)];exact hr.text,by rw[zK (w:=W) (s3 br hne)];exact hr.at',fun o=>by rw[World.frozen?_of_block (w:=W) (s3 br hne)];exact hr.free o,by rw[s4];exact hr.lt⟩
structure Mid (s:By)(w:World)(br i:Nat)(W:World):Prop where
 rd:Rdr W br s i
 on:OnlyB [br] w W
 lt:w.heap.size<W.heap.size
 z:W.heap[w.heap.size]?=some (.cells z11 129 (0,0))
theorem Mid.below {s:By}{w W W':World}{br i:Nat}(h:Mid s w br i W)(hb:Below W.heap.size W W'):Mid s w br i W':=
 ⟨h.rd.only (OnlyB.of_below (bl:=[]) hb) (by simp),h.on.trans (.of_below hb),zT h.lt hb.size,(hb.block _ h.lt).trans h.z⟩
theorem Mid.next {s:By}{w W W':World}{br i i':Nat}(h:Mid s w br i W)(hbr:br<w.heap.size)(hr:Rdr W' br s i')(ho:OnlyB [br] W W'):Mid s w br i' W':=
 ⟨hr,h.on.trans ho,zT h.lt ho.size,(ho.block _ h.lt (by simp;omega)).trans h.z⟩
theorem Mid.start {s:By}{w:World}{br i:Nat}(h:Rdr w br s i):Mid s w br i (w.alloc (.cells z11 129)):=by
 have B:Below w.heap.size w (w.alloc (.cells z11 129)):=(zB _ _).alloc (zL _) _
 exact⟨h.only (OnlyB.of_below (bl:=[]) B) (by simp),.of_below B,by simp,zN _ _⟩
theorem Mid.out {s:By}{w W:World}{br i:Nat}(h:Mid s w br i W)(hbr:br<w.heap.size)(hp:Hp) :
 ∃W',(Instr.storeAt 129 (.pointer (some ⟨w.heap.size,0,none⟩)) (q4M hp)).run Tryz.prog W=.ok () W'∧(loadVar 129 ⟨w.heap.size,0,none⟩).run Tryz.prog W'=.ok (q4M hp) W'∧Rdr W' br s i∧OnlyB [br] w W':=hap_out hbr h.rd h.on h.z hp
theorem Mid.setNew {s:By}{w W:World}{br i b o:Nat}(h:Mid s w br i W)(hbr:br<w.heap.size)(hb:w.heap.size<b)(u:Value):Mid s w br i (W.setCell ⟨b,o,none⟩ u):=
 ⟨h.rd.other (by omega) u,h.on.setNew (by omega) u,by simpa using h.lt,by rw[Below.heap_setCell _ _ _ _ (by simp;omega)];exact h.z⟩
theorem Mid.fin {s:By}{w W:World}{br i b:Nat}(h:Mid s w br i W)(hbr:br<w.heap.size)(hp:Hp)(ha:HapAt W b (q5N hp)) :
  ∃V,V=q4M hp∧(Instr.loadAt 129 (.pointer (some ⟨b,0,none⟩))).run Tryz.prog W=.ok V W∧∃W',(Instr.storeAt 129 (.pointer (some ⟨w.heap.size,0,none⟩)) V).run Tryz.prog W=.ok () W'∧(loadVar 129 ⟨w.heap.size,0,none⟩).run Tryz.prog W'=.ok V W'∧Rdr W' br s i∧OnlyB [br] w W':=by
 obtain⟨W',h1,h2,h3,h4⟩:=h.out hbr hp
 exact⟨_,rfl,ha.load,W',h1,h2,h3,h4⟩
theorem q8h (s:By)(hs:s.length≤80)(br i:Nat)(hi:i≤s.length)(w:World)(h:Rdr w br s i)(R:Bool × Nat × Hp)(hR:q2R s i=R) :
  Calls Tryz.prog 50 #[.pointer (some ⟨br,0,none⟩)] w fun e w'=>e=.returned (.tuple #[q4M R.2.2,.bool R.1])∧Rdr w' br s R.2.1∧OnlyB [br] w w':=by
 have hbr:=h.lt
 have HM:=zb (Mid.start h)
 unfold q2R at hR
 clear h
 by_cases h1:cI s i=32
 ·rw[if_pos h1]at hR
  have hn:=q9M s 8 (i+1) (by have:=q2S (s:=s) (i:=i) (by omega);omega)
  have HT:=zb (fun W (h:Rdr W br s i)=>q2e s hs br i (by omega) 32 h1 W h)
  have HN:=zb (fun W (h:Rdr W br s (i+1))=>log_name s hs br (i+1) (by omega) W h (nmF s 8 (i+1)) rfl)
  have HR:=zb hR
  clear h1 hR
  go_enter Tryz.func50,Tryz.ntmps50
  go_wp2_with fail
  refine(HT.out _ HM.out.rd).mono ?_
  rintro e w1 ⟨rfl,r1,o1⟩
  have M1:=HM.out.next hbr r1 o1
  have HM1:=zb M1
  clear r1 o1 M1 HM HT
  go_wp2_with fail
  refine(HN.out _ HM1.out.rd).mono ?_
  rintro e w2 ⟨rfl,r2,o2⟩
  have M2:=HM1.out.next hbr r2 o2
  have hcl:(cut s (i+1) (nmF s 8 (i+1))).length=nmF s 8 (i+1)-(i+1):=by unfold cut;simp;omega
  generalize nmF s 8 (i+1)=j at *
  generalize cut s (i+1) j=nm at *
  have hj:j≤s.length:=hn.2.1
  obtain⟨W3,S3,g3,b3,z3⟩:=q0m (P:=Tryz.prog) 126 w2 z8 #[.int .u8 (zn nm 0),.int .u8 (zn nm 1),.int .u8 (zn nm 2),.int .u8 (zn nm 3),.int .u8 (zn nm 4),.int .u8 (zn nm 5),.int .u8 (zn nm 6),.int .u8 (zn nm 7)] (by kernel_rfl) rfl (by simp[Value.oneCell'])
  have HM3:=zb (M2.below b3)
  have HW3:Hid (WArr W3 w2.heap.size nm):=zb (WArr.of_row g3)
  have hb1:w2.heap.size<W3.heap.size:=by omega
  have hb1r:w2.heap.size≠br:=by have:=M2.lt;omega
  obtain⟨V,hV⟩:∃V,V=q4g nm:=⟨_,rfl⟩
  have S3':(Instr.storeAt 126 (.pointer (some ⟨w2.heap.size,0,none⟩)) V).run Tryz.prog (w2.alloc (.cells z8 126))=.ok () W3:=by rw[hV];exact S3
  rw[←hV]
  have HV:=zb hV
  clear r2 o2 M2 HM1 HN b3 g3 z3 S3 hV hcl
  by_cases h2:i+1<j
  ·have hR:=HR.out
   rw[if_pos h2]at hR
   have HR:=zb hR
   rw[decide_eq_true h2]
   clear hR
   by_cases h3:cI s j=40
   ·have hR:=HR.out
    rw[if_pos h3]at hR
    have HT:=zb (fun W (h:Rdr W br s j)=>q2e s hs br j (by omega) 40 h3 W h)
    have HR:=zb hR
    have hj1:=q2S (s:=s) (i:=j) (by omega)
    clear hR h3
    go_wp2_with (refine ze rfl 126 (.tmp 4) (.tmp 17) rfl ⟨w2.heap.size,0,none⟩ V rfl rfl W3 S3' ?_)
    refine(HT.out _ HM3.out.rd).mono ?_
    rintro e w4 ⟨rfl,r4,o4⟩
    have HM4:=zb (HM3.out.next hbr r4 o4)
    have HO4:=zb o4
    clear r4 o4 HM3 HT S3'
    by_cases h4:qd (cI s (j+1))=true
    ·have hR:=HR.out
     rw[if_pos h4]at hR
     have hj2:=(q3A h4).1
     have hd9:=(j1c h4).2
     have HT:=zb (fun W (h:Rdr W br s (j+1))=>q8g s hs br (j+1) (by omega) h4 W h)
     generalize dI s (j+1)=d at *
     have HR:=zb hR
     clear hR h4
     go_wp2_with fail
     refine(HT.out _ HM4.out.rd).mono ?_
     rintro e w5 ⟨rfl,r5,o5⟩
     have M5:=HM4.out.next hbr r5 o5
     have O5:=HO4.out.trans o5
     have L5:(Instr.loadAt 126 (.pointer (some ⟨w2.heap.size,0,none⟩))).run Tryz.prog w5=.ok (q4g nm) w5:=
      WArr.load ⟨fun q hq=>by rw[O5.cell hb1 (by simpa using hb1r)];exact HW3.out.cells q hq,fun q=>by rw[O5.frozen hb1 (by simpa using hb1r)];exact HW3.out.free q,zT hb1 O5.size⟩
     obtain⟨W6,S6,g6,b6,z6⟩:=q0m (P:=Tryz.prog) 129 w5 z11 #[.int .u8 (zn nm 0),.int .u8 (zn nm 1),.int .u8 (zn nm 2),.int .u8 (zn nm 3),.int .u8 (zn nm 4),.int .u8 (zn nm 5),.int .u8 (zn nm 6),.int .u8 (zn nm 7),.int .i64 0,.int .i64 0,.int .i64 1] (by kernel_rfl) rfl (by simp[Value.oneCell'])
     have A6:HapAt W6 w5.heap.size [.int .u8 (zn nm 0),.int .u8 (zn nm 1),.int .u8 (zn nm 2),.int .u8 (zn nm 3),.int .u8 (zn nm 4),.int .u8 (zn nm 5),.int .u8 (zn nm 6),.int .u8 (zn nm 7),.int .i64 0,.int .i64 0,.int .i64 1]:=HapAt.of_row rfl g6
     have c8:=A6.cells 8 (by omega)
     have f8:=A6.free 8
     simp only[List.getElem?_cons_succ,List.getElem?_cons_zero]at c8
     have l6:=A6.lt
     have HA6:=zb A6
     have HM6:=zb (M5.below b6)
     have hb2:=M5.lt
     clear r5 o5 M5 O5 HM4 HO4 HT HW3 g6 b6 z6 A6
     go_wp2_with (first|(refine ze rfl 129 (.tmp 7) (.tmp 36) rfl ⟨w5.heap.size,0,none⟩ _ rfl rfl W6 S6 ?_)|(refine zj rfl 126 (.tmp 4) rfl ⟨w2.heap.size,0,none⟩ (q4g nm) rfl L5 ?_))
     generalize Value.agg _=g36
     have A7:=HA6.out.set 8 (by omega) (.int .i64 d)
     have HM7:=zb (HM6.out.setNew hbr hb2 (o:=8) (.int .i64 d))
     have HA7:=zb A7
     clear HM6 HA6 A7 c8 f8 S6 L5
     generalize W6.setCell ⟨w5.heap.size,8,none⟩ (.int .i64 d)=W7 at *
     have hb2r:w5.heap.size≠br:=by omega
     generalize w5.heap.size=b2 at *
     have hR:=HR.out
     unfold q7U at hR
     clear HV hb1 hb1r
     by_cases h5:cI s (j+2)=44
     ·rw[if_pos h5]at hR
      have HT:=zb (fun W (h:Rdr W br s (j+2))=>q2e s hs br (j+2) (by omega) 44 h5 W h)
      have hj3:=q2S (s:=s) (i:=j+2) (by omega)
      clear h5 HR
      refine(HT.out _ HM7.out.rd).mono ?_
      rintro e w8 ⟨rfl,r8,o8⟩
      have HM8:=zb (HM7.out.next hbr r8 o8)
      have HA8:=zb (HA7.out.only o8 (by simpa using hb2r))
      clear r8 o8 HM7 HA7 HT
      by_cases h6:qd (cI s (j+2+1))=true
      ·rw[if_pos h6]at hR
       have hj4:=(q3A h6).1
       have HT:=zb (fun W (h:Rdr W br s (j+2+1))=>q8g s hs br (j+2+1) (by omega) h6 W h)
       generalize dI s (j+2+1)=d' at *
       clear h6
       have HR:=zb hR
       clear hR
       go_wp2_with fail
       refine(HT.out _ HM8.out.rd).mono ?_
       rintro e w9 ⟨rfl,r9,o9⟩
       have M9:=HM8.out.next hbr r9 o9
       have A9:=HA8.out.only o9 (by simpa using hb2r)
       have c9:=A9.cells 9 (by omega)
       have c10:=A9.cells 10 (by omega)
       have f9:=A9.free 9
       have f10:=A9.free 10
       have l9:=A9.lt
       simp only[List.set_cons_succ,List.set_cons_zero,List.getElem?_cons_succ,List.getElem?_cons_zero]at c9 c10
       have HM10:=zb ((M9.setNew hbr hb2 (o:=9) (.int .i64 d')).setNew hbr hb2 (o:=10) (.int .i64 2))
       have HA10:=zb ((A9.set 9 (by omega) (.int .i64 d')).set 10 (by omega) (.int .i64 2))
       clear r9 o9 M9 A9 HM8 HA8 HT
       by_cases h7:cI s (j+2+2)=41
       ·have hR:=HR.out
        rw[if_pos h7]at hR
        have HT:=zb (fun W (h:Rdr W br s (j+2+2))=>q2e s hs br (j+2+2) (by omega) 41 h7 W h)
        have HR:=zb hR
        clear hR h7
        go_wp2_with fail
        refine(HT.out _ HM10.out.rd).mono ?_
        rintro e w11 ⟨rfl,r11,o11⟩
        obtain⟨V',hV',L',W',S1,S2,S3,S4⟩:=(HM10.out.next hbr r11 o11).fin hbr ⟨nm,[d,d']⟩ (HA10.out.only o11 (by simpa using hb2r))
        have HV':=zb hV'
        clear r11 o11 HM10 HA10 HT hV'
        go_wp2_with (first|(refine zj rfl 129 (.tmp 7) rfl ⟨b2,0,none⟩ V' rfl L' ?_)|(refine ze rfl 129 (.tmp 2) (.tmp 58) rfl ⟨w.heap.size,0,none⟩ V' rfl rfl W' S1 ?_))
        exact zP (v:=.tuple #[V',.bool true]) (qi rfl _ _ _ _ _ rfl rfl S2) rfl ⟨by rw[HV'.out,←HR.out],by rw[←HR.out];exact S3,S4⟩
       ·have hR:=HR.out
        rw[if_neg h7]at hR
        have HT:=zb (fun W (h:Rdr W br s (j+2+2))=>q3I s hs br (j+2+2) (by omega) 41 h7 W h)
        have HR:=zb hR
        clear hR h7
        go_wp2_with fail
        refine(HT.out _ HM10.out.rd).mono ?_
        rintro e w11 ⟨rfl,b11⟩
        obtain⟨W',S1,S2,S3,S4⟩:=(HM10.out.below b11).out hbr ⟨[],[]⟩
        clear b11 HM10 HA10 HT
        go_wp2_with (refine ze rfl 129 (.tmp 2) (.tmp 57) rfl ⟨w.heap.size,0,none⟩ (q4M ⟨[],[]⟩) rfl rfl W' S1 ?_)
        exact zP (v:=.tuple #[q4M ⟨[],[]⟩,.bool false]) (qi rfl _ _ _ _ _ rfl rfl S2) rfl ⟨by rw[←HR.out],by rw[←HR.out];exact S3,S4⟩
      ·have h6':qd (cI s (j+2+1))=false:=by simpa using h6
       rw[if_neg h6]at hR
       have HT:=zb (fun W (h:Rdr W br s (j+2+1))=>q8Y s hs br (j+2+1) (by omega) h6' W h)
       have HR:=zb hR
       clear hR h6 h6'
       go_wp2_with fail
       refine(HT.out _ HM8.out.rd).mono ?_
       rintro e w9 ⟨rfl,b9⟩
       obtain⟨W',S1,S2,S3,S4⟩:=(HM8.out.below b9).out hbr ⟨[],[]⟩
       clear b9 HM8 HA8 HT
       go_wp2_with (refine ze rfl 129 (.tmp 2) (.tmp 49) rfl ⟨w.heap.size,0,none⟩ (q4M ⟨[],[]⟩) rfl rfl W' S1 ?_)
       exact zP (v:=.tuple #[q4M ⟨[],[]⟩,.bool false]) (qi rfl _ _ _ _ _ rfl rfl S2) rfl ⟨by rw[←HR.out],by rw[←HR.out];exact S3,S4⟩
     ·rw[if_neg h5]at hR
      have HT:=zb (fun W (h:Rdr W br s (j+2))=>q3I s hs br (j+2) (by omega) 44 h5 W h)
      clear h5 HR
      refine(HT.out _ HM7.out.rd).mono ?_
      rintro e w8 ⟨rfl,b8⟩
      have HM8:=zb (HM7.out.below b8)
      have HA8:=zb (HA7.out.only (OnlyB.of_below (bl:=[]) b8) (by simp))
      clear b8 HM7 HA7 HT
      by_cases h7:cI s (j+2)=41
      ·rw[if_pos h7]at hR
       have HT:=zb (fun W (h:Rdr W br s (j+2))=>q2e s hs br (j+2) (by omega) 41 h7 W h)
       have HR:=zb hR
       clear hR h7
       go_wp2_with fail
       refine(HT.out _ HM8.out.rd).mono ?_
       rintro e w11 ⟨rfl,r11,o11⟩
       obtain⟨V',hV',L',W',S1,S2,S3,S4⟩:=(HM8.out.next hbr r11 o11).fin hbr ⟨nm,[d]⟩ (HA8.out.only o11 (by simpa using hb2r))
       have HV':=zb hV'
       clear r11 o11 HM8 HA8 HT hV'
       go_wp2_with (first|(refine zj rfl 129 (.tmp 7) rfl ⟨b2,0,none⟩ V' rfl L' ?_)|(refine ze rfl 129 (.tmp 2) (.tmp 58) rfl ⟨w.heap.size,0,none⟩ V' rfl rfl W' S1 ?_))
       exact zP (v:=.tuple #[V',.bool true]) (qi rfl _ _ _ _ _ rfl rfl S2) rfl ⟨by rw[HV'.out,←HR.out],by rw[←HR.out];exact S3,S4⟩
      ·rw[if_neg h7]at hR
       have HT:=zb (fun W (h:Rdr W br s (j+2))=>q3I s hs br (j+2) (by omega) 41 h7 W h)
       have HR:=zb hR
       clear hR h7
       go_wp2_with fail
       refine(HT.out _ HM8.out.rd).mono ?_
       rintro e w11 ⟨rfl,b11⟩
       obtain⟨W',S1,S2,S3,S4⟩:=(HM8.out.below b11).out hbr ⟨[],[]⟩
       clear b11 HM8 HA8 HT
       go_wp2_with (refine ze rfl 129 (.tmp 2) (.tmp 57) rfl ⟨w.heap.size,0,none⟩ (q4M ⟨[],[]⟩) rfl rfl W' S1 ?_)
       exact zP (v:=.tuple #[q4M ⟨[],[]⟩,.bool false]) (qi rfl _ _ _ _ _ rfl rfl S2) rfl ⟨by rw[←HR.out],by rw[←HR.out];exact S3,S4⟩
    ·have h4':qd (cI s (j+1))=false:=by simpa using h4
     have hR:=HR.out
     rw[if_neg h4]at hR
     have HT:=zb (fun W (h:Rdr W br s (j+1))=>q8Y s hs br (j+1) (by omega) h4' W h)
     have HR:=zb hR
     clear hR h4 h4'
     go_wp2_with fail
     refine(HT.out _ HM4.out.rd).mono ?_
     rintro e w5 ⟨rfl,b5⟩
     obtain⟨W',S1,S2,S3,S4⟩:=(HM4.out.below b5).out hbr ⟨[],[]⟩
     clear b5 HM4 HT HO4 HW3
     go_wp2_with (refine ze rfl 129 (.tmp 2) (.tmp 34) rfl ⟨w.heap.size,0,none⟩ (q4M ⟨[],[]⟩) rfl rfl W' S1 ?_)
     exact zP (v:=.tuple #[q4M ⟨[],[]⟩,.bool false]) (qi rfl _ _ _ _ _ rfl rfl S2) rfl ⟨by rw[←HR.out],by rw[←HR.out];exact S3,S4⟩
   ·have hR:=HR.out
    rw[if_neg h3]at hR
    have HT:=zb (fun W (h:Rdr W br s j)=>q3I s hs br j (by omega) 40 h3 W h)
    have HR:=zb hR
    clear hR h3
    go_wp2_with (refine ze rfl 126 (.tmp 4) (.tmp 17) rfl ⟨w2.heap.size,0,none⟩ V rfl rfl W3 S3' ?_)
    refine(HT.out _ HM3.out.rd).mono ?_
    rintro e w4 ⟨rfl,b4⟩
    obtain⟨W',S1,S2,S3,S4⟩:=(HM3.out.below b4).out hbr ⟨[],[]⟩
    clear b4 HM3 HT HW3 S3'
    go_wp2_with (refine ze rfl 129 (.tmp 2) (.tmp 26) rfl ⟨w.heap.size,0,none⟩ (q4M ⟨[],[]⟩) rfl rfl W' S1 ?_)
    exact zP (v:=.tuple #[q4M ⟨[],[]⟩,.bool false]) (qi rfl _ _ _ _ _ rfl rfl S2) rfl ⟨by rw[←HR.out],by rw[←HR.out];exact S3,S4⟩
  ·have hR:=HR.out
   rw[if_neg h2]at hR
   have HR:=zb hR
   have hj0:j=i+1:=by omega
   rw[decide_eq_false h2]
   obtain⟨W',S1,S2,S3,S4⟩:=HM3.out.out hbr ⟨[],[]⟩
   have HJ:=zb hj0
   clear hR hj0 h2 HM3 HW3
   go_wp2_with (first|(refine ze rfl 126 (.tmp 4) (.tmp 17) rfl ⟨w2.heap.size,0,none⟩ V rfl rfl W3 S3' ?_)|(refine ze rfl 129 (.tmp 2) (.tmp 26) rfl ⟨w.heap.size,0,none⟩ (q4M ⟨[],[]⟩) rfl rfl W' S1 ?_))
   exact zP (v:=.tuple #[q4M ⟨[],[]⟩,.bool false]) (qi rfl _ _ _ _ _ rfl rfl S2) rfl ⟨by rw[←HR.out],by rw[←HR.out,←HJ.out];exact S3,S4⟩
 ·rw[if_neg h1]at hR
  have HT:=zb (fun W (h:Rdr W br s i)=>q3I s hs br i (by omega) 32 h1 W h)
  have HR:=zb hR
  clear hR h1
  go_enter Tryz.func50,Tryz.ntmps50
  go_wp2_with fail
  refine(HT.out _ HM.out.rd).mono ?_
  rintro e w1 ⟨rfl,b1⟩
  obtain⟨W',S1,S2,S3,S4⟩:=(HM.out.below b1).out hbr ⟨[],[]⟩
  clear b1 HM HT
  go_wp2_with (refine ze rfl 129 (.tmp 2) (.tmp 13) rfl ⟨w.heap.size,0,none⟩ (q4M ⟨[],[]⟩) rfl rfl W' S1 ?_)
  exact zP (v:=.tuple #[q4M ⟨[],[]⟩,.bool false]) (qi rfl _ _ _ _ _ rfl rfl S2) rfl ⟨by rw[←HR.out],by rw[←HR.out];exact S3,S4⟩
end Go.Proofs.YtiamjjonoeaggabGreatDoor
