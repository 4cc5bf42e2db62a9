import Derived.Test.YtiamjjonoeaggaaGreatDoorGA
import Derived.Test.YtiamjjonoeaggaaGreatDoorGB
import Derived.Test.YtiamjjonoeaggaaGreatDoorG13
import Derived.Test.YtiamjjonoeaggaaGreatDoorG14
import Derived.Test.YtiamjjonoeaggaaGreatDoorG26
import Derived.Deep.RegionLaw
set_option maxRecDepth 100000
set_option maxHeartbeats 16000000
namespace Go.Proofs.YtiamjjonoeaggaaGreatDoor
open Go.RowKit
def q1Z (ao:OA):List Nat:=match ao with
 |some a=>[a.block]
 |none=>[]
def q7B (L:List LPt)(st:Nat):Nat:=if L.length=0 then 0 else q0C L 0 (L.length-1)+toR L st
theorem info_pt:(Tryz.prog.info? 137).map (fun i=>(i.zero,i.size,i.bytes))=some (some (.agg #[.int .u16 0,.slice none 0 0,.int .i64 0]),3,40):=by kernel_rfl
theorem j3Q (b o:Nat)(ao:OA)(cap:Nat)(PL:List PPt)(w:World)(h:LogAt w b o ao cap PL) :
  Calls Tryz.prog 57 #[.pointer (some ⟨b,o,none⟩),.int .i64 0,.int .i64 ((PL.length:Int)-1)] w fun e w'=>e=.returned (.int .i64 (if PL.length=0 then 0 else q0C (zA PL) 0 (PL.length-1):Nat))∧Below w.heap.size w w':=by
 by_cases hn:PL.length=0
 ·rw[if_pos hn]
  exact j1s b o ao cap PL _ hn w h
 ·rw[if_neg hn]
  have:=q6Q b o ao cap PL 0 (PL.length-1) (by omega) (by omega) w h
  rwa [show((PL.length-1:Nat):Int)=(PL.length:Int)-1 by omega]at this
theorem q8f {w:World}{b base size n:Nat}{cs:Array Value}{t e:TypeId}{v:Value}{xs:List Value}(h:w.heap[b]?=some (.cells cs t (0,0)))(ho:w.ownsRow base e size v n xs)(ht:t≠e):some b≠v.ownBlock:=by
 rcases ho.2 with⟨rfl,_⟩|⟨g,cap,cur,rfl,_,hg,_⟩
 ·simp[Value.ownBlock]
 ·intro hb
  simp only[Value.ownBlock,Option.some.injEq]at hb
  subst hb
  rw[h]at hg
  simp at hg
  exact ht hg.2
theorem news3_at (W:World)(e:TypeId)(x y z:Value):∀j u,[x,y,z][j]?=some u→(W.alloc (.cells #[x,y,z] e)).cell? ((⟨W.heap.size,0,none⟩:Addr).add j)=some u:=by
 intro j u hj
 rw[q4l,Nat.zero_add,zC _ _ j _ _ _ (zN W _)]
 simpa using hj
theorem add_time (PL:List PPt)(st:Nat):q7B (zA PL) st=(if PL.length=0 then 0 else q0C (zA PL) 0 (PL.length-1))+toR (zA PL) st:=by
 unfold q7B
 rw[List.length_map]
 by_cases h:PL.length=0
 ·rw[if_pos h,if_pos h]
  have:PL=[]:=List.eq_nil_of_length_eq_zero h
  rw[this]
  rfl
 ·rw[if_neg h,if_neg h]
theorem q2i {w:World}{b o base size n:Nat}{cs:Array Value}{t e:TypeId}{v:Value}{xs:List Value}(ho:w.ownsRow base e size v n xs)(h:w.heap[b]?=some (.cells cs t (0,0)))(ht:t≠e)(u:Value):(w.setCell ⟨b,o,none⟩ u).ownsRow base e size v n xs:=by
 refine⟨ho.1,?_⟩
 rcases ho.2 with h'|⟨g,cap,cur,h1,h2,h3,h4⟩
 ·exact .inl h'
 ·refine .inr ⟨g,cap,cur,h1,h2,?_,h4⟩
  rw[Below.heap_setCell _ _ _ _ (by intro e';simp at e';subst e';rw[h]at h3;simp at h3;exact ht h3.2)]
  exact h3
theorem add_post {w W0 w2 w5 w6:World}{b o:Nat}{ao:OA}{cap:Nat}{PL:List PPt}{cs:Array Value}{t:TypeId}{st T:Nat}{l:List Hp}{hv5:Value}{ob:Obj}{g6 cap6:Nat}{vt:Int}(hst:st≤65535)(hn:PL.length<40)
  (htm:∀(i:Nat) (hi:i<PL.length),(PL[i]).1.time≤32768*i∧(PL[i]).1.stamp≤65535)(hT:T≤32768*PL.length)(hvt:vt=(T:Int))(hlb:b<w.heap.size)(ht:t≠137)(hth:t≠130)
  (B0:Below w.heap.size w W0)(B02:Below W0.heap.size W0 w2)(M2:w2.heap[b]?=some (.cells cs t (0,0)))(hown:w2.ownsRow 0 137 3 (.slice ao PL.length cap) PL.length (q2r PL))
  (b5:Below w2.drew.heap.size w2.drew w5)(hO5:w5.ownsRow w2.drew.heap.size 130 11 hv5 l.length (qH l))(hgrow6:(w5.alloc ob).grownBy w6 (Value.slice ao PL.length cap).ownBlock)
  (hown6:w6.ownsRow 0 137 3 (.slice (some ⟨g6,0,none⟩) (PL.length+1) cap6) (PL.length+1) (q2r PL++[.int .u16 st,hv5,.int .i64 vt])){ov:Value}(c6:w6.cell? ⟨b,o,none⟩=some ov) :
  LogAt (w6.setCell ⟨b,o,none⟩ (.slice (some ⟨g6,0,none⟩) (PL.length+1) cap6)) b o (some ⟨g6,0,none⟩) cap6 (PL++[(⟨st,T,l⟩,hv5)])∧(w6.setCell ⟨b,o,none⟩ (.slice (some ⟨g6,0,none⟩) (PL.length+1) cap6)).ownsRow w.heap.size 130 11 hv5 l.length (qH l)∧(w6.setCell ⟨b,o,none⟩ (.slice (some ⟨g6,0,none⟩) (PL.length+1) cap6)).heap[b]?=some (.cells (cs.setIfInBounds o (.slice (some ⟨g6,0,none⟩) (PL.length+1) cap6)) t (0,0))∧OnlyB (b::q1Z ao) w (w6.setCell ⟨b,o,none⟩ (.slice (some ⟨g6,0,none⟩) (PL.length+1) cap6)):=by
 have z1:=B0.size
 have z2:=B02.size
 have z5:w2.heap.size≤w5.heap.size:=b5.size
 have z6:=hgrow6.size
 simp at z6
 have hb2:b<w2.heap.size:=by omega
 have hb6:w6.heap[b]?=some (.cells cs t (0,0)):=by
  rw[hgrow6.block b (by simp;omega) (q8f M2 hown ht),zO _ _ (by omega),b5.block b hb2]
  exact M2
 have e1:(PL++[((⟨st,T,l⟩:LPt),hv5)]).length=PL.length+1:=by simp
 have hrow:w6.ownsRow 0 137 3 (.slice (some ⟨g6,0,none⟩) (PL.length+1) cap6) (PL.length+1) (q2r (PL++[(⟨st,T,l⟩,hv5)])):=by
  rw[hvt]at hown6
  have e2:q2r (PL++[((⟨st,T,l⟩:LPt),hv5)])=q2r PL++[.int .u16 st,hv5,.int .i64 T]:=by simp[q2r]
  rw[e2]
  exact hown6
 have hO6:w6.ownsRow w2.drew.heap.size 130 11 hv5 l.length (qH l):=by
  refine(hO5.alloc ob).kept hgrow6 ?_
  cases hx:hv5.ownBlock with
  |none=>exact .inl rfl
  |some k =>
   right
   intro e
   rw[←e]at hgrow6
   have h5:=(hO5.lt k hx).1
   have h2:k<w2.heap.size:=(hown.lt k e.symm).2
   have h5':w2.heap.size≤k:=h5
   omega
 refine⟨⟨?_,?_,?_,?_,?_⟩,?_,?_,?_⟩
 ·rw[e1];exact zS w6 _ _ c6
 ·simp;omega
 ·rw[e1];exact q2i hrow hb6 ht _
 ·rw[e1];omega
 ·intro i hi
  rw[e1]at hi
  by_cases h:i<PL.length
  ·rw[List.getElem_append_left h];exact htm i h
  ·have:i=PL.length:=by omega
   subst this
   simp
   exact⟨hT,hst⟩
 ·exact q4B (by show w.heap.size≤w2.heap.size;omega) (q2i hO6 hb6 hth _)
 ·exact zH w6 b o cs t _ hb6
 ·refine⟨(hgrow6.os.trans b5.os).trans (B02.os.trans B0.os),(hgrow6.tape.trans b5.tape).trans (B02.tape.trans B0.tape),(hgrow6.output.trans b5.output).trans (B02.output.trans B0.output),by simp;omega,fun k hk hnm=>?_⟩
  have hkb:k≠b:=fun e=>hnm (by rw[e];exact List.mem_cons_self)
  rw[Below.heap_setCell _ _ _ _ (by simpa using hkb),hgrow6.block k (by simp;omega) ?_,zO _ _ (by omega),b5.block k (show k<w2.heap.size by omega)]
  ·show w2.heap[k]?=_
   rw[B02.block k (by omega),B0.block k hk]
  ·intro e
   apply hnm
   cases ao with
   |none=>simp[Value.ownBlock]at e
   |some a =>
    simp only[Value.ownBlock,Option.some.injEq]at e
    subst e
    simp[q1Z]
theorem j5A (st:Nat)(hst:st≤65535)(hv:Value)(l:List Hp)(b o:Nat)(ao:OA)(cap:Nat)(PL:List PPt)(w:World)(h:LogAt w b o ao cap PL)(cs:Array Value)(t:TypeId)(hm:w.heap[b]?=some (.cells cs t (0,0)))(ht:t≠137)(hth:t≠130)
  (hl:w.ownsRow 0 130 11 hv l.length (qH l))(hl80:l.length≤80)(hstep:toR (zA PL) st<32768)(hn:PL.length<40) :
  Calls Tryz.prog 39 #[.pointer (some ⟨b,o,none⟩),.agg #[.int .u16 st,hv]] w fun e w'=>e=.returned (.int .i64 0)∧∃g' cap' hv',LogAt w' b o (some ⟨g',0,none⟩) cap' (PL++[(⟨st,q7B (zA PL) st,l⟩,hv')])∧w'.ownsRow w.heap.size 130 11 hv' l.length (qH l)∧w'.heap[b]?=some (.cells (cs.setIfInBounds o (.slice (some ⟨g',0,none⟩) (PL.length+1) cap')) t (0,0))∧OnlyB (b::q1Z ao) w w'∧(g'∈q1Z ao∨w.heap.size≤g'):=by
 obtain⟨va,vc,rfl⟩:=q1i hl
 have B0:Below w.heap.size w (w.alloc (.cells #[.int .u16 st,.slice va l.length vc] 92)):=(zB _ _).alloc (zL _) _
 have H0:=zb (h.below B0)
 have HL0:=zb (zo hl B0)
 have HB0:=zb B0
 have HT1:=zb (fun W hW=>j1t b o ao cap PL st hst W hW)
 have HT2:=zb (fun W hW=>j3Q b o ao cap PL W hW)
 have hsm:=h.small
 have htimes:=h.times
 have HTM:=zb h.times
 have G0:=zN w (.cells #[.int .u16 st,.slice va l.length vc] 92)
 have s0:(w.alloc (.cells #[.int .u16 st,.slice va l.length vc] 92)).heap.size=w.heap.size+1:=by simp
 have HG0:=zb G0
 have hlb:=h.lt
 have HM:Hid ((w.alloc (.cells #[.int .u16 st,.slice va l.length vc] 92)).heap[b]?=some (.cells cs t (0,0))):=zb (by rw[zO _ _ h.lt];exact hm)
 have HS0:=zb s0
 clear h hl B0 G0 hm s0
 have HAT:Hid (q7B (zA PL) st=(if PL.length=0 then 0 else q0C (zA PL) 0 (PL.length-1))+toR (zA PL) st):=zb (add_time PL st)
 have HZR:Hid (PL.length=0→toR (zA PL) st=0):=zb (fun h=>by
  have:PL=[]:=List.eq_nil_of_length_eq_zero h
  rw[this]
  rfl)
 generalize q7B (zA PL) st=T at *
 generalize toR (zA PL) st=step at *
 obtain⟨z,hz⟩:∃z:Int,z=(step:Int):=⟨_,rfl⟩
 rw[←hz]at HT1
 have hz0:0≤z:=by omega
 have hz1:z<32768:=by omega
 have HZS:=zb hz
 have HSTEP:=zb hstep
 clear hstep hz
 have hwh:(if PL.length=0 then 0 else q0C (zA PL) 0 (PL.length-1):Nat)≤32768*(PL.length-1):=by
  split
  ·omega
  ·unfold q0C
   rw[j4a (show 0<PL.length by omega),j4a (show PL.length-1<PL.length by omega)]
   have a1:=(htimes 0 (by omega)).1
   have a2:=(htimes (PL.length-1) (by omega)).1
   omega
 generalize (if PL.length=0 then 0 else q0C (zA PL) 0 (PL.length-1):Nat)=wh at *
 obtain⟨whole,hw⟩:∃z:Int,z=(wh:Int):=⟨_,rfl⟩
 rw[←hw]at HT2
 have hw0:0≤whole:=by omega
 have hw1:whole≤2000000:=by omega
 have HWH:=zb hw
 have HWB:=zb hwh
 clear hw hwh
 go_enter Tryz.func39,Tryz.ntmps39
 go_wp2_with fail
 generalize w.alloc (.cells #[.int .u16 st,.slice va l.length vc] 92)=W0 at *
 refine(HT1.out _ H0.out).mono ?_
 rintro e w1 ⟨rfl,b1⟩
 have h1:=H0.out.below b1
 have c1:=h1.cell
 have hlt1:=h1.lt
 have H1:=zb h1
 have HB1:=zb b1
 have HTT:=zb ht
 have HST:=zb hst
 clear b1 h1 HT1 ht hst
 go_wp2_with fail
 refine(HT2.out _ H1.out).mono ?_
 rintro e w2 ⟨rfl,b2⟩
 have b02:Below W0.heap.size W0 w2:=HB1.out.trans (b2.mono HB1.out.size)
 have h2:=H0.out.below b02
 have c2:=h2.cell
 have hlt2:=h2.lt
 have hL2:=zo HL0.out b02
 have G2:=(b02.block w.heap.size (by have:=HS0.out;omega)).trans HG0.out
 have z0:=zC _ _ 0 _ _ _ G2
 have z1:=zC _ _ 1 _ _ _ G2
 simp only[gz]at z0 z1
 have hlz:w.heap.size<w2.heap.size:=by have:=b02.size;have:=HS0.out;omega
 have HC:=zb (fun W (hW:W.ownsRow 0 130 11 (.slice va l.length vc) l.length (qH l))=>j5C st (.slice va l.length vc) l W hW hl80)
 have H2:=zb h2
 have HL2:=zb hL2
 have HB02:=zb b02
 obtain⟨i0,hi0,iz0,iz1,iz2⟩:=info_parts info_pt
 clear b2 b02 h2 hL2 G2 H1 HB1 HT2 c1 hlt1
 go_wp2_with fail
 clear htimes
 have HOWN:=zb H2.out.row
 have M2:w2.heap[b]?=some (.cells cs t (0,0)):=(HB02.out.block b (by have:=HS0.out;omega)).trans HM.out
 have G2:w2.heap[w.heap.size]?=some (.cells #[.int .u16 st,.slice va l.length vc] 92 (0,0)):=(HB02.out.block w.heap.size (by have:=HS0.out;omega)).trans HG0.out
 have fz:=zF _ _ o _ _ M2
 have KEEP5:Hid (∀w5,Below w2.drew.heap.size w2.drew w5→w5.cell? ⟨b,o,none⟩=some (.slice ao PL.length cap)∧w5.cell? ⟨w.heap.size,0,none⟩=some (.int .u16 st)∧w5.cell? ⟨w.heap.size,1,none⟩=some (.slice va l.length vc)):=zb (fun w5 b5=>⟨by rw[zK (b5.block b hlt2)];exact c2,by rw[zK (b5.block w.heap.size hlz)];exact z0,by rw[zK (b5.block w.heap.size hlz)];exact z1⟩)
 have KEEP6:Hid (∀w5 w6 ob,Below w2.drew.heap.size w2.drew w5→(w5.alloc ob).grownBy w6 (Value.slice ao PL.length cap).ownBlock→w6.heap[b]?=w2.heap[b]?∧w6.heap[w.heap.size]?=w2.heap[w.heap.size]?):=zb (fun w5 w6 ob b5 hg=>by
  have ha:=q8f M2 HOWN.out HTT.out
  have hb:=q8f G2 HOWN.out (by decide)
  refine⟨?_,?_⟩
  ·rw[hg.block b (by have:=b5.size;simp;exact Nat.lt_succ_of_lt (zT hlt2 this)) ha,zO _ _ (zT hlt2 b5.size)]
   exact b5.block b hlt2
  ·rw[hg.block w.heap.size (by have:=b5.size;simp;exact Nat.lt_succ_of_lt (zT hlz this)) hb,zO _ _ (zT hlz b5.size)]
   exact b5.block w.heap.size hlz)
 have HM2:=zb M2
 clear M2 G2
 go_region_law ((first|(refine j1L (by rfl) (.tmp 33) (.tmp 38) 85 (by rfl) 0 137 Tryz.underlying85 hi0 iz0 iz1 iz2 rfl (by decide) (.slice ao PL.length cap) PL.length (q2r PL) (by rfl) ((zo HOWN.out.drew b5).alloc _) ⟨w5.heap.size,0,none⟩ 1 1 [.int .u16 st,.slice va5 l.length vc5,.int .i64 (whole+z)] (by rfl) rfl (news3_at w5 _ _ _ _) (by simp[Value.oneCell']) (by unfold maxLen;omega) (by omega) (zZ _) (by decide) ?_;intro v6 w6 hown6 hgrow6 hwh6;obtain⟨g6,cap6,rfl⟩:=zJ hown6 (by omega);have fz6:=(World.frozen?_of_block (a:=⟨b,o,none⟩) (KEEP6.out _ _ _ b5 hgrow6).1).trans fz;have c6:=(zK (a:=⟨b,o,none⟩) (KEEP6.out _ _ _ b5 hgrow6).1).trans c2)|(rw[if_pos (by rfl)];go_simp;go_at_call 58;refine(HC.out _ HL2.out.drew).mono ?_;rintro e w5 ⟨hv',rfl,hO5,b5⟩;obtain⟨va5,vc5,rfl⟩:=q1i hO5;have c5:=(KEEP5.out _ b5).1;have hl5:=zT hlt2 b5.size)))
 all_goals
  have P:=add_post (T:=T) HST.out hn HTM.out (by have:=HAT.out;have:=HWB.out;have:=HSTEP.out;have h0:=HZR.out;by_cases e:PL.length=0;exact(by have:=h0 e;omega);omega) (by have:=HAT.out;have:=HWH.out;have:=HZS.out;omega) hlb HTT.out hth HB0.out HB02.out HM2.out HOWN.out b5 hO5 hgrow6 hown6 c6
  have HP:=zb P
  have WH:Hid (g6∈q1Z ao∨w.heap.size≤g6):=zb (by
   have z5:=b5.size
   have z2:=HB02.out.size
   have z0:=HS0.out
   rcases hwh6 with h6|h6
   ·left
    cases ao with
    |none=>simp[Value.ownBlock]at h6
    |some a0=>simp only[Value.ownBlock,Option.some.injEq]at h6;simp[q1Z,h6]
   ·right
    simp only[Value.ownBlock,Option.some.injEq]at h6
    have e5:(w5.alloc (.cells #[.int .u16 st,.slice va5 l.length vc5,.int .i64 (whole+z)] 137)).heap.size=w5.heap.size+1:=by simp
    have z2':w2.drew.heap.size=w2.heap.size:=rfl
    omega)
  clear P hwh6 b5 hO5 hgrow6 hown6 c6 fz6 c5
  generalize w6.setCell ⟨b,o,none⟩ (.slice (some ⟨g6,0,none⟩) (PL.length+1) cap6)=w7 at *
  go_wp2_with fail
  go_ret
  obtain⟨P1,P2,P3,P4⟩:=HP.out
  exact⟨rfl,g6,cap6,_,P1,P2,P3,P4,WH.out⟩
theorem j7o (st:Nat)(hst:st≤65535)(va:OA)(vn vc:Nat)(b o:Nat)(ao:OA)(cap:Nat)(PL:List PPt)(w:World)(h:LogAt w b o ao cap PL)(hno:¬(toR (zA PL) st<32768∧PL.length<40)) :
  Calls Tryz.prog 39 #[.pointer (some ⟨b,o,none⟩),.agg #[.int .u16 st,.slice va vn vc]] w fun e w'=>e=.returned (.int .i64 (if 32768≤toR (zA PL) st then 7 else 8))∧Below w.heap.size w w':=by
 have B0:Below w.heap.size w (w.alloc (.cells #[.int .u16 st,.slice va vn vc] 92)):=(zB _ _).alloc (zL _) _
 have H0:=zb (h.below B0)
 have HB0:=zb B0
 have HT1:=zb (fun W hW=>j1t b o ao cap PL st hst W hW)
 have hsm:=h.small
 have hsz:w.heap.size≤(w.alloc (.cells #[.int .u16 st,.slice va vn vc] 92)).heap.size:=by simp
 have HSZ:=zb hsz
 clear h B0 hsz
 generalize toR (zA PL) st=step at *
 obtain⟨z,hz⟩:∃z:Int,z=(step:Int):=⟨_,rfl⟩
 rw[←hz]at HT1
 by_cases hs:32768≤step
 ·rw[if_pos hs]
  have hz1:32768≤z:=by omega
  clear hz hs hno
  go_enter Tryz.func39,Tryz.ntmps39
  go_wp2_with fail
  generalize w.alloc (.cells #[.int .u16 st,.slice va vn vc] 92)=W0 at *
  refine(HT1.out _ H0.out).mono ?_
  rintro e w1 ⟨rfl,b1⟩
  have HB1:Hid (Below w.heap.size w w1):=zb (HB0.out.trans (b1.mono HSZ.out))
  clear b1 HT1
  go_wp2_with fail
  go_ret
  exact⟨rfl,HB1.out⟩
 ·rw[if_neg hs]
  have hz1:z<32768:=by omega
  have hz0:0≤z:=by omega
  have hn:40≤PL.length:=by omega
  clear hz hs hno
  go_enter Tryz.func39,Tryz.ntmps39
  go_wp2_with fail
  generalize w.alloc (.cells #[.int .u16 st,.slice va vn vc] 92)=W0 at *
  refine(HT1.out _ H0.out).mono ?_
  rintro e w1 ⟨rfl,b1⟩
  have HB1:Hid (Below w.heap.size w w1):=zb (HB0.out.trans (b1.mono HSZ.out))
  have h1:=H0.out.below b1
  have c1:=h1.cell
  have hlt1:=h1.lt
  clear b1 h1 HT1
  go_wp2_with fail
  go_ret
  exact⟨rfl,HB1.out⟩
def j6w (F:zh)(n:Int)(m:Nat)(l:zh):Prop:=(l=.nil∧n<0)∨∃q:Nat,n=(q:Int)∧m<q∧q<zu F∧(zv F)[q]?=some l
theorem node_idx (F:zh)(hF:q1K F)(m:Nat)(hm:m<zu F) :
  ∃p sp y l r,(zv F)[m]?=some (.node p sp y l r)∧(q0l F 0)[m]?=some (zz m p sp y l r)∧NodeOk y l r∧j6w F (zz m p sp y l r).fst m l∧j6w F (zz m p sp y l r).snd m r:=by
 have hm':m<(zv F).length:=by rw[q0c];exact hm
 obtain⟨p,sp,y,l,r,e,h1,h2,h3⟩:=j7P F 0 m _ (zG hm')
 rw[Nat.zero_add]at h1
 have hG:(zv F)[m]?=some (.node p sp y l r):=by rw[zG hm',e]
 rw[e]at h2 h3
 refine⟨p,sp,y,l,r,hG,h1,(h2 hF).1,?_,?_⟩
 ·have ef:(zz m p sp y l r).fst=if zu l=0 then -1 else(m:Int)+1:=rfl
  rw[ef]
  by_cases hl:l=.nil
  ·subst hl
   exact .inl ⟨rfl,by rw[if_pos (show zu (.nil:zh)=0 from rfl)];decide⟩
  ·obtain⟨g1,g2⟩:=q3A hl
   rw[if_neg (by omega)]
   have h4:=h3 1 (by simp[zu];omega)
   have h5:(zv (.node p sp y l r))[1]?=some l:=by
    rw[zv,List.getElem?_cons_succ,List.getElem?_append_left (by rw[q0c];exact g2),g1]
   rw[h5]at h4
   have hq:=(List.getElem?_eq_some_iff.1 h4).1
   rw[q0c]at hq
   exact .inr ⟨m+1,by omega,by omega,hq,h4⟩
 ·have ef:(zz m p sp y l r).snd=if zu r=0 then -1 else(m:Int)+1+zu l:=rfl
  rw[ef]
  by_cases hr:r=.nil
  ·subst hr
   exact .inl ⟨rfl,by rw[if_pos (show zu (.nil:zh)=0 from rfl)];decide⟩
  ·obtain⟨g1,g2⟩:=q3A hr
   rw[if_neg (by omega)]
   have h4:=h3 (1+zu l) (by simp[zu];omega)
   have h5:(zv (.node p sp y l r))[1+zu l]?=some r:=by
    rw[Nat.add_comm 1,zv,List.getElem?_cons_succ,List.getElem?_append_right (by rw[q0c];omega),q0c,Nat.sub_self,g1]
   rw[h5]at h4
   have hq:=(List.getElem?_eq_some_iff.1 h4).1
   rw[q0c]at hq
   exact .inr ⟨m+(1+zu l),by omega,by omega,hq,h4⟩
theorem j8e {y:Pay}{l r:zh}(m p sp:Nat)(h:NodeOk y l r):j3j (zz m p sp y l r):=by
 have hk:(zz m p sp y l r).kind=zp y.word:=rfl
 have hc:(zz m p sp y l r).cnt=0∨(zz m p sp y l r).cnt=(y.args.length:Int):=by
  unfold zz
  split<;>simp
 unfold j3j
 rw[hk]
 have hs:=h.shape
 unfold q3b q4f at hs
 simp only[Bool.or_eq_true,beq_iff_eq]at hs
 have ha:y.args.length≤2:=by
  rcases hs with h'|h'|h'|h'|h'|h'
  ·exact h'.2.2.2.2.2
  ·rw[h'.2.2.2.2.2];simp
  ·obtain⟨v,h2,_⟩:=h'.2.2.2.2.2;rw[h2];simp
  ·rw[h'.2.2.2.2];simp
  ·rw[h'.2.2.2.2.1];simp
  ·rw[h'.2.2.2.2];simp
 refine⟨?_,?_⟩
 ·rcases hs with h'|h'|h'|h'|h'|h'
  ·exact .inr (.inl h'.1)
  ·exact .inl h'.1
  ·have:=h'.1;omega
  ·have:=h'.1;omega
  ·have:=h'.1;omega
  ·have:=h'.1;omega
 ·rcases hc with hc|hc
  ·exact⟨0,hc,by omega⟩
  ·exact⟨_,hc,ha⟩
structure SetsAt (w:World)(base gs:Nat)(F:zh)(L:List LPt)(n k:Nat)(xs:List Value):Prop where
 row:w.ownsRow base 138 1 (.slice (some ⟨gs,0,none⟩) (zu F) (zu F)) (zu F) xs
 tabs:∀m G,k≤m→(zv F)[m]?=some G→∃v,xs[m]?=some v∧Tb w v n (zs L G)
 form:∀u∈xs,∃a m c,u=.slice a m c
theorem SetsAt.below {w w':World}{base gs:Nat}{F:zh}{L:List LPt}{n k:Nat}{xs:List Value}(h:SetsAt w base gs F L n k xs)(hb:Below w.heap.size w w'):SetsAt w' base gs F L n k xs:=
 ⟨zo h.row hb,fun m G a b=>by obtain⟨v,h1,h2⟩:=h.tabs m G a b;exact⟨v,h1,h2.below hb⟩,h.form⟩
theorem Tb.other {w:World}{v:Value}{m:Nat}{H:Nat→Nat→Nat→Bool}(h:Tb w v m H){b o:Nat}{cs:Array Value}{t:TypeId}(hb:w.heap[b]?=some (.cells cs t (0,0)))(ht:t≠47)(u:Value):Tb (w.setCell ⟨b,o,none⟩ u) v m H:=
 ⟨q2i h.row hb ht u,h.far⟩
theorem SetsAt.other {w:World}{base gs:Nat}{F:zh}{L:List LPt}{n k:Nat}{xs:List Value}(h:SetsAt w base gs F L n k xs){b o:Nat}{cs:Array Value}{t:TypeId}(hb:w.heap[b]?=some (.cells cs t (0,0)))(ht:t≠47)(ht2:t≠138)(u:Value):SetsAt (w.setCell ⟨b,o,none⟩ u) base gs F L n k xs:=
 ⟨q2i h.row hb ht2 u,fun m G a b'=>by obtain⟨v,h1,h2⟩:=h.tabs m G a b';exact⟨v,h1,h2.other hb ht u⟩,h.form⟩
def j0c (xs:List Value)(N:Nat)(n:Int):Value:=if n<0∨(N:Int)≤n then .slice none 0 0 else xs.getD n.toNat (.slice none 0 0)
theorem SetsAt.part {w:World}{base gs:Nat}{F:zh}{L:List LPt}{n k:Nat}{xs:List Value}(h:SetsAt w base gs F L n (k+1) xs){i:Int}{l:zh}(hp:j6w F i k l):∃mA,mA≤n∧Tb w (j0c xs (zu F) i) mA (zs L l):=by
 rcases hp with⟨rfl,hi⟩|⟨q,rfl,hq,hqs,hG⟩
 ·refine⟨0,zZ _,?_⟩
  unfold j0c
  rw[if_pos (.inl hi)]
  exact⟨zW _ _ _ _,fun _ _ _ _=>rfl⟩
 ·refine⟨n,zL _,?_⟩
  obtain⟨v,h1,h2⟩:=h.tabs q l (by omega) hG
  unfold j0c
  rw[if_neg (by omega)]
  have e:xs.getD (q:Int).toNat (.slice none 0 0)=v:=by simp[List.getD,h1]
  rw[e]
  exact h2
theorem q6Y {n:Nat}{A B:Nat→Nat→Nat→Bool}(h:∀i,i<n→A i=B i):q1C n A=q1C n B:=by
 induction n with
 |zero=>rfl
 |succ n ih=>rw[q2y,q2y,ih (fun i hi=>h i (by omega)),h n (by omega)]
theorem SetsAt.put {w:World}{base gs:Nat}{F:zh}{L:List LPt}{n k:Nat}{xs:List Value}(h:SetsAt w base gs F L n (k+1) xs){p sp:Nat}{y:Pay}{l r:zh}(hG:(zv F)[k]?=some (.node p sp y l r))(hn:n=L.length){va:OA}{vm vc:Nat}
  (hv:w.ownsRow 0 47 10 (.slice va vm vc) n (q1C n fun i x z=>qz (zz k p sp y l r) L (zs L l) (zs L r) i x z)):SetsAt (w.setCell ⟨gs,k,none⟩ (.slice va vm vc)) base gs F L n k (xs.set k (.slice va vm vc)):=by
 have hgs:∃cs,w.heap[gs]?=some (.cells cs 138 (0,0)):=by
  rcases h.row.2 with⟨h',_⟩|⟨g,cap,cur,h',_,h3,_⟩
  ·simp at h'
  ·simp only[Value.slice.injEq,Option.some.injEq,Addr.mk.injEq,and_true,true_and]at h'
   obtain⟨rfl,rfl⟩:=h'
   exact⟨cur,h3⟩
 obtain⟨cs,hgs⟩:=hgs
 have hl:xs.length=zu F*1:=h.row.1
 have hk:=(List.getElem?_eq_some_iff.1 hG).1
 rw[q0c]at hk
 refine⟨(h.row.stored k _).1,fun m G hm hmG=>?_,fun u hu=>?_⟩
 ·rcases Nat.lt_or_ge k m with g|g
  ·obtain⟨v,h1,h2⟩:=h.tabs m G (by omega) hmG
   exact⟨v,by rw[List.getElem?_set_ne (by omega)];exact h1,h2.other hgs (by decide) _⟩
  ·have:m=k:=by omega
   subst this
   rw[hG]at hmG
   have hmG':(.node p sp y l r:zh)=G:=by simpa using hmG
   subst hmG'
   refine⟨_,List.getElem?_set_self (by omega),⟨q2i ?_ hgs (by decide) _,fun i hi x z=>?_⟩⟩
   ·have e:q1C n (zs L (.node p sp y l r))=q1C n fun i x z=>qz (zz m p sp y l r) L (zs L l) (zs L r) i x z:=by
     apply q6Y
     intro i hi
     funext x z
     rw[zs,decide_eq_true (by omega),Bool.true_and,j7d m]
    rw[e]
    exact hv
   ·rw[zs,decide_eq_false (by omega),Bool.false_and]
 ·rcases List.mem_or_eq_of_mem_set hu with h'|h'
  ·exact h.form u h'
  ·exact⟨_,_,_,h'⟩
theorem info_tab:(Tryz.prog.info? 138).map (fun i=>(i.zero,i.size,i.bytes))=some (some (.slice none 0 0),1,24):=by kernel_rfl
theorem made_tab (N:Nat):(madeCells (Value.slice none 0 0).cells (N*1)).toList=List.replicate N (.slice none 0 0):=by
 rw[Nat.mul_one]
 apply List.ext_getElem?
 intro i
 simp only[madeCells,Value.cells,List.getElem?_replicate,Array.toList_map,Array.toList_range,List.getElem?_map]
 by_cases h:i<N
 ·rw[if_pos h,List.getElem?_range h]
  simp[Nat.mod_one]
 ·rw[if_neg h,List.getElem?_eq_none (by simp;omega)]
  rfl
def AnRel (F:zh)(PL:List PPt)(w:World)(gi:Nat)(bx:Array Value)(gk:Nat)(vi:Value)(wr:World):Prop:=
 ∃k xs,k≤zu F∧k≤gk∧vi=.int .i64 ((k:Int)-1)∧SetsAt wr w.heap.size gi F (zA PL) PL.length k xs∧wr.heap[w.heap.size]?=some (.cells bx 29 (0,0))∧Below w.heap.size w wr
def AoRel (W2:World)(H:Nat→Nat→Nat→Bool)(n:Nat)(g:Nat)(va vi:Value)(wr:World):Prop:=
 ∃k:Nat,k≤n∧n-k≤g∧vi=.int .i64 k∧wr.ownsRow W2.heap.size 47 10 va k (q1C k H)∧Below W2.heap.size W2 wr
abbrev z25:Array Value:=#[.int .i64 0,.int .i64 0,.int .u8 0,.int .u8 0,.int .u8 0,.int .u8 0,.int .u8 0,.int .u8 0,.int .u8 0,.int .u8 0,.int .i64 0,.int .i64 0,.int .i64 0,.int .i64 0,.int .i64 0,.int .i64 0,.int .i64 0,.int .i64 0,.int .i64 0,.bool false,.int .i64 0,.int .i64 0,.pointer none,.slice none 0 0,.slice none 0 0]
theorem q9P {w:World}{b o:Nat}{cs:Array Value}{t:TypeId}(h:w.heap[b]?=some (.cells cs t (0,0)))(ho:o<cs.size)(a:OA)(m c:Nat):(Instr.storeAt 138 (.pointer (some ⟨b,o,none⟩)) (.slice a m c)).run Tryz.prog w=.ok () (w.setCell ⟨b,o,none⟩ (.slice a m c)):=by
 have hc:w.cell? ⟨b,o,none⟩=some cs[o]:=by rw[zC _ _ o _ _ _ h,Array.getElem?_eq_getElem ho]
 have hf:=zF _ _ o _ _ h
 simp[go_sem,hc,hf]
theorem j5b {w:World}{b o:Nat}{v:Value}(hc:w.cell? ⟨b,o,none⟩=some v):(Instr.loadAt 3 (.pointer (some ⟨b,o,none⟩))).run Tryz.prog w=.ok v w:=by
 simp[go_sem,hc]
theorem j9I (r:Nat→Int)(w:World):(Instr.buildSlice 138 1 #[(0,zr r)]).run Tryz.prog w=.ok (.slice (some ⟨w.heap.size,0,none⟩) 1 1) (w.alloc (.cells (qw r).toArray 47)):=by
 simp[Instr.buildSlice,go_sem,qw,zr]
theorem rel_news (W:World)(r:Nat→Int)(t:TypeId):∀j u,(qw r)[j]?=some u→(W.alloc (.cells (qw r).toArray t)).cell? ((⟨W.heap.size,0,none⟩:Addr).add j)=some u:=by
 intro j u hj
 rw[q4l,Nat.zero_add,zC _ _ j _ _ _ (zN W _),List.getElem?_toArray]
 exact hj
theorem j2n {xs:List Value}(h:∀u∈xs,∃a m c,u=.slice a m c)(i:Nat):∃a m c,xs.getD i (.slice none 0 0)=.slice a m c:=by
 by_cases hi:i<xs.length
 ·obtain⟨a,m,c,e⟩:=h _ (List.getElem_mem hi)
  exact⟨a,m,c,by simp[List.getD,hi,e]⟩
 ·exact⟨none,0,0,by simp[List.getD,hi]⟩
theorem j4P (F:zh)(hF:q1K F)(hnil:F≠.nil)(hN:zu F≤255)(gn cn:Nat)(fx fy:Bool)(rc:Int)(lb lo:Nat)(ao:OA)(cap:Nat)(PL:List PPt)(w:World)(h:NodesAt w gn cn (q0l F 0))(hL:LogAt w lb lo ao cap PL)(hH:q5W w PL) :
  Calls Tryz.prog 59 #[.slice (some ⟨gn,0,none⟩) (zu F) cn,.agg #[.bool fx,.bool fy,.int .i64 rc],.pointer (some ⟨lb,lo,none⟩)] w fun e w'=>∃v,e=.returned v∧w'.ownsRow w.heap.size 47 10 v PL.length (q1C PL.length fun i=>q6M fx fy (zs (zA PL) F i))∧Below w.heap.size w w':=by
 have H:=zb h
 have HL:=zb hL
 have HH:=zb hH
 have HNI:=zb (fun m hm=>node_idx F hF m hm)
 obtain⟨sh1,sh2⟩:=q3A hnil
 have HSH:=zb sh1
 have hsm:=hL.small
 clear h hL hH sh1
 obtain⟨i0,hi0,hz0,hz1,hz2⟩:=info_parts info_tab
 generalize hn:zu F=N at *
 have HSZ:=zb hn
 clear hn
 go_enter Tryz.func59,Tryz.ntmps59
 go_wp2_with (at_make;refine wpList_make_full _ rfl (.tmp 15) (.tmp 15) 180 rfl w.heap.size 138 i0 _ 1 Tryz.underlying180 hi0 hz0 hz1 .i64 .i64 N N N rfl rfl rfl rfl (by rw[hz2];omega) (by unfold maxLen;omega) (by simp) ?_;intro w1 hown1 hgrow1)
 rw[made_tab]at hown1
 have B0:Below w.heap.size w (w.alloc (.cells #[.bool fx,.bool fy,.int .i64 rc] 29)):=(zB _ _).alloc (zL _) _
 have B1:Below w.heap.size w w1:=B0.grown hgrow1 (by simp) (by intro k hk;simp at hk)
 have X1:w1.heap[w.heap.size]?=some (.cells #[.bool fx,.bool fy,.int .i64 rc] 29 (0,0)):=by rw[hgrow1.block _ (by simp) (by simp)];exact zN _ _
 have HB1:=zb B1
 have HX1:=zb X1
 have HO1:Hid (SetsAt w1 w.heap.size (w.heap.size+1) F (zA PL) PL.length N (List.replicate N (.slice none 0 0))):=zb ⟨by rw[HSZ.out];simpa using hown1,fun m G hm hG=>by have:=(List.getElem?_eq_some_iff.1 hG).1;rw[q0c,HSZ.out]at this;omega,fun u hu=>by rw[List.eq_of_mem_replicate hu];exact⟨_,_,_,rfl⟩⟩
 clear hown1 hgrow1 B0 B1 X1 hi0 hz0 hz1 hz2
 go_loopg [8] N (fun g vi wr=>AnRel F PL w (w.heap.size+1) #[.bool fx,.bool fy,.int .i64 rc] g vi wr)
 case atStart=>exact⟨N,_,by have:=HSZ.out;omega,zL _,rfl,HO1.out,HX1.out,HB1.out⟩
 case round =>
  obtain⟨k,xs,hk,hg,rfl,hsets,hbx,hbel⟩:=hrel
  have HG:=zb hg
  have HS:=zb hsets
  have HX:=zb hbx
  have HB:=zb hbel
  have hrow:=q4B (zZ _) hsets.row
  rw[HSZ.out]at hk hrow
  clear hg hsets hbx hbel HO1 HX1 HB1
  cases k with
  |zero =>
   obtain⟨v0,hx0,T0⟩:=HS.out.tabs 0 F (zZ _) HSH.out
   obtain⟨ta,tc,rfl⟩:=T0.form
   have HPA:=zb (j0U (w.heap.size+1) N N xs (by omega) 0 wr hrow (.slice ta PL.length tc) (by rw[if_neg (by omega)];simp[List.getD,hx0]) HS.out.form)
   have hzw:w.heap.size+1<wr.heap.size:=(hrow.lt _ rfl).2
   have HT0:=zb T0
   clear T0 hx0 hrow
   go_wp2_with fail
   refine HPA.out.mono ?_
   rintro e W2 ⟨rfl,b2⟩
   have T2:=HT0.out.below b2
   have X2:=(b2.block _ (by omega)).trans HX.out
   have B2:Below w.heap.size w W2:=HB.out.trans (b2.mono HB.out.size)
   have HT2:=zb T2
   have HX2:=zb X2
   have HB2:=zb B2
   have hz2w:w.heap.size<W2.heap.size:=by have:=b2.size;omega
   clear T2 X2 B2 b2 HPA HT0 HS HX HB
   obtain⟨i1,hi1,iz0,iz1,iz2⟩:=info_parts j4W
   have HBB:=zb (fun i=>j6L fx fy rc (zs (zA PL) F i))
   obtain⟨H2,hH2⟩:∃H2:Nat→Nat→Nat→Bool,H2=fun i=>q6M fx fy (zs (zA PL) F i):=⟨_,rfl⟩
   have HFO:Hid (∀i,zr (zm (q6M fx fy (zs (zA PL) F i)))=zr (zm (H2 i))):=zb (fun i=>by rw[hH2])
   have HH2:=zb hH2
   clear hH2
   go_wp2_with fail
   go_loopg [12,13] PL.length (fun g va vi wr=>AoRel W2 H2 PL.length g va vi wr)
   case atStart=>exact⟨0,zZ _,by omega,rfl,zW _ _ _ _,zB _ _⟩
   case round =>
    obtain⟨k,hk,hg,rfl,hown,hb⟩:=hrel
    have HG':=zb hg
    have HO:=zb hown
    have HBW:=zb hb
    obtain⟨ra,rc',rfl⟩:=q1i hown
    clear hg hown hb
    by_cases hkn:k<PL.length
    ·obtain⟨gt,rfl,_,ht1,ht2,_⟩:=HT2.out.load hkn
     obtain⟨UR,hUR⟩:∃U,U=zr (zm (zs (zA PL) F k)):=⟨_,rfl⟩
     obtain⟨UI,hUI⟩:∃U,U=Value.agg #[.bool fx,.bool fy,.int .i64 rc]:=⟨_,rfl⟩
     obtain⟨UN,hUN⟩:∃U,U=zr (zm (H2 k)):=⟨_,rfl⟩
     have HS2:Hid (∀w',Below W2.heap.size W2 w'→(Instr.loadAt 47 (.pointer (some ⟨gt,k*10,none⟩))).run Tryz.prog w'=.ok UR w'∧(Instr.loadAt 29 (.pointer (some ⟨w.heap.size,0,none⟩))).run Tryz.prog w'=.ok UI w'):=zb (fun w' hb=>by
      obtain⟨g',e',_,_,_,hr⟩:=(HT2.out.below hb).load hkn
      simp only[Option.some.injEq,Addr.mk.injEq,and_true]at e'
      subst e'
      refine⟨by rw[hUR];exact j3S hr,?_⟩
      rw[hUI]
      exact qC (P:=Tryz.prog) 29 29 w' w.heap.size _ (0,0) _ ((hb.block _ hz2w).trans HX2.out) Tryz.underlying29 rfl (by kernel_rfl))
     have HNR:Hid (∀w',Calls Tryz.prog 85 #[UR,UI] w' fun e w''=>e=.returned UN∧Below w'.heap.size w' w''):=zb (fun w'=>by rw[hUR,hUI,hUN,←HFO.out k];exact HBB.out k w')
     have HSL:Hid (∀w',(Instr.buildSlice 138 1 #[(0,UN)]).run Tryz.prog w'=.ok (.slice (some ⟨w'.heap.size,0,none⟩) 1 1) (w'.alloc (.cells (qw (zm (H2 k))).toArray 47))):=zb (fun w'=>by rw[hUN];exact j9I _ w')
     have HTS:=zb (q2y k H2)
     unfold maxLen at ht2
     clear hUR hUI hUN
     generalize zm (H2 k)=r2 at *
     have HB0:Hid (Below W2.heap.size W2 wr.drew):=zb (HBW.out.drew)
     go_wp2_with fail
     refine wp_region_held_drew (S:=fun w'=>(Instr.loadAt 47 (.pointer (some ⟨gt,k*10,none⟩))).run Tryz.prog w'=.ok UR w'∧(Instr.loadAt 29 (.pointer (some ⟨w.heap.size,0,none⟩))).run Tryz.prog w'=.ok UI w') (by kernel_rfl) (HS2.out _ HB0.out) (fun _=>?_)
     refine q0h (i:=0) (v:=.slice ra k rc') 60 rfl rfl (by kernel_rfl) (by kernel_rfl) (by kernel_rfl) (fun _ _ _ h=>h) (Or.inl ⟨by rfl,fun w _=>by go_simp⟩) (HS2.out _ HB0.out) ?_
     simp only[Act.put,List.setIfInBounds_toArray,List.set_cons_succ,List.set_cons_zero]
     refine q0h (i:=1) (v:=.slice (some ⟨gt,0,none⟩) PL.length tc) 61 rfl rfl (by kernel_rfl) (by kernel_rfl) (by kernel_rfl) (fun _ _ _ h=>h) (Or.inl ⟨by rfl,fun w _=>by go_simp⟩) (HS2.out _ HB0.out) ?_
     simp only[Act.put,List.setIfInBounds_toArray,List.set_cons_succ,List.set_cons_zero]
     refine q0h (i:=2) (v:=.int .i64 k) 62 rfl rfl (by kernel_rfl) (by kernel_rfl) (by kernel_rfl) (fun _ _ _ h=>h) (Or.inl ⟨by rfl,fun w _=>by go_simp⟩) (HS2.out _ HB0.out) ?_
     simp only[Act.put,List.setIfInBounds_toArray,List.set_cons_succ,List.set_cons_zero]
     refine q0h (i:=3) (v:=.pointer (some ⟨gt,k*10,none⟩)) 63 rfl rfl (by kernel_rfl) (by kernel_rfl) (by kernel_rfl) (fun _ _ _ h=>h) (Or.inl ⟨by rfl,fun w _=>by go_simp⟩) (HS2.out _ HB0.out) ?_
     simp only[Act.put,List.setIfInBounds_toArray,List.set_cons_succ,List.set_cons_zero]
     refine q0h (i:=4) (v:=UR) 64 rfl rfl (by kernel_rfl) (by kernel_rfl) (by kernel_rfl) (fun _ _ _ h=>h) (q0L (by rfl) 47 (.tmp 63) rfl ⟨gt,k*10,none⟩ _ rfl (fun w h=>h.1)) (HS2.out _ HB0.out) ?_
     simp only[Act.put,List.setIfInBounds_toArray,List.set_cons_succ,List.set_cons_zero]
     refine q0h (i:=5) (v:=UI) 65 rfl rfl (by kernel_rfl) (by kernel_rfl) (by kernel_rfl) (fun _ _ _ h=>h) (q0L (by rfl) 29 (.tmp 4) rfl ⟨w.heap.size,0,none⟩ _ rfl (fun w h=>h.2)) (HS2.out _ HB0.out) ?_
     simp only[Act.put,List.setIfInBounds_toArray]
     refine rd1 6 rfl fun K hK=>?_
     go_simp
     refine(HNR.out _).mono ?_
     rintro e w5 ⟨rfl,b5⟩
     have Bb5:Below W2.heap.size W2 w5:=HB0.out.trans (b5.mono HB0.out.size)
     have O5:=zo HO.out.drew b5
     go_simp
     refine hK.out _ _ (HS2.out _ Bb5) (fun _=>?_)
     clear hK K b5
     refine rd1 7 rfl fun K hK=>?_
     refine q1I 138 (.tmp 66) rfl UN _ _ rfl (HSL.out _) ?_
     have Bb6:=Bb5.alloc Bb5.size (.cells (qw r2).toArray 47)
     refine hK.out _ _ (HS2.out _ Bb6) (fun _=>?_)
     clear hK K
     simp only[Act.put]
     refine zY (rs:=[8]) (by kernel_rfl) (by simp) ?_
     refine zR rfl (fun K hK=>?_) zE
     refine q0B (by rfl) (.tmp 60) (.tmp 67) 138 (by rfl) W2.heap.size 47 Tryz.underlying138 hi1 iz0 iz1 iz2 rfl (by decide) (.slice ra k rc') k (q1C k H2) (by rfl) (O5.alloc _) ⟨w5.heap.size,0,none⟩ 1 1 (qw r2) (by rfl) rfl (rel_news w5 _ _) (by simp[Value.oneCell']) (by unfold maxLen;omega) (by omega) (by have:=Bb6.size;exact this) ?_
     intro v7 w7 hown7 hgrow7
     have Bb7:=Bb6.grown hgrow7 Bb6.size (fun q hq=>(O5.lt q hq).1)
     obtain⟨a7,c7,rfl⟩:=q1i hown7
     refine hK.out _ _ (HS2.out _ Bb7) (fun _=>?_)
     clear hK K hgrow7
     simp only[Act.put]
     refine rd1 9 rfl fun K hK=>?_
     go_simp
     refine hK.out _ _ (HS2.out _ Bb7) (fun _=>?_)
     clear hK K
     refine zD (by kernel_rfl) ?_ _
     have HO7:=zb hown7
     have HB7:=zb Bb7
     clear hown7 Bb7 Bb6 Bb5 O5
     go_wp2_with fail
     have hg1:0<gk:=by have:=HG'.out;omega
     go_roundg (gk-1)
     case measure=>omega
     case rel=>exact⟨k+1,by omega,by have:=HG'.out;omega,by go_num,by rw[HTS.out];exact HO7.out,HB7.out⟩
    ·have hkn':k=PL.length:=by omega
     have HK:=zb hkn'
     clear hkn'
     go_wp2_with fail
     go_ret
     exact⟨.slice ra k rc',rfl,by rw[←HH2.out,←HK.out];exact q4B (Nat.le_of_lt hz2w) HO.out,HB2.out.trans (HBW.out.mono (Nat.le_of_lt hz2w))⟩
  |succ m =>
   have e:(((m+1:Nat):Int)-1)=(m:Int):=by omega
   rw[e]
   clear e
   obtain⟨p,sp,y,l,r,g1,g2,g3,g4,g5⟩:=HNI.out m (by omega)
   have hNr:=H.out.below HB.out
   have hLd:=hNr.load g2
   have rg:=hNr.cells m _ g2
   have hgn:=hNr.lt
   have hKO:=j8e m p sp g3
   have PUT:=zb (fun W (q:SetsAt W w.heap.size (w.heap.size+1) F (zA PL) PL.length (m+1) xs) va vm vc=>SetsAt.put (va:=va) (vm:=vm) (vc:=vc) q g1 (by simp))
   generalize zz m p sp y l r=nd at *
   have cf:=rg 20 (.int .i64 nd.fst) rfl
   have cs:=rg 21 (.int .i64 nd.snd) rfl
   obtain⟨va,na,ca,hva⟩:∃a n c,j0c xs N nd.fst=.slice a n c:=by
    unfold j0c
    split
    ·exact⟨_,_,_,rfl⟩
    ·exact j2n HS.out.form _
   obtain⟨vb,nb,cb,hvb⟩:∃a n c,j0c xs N nd.snd=.slice a n c:=by
    unfold j0c
    split
    ·exact⟨_,_,_,rfl⟩
    ·exact j2n HS.out.form _
   obtain⟨W3,S3,G3,B3,Z3⟩:=qI (P:=Tryz.prog) 182 wr z25 (q0W nd lb lo (.slice none 0 0) (.slice none 0 0)).toArray (by kernel_rfl) rfl (by simp[Value.oneCell'])
   have hzw:w.heap.size+1<wr.heap.size:=(hrow.lt _ rfl).2
   have LF:(Instr.loadAt 3 (.pointer (some ⟨gn,m*22+20,none⟩))).run Tryz.prog W3=.ok (.int .i64 nd.fst) W3:=j5b (by rw[zK (B3.block gn hgn)];exact cf)
   have HPA:=zb (fun W (q:W.ownsRow 0 138 1 (.slice (some ⟨w.heap.size+1,0,none⟩) N N) N xs) n=>j0U (w.heap.size+1) N N xs (by omega) n W q (j0c xs N n) rfl HS.out.form)
   have hrow3:=zo hrow B3
   have HG3:=zb G3
   have HB3:=zb B3
   have HZ3:=zb Z3
   have HR3:=zb hrow3
   have HCS:=zb cs
   have HKO:=zb hKO
   have HG4:=zb g4
   have HG5:=zb g5
   have HGN:=zb hgn
   have HVA:=zb hva
   have HVB:=zb hvb
   clear G3 B3 Z3 hrow3 cs cf hKO g1 g2 g3 g4 g5 rg hNr hgn hrow hva hvb
   go_wp2_with (first|(refine ze rfl 182 (.tmp 9) (.tmp 29) rfl ⟨wr.heap.size,0,none⟩ _ rfl rfl W3 S3 ?_)|(refine zj rfl 168 (.tmp 26) rfl ⟨gn,m*22,none⟩ (q1w nd) rfl hLd ?_)|(refine zj rfl 3 (.tmp 34) rfl ⟨gn,m*22+20,none⟩ _ rfl LF ?_))
   refine(HPA.out _ HR3.out nd.fst).mono ?_
   rintro e w4 ⟨rfl,b4⟩
   rw[HVA.out]
   have hz3:=HZ3.out
   have G4:=(b4.block wr.heap.size (by omega)).trans HG3.out
   have S4:=q9P G4 (o:=23) (by simp) va na ca
   have B4:Below wr.heap.size wr w4:=HB3.out.trans (b4.mono HB3.out.size)
   have SS4:=(HS.out.below B4).other (o:=23) G4 (by decide) (by decide) (.slice va na ca)
   have B5:=B4.setCell (p:=⟨wr.heap.size,23,none⟩) (zL _) (.slice va na ca)
   have G5:=zH w4 wr.heap.size 23 _ _ (.slice va na ca) G4
   have hz5:wr.heap.size<(w4.setCell ⟨wr.heap.size,23,none⟩ (.slice va na ca)).heap.size:=by have:=b4.size;simp;omega
   generalize w4.setCell ⟨wr.heap.size,23,none⟩ (.slice va na ca)=w5 at *
   have LS:(Instr.loadAt 3 (.pointer (some ⟨gn,m*22+21,none⟩))).run Tryz.prog w5=.ok (.int .i64 nd.snd) w5:=j5b (by rw[zK (B5.block gn HGN.out)];exact HCS.out)
   have HSS:=zb SS4
   have HB5:=zb B5
   have HG5':=zb G5
   clear b4 G4 B4 SS4 B5 G5 S3 LF hLd hz3 HR3 HG3 HB3 HZ3
   go_wp2_with (first|(refine ze rfl 138 (.tmp 37) (.tmp 36) rfl ⟨wr.heap.size,23,none⟩ _ rfl rfl w5 S4 ?_)|(refine zj rfl 3 (.tmp 42) rfl ⟨gn,m*22+21,none⟩ _ rfl LS ?_))
   have hrow5:=q4B (zZ _) HSS.out.row
   rw[HSZ.out]at hrow5
   refine(HPA.out _ hrow5 nd.snd).mono ?_
   rintro e w6 ⟨rfl,b6⟩
   rw[HVB.out]
   have G6:=(b6.block wr.heap.size hz5).trans HG5'.out
   have S6:=q9P G6 (o:=24) (by simp) vb nb cb
   have SS6:=(HSS.out.below b6).other (o:=24) G6 (by decide) (by decide) (.slice vb nb cb)
   have B6:Below wr.heap.size wr w6:=HB5.out.trans (b6.mono HB5.out.size)
   have B7:=B6.setCell (p:=⟨wr.heap.size,24,none⟩) (zL _) (.slice vb nb cb)
   have G7:=zH w6 wr.heap.size 24 _ _ (.slice vb nb cb) G6
   have hz7:wr.heap.size<(w6.setCell ⟨wr.heap.size,24,none⟩ (.slice vb nb cb)).heap.size:=by have:=b6.size;simp;omega
   generalize w6.setCell ⟨wr.heap.size,24,none⟩ (.slice vb nb cb)=w7 at *
   have L7:(Instr.loadAt 182 (.pointer (some ⟨wr.heap.size,0,none⟩))).run Tryz.prog w7=.ok (.agg (q0W nd lb lo (.slice va na ca) (.slice vb nb cb)).toArray) w7:=q2z G7
   obtain⟨mA,hmA,TA⟩:=SS6.part HG4.out
   obtain⟨mB,hmB,TB⟩:=SS6.part HG5.out
   rw[HSZ.out,HVA.out]at TA
   rw[HSZ.out,HVB.out]at TB
   have B7w:Below w.heap.size w w7:=HB.out.trans (B7.mono HB.out.size)
   obtain⟨U,hU⟩:∃U,U=Value.agg (q0W nd lb lo (.slice va na ca) (.slice vb nb cb)).toArray:=⟨_,rfl⟩
   have HE:=zb (j0T U nd HKO.out lb lo ao cap PL _ _ hU mA mB _ _ hmA w7 ⟨HL.out.below B7w,TA,TB,by omega,by omega⟩ (HH.out.below B7w))
   rw[←hU]at L7
   have HSS7:=zb SS6
   have HB7:=zb B7
   have HB7w:=zb B7w
   clear b6 G6 B6 SS6 B7 G7 S4 LS hrow5 TA TB hU HSS HB5 HG5' B7w
   go_wp2_with (first|(refine ze rfl 138 (.tmp 45) (.tmp 44) rfl ⟨wr.heap.size,24,none⟩ _ rfl rfl w7 S6 ?_)|(refine zj rfl 182 (.tmp 9) rfl ⟨wr.heap.size,0,none⟩ U rfl L7 ?_))
   refine HE.out.mono ?_
   rintro e w8 ⟨v8,rfl,hO8,b8⟩
   obtain⟨a8,c8,rfl⟩:=q1i hO8
   have SS8:=HSS7.out.below b8
   have hg8:∃cs,w8.heap[w.heap.size+1]?=some (.cells cs 138 (0,0))∧m<cs.size:=by
    rcases SS8.row.2 with⟨h',_⟩|⟨g,cap,cur,h',_,h3,_,_,h6,_⟩
    ·simp at h'
    ·simp only[Value.slice.injEq,Option.some.injEq,Addr.mk.injEq,and_true,true_and]at h'
     obtain⟨rfl,rfl⟩:=h'
     exact⟨cur,h3,by have:=HSZ.out;omega⟩
   obtain⟨cs8,G8,hm8⟩:=hg8
   have S8:=q9P G8 (o:=m) hm8 a8 PL.length c8
   have SS9:=PUT.out w8 SS8 a8 PL.length c8 (q4B (zZ _) hO8)
   have B8:Below w.heap.size w w8:=HB7w.out.trans (b8.mono HB7w.out.size)
   have B9:=B8.setCell (p:=⟨w.heap.size+1,m,none⟩) (Nat.le_succ _) (.slice a8 PL.length c8)
   have X9:(w8.setCell ⟨w.heap.size+1,m,none⟩ (.slice a8 PL.length c8)).heap[w.heap.size]?=some (.cells #[.bool fx,.bool fy,.int .i64 rc] 29 (0,0)):=by
    rw[Below.heap_setCell _ _ _ _ (by simp),b8.block _ (by omega),HB7.out.block _ (by omega)]
    exact HX.out
   generalize w8.setCell ⟨w.heap.size+1,m,none⟩ (.slice a8 PL.length c8)=w9 at *
   have HSS9:=zb SS9
   have HB9:=zb B9
   have HX9:=zb X9
   clear b8 SS8 G8 SS9 B8 B9 X9 hO8 HE HSS7 HB7 HB7w L7 S6
   go_wp2_with (first|(refine ze rfl 138 (.tmp 51) (.tmp 50) rfl ⟨w.heap.size+1,m,none⟩ _ rfl rfl w9 S8 ?_))
   have hg1:0<gk:=by have:=HG.out;omega
   go_roundg (gk-1)
   case measure=>omega
   case rel=>exact⟨m,_,by have:=HSZ.out;omega,by have:=HG.out;omega,by first|rfl|go_num,HSS9.out,HX9.out,HB9.out⟩
end Go.Proofs.YtiamjjonoeaggaaGreatDoor
