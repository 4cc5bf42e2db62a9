import Derived.Test.YtiamjjonoeaggabGreatDoorGA
import Derived.Test.YtiamjjonoeaggabGreatDoorGB
import Derived.Test.YtiamjjonoeaggabGreatDoorG03
import Derived.Test.YtiamjjonoeaggabGreatDoorG16
import Derived.Test.YtiamjjonoeaggabGreatDoorG17
import Derived.Test.YtiamjjonoeaggabGreatDoorG18
import Derived.Deep.RegionLaw
set_option maxRecDepth 100000
set_option maxHeartbeats 16000000
namespace Go.Proofs.YtiamjjonoeaggabGreatDoor
open Go.RowKit
def zQ (ao:OA):List Nat:=match ao with
 |some a=>[a.block]
 |none=>[]
def q1B (L:List LPt)(st:Nat):Nat:=if L.length=0 then 0 else q0l L 0 (L.length-1)+toR L st
theorem info_pt:(Tryz.prog.info? 136).map (fun i=>(i.zero,i.size,i.bytes))=some (some (.agg #[.int .u16 0,.slice none 0 0,.int .i64 0]),3,40):=by kernel_rfl
theorem j2x (b o:Nat)(ao:OA)(cap:Nat)(PL:List PPt)(w:World)(h:LogAt w b o ao cap PL) :
  Calls Tryz.prog 52 #[.pointer (some ⟨b,o,none⟩),.int .i64 0,.int .i64 ((PL.length:Int)-1)] w fun e w'=>e=.returned (.int .i64 (if PL.length=0 then 0 else q0l (zA PL) 0 (PL.length-1):Nat))∧Below w.heap.size w w':=by
 by_cases hn:PL.length=0
 ·rw[if_pos hn]
  exact j0r b o ao cap PL _ hn w h
 ·rw[if_neg hn]
  have:=q6j b o ao cap PL 0 (PL.length-1) (by omega) (by omega) w h
  rwa [show((PL.length-1:Nat):Int)=(PL.length:Int)-1 by omega]at this
theorem q8C {w:World}{b base size n:Nat}{cs:Array Value}{t e:TypeId}{v:Value}{xs:List Value}(h:w.heap[b]?=some (.cells cs t (0,0)))(ho:w.ownsRow base e size v n xs)(ht:t≠e):some b≠v.ownBlock:=by
 rcases ho.2 with⟨rfl,_⟩|⟨g,cap,cur,rfl,_,hg,_⟩
 ·simp[Value.ownBlock]
 ·intro hb
  simp only[Value.ownBlock,Option.some.injEq]at hb
  subst hb
  rw[h]at hg
  simp at hg
  exact ht hg.2
theorem news3_at (W:World)(e:TypeId)(x y z:Value):∀j u,[x,y,z][j]?=some u→(W.alloc (.cells #[x,y,z] e)).cell? ((⟨W.heap.size,0,none⟩:Addr).add j)=some u:=by
 intro j u hj
 rw[q2e,Nat.zero_add,zC _ _ j _ _ _ (zN W _)]
 simpa using hj
theorem add_time (PL:List PPt)(st:Nat):q1B (zA PL) st=(if PL.length=0 then 0 else q0l (zA PL) 0 (PL.length-1))+toR (zA PL) st:=by
 unfold q1B
 rw[List.length_map]
 by_cases h:PL.length=0
 ·rw[if_pos h,if_pos h]
  have:PL=[]:=List.eq_nil_of_length_eq_zero h
  rw[this]
  rfl
 ·rw[if_neg h,if_neg h]
theorem q0U {w:World}{b o base size n:Nat}{cs:Array Value}{t e:TypeId}{v:Value}{xs:List Value}(ho:w.ownsRow base e size v n xs)(h:w.heap[b]?=some (.cells cs t (0,0)))(ht:t≠e)(u:Value):(w.setCell ⟨b,o,none⟩ u).ownsRow base e size v n xs:=by
 refine⟨ho.1,?_⟩
 rcases ho.2 with h'|⟨g,cap,cur,h1,h2,h3,h4⟩
 ·exact .inl h'
 ·refine .inr ⟨g,cap,cur,h1,h2,?_,h4⟩
  rw[Below.heap_setCell _ _ _ _ (by intro e';simp at e';subst e';rw[h]at h3;simp at h3;exact ht h3.2)]
  exact h3
theorem add_post {w W0 w2 w5 w6:World}{b o:Nat}{ao:OA}{cap:Nat}{PL:List PPt}{cs:Array Value}{t:TypeId}{st T:Nat}{l:List Hp}{hv5:Value}{ob:Obj}{g6 cap6:Nat}{vt:Int}(hst:st≤65535)(hn:PL.length<40)
  (htm:∀(i:Nat) (hi:i<PL.length),(PL[i]).1.time≤32768*i∧(PL[i]).1.stamp≤65535)(hT:T≤32768*PL.length)(hvt:vt=(T:Int))(hlb:b<w.heap.size)(ht:t≠136)(hth:t≠129)
  (B0:Below w.heap.size w W0)(B02:Below W0.heap.size W0 w2)(M2:w2.heap[b]?=some (.cells cs t (0,0)))(hown:w2.ownsRow 0 136 3 (.slice ao PL.length cap) PL.length (q1S PL))
  (b5:Below w2.drew.heap.size w2.drew w5)(hO5:w5.ownsRow w2.drew.heap.size 129 11 hv5 l.length (qG l))(hgrow6:(w5.alloc ob).grownBy w6 (Value.slice ao PL.length cap).ownBlock)
  (hown6:w6.ownsRow 0 136 3 (.slice (some ⟨g6,0,none⟩) (PL.length+1) cap6) (PL.length+1) (q1S PL++[.int .u16 st,hv5,.int .i64 vt])){ov:Value}(c6:w6.cell? ⟨b,o,none⟩=some ov) :
  LogAt (w6.setCell ⟨b,o,none⟩ (.slice (some ⟨g6,0,none⟩) (PL.length+1) cap6)) b o (some ⟨g6,0,none⟩) cap6 (PL++[(⟨st,T,l⟩,hv5)])∧(w6.setCell ⟨b,o,none⟩ (.slice (some ⟨g6,0,none⟩) (PL.length+1) cap6)).ownsRow w.heap.size 129 11 hv5 l.length (qG l)∧(w6.setCell ⟨b,o,none⟩ (.slice (some ⟨g6,0,none⟩) (PL.length+1) cap6)).heap[b]?=some (.cells (cs.setIfInBounds o (.slice (some ⟨g6,0,none⟩) (PL.length+1) cap6)) t (0,0))∧OnlyB (b::zQ ao) w (w6.setCell ⟨b,o,none⟩ (.slice (some ⟨g6,0,none⟩) (PL.length+1) cap6)):=by
 have z1:=B0.size
 have z2:=B02.size
 have z5:w2.heap.size≤w5.heap.size:=b5.size
 have z6:=hgrow6.size
 simp at z6
 have hb2:b<w2.heap.size:=by omega
 have hb6:w6.heap[b]?=some (.cells cs t (0,0)):=by
  rw[hgrow6.block b (by simp;omega) (q8C M2 hown ht),zO _ _ (by omega),b5.block b hb2]
  exact M2
 have e1:(PL++[((⟨st,T,l⟩:LPt),hv5)]).length=PL.length+1:=by simp
 have hrow:w6.ownsRow 0 136 3 (.slice (some ⟨g6,0,none⟩) (PL.length+1) cap6) (PL.length+1) (q1S (PL++[(⟨st,T,l⟩,hv5)])):=by
  rw[hvt]at hown6
  have e2:q1S (PL++[((⟨st,T,l⟩:LPt),hv5)])=q1S PL++[.int .u16 st,hv5,.int .i64 T]:=by simp[q1S]
  rw[e2]
  exact hown6
 have hO6:w6.ownsRow w2.drew.heap.size 129 11 hv5 l.length (qG l):=by
  refine(hO5.alloc ob).kept hgrow6 ?_
  cases hx:hv5.ownBlock with
  |none=>exact .inl rfl
  |some k =>
   right
   intro e
   rw[←e]at hgrow6
   have h5:=(hO5.lt k hx).1
   have h2:k<w2.heap.size:=(hown.lt k e.symm).2
   have h5':w2.heap.size≤k:=h5
   omega
 refine⟨⟨?_,?_,?_,?_,?_⟩,?_,?_,?_⟩
 ·rw[e1];exact zS w6 _ _ c6
 ·simp;omega
 ·rw[e1];exact q0U hrow hb6 ht _
 ·rw[e1];omega
 ·intro i hi
  rw[e1]at hi
  by_cases h:i<PL.length
  ·rw[List.getElem_append_left h];exact htm i h
  ·have:i=PL.length:=by omega
   subst this
   simp
   exact⟨hT,hst⟩
 ·exact q1L (by show w.heap.size≤w2.heap.size;omega) (q0U hO6 hb6 hth _)
 ·exact zH w6 b o cs t _ hb6
 ·refine⟨(hgrow6.os.trans b5.os).trans (B02.os.trans B0.os),(hgrow6.tape.trans b5.tape).trans (B02.tape.trans B0.tape),(hgrow6.output.trans b5.output).trans (B02.output.trans B0.output),by simp;omega,fun k hk hnm=>?_⟩
  have hkb:k≠b:=fun e=>hnm (by rw[e];exact List.mem_cons_self)
  rw[Below.heap_setCell _ _ _ _ (by simpa using hkb),hgrow6.block k (by simp;omega) ?_,zO _ _ (by omega),b5.block k (show k<w2.heap.size by omega)]
  ·show w2.heap[k]?=_
   rw[B02.block k (by omega),B0.block k hk]
  ·intro e
   apply hnm
   cases ao with
   |none=>simp[Value.ownBlock]at e
   |some a =>
    simp only[Value.ownBlock,Option.some.injEq]at e
    subst e
    simp[zQ]
theorem j3Q (st:Nat)(hst:st≤65535)(hv:Value)(l:List Hp)(b o:Nat)(ao:OA)(cap:Nat)(PL:List PPt)(w:World)(h:LogAt w b o ao cap PL)(cs:Array Value)(t:TypeId)(hm:w.heap[b]?=some (.cells cs t (0,0)))(ht:t≠136)(hth:t≠129)
  (hl:w.ownsRow 0 129 11 hv l.length (qG l))(hl80:l.length≤80)(hstep:toR (zA PL) st<32768)(hn:PL.length<40) :
  Calls Tryz.prog 33 #[.pointer (some ⟨b,o,none⟩),.agg #[.int .u16 st,hv]] w fun e w'=>e=.returned (.int .i64 0)∧∃g' cap' hv',LogAt w' b o (some ⟨g',0,none⟩) cap' (PL++[(⟨st,q1B (zA PL) st,l⟩,hv')])∧w'.ownsRow w.heap.size 129 11 hv' l.length (qG l)∧w'.heap[b]?=some (.cells (cs.setIfInBounds o (.slice (some ⟨g',0,none⟩) (PL.length+1) cap')) t (0,0))∧OnlyB (b::zQ ao) w w'∧(g'∈zQ ao∨w.heap.size≤g'):=by
 obtain⟨va,vc,rfl⟩:=q0N hl
 have B0:Below w.heap.size w (w.alloc (.cells #[.int .u16 st,.slice va l.length vc] 96)):=(zB _ _).alloc (zL _) _
 have H0:=zb (h.below B0)
 have HL0:=zb (zh hl B0)
 have HB0:=zb B0
 have HT1:=zb (fun W hW=>j0s b o ao cap PL st hst W hW)
 have HT2:=zb (fun W hW=>j2x b o ao cap PL W hW)
 have hsm:=h.small
 have htimes:=h.times
 have HTM:=zb h.times
 have G0:=zN w (.cells #[.int .u16 st,.slice va l.length vc] 96)
 have s0:(w.alloc (.cells #[.int .u16 st,.slice va l.length vc] 96)).heap.size=w.heap.size+1:=by simp
 have HG0:=zb G0
 have hlb:=h.lt
 have HM:Hid ((w.alloc (.cells #[.int .u16 st,.slice va l.length vc] 96)).heap[b]?=some (.cells cs t (0,0))):=zb (by rw[zO _ _ h.lt];exact hm)
 have HS0:=zb s0
 clear h hl B0 G0 hm s0
 have HAT:Hid (q1B (zA PL) st=(if PL.length=0 then 0 else q0l (zA PL) 0 (PL.length-1))+toR (zA PL) st):=zb (add_time PL st)
 have HZR:Hid (PL.length=0→toR (zA PL) st=0):=zb (fun h=>by
  have:PL=[]:=List.eq_nil_of_length_eq_zero h
  rw[this]
  rfl)
 generalize q1B (zA PL) st=T at *
 generalize toR (zA PL) st=step at *
 obtain⟨z,hz⟩:∃z:Int,z=(step:Int):=⟨_,rfl⟩
 rw[←hz]at HT1
 have hz0:0≤z:=by omega
 have hz1:z<32768:=by omega
 have HZS:=zb hz
 have HSTEP:=zb hstep
 clear hstep hz
 have hwh:(if PL.length=0 then 0 else q0l (zA PL) 0 (PL.length-1):Nat)≤32768*(PL.length-1):=by
  split
  ·omega
  ·unfold q0l
   rw[j2E (show 0<PL.length by omega),j2E (show PL.length-1<PL.length by omega)]
   have a1:=(htimes 0 (by omega)).1
   have a2:=(htimes (PL.length-1) (by omega)).1
   omega
 generalize (if PL.length=0 then 0 else q0l (zA PL) 0 (PL.length-1):Nat)=wh at *
 obtain⟨whole,hw⟩:∃z:Int,z=(wh:Int):=⟨_,rfl⟩
 rw[←hw]at HT2
 have hw0:0≤whole:=by omega
 have hw1:whole≤2000000:=by omega
 have HWH:=zb hw
 have HWB:=zb hwh
 clear hw hwh
 go_enter Tryz.func33,Tryz.ntmps33
 go_wp2_with fail
 generalize w.alloc (.cells #[.int .u16 st,.slice va l.length vc] 96)=W0 at *
 refine(HT1.out _ H0.out).mono ?_
 rintro e w1 ⟨rfl,b1⟩
 have h1:=H0.out.below b1
 have c1:=h1.cell
 have hlt1:=h1.lt
 have H1:=zb h1
 have HB1:=zb b1
 have HTT:=zb ht
 have HST:=zb hst
 clear b1 h1 HT1 ht hst
 go_wp2_with fail
 refine(HT2.out _ H1.out).mono ?_
 rintro e w2 ⟨rfl,b2⟩
 have b02:Below W0.heap.size W0 w2:=HB1.out.trans (b2.mono HB1.out.size)
 have h2:=H0.out.below b02
 have c2:=h2.cell
 have hlt2:=h2.lt
 have hL2:=zh HL0.out b02
 have G2:=(b02.block w.heap.size (by have:=HS0.out;omega)).trans HG0.out
 have z0:=zC _ _ 0 _ _ _ G2
 have z1:=zC _ _ 1 _ _ _ G2
 simp only[gz]at z0 z1
 have hlz:w.heap.size<w2.heap.size:=by have:=b02.size;have:=HS0.out;omega
 have HC:=zb (fun W (hW:W.ownsRow 0 129 11 (.slice va l.length vc) l.length (qG l))=>j3S st (.slice va l.length vc) l W hW hl80)
 have H2:=zb h2
 have HL2:=zb hL2
 have HB02:=zb b02
 obtain⟨i0,hi0,iz0,iz1,iz2⟩:=info_parts info_pt
 clear b2 b02 h2 hL2 G2 H1 HB1 HT2 c1 hlt1
 go_wp2_with fail
 clear htimes
 have HOWN:=zb H2.out.row
 have M2:w2.heap[b]?=some (.cells cs t (0,0)):=(HB02.out.block b (by have:=HS0.out;omega)).trans HM.out
 have G2:w2.heap[w.heap.size]?=some (.cells #[.int .u16 st,.slice va l.length vc] 96 (0,0)):=(HB02.out.block w.heap.size (by have:=HS0.out;omega)).trans HG0.out
 have fz:=zF _ _ o _ _ M2
 have KEEP5:Hid (∀w5,Below w2.drew.heap.size w2.drew w5→w5.cell? ⟨b,o,none⟩=some (.slice ao PL.length cap)∧w5.cell? ⟨w.heap.size,0,none⟩=some (.int .u16 st)∧w5.cell? ⟨w.heap.size,1,none⟩=some (.slice va l.length vc)):=zb (fun w5 b5=>⟨by rw[zK (b5.block b hlt2)];exact c2,by rw[zK (b5.block w.heap.size hlz)];exact z0,by rw[zK (b5.block w.heap.size hlz)];exact z1⟩)
 have KEEP6:Hid (∀w5 w6 ob,Below w2.drew.heap.size w2.drew w5→(w5.alloc ob).grownBy w6 (Value.slice ao PL.length cap).ownBlock→w6.heap[b]?=w2.heap[b]?∧w6.heap[w.heap.size]?=w2.heap[w.heap.size]?):=zb (fun w5 w6 ob b5 hg=>by
  have ha:=q8C M2 HOWN.out HTT.out
  have hb:=q8C G2 HOWN.out (by decide)
  refine⟨?_,?_⟩
  ·rw[hg.block b (by have:=b5.size;simp;exact Nat.lt_succ_of_lt (zT hlt2 this)) ha,zO _ _ (zT hlt2 b5.size)]
   exact b5.block b hlt2
  ·rw[hg.block w.heap.size (by have:=b5.size;simp;exact Nat.lt_succ_of_lt (zT hlz this)) hb,zO _ _ (zT hlz b5.size)]
   exact b5.block w.heap.size hlz)
 have HM2:=zb M2
 clear M2 G2
 go_region_law ((first|(refine q4v (by rfl) (.tmp 33) (.tmp 38) 89 (by rfl) 0 136 Tryz.underlying89 hi0 iz0 iz1 iz2 rfl (by decide) (.slice ao PL.length cap) PL.length (q1S PL) (by rfl) ((zh HOWN.out.drew b5).alloc _) ⟨w5.heap.size,0,none⟩ 1 1 [.int .u16 st,.slice va5 l.length vc5,.int .i64 (whole+z)] (by rfl) rfl (news3_at w5 _ _ _ _) (by simp[Value.oneCell']) (by unfold maxLen;omega) (by omega) (zZ _) (by decide) ?_;intro v6 w6 hown6 hgrow6 hwh6;obtain⟨g6,cap6,rfl⟩:=zJ hown6 (by omega);have fz6:=(World.frozen?_of_block (a:=⟨b,o,none⟩) (KEEP6.out _ _ _ b5 hgrow6).1).trans fz;have c6:=(zK (a:=⟨b,o,none⟩) (KEEP6.out _ _ _ b5 hgrow6).1).trans c2)|(rw[if_pos (by rfl)];go_simp;go_at_call 53;refine(HC.out _ HL2.out.drew).mono ?_;rintro e w5 ⟨hv',rfl,hO5,b5⟩;obtain⟨va5,vc5,rfl⟩:=q0N hO5;have c5:=(KEEP5.out _ b5).1;have hl5:=zT hlt2 b5.size)))
 all_goals
  have P:=add_post (T:=T) HST.out hn HTM.out (by have:=HAT.out;have:=HWB.out;have:=HSTEP.out;have h0:=HZR.out;by_cases e:PL.length=0;exact(by have:=h0 e;omega);omega) (by have:=HAT.out;have:=HWH.out;have:=HZS.out;omega) hlb HTT.out hth HB0.out HB02.out HM2.out HOWN.out b5 hO5 hgrow6 hown6 c6
  have HP:=zb P
  have WH:Hid (g6∈zQ ao∨w.heap.size≤g6):=zb (by
   have z5:=b5.size
   have z2:=HB02.out.size
   have z0:=HS0.out
   rcases hwh6 with h6|h6
   ·left
    cases ao with
    |none=>simp[Value.ownBlock]at h6
    |some a0=>simp only[Value.ownBlock,Option.some.injEq]at h6;simp[zQ,h6]
   ·right
    simp only[Value.ownBlock,Option.some.injEq]at h6
    have e5:(w5.alloc (.cells #[.int .u16 st,.slice va5 l.length vc5,.int .i64 (whole+z)] 136)).heap.size=w5.heap.size+1:=by simp
    have z2':w2.drew.heap.size=w2.heap.size:=rfl
    omega)
  clear P hwh6 b5 hO5 hgrow6 hown6 c6 fz6 c5
  generalize w6.setCell ⟨b,o,none⟩ (.slice (some ⟨g6,0,none⟩) (PL.length+1) cap6)=w7 at *
  go_wp2_with fail
  go_ret
  obtain⟨P1,P2,P3,P4⟩:=HP.out
  exact⟨rfl,g6,cap6,_,P1,P2,P3,P4,WH.out⟩
theorem j5n (st:Nat)(hst:st≤65535)(va:OA)(vn vc:Nat)(b o:Nat)(ao:OA)(cap:Nat)(PL:List PPt)(w:World)(h:LogAt w b o ao cap PL)(hno:¬(toR (zA PL) st<32768∧PL.length<40)) :
  Calls Tryz.prog 33 #[.pointer (some ⟨b,o,none⟩),.agg #[.int .u16 st,.slice va vn vc]] w fun e w'=>e=.returned (.int .i64 (if 32768≤toR (zA PL) st then 7 else 8))∧Below w.heap.size w w':=by
 have B0:Below w.heap.size w (w.alloc (.cells #[.int .u16 st,.slice va vn vc] 96)):=(zB _ _).alloc (zL _) _
 have H0:=zb (h.below B0)
 have HB0:=zb B0
 have HT1:=zb (fun W hW=>j0s b o ao cap PL st hst W hW)
 have hsm:=h.small
 have hsz:w.heap.size≤(w.alloc (.cells #[.int .u16 st,.slice va vn vc] 96)).heap.size:=by simp
 have HSZ:=zb hsz
 clear h B0 hsz
 generalize toR (zA PL) st=step at *
 obtain⟨z,hz⟩:∃z:Int,z=(step:Int):=⟨_,rfl⟩
 rw[←hz]at HT1
 by_cases hs:32768≤step
 ·rw[if_pos hs]
  have hz1:32768≤z:=by omega
  clear hz hs hno
  go_enter Tryz.func33,Tryz.ntmps33
  go_wp2_with fail
  generalize w.alloc (.cells #[.int .u16 st,.slice va vn vc] 96)=W0 at *
  refine(HT1.out _ H0.out).mono ?_
  rintro e w1 ⟨rfl,b1⟩
  have HB1:Hid (Below w.heap.size w w1):=zb (HB0.out.trans (b1.mono HSZ.out))
  clear b1 HT1
  go_wp2_with fail
  go_ret
  exact⟨rfl,HB1.out⟩
 ·rw[if_neg hs]
  have hz1:z<32768:=by omega
  have hz0:0≤z:=by omega
  have hn:40≤PL.length:=by omega
  clear hz hs hno
  go_enter Tryz.func33,Tryz.ntmps33
  go_wp2_with fail
  generalize w.alloc (.cells #[.int .u16 st,.slice va vn vc] 96)=W0 at *
  refine(HT1.out _ H0.out).mono ?_
  rintro e w1 ⟨rfl,b1⟩
  have HB1:Hid (Below w.heap.size w w1):=zb (HB0.out.trans (b1.mono HSZ.out))
  have h1:=H0.out.below b1
  have c1:=h1.cell
  have hlt1:=h1.lt
  clear b1 h1 HT1
  go_wp2_with fail
  go_ret
  exact⟨rfl,HB1.out⟩
structure LogOk (L:List LPt):Prop where
 mono:q9H L
 zero:tmL L 0=0
theorem LogOk.nil:LogOk []:=⟨fun i j _ h=>absurd h (by simp),rfl⟩
theorem q9u {L:List LPt}(h:LogOk L)(st:Nat)(hn:0<L.length):q1B L st=tmL L (L.length-1)+toR L st:=by
 unfold q1B
 rw[if_neg (by omega)]
 unfold q0l
 rw[h.zero]
 omega
theorem q9F (L:List LPt)(p:LPt):tmL (L++[p]) L.length=p.time:=by
 unfold tmL
 rw[List.getElem?_append_right (zL _),Nat.sub_self]
 rfl
theorem LogOk.add {L:List LPt}(h:LogOk L)(st:Nat)(l:List Hp):LogOk (L++[⟨st,q1B L st,l⟩]):=by
 constructor
 ·intro i j hij hj
  simp only[List.length_append,List.length_cons,List.length_nil]at hj
  rcases Nat.lt_or_ge j L.length with g|g
  ·rw[q4Z g,q4Z (Nat.lt_of_le_of_lt hij g)]
   exact h.mono i j hij g
  ·have e:j=L.length:=by omega
   subst e
   rw[q9F]
   rcases Nat.lt_or_ge i L.length with gi|gi
   ·rw[q4Z gi,q9u h st (by omega)]
    have:=h.mono i (L.length-1) (by omega) (by omega)
    show tmL L i≤tmL L (L.length-1)+toR L st
    omega
   ·have e:i=L.length:=by omega
    subst e
    rw[q9F]
    exact zL _
 ·by_cases hn:L.length=0
  ·have:L=[]:=List.length_eq_zero_iff.1 hn
   subst this
   rfl
  ·rw[q4Z (by omega)]
   exact h.zero
theorem j5v (L:List LPt)(rc:Int):∀f c,c≤L.length→L.length≤c+f→c≤q3q L rc f c∧q3q L rc f c≤L.length∧(∀k,c≤k→k<q3q L rc f c→rc<(q0l L k (L.length-1):Int))∧(q3q L rc f c<L.length→¬rc<(q0l L (q3q L rc f c) (L.length-1):Int)):=by
 intro f
 induction f with
 |zero=>intro c h1 h2;exact⟨zL _,h1,fun k k1 k2=>absurd k2 (by simp[q3q];omega),fun h=>absurd h (by simp[q3q];omega)⟩
 |succ f ih =>
  intro c h1 h2
  rw[q3q]
  by_cases hc:c+1≤L.length∧rc<(q0l L c (L.length-1):Int)
  ·rw[if_pos hc]
   obtain⟨a1,a2,a3,a4⟩:=ih (c+1) hc.1 (by omega)
   refine⟨by omega,a2,fun k k1 k2=>?_,a4⟩
   by_cases e:k=c
   ·rw[e];exact hc.2
   ·exact a3 k (by omega) k2
  ·rw[if_neg hc]
   exact⟨zL _,h1,fun k k1 k2=>absurd k2 (by omega),fun h h'=>hc ⟨by omega,h'⟩⟩
theorem j6t {L:List LPt}(hM:q9H L){a c:Nat}(h:a≤c)(hc:c<L.length):q0l L c (L.length-1)≤q0l L a (L.length-1):=by
 have h1:=hM a c h hc
 have h2:=hM c (L.length-1) (by omega) (by omega)
 unfold q0l
 omega
theorem sett_iff {L:List LPt}(hM:q9H L)(rc:Int){c:Nat}(hc:c<L.length):rc<(q0l L c (L.length-1):Int)↔c<q2H L rc:=by
 obtain⟨_,a2,a3,a4⟩:=j5v L rc L.length 0 (zZ _) (by omega)
 constructor
 ·intro h
  rcases Nat.lt_or_ge c (q2H L rc)with g|g
  ·exact g
  ·have hs:q2H L rc<L.length:=by omega
   have:=j6t hM g hc
   exact absurd (show rc<(q0l L (q2H L rc) (L.length-1):Int)by omega) (a4 hs)
 ·intro h
  exact a3 c (zZ _) h
theorem j6c {L:List LPt}(hM:q9H L)(rc:Int){c:Nat}(hc:c<L.length):rc<(tmL L (L.length-1):Int)-(tmL L c:Int)↔c<q2H L rc:=by
 rw[←sett_iff hM rc hc]
 have h2:=hM c (L.length-1) (by omega) (by omega)
 unfold q0l
 omega
theorem q7c {L:List LPt}{p:LPt}{st:Nat}(hp:L[L.length-1]?=some p)(h1:p.stamp≤65535)(h2:st≤65535):q7r (p.stamp:Int) (st:Int)=(toR L st:Int):=by
 unfold q7r toR
 rw[hp]
 simp only[]
 split<;>omega
end Go.Proofs.YtiamjjonoeaggabGreatDoor
