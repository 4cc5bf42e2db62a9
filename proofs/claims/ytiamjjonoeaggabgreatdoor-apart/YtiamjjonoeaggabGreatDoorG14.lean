import Derived.Test.YtiamjjonoeaggabGreatDoorGA
import Derived.Test.YtiamjjonoeaggabGreatDoorGB
import Derived.Test.YtiamjjonoeaggabGreatDoorG09
import Derived.Test.YtiamjjonoeaggabGreatDoorG10
import Derived.Test.YtiamjjonoeaggabGreatDoorG11
import Derived.Test.YtiamjjonoeaggabGreatDoorG13
set_option maxRecDepth 100000
set_option maxHeartbeats 16000000
namespace Go.Proofs.YtiamjjonoeaggabGreatDoor
open Go.RowKit
def q0b (l:List Hp):List Value:=l.flatMap q5N
theorem q8b (l:List Hp)(h:Hp):q0b (l++[h])=q0b l++q5N h:=by simp[q0b]
theorem q9h {w w':World}{bl:List Nat}{base:Nat}{e:TypeId}{size:Nat}{v:Value}{n:Nat}{xs:List Value}(h:w.ownsRow base e size v n xs)(ho:OnlyB bl w w')(hb:∀k∈bl,k<base):w'.ownsRow base e size v n xs:=by
 refine⟨h.1,?_⟩
 rcases h.2 with h'|⟨g,cap,cur,h1,h2,h3,h4⟩
 ·exact .inl h'
 ·have hl:g<w.heap.size:=by
   rcases Nat.lt_or_ge g w.heap.size with q|q
   ·exact q
   ·rw[Array.getElem?_eq_none q]at h3;simp at h3
  exact .inr ⟨g,cap,cur,h1,h2,by rw[ho.block g hl (fun hm=>by have:=hb g hm;omega)];exact h3,h4⟩
theorem q1n {w:World}{base:Nat}{e:TypeId}{size:Nat}{v:Value}{n:Nat}{xs:List Value}(h:w.ownsRow base e size v n xs):∃ao cap,v=.slice ao n cap:=by
 rcases h.2 with⟨rfl,rfl⟩|⟨g,cap,cur,rfl,_⟩
 ·exact⟨none,0,rfl⟩
 ·exact⟨_,cap,rfl⟩
theorem j1q:(Tryz.prog.info? 129).map (fun i=>(i.zero,i.size,i.bytes))=some (some (.agg z11),11,32):=by kernel_rfl
abbrev q0l:Array Value:=#[.int .u16 0,.slice none 0 0]
def RdRel (s:By)(w:World)(R:Sum Nat (List Hp))(g:Nat)(vh:Value)(wr:World):Prop:=
 ∃(i f:Nat) (acc:List Hp),i≤s.length∧s.length-i≤f∧f≤g∧acc.length≤i∧wr.ownsRow (w.heap.size+2) 129 11 vh acc.length (q0b acc)∧q2n s f i acc=R∧Rdr wr (w.heap.size+1) s i∧wr.heap[w.heap.size]?=some (.cells q0l 96 (0,0))∧Below w.heap.size w wr∧w.heap.size+2≤wr.heap.size
theorem q8X (s:By)(hs:s.length≤80)(n:Nat)(l:List Hp)(hR:q2N s=.inr (n,l))(w:World) :
  Calls Tryz.prog 32 #[bs s] w fun e w'=>∃hv,e=.returned (.tuple #[.agg #[.int .u16 n,hv],.int .i64 0,.bool true])∧w'.ownsRow (w.heap.size+2) 129 11 hv l.length (q0b l)∧Below w.heap.size w w':=by
 unfold q2N at hR
 by_cases h1:cI s 0=64
 ·rw[if_pos h1]at hR
  have hl0:=q2S (s:=s) (i:=0) (by omega)
  have hin:=j0a s 5 0 1 (by omega) (by omega)
  by_cases h2:(stF s 5 0 1).1=true∧1<(stF s 5 0 1).2.2
  ·rw[if_pos h2]at hR
   have hR2:q2n s s.length (stF s 5 0 1).2.2 []=.inr l∧(stF s 5 0 1).2.1=n:=by
    cases hh:q2n s s.length (stF s 5 0 1).2.2 []with
    |inl p=>rw[hh]at hR;simp at hR
    |inr l'=>rw[hh]at hR;simp at hR;exact⟨by rw[hR.2],hR.1⟩
   have HT:=zb (fun br W (h:Rdr W br s 0)=>q2e s hs br 0 (by omega) 64 h1 W h)
   have HS:=zb (fun br W (h:Rdr W br s 1)=>q9L s hs br 1 (by omega) W h (stF s 5 0 1) rfl)
   have HR2:=zb hR2
   have hv6:=hin.2.2.2
   generalize stF s 5 0 1=q at *
   obtain⟨q1,q2,q3⟩:=q
   simp only[]at h2 hin
   obtain⟨h2a,h2b⟩:=h2
   subst h2a
   have HQ:=zb h2b
   have hi3:q3≤s.length:=hin.2.1
   clear hR hR2 h1 hin h2b
   obtain⟨i0,hi0,hz0,hz1,hz2⟩:=info_parts j1q
   go_enter Tryz.func32,Tryz.ntmps32
   go_wp2_with fail
   have R0:Rdr ((w.alloc (.cells q0l 96)).alloc (.cells #[bs s,.int .i64 0] 121)) (w.heap.size+1) s 0:=by
    have hg:=zN (w.alloc (.cells q0l 96)) (.cells #[bs s,.int .i64 0] 121)
    have hg':((w.alloc (.cells q0l 96)).alloc (.cells #[bs s,.int .i64 0] 121)).heap[w.heap.size+1]?=some (.cells #[bs s,.int .i64 0] 121 (0,0)):=by simpa using hg
    exact⟨by rw[zC _ _ 0 _ _ _ hg'];rfl,by rw[zC _ _ 1 _ _ _ hg'];rfl,fun o=>zF _ _ o _ _ hg',by simp⟩
   have Z0:((w.alloc (.cells q0l 96)).alloc (.cells #[bs s,.int .i64 0] 121)).heap[w.heap.size]?=some (.cells q0l 96 (0,0)):=by rw[zO _ _ (by simp)];exact zN _ _
   have B0:Below w.heap.size w ((w.alloc (.cells q0l 96)).alloc (.cells #[bs s,.int .i64 0] 121)):=((zB _ _).alloc (zL _) _).alloc (by simp) _
   have s0:((w.alloc (.cells q0l 96)).alloc (.cells #[bs s,.int .i64 0] 121)).heap.size=w.heap.size+2:=by simp
   generalize (w.alloc (.cells q0l 96)).alloc (.cells #[bs s,.int .i64 0] 121)=W0 at *
   refine(HT.out _ _ R0).mono ?_
   rintro e w1 ⟨rfl,r1,o1⟩
   have HR1:=zb r1
   have HO1:=zb o1
   have HB0:=zb B0
   have HZ0:=zb Z0
   clear r1 o1 R0 HT B0 Z0
   go_wp2_with fail
   refine(HS.out _ _ HR1.out).mono ?_
   rintro e w2 ⟨⟨v,rfl,hv⟩,r2,o2⟩
   have ev:=hv (by trivial)
   subst ev
   have HR2':=zb r2
   have O2:=HO1.out.trans o2
   have Z2:w2.heap[w.heap.size]?=some (.cells q0l 96 (0,0)):=(O2.block w.heap.size (by omega) (by simp)).trans HZ0.out
   have B2:Below w.heap.size w w2:=HB0.out.trans (O2.below (by omega) (by simp))
   have hs2:w.heap.size+2≤w2.heap.size:=by have:=O2.size;omega
   have HB2:=zb B2
   have HZ2:=zb Z2
   rw[show(true&&decide (1<q3))=true by simpa using HQ.out]
   clear r2 o2 O2 Z2 B2 HR1 HO1 HS HB0 HZ0 hv s0 W0
   go_wp2_with fail
   go_loopg [8] s.length (fun g vh wr=>RdRel s w (.inr l) g vh wr)
   case atStart=>exact⟨q3,s.length,[],hi3,by omega,zL _,by simp,zW _ _ _ _,HR2.out.1,HR2'.out,HZ2.out,HB2.out,hs2⟩
   case round =>
    obtain⟨i,f,acc,hi,hf,hfg,hac,hown,hst,hrd,hz,hb,hsz⟩:=hrel
    have HO:=zb hown
    have HST:=zb hst
    have HRD:=zb hrd
    have HZ:=zb hz
    have HB:=zb hb
    have HF:=zb hf
    have HFG:=zb hfg
    have c1:=hrd.at'
    have hlr:=hrd.lt
    clear hown hst hrd hz hb hf hfg
    by_cases hil:i<s.length
    ·obtain⟨f',hf'⟩:∃f',f=f'+1:=⟨f-1,by have:=HF.out;omega⟩
     have hst:=HST.out
     rw[hf',q2n,if_pos hil]at hst
     have hok:(q2R s i).1=true:=by
      cases hq:(q2R s i).1 with
      |true=>rfl
      |false=>rw[if_neg (by rw[hq];decide)]at hst;simp at hst
     rw[if_pos hok]at hst
     have hin:=j0I s i hi
     have HH:=zb (q8h s hs (w.heap.size+1) i hi wr HRD.out (q2R s i) rfl)
     generalize q2R s i=q at *
     obtain⟨p1,p2,hp⟩:=q
     simp only[]at hok hin hst
     subst hok
     have HST':=zb hst
     have hp2:p2≤s.length:=hin.2.1
     have hp3:i<p2:=hin.2.2 rfl
     have HFF:=zb hf'
     clear hst hin HST hf'
     go_wp2_with fail
     refine(HH.out).mono ?_
     rintro e w3 ⟨rfl,r3,o3⟩
     have hown3:=q9h HO.out o3 (by simp)
     have z3:=(o3.block w.heap.size (by omega) (by simp)).trans HZ.out
     have b3:Below w.heap.size w w3:=HB.out.trans (o3.below (by omega) (by simp))
     obtain⟨W4,S4,g4,b4,z4⟩:=q0m (P:=Tryz.prog) 129 w3 z11 #[.int .u8 (zn hp.nm 0),.int .u8 (zn hp.nm 1),.int .u8 (zn hp.nm 2),.int .u8 (zn hp.nm 3),.int .u8 (zn hp.nm 4),.int .u8 (zn hp.nm 5),.int .u8 (zn hp.nm 6),.int .u8 (zn hp.nm 7),.int .i64 (hp.ds.getD 0 0:Nat),.int .i64 (hp.ds.getD 1 0:Nat),.int .i64 hp.ds.length] (by kernel_rfl) rfl (by simp[Value.oneCell'])
     have L4:=(HapAt.of_row (cs:=q5N hp) rfl g4).load
     have HO4:=zb (zp hown3 b4)
     have HZ4:=zb ((b4.block w.heap.size (by have:=o3.size;omega)).trans z3)
     have HR4:=zb (r3.only (OnlyB.of_below (bl:=[]) b4) (by simp))
     have HB4:=zb (b3.trans (b4.mono b3.size))
     have hs4:w.heap.size+2≤W4.heap.size:=by have:=o3.size;omega
     have hl4:w3.heap.size<W4.heap.size:=by omega
     obtain⟨V,hV⟩:∃V,V=q4M hp:=⟨_,rfl⟩
     have S4':(Instr.storeAt 129 (.pointer (some ⟨w3.heap.size,0,none⟩)) V).run Tryz.prog (w3.alloc (.cells z11 129))=.ok () W4:=by rw[hV];exact S4
     rw[←hV]
     clear r3 o3 hown3 z3 b3 g4 b4 z4 S4 hV HH HO HZ HRD HB
     go_wp2_with (first|(refine ze rfl 129 (.tmp 9) (.tmp 34) rfl ⟨w3.heap.size,0,none⟩ V rfl rfl W4 S4' ?_)|(refine zj rfl 129 (.tmp 9) rfl ⟨w3.heap.size,0,none⟩ (q4M hp) rfl L4 ?_)|(at_builtin;refine q3k rfl (.tmp 41) (.tmp 43) 94 129 rfl Tryz.underlying94 hi0 hz0 hz1 hz2 rfl (by decide) W4 (w.heap.size+2) _ _ _ (q5N hp) W4 rfl HO4.out (by simp[Act.eval]) rfl (by simp[Value.oneCell']) (by omega) (by decide) (zB _ _) hs4 ?_;intro v' w' hown' hbel' hne))
     have hg1:0<gk:=by have:=HFG.out;have:=HFF.out;omega
     go_roundg (gk-1)
     case measure=>omega
     case rel =>
      refine⟨p2,f',acc++[hp],hp2,by have:=HF.out;have:=HFF.out;omega,by have:=HFG.out;have:=HFF.out;omega,by simp;omega,by rw[q8b];simpa using hown',HST'.out,?_,(hbel'.block w.heap.size (by omega)).trans HZ4.out,HB4.out.trans (hbel'.mono (by omega)),by have:=hbel'.size;omega⟩
      have hq:=hbel'.block (w.heap.size+1) (by omega)
      exact⟨by rw[zK (w:=W4) hq];exact HR4.out.text,by rw[zK (w:=W4) hq];exact HR4.out.at',fun o=>by rw[World.frozen?_of_block (w:=W4) hq];exact HR4.out.free o,zT HR4.out.lt hbel'.size⟩
    ·have hst:=HST.out
     have hfin:q2n s f i acc=.inr acc:=by
      cases f with
      |zero=>rfl
      |succ f=>rw[q2n,if_neg hil]
     rw[hfin]at hst
     simp at hst
     subst hst
     have hown:=HO.out
     obtain⟨va,vc,rfl⟩:=q1n hown
     have z0:=zC _ _ 0 _ _ _ HZ.out
     have z1:=zC _ _ 1 _ _ _ HZ.out
     have y0:=fun j=>zF _ _ j _ _ HZ.out
     simp only[gz]at z0 z1
     have hlz:w.heap.size<wr.heap.size:=by omega
     have HOW:=zb hown
     have HN:=zb HR2.out.2
     clear hown hfin HO HST HR2 HRD
     go_wp2_with fail
     have hown2:=ownsRow_setCell_below (a:=⟨w.heap.size,1,none⟩) (ownsRow_setCell_below (a:=⟨w.heap.size,0,none⟩) HOW.out (by simp) (.int .u16 q2)) (by simp) (.slice va acc.length vc)
     exact zP (v:=.tuple #[.agg #[.int .u16 q2,.slice va acc.length vc],.int .i64 0,.bool true]) (by simp[results,Tryz.results32,go_sem,z0,z1]) rfl ⟨.slice va acc.length vc,by rw[←HN.out],hown2,(HB.out.setCell (zL _) _).setCell (zL _) _⟩
  ·rw[if_neg h2]at hR;simp at hR
 ·rw[if_neg h1]at hR;simp at hR
abbrev PPt:=LPt × Value
abbrev ptCs (p:PPt):List Value:=[.int .u16 p.1.stamp,p.2,.int .i64 p.1.time]
def q2A (l:List PPt):List Value:=l.flatMap ptCs
theorem q7d (l:List PPt):∀(i:Nat) (h:i<l.length) (j:Nat),j<3→(q2A l)[i*3+j]?=(ptCs l[i])[j]?:=by
 induction l with
 |nil=>intro i h;simp at h
 |cons n r ih =>
  intro i h j hj
  have e:q2A (n::r)=ptCs n++q2A r:=rfl
  have e2:(ptCs n).length=3:=rfl
  rw[e]
  cases i with
  |zero=>rw[List.getElem?_append_left (by omega)];simp
  |succ i =>
   have hi:i<r.length:=by simpa using h
   rw[List.getElem?_append_right (by omega),e2,show(i+1)*3+j-3=i*3+j by omega,ih i hi j hj]
   rfl
structure LogAt (w:World)(b o:Nat)(ao:OA)(cap:Nat)(PL:List PPt):Prop where
 cell:w.cell? ⟨b,o,none⟩=some (.slice ao PL.length cap)
 lt:b<w.heap.size
 row:w.ownsRow 0 136 3 (.slice ao PL.length cap) PL.length (q2A PL)
 small:PL.length≤40
 times:∀(i:Nat) (hi:i<PL.length),(PL[i]).1.time≤32768*i∧(PL[i]).1.stamp≤65535
theorem LogAt.below {w w':World}{b o:Nat}{ao:OA}{cap:Nat}{PL:List PPt}(h:LogAt w b o ao cap PL)(hb:Below w.heap.size w w'):LogAt w' b o ao cap PL:=
 ⟨by rw[zK (w:=w) (hb.block b h.lt)];exact h.cell,zT h.lt hb.size,zp h.row hb,h.small,h.times⟩
theorem LogAt.bnd {w:World}{b o:Nat}{ao:OA}{cap:Nat}{PL:List PPt}(h:LogAt w b o ao cap PL){i:Nat}(hi:i<PL.length):(PL[i]).1.time≤2000000∧(PL[i]).1.stamp≤65535:=by
 have h1:=h.times i hi
 have h2:=h.small
 exact⟨by omega,h1.2⟩
theorem LogAt.at' {w:World}{b o:Nat}{ao:OA}{cap:Nat}{PL:List PPt}(h:LogAt w b o ao cap PL){i:Nat}(hi:i<PL.length) :
  ∃g,ao=some ⟨g,0,none⟩∧g<w.heap.size∧PL.length≤cap∧cap≤maxLen∧w.cell? ⟨g,i*3,none⟩=some (.int .u16 (PL[i]).1.stamp)∧w.cell? ⟨g,i*3+1,none⟩=some (PL[i]).2∧w.cell? ⟨g,i*3+2,none⟩=some (.int .i64 (PL[i]).1.time):=by
 have hr:=h.row
 obtain⟨g,cap',e⟩:=zJ hr (by omega)
 injection e with e1 e2 e3
 subst e1 e3
 have hlt:=(hr.lt g rfl).2
 refine⟨g,rfl,hlt,?_⟩
 have hc:PL.length≤cap∧cap≤maxLen:=by
  rcases hr.2 with⟨h',_⟩|⟨g',cap',cur,h',_,_,p1,p2,_⟩
  ·simp at h'
  ·simp only[Value.slice.injEq,Option.some.injEq,Addr.mk.injEq,and_true,true_and]at h'
   obtain⟨rfl,rfl⟩:=h'
   exact⟨p1,p2⟩
 have hl:(q2A PL).length=PL.length*3:=hr.1
 refine⟨hc.1,hc.2,?_,?_,?_⟩
 ·have:=hr.cellAt (i*3) (by omega)
  rw[this,show i*3=i*3+0 from rfl,q7d PL i hi 0 (by omega)]
  rfl
 ·have:=hr.cellAt (i*3+1) (by omega)
  rw[this,q7d PL i hi 1 (by omega)]
  rfl
 ·have:=hr.cellAt (i*3+2) (by omega)
  rw[this,q7d PL i hi 2 (by omega)]
  rfl
def hasB (n:Nat)(i:Int):Bool:=decide (0≤i)&&decide (i<n)
theorem q7I (b o:Nat)(ao:OA)(cap:Nat)(PL:List PPt)(i:Int)(w:World)(h:LogAt w b o ao cap PL) :
  Calls Tryz.prog 71 #[.pointer (some ⟨b,o,none⟩),.int .i64 i] w fun e w'=>e=.returned (.bool (hasB PL.length i))∧Below w.heap.size w w':=by
 have c0:=h.cell
 have hlt:=h.lt
 have hsm:=h.small
 clear h
 generalize PL.length=n at *
 unfold hasB
 go_enter Tryz.func71,Tryz.ntmps71
 go_wp2_with fail
 ·go_ret
  exact⟨q0v (by have h0:0≤i:=(by omega);simp[h0]),zB _ _⟩
 ·go_ret
  exact⟨q0v (by have h0:¬0≤i:=(by omega);simp[h0]),zB _ _⟩
theorem q7H (b o:Nat)(ao:OA)(cap:Nat)(PL:List PPt)(w:World)(h:LogAt w b o ao cap PL) :
  Calls Tryz.prog 36 #[.pointer (some ⟨b,o,none⟩)] w fun e w'=>e=.returned (.int .i64 PL.length)∧w'=w:=by
 have c0:=h.cell
 have hlt:=h.lt
 clear h
 generalize PL.length=n at *
 go_enter Tryz.func36,Tryz.ntmps36
 go_wp2_with fail
 go_ret
 exact⟨rfl,rfl⟩
theorem q8N {n:Nat}{i:Nat}(h:i<n):hasB n (i:Int)=true:=by unfold hasB;simp[h]
theorem j8r {n:Nat}{i:Int}(h:i<0∨(n:Int)≤i):hasB n i=false:=by
 unfold hasB
 rcases h with h|h
 ·rw[decide_eq_false (by omega),Bool.false_and]
 ·rw[decide_eq_false (show ¬i<(n:Int)by omega),Bool.and_false]
abbrev zz (PL:List PPt):List LPt:=PL.map Prod.fst
theorem j4g {PL:List PPt}{i:Nat}(h:i<PL.length):tmL (zz PL) i=(PL[i]).1.time:=by
 unfold tmL
 rw[List.getElem?_map,zG h]
 rfl
theorem q7e (b o:Nat)(ao:OA)(cap:Nat)(PL:List PPt)(i j:Nat)(hi:i<PL.length)(hj:j<PL.length)(w:World)(h:LogAt w b o ao cap PL) :
  Calls Tryz.prog 52 #[.pointer (some ⟨b,o,none⟩),.int .i64 i,.int .i64 j] w fun e w'=>e=.returned (.int .i64 (q0G (zz PL) i j))∧Below w.heap.size w w':=by
 have HI:=zb (fun W (h:LogAt W b o ao cap PL)=>q7I b o ao cap PL i W h)
 have HJ:=zb (fun W (h:LogAt W b o ao cap PL)=>q7I b o ao cap PL j W h)
 rw[q8N hi]at HI
 rw[q8N hj]at HJ
 have H:=zb h
 have hsm:=h.small
 have ti:=h.bnd hi
 have tj:=h.bnd hj
 have HD:Hid ((q0G (zz PL) i j:Int)=if (PL[j]).1.time<(PL[i]).1.time then -(((PL[j]).1.time:Int)-(PL[i]).1.time)else((PL[j]).1.time:Int)-(PL[i]).1.time):=zb (by
  unfold q0G
  rw[j4g hi,j4g hj]
  split<;>omega)
 generalize q0G (zz PL) i j=d at *
 clear h
 go_enter Tryz.func52,Tryz.ntmps52
 go_wp2_with fail
 refine(HI.out _ H.out).mono ?_
 rintro e w1 ⟨rfl,b1⟩
 have HB1:=zb b1
 have H1:=zb (H.out.below b1)
 clear b1
 go_wp2_with fail
 refine(HJ.out _ H1.out).mono ?_
 rintro e w2 ⟨rfl,b2⟩
 have HB2:Hid (Below w.heap.size w w2):=zb (HB1.out.trans (b2.mono HB1.out.size))
 have h2:=H1.out.below b2
 have c0:=h2.cell
 have hlt:=h2.lt
 obtain⟨g,rfl,hg,k1,k2,_,_,ci⟩:=h2.at' hi
 obtain⟨g',eg,_,_,_,_,_,cj⟩:=h2.at' hj
 injection eg with eg
 injection eg with eg
 subst eg
 unfold maxLen at k2
 generalize (PL[i]).1.time=x at *
 generalize (PL[j]).1.time=y at *
 obtain⟨tx,_⟩:=ti
 obtain⟨ty,_⟩:=tj
 clear b2 h2 H1 HB1 H HI HJ
 by_cases hxy:y<x
 ·have hd:=HD.out
  rw[if_pos hxy]at hd
  have HD2:=zb hd
  clear HD hd
  go_wp2_with fail
  go_region
  go_wp2_with fail
  go_ret
  exact⟨q1t (by rw[HD2.out]),HB2.out.drew⟩
 ·have hd:=HD.out
  rw[if_neg hxy]at hd
  have HD2:=zb hd
  clear HD hd
  go_wp2_with fail
  go_region
  go_wp2_with fail
  go_ret
  exact⟨q1t (by rw[HD2.out]),HB2.out.drew⟩
theorem q9i (b o:Nat)(ao:OA)(cap:Nat)(PL:List PPt)(i:Nat)(j:Int)(hi:i<PL.length)(hj:j<0∨(PL.length:Int)≤j)(w:World)(h:LogAt w b o ao cap PL) :
  Calls Tryz.prog 52 #[.pointer (some ⟨b,o,none⟩),.int .i64 i,.int .i64 j] w fun e w'=>e=.returned (.int .i64 0)∧Below w.heap.size w w':=by
 have HI:=zb (fun W (h:LogAt W b o ao cap PL)=>q7I b o ao cap PL i W h)
 have HJ:=zb (fun W (h:LogAt W b o ao cap PL)=>q7I b o ao cap PL j W h)
 rw[q8N hi]at HI
 rw[j8r hj]at HJ
 have H:=zb h
 clear h
 go_enter Tryz.func52,Tryz.ntmps52
 go_wp2_with fail
 refine(HI.out _ H.out).mono ?_
 rintro e w1 ⟨rfl,b1⟩
 have HB1:=zb b1
 have H1:=zb (H.out.below b1)
 clear b1
 go_wp2_with fail
 refine(HJ.out _ H1.out).mono ?_
 rintro e w2 ⟨rfl,b2⟩
 have HB2:Hid (Below w.heap.size w w2):=zb (HB1.out.trans (b2.mono HB1.out.size))
 clear b2
 go_wp2_with fail
 go_ret
 exact⟨rfl,HB2.out⟩
theorem j1K (b o:Nat)(ao:OA)(cap:Nat)(PL:List PPt)(j:Int)(hn:PL.length=0)(w:World)(h:LogAt w b o ao cap PL) :
  Calls Tryz.prog 52 #[.pointer (some ⟨b,o,none⟩),.int .i64 0,.int .i64 j] w fun e w'=>e=.returned (.int .i64 0)∧Below w.heap.size w w':=by
 have HI:=zb (fun W (h:LogAt W b o ao cap PL)=>q7I b o ao cap PL 0 W h)
 rw[j8r (by omega)]at HI
 have H:=zb h
 clear h hn
 go_enter Tryz.func52,Tryz.ntmps52
 go_wp2_with fail
 refine(HI.out _ H.out).mono ?_
 rintro e w1 ⟨rfl,b1⟩
 go_wp2_with fail
 go_ret
 exact⟨rfl,b1⟩
theorem pts_At (b o:Nat)(ao:OA)(cap:Nat)(PL:List PPt)(i:Nat)(hi:i<PL.length)(w:World)(h:LogAt w b o ao cap PL)(ha:∀p∈PL,∃va vn vc,p.2=.slice va vn vc) :
  Calls Tryz.prog 55 #[.pointer (some ⟨b,o,none⟩),.int .i64 i] w fun e w'=>e=.returned (.agg #[.int .u16 (PL[i]).1.stamp,(PL[i]).2])∧Below w.heap.size w w':=by
 have HI:=zb (fun W (h:LogAt W b o ao cap PL)=>q7I b o ao cap PL i W h)
 rw[q8N hi]at HI
 obtain⟨va,vn,vc,ev⟩:=ha _ (List.getElem_mem hi)
 obtain⟨st,hst⟩:∃st,st=(PL[i]).1.stamp:=⟨_,rfl⟩
 rw[ev,←hst]
 have EV:=zb ev
 have EST:=zb hst
 clear ev hst
 have hsm:=h.small
 have B0:Below w.heap.size w (w.alloc (.cells q0l 96)):=(zB _ _).alloc (zL _) _
 have H:=zb (h.below B0)
 have HB0:=zb B0
 clear h B0
 go_enter Tryz.func55,Tryz.ntmps55
 go_wp2_with fail
 have HZ0:=zb (zN w (.cells q0l 96))
 have s0:(w.alloc (.cells q0l 96)).heap.size=w.heap.size+1:=by simp
 generalize w.alloc (.cells q0l 96)=W0 at *
 refine(HI.out _ H.out).mono ?_
 rintro e w1 ⟨rfl,b1⟩
 have h1:=H.out.below b1
 have c0:=h1.cell
 have hlt:=h1.lt
 obtain⟨g,rfl,hg,k1,k2,cs,ch,_⟩:=h1.at' hi
 unfold maxLen at k2
 rw[EV.out]at ch
 rw[←EST.out]at cs
 have Z2:=(b1.block w.heap.size (by omega)).trans HZ0.out
 have z0:=zC _ _ 0 _ _ _ Z2
 have z1:=zC _ _ 1 _ _ _ Z2
 have y0:=fun j=>zF _ _ j _ _ Z2
 simp only[gz]at z0 z1
 have hlz:w.heap.size<w1.heap.size:=by have:=b1.size;omega
 have HB1:Hid (Below w.heap.size w w1):=zb (HB0.out.trans (b1.mono (by omega)))
 clear b1 h1 H HI HB0 HZ0 Z2 EV EST s0
 go_wp2_with fail
 exact zP (v:=.agg #[.int .u16 st,.slice va vn vc]) (by simp[results,Tryz.results55,go_sem,z0,z1]) rfl ⟨rfl,(HB1.out.setCell (zL _) _).setCell (zL _) _⟩
def toR (L:List LPt)(st:Nat):Nat:=match L[L.length-1]? with
 |some p=>(st+65536-p.stamp) % 65536
 |none=>0
theorem j1L (b o:Nat)(ao:OA)(cap:Nat)(PL:List PPt)(st:Nat)(hst:st≤65535)(w:World)(h:LogAt w b o ao cap PL) :
  Calls Tryz.prog 51 #[.pointer (some ⟨b,o,none⟩),.int .u16 st] w fun e w'=>e=.returned (.int .i64 (toR (zz PL) st))∧Below w.heap.size w w':=by
 have c0:=h.cell
 have hlt:=h.lt
 have hsm:=h.small
 by_cases hn:PL.length=0
 ·have e:toR (zz PL) st=0:=by
   have:PL=[]:=List.eq_nil_of_length_eq_zero hn
   rw[this];rfl
  rw[e]
  rw[hn]at c0
  clear h e hn hsm
  go_enter Tryz.func51,Tryz.ntmps51
  go_wp2_with fail
  go_ret
  exact⟨rfl,zB _ _⟩
 ·have hi:PL.length-1<PL.length:=by omega
  have e:toR (zz PL) st=(st+65536-(PL[PL.length-1]).1.stamp) % 65536:=by
   unfold toR
   simp only[zz,List.length_map,List.getElem?_map,zG hi,Option.map_some]
  have hs2:=(h.bnd hi).2
  obtain⟨g,rfl,hg,k1,k2,cs,c8,c9⟩:=h.at' hi
  clear c8 c9
  have HE:Hid ((toR (zz PL) st:Int)=((st:Int)-(PL[PL.length-1]).1.stamp+65536) % 65536):=zb (by rw[e];omega)
  generalize toR (zz PL) st=d at *
  generalize (PL[PL.length-1]).1.stamp=x at *
  unfold maxLen at k2
  clear h e
  generalize PL.length=n at *
  obtain⟨m,rfl⟩:∃m,n=m+1:=⟨n-1,by omega⟩
  rw[show m+1-1=m from rfl]at cs
  clear hn hi
  go_enter Tryz.func51,Tryz.ntmps51
  go_wp2_with fail
  try go_region
  try go_wp2_with fail
  go_ret
  exact⟨q1t HE.out.symm,by first|exact zB _ _|exact(zB _ _).drew⟩
def SeRel (w:World)(n R:Nat)(S:Nat→Nat→Nat)(g:Nat)(vc:Value)(wr:World):Prop:=∃c f:Nat,c+f=n∧f≤g∧vc=.int .i64 c∧S f c=R∧Below w.heap.size w wr
theorem j5M (b o:Nat)(ao:OA)(cap:Nat)(PL:List PPt)(rc:Int)(w:World)(h:LogAt w b o ao cap PL) :
  Calls Tryz.prog 34 #[.pointer (some ⟨b,o,none⟩),.int .i64 rc] w fun e w'=>e=.returned (.int .i64 (qp (zz PL) rc))∧Below w.heap.size w w':=by
 have H:=zb h
 have hsm:=h.small
 have c0:=h.cell
 have hlt:=h.lt
 obtain⟨R,hR⟩:∃R,R=qp (zz PL) rc:=⟨_,rfl⟩
 rw[←hR]
 have HR:Hid (q4e (zz PL) rc PL.length 0=R):=zb (by rw[hR];unfold qp;rw[List.length_map])
 have HS:Hid (∀f c,q4e (zz PL) rc (f+1) c=if c+1≤PL.length∧rc<(q0G (zz PL) c (PL.length-1):Int)then q4e (zz PL) rc f (c+1)else c):=zb (fun f c=>by rw[q4e,List.length_map])
 have HT:Hid (∀c,c<PL.length→∀W,LogAt W b o ao cap PL→Calls Tryz.prog 52 #[.pointer (some ⟨b,o,none⟩),.int .i64 (c:Nat),.int .i64 ((PL.length:Int)-1)] W fun e w'=>e=.returned (.int .i64 (q0G (zz PL) c (PL.length-1)))∧Below W.heap.size W w'):=zb (fun c hc W hW=>by
  have:=q7e b o ao cap PL c (PL.length-1) hc (by omega) W hW
  rwa [show((PL.length-1:Nat):Int)=(PL.length:Int)-1 by omega]at this)
 have HZ:Hid (∀c,q4e (zz PL) rc 0 c=c):=zb (fun c=>rfl)
 clear h hR
 generalize q4e (zz PL) rc=S at *
 go_enter Tryz.func34,Tryz.ntmps34
 go_wp2_with fail
 go_loopg [6] PL.length (fun g vc wr=>SeRel w PL.length R S g vc wr)
 case atStart=>exact⟨0,PL.length,by omega,zL _,rfl,HR.out,zB _ _⟩
 case round =>
  obtain⟨c,f,hcf,hfg,rfl,hst,hb⟩:=hrel
  have HB:=zb hb
  have HF:=zb hfg
  have H1:=zb (H.out.below hb)
  clear hb hfg HR
  by_cases hc:c<PL.length
  ·have HCF:=zb hcf
   obtain⟨f',hf'⟩:∃f',f=f'+1:=⟨f-1,by omega⟩
   rw[hf',HS.out]at hst
   have HTc:=zb (HT.out c hc)
   have HFF:=zb hf'
   generalize q0G (zz PL) c (PL.length-1)=d at *
   clear hf' hcf
   by_cases hd:rc<(d:Int)
   ·rw[if_pos ⟨by omega,hd⟩]at hst
    have HST:=zb hst
    clear hst
    go_wp2_with fail
    refine(HTc.out _ H1.out).mono ?_
    rintro e w2 ⟨rfl,b2⟩
    have HB2:=zb (HB.out.trans (b2.mono HB.out.size))
    clear b2
    go_wp2_with fail
    have hg1:0<gk:=by have:=HF.out;have:=HFF.out;omega
    go_roundg (gk-1)
    case measure=>omega
    case rel=>exact⟨c+1,f',by have:=HCF.out;have:=HFF.out;omega,by have:=HF.out;have:=HFF.out;omega,by go_num,HST.out,HB2.out⟩
   ·rw[if_neg (fun h=>hd h.2)]at hst
    have HST:=zb hst
    clear hst
    go_wp2_with fail
    refine(HTc.out _ H1.out).mono ?_
    rintro e w2 ⟨rfl,b2⟩
    have HB2:=zb (HB.out.trans (b2.mono HB.out.size))
    clear b2
    go_wp2_with fail
    go_ret
    exact⟨by rw[←HST.out];rfl,HB2.out⟩
  ·have hf0:f=0:=by omega
   subst hf0
   rw[HZ.out]at hst
   have HST:=zb hst
   clear hst hcf
   go_wp2_with fail
   go_ret
   exact⟨by rw[←HST.out];rfl,HB.out⟩
abbrev q1a (nd:PNode)(lb lo:Nat)(vf vs:Value):List Value:=[.int .i64 nd.kind,.int .i64 nd.pos,.int .u8 (zn nd.name 0),.int .u8 (zn nd.name 1),.int .u8 (zn nd.name 2),.int .u8 (zn nd.name 3),.int .u8 (zn nd.name 4),.int .u8 (zn nd.name 5),.int .u8 (zn nd.name 6),.int .u8 (zn nd.name 7),.int .i64 nd.k0,.int .i64 nd.v0,.int .i64 nd.k1,.int .i64 nd.v1,.int .i64 nd.cnt,.int .i64 nd.var,.int .i64 nd.sat,.int .i64 nd.slo,.int .i64 nd.shi,.bool nd.sop,.int .i64 nd.fst,.int .i64 nd.snd,.pointer (some ⟨lb,lo,none⟩),vf,vs]
theorem q1L {w W1 w2:World}{b:Nat}(G1:W1.heap[b]?=some (.cells zCs 43 (0,0)))(hw:w.heap.size≤b)(B1:Below w.heap.size w W1)(b2:Below W1.heap.size W1 w2)(r:Nat→Int) :
  ∃W,(Instr.storeAt 43 (.pointer (some ⟨b,0,none⟩)) (zr r)).run Tryz.prog w2=.ok () W∧(loadVar 43 ⟨b,0,none⟩).run Tryz.prog W=.ok (zr r) W∧Below w.heap.size w W:=by
 have hb:b<W1.heap.size:=by
  rcases Nat.lt_or_ge b W1.heap.size with g|g
  ·exact g
  ·rw[Array.getElem?_eq_none g]at G1;simp at G1
 have G2:=(b2.block b hb).trans G1
 have B2:Below w.heap.size w w2:=B1.trans (b2.mono B1.size)
 obtain⟨W,S1,s2,s3,s4,s5,s6,s7⟩:=q4Y _ b _ r G2 rfl
 exact⟨W,S1,(Arr.of_row (f:=r) s2).loadV,⟨s5.trans B2.os,s6.trans B2.tape,s7.trans B2.output,by rw[s4];exact B2.size,fun k hk=>by rw[s3 k (by omega)];exact B2.block k hk⟩⟩
theorem q0I {W0:World}{b:Nat}{nd:PNode}{lb lo:Nat}{vf vs:Value}(g0:W0.heap[b]?=some (.cells (q1a nd lb lo vf vs).toArray 168 (0,0)))(j:Nat):W0.cell? ⟨b,j,none⟩=(q1a nd lb lo vf vs)[j]?:=by
 rw[zC _ _ j _ _ _ g0,List.getElem?_toArray]
theorem hol_goal (V:Value)(nd:PNode)(lb lo:Nat)(vf vs:Value)(hV:V=.agg (q1a nd lb lo vf vs).toArray)(mA mB:Nat)(hA40:mA≤40)(hB40:mB≤40)(A B:Nat→Nat→Nat→Bool)(j:Nat)(w:World)(hA:Tb w vf mA A)(hB:Tb w vs mB B) :
  Calls Tryz.prog 167 #[V,.int .i64 j] w fun e w'=>e=.returned (zr (zm fun x y=>q1R nd A B x y j))∧Below w.heap.size w w':=by
 obtain⟨fa,fc,rfl⟩:=hA.form
 obtain⟨sa,sc,rfl⟩:=hB.form
 have HV:=zb hV
 have HA:=zb hA
 have HB:=zb hB
 clear hV hA hB
 by_cases hk:nd.kind=12∨nd.kind=13
 ·have hg:(fun x y=>q1R nd A B x y j)=A j:=by funext x y;unfold q1R;rw[if_pos hk]
  rw[hg]
  have HC:=zb (fun W (h:Tb W (.slice fa mA fc) mA A)=>q0x (.slice fa mA fc) mA A hA40 j W h)
  generalize zm (A j)=r at *
  obtain⟨U,hU⟩:∃U,U=zr r:=⟨_,rfl⟩
  rw[←hU]
  have HU:=zb hU
  clear hU hg
  rcases hk with hk|hk
  all_goals
   go_enter Tryz.func167,Tryz.ntmps167
   go_wp2_with (first|(refine qF rfl 168 (.tmp 0) rfl V _ rfl HV.out ?_;intro W0 g0 b0 z0;have c0:=q0I g0 0;have c23:=q0I g0 23;simp only[List.getElem?_cons_zero,List.getElem?_cons_succ,hk]at c0 c23;have hl0:w.heap.size<W0.heap.size:=(by omega);have B1:=b0.alloc b0.size (.cells zCs 43);have G1:=zN W0 (.cells zCs 43);have HB1:=zb B1;have HG1:=zb G1;have HZ0:=zb z0;clear B1 G1 g0 z0))
   refine(HC.out _ ((HA.out.below b0).below (by exact(zB _ _).alloc (zL _) _))).mono ?_
   rintro e w2 ⟨rfl,b2⟩
   obtain⟨W,S1,LV,BW⟩:=q1L HG1.out (by omega) HB1.out b2 r
   rw[←HU.out]at S1 LV ⊢
   have HW:=zb BW
   clear b2 BW c0 c23 b0
   go_wp2_with (refine ze rfl 43 (.tmp 4) (.tmp 14) rfl ⟨W0.heap.size,0,none⟩ U rfl rfl W S1 ?_)
   exact zP (v:=U) (zl rfl _ _ _ _ rfl LV) rfl ⟨rfl,HW.out⟩
 ·have hg:(fun x y=>q1R nd A B x y j)=B j:=by funext x y;unfold q1R;rw[if_neg hk]
  rw[hg]
  have HC:=zb (fun W (h:Tb W (.slice sa mB sc) mB B)=>q0x (.slice sa mB sc) mB B hB40 j W h)
  generalize zm (B j)=r at *
  obtain⟨U,hU⟩:∃U,U=zr r:=⟨_,rfl⟩
  rw[←hU]
  have HU:=zb hU
  have k1:¬nd.kind=12:=fun h=>hk (.inl h)
  have k2:¬nd.kind=13:=fun h=>hk (.inr h)
  have e1:(nd.kind==12)=false:=by simpa using k1
  have e2:(nd.kind==13)=false:=by simpa using k2
  generalize hkk:nd.kind=kk at *
  have HKK:=zb hkk
  clear hU hg hk hkk
  go_enter Tryz.func167,Tryz.ntmps167
  go_wp2_with (first|(refine qF rfl 168 (.tmp 0) rfl V _ rfl HV.out ?_;intro W0 g0 b0 z0;have c0:=q0I g0 0;have c24:=q0I g0 24;simp only[List.getElem?_cons_zero,List.getElem?_cons_succ,HKK.out]at c0 c24;have hl0:w.heap.size<W0.heap.size:=(by omega);have B1:=b0.alloc b0.size (.cells zCs 43);have G1:=zN W0 (.cells zCs 43);have HB1:=zb B1;have HG1:=zb G1;have HZ0:=zb z0;clear B1 G1 g0 z0))
  refine(HC.out _ ((HB.out.below b0).below (by exact(zB _ _).alloc (zL _) _))).mono ?_
  rintro e w2 ⟨rfl,b2⟩
  obtain⟨W,S1,LV,BW⟩:=q1L HG1.out (by omega) HB1.out b2 r
  rw[←HU.out]at S1 LV ⊢
  have HW:=zb BW
  clear b2 BW c0 c24 b0
  go_wp2_with (refine ze rfl 43 (.tmp 4) (.tmp 18) rfl ⟨W0.heap.size,0,none⟩ U rfl rfl W S1 ?_)
  exact zP (v:=U) (zl rfl _ _ _ _ rfl LV) rfl ⟨rfl,HW.out⟩
theorem qe {P:Program}{o:Oper}{a:Act}{w:World}{K:Act→World→Prop}{Q:Exit→Act→World→Prop}(ty:TypeId)(x y:Operand)(ho:o.op=.store ty x y)(ad:Addr)(v:Value)(hx:a.eval x=.pointer (some ad))(hy:a.eval y=v)(W':World)(hr:(Instr.storeAt ty (.pointer (some ad)) v).run P w=.ok () W')
  (h:K (a.put o.dst undef) W'):o.wp P a w K Q:=by
 unfold Oper.wp execOp
 simp only[ho,hx,hy,hr,Sem.run_bind,Sem.run_pure,Result.andThen_ok]
 exact h
theorem q0w (W:World)(r:Nat→Int):∃W',(Instr.storeAt 43 (.pointer (some ⟨W.heap.size,0,none⟩)) (zr r)).run Tryz.prog (W.alloc (.cells zCs 43))=.ok () W'∧W'.heap[W.heap.size]?=some (.cells (qA r).toArray 43 (0,0))∧Below W.heap.size W W'∧W'.heap.size=W.heap.size+1:=
 q0m (P:=Tryz.prog) 43 W zCs #[.int .u16 (r 0),.int .u16 (r 1),.int .u16 (r 2),.int .u16 (r 3),.int .u16 (r 4),.int .u16 (r 5),.int .u16 (r 6),.int .u16 (r 7),.int .u16 (r 8),.int .u16 (r 9)] (by kernel_rfl) rfl (by simp[Value.oneCell'])
theorem qg {w:World}{b:Nat}{r:Nat→Int}(h:w.heap[b]?=some (.cells (qA r).toArray 43 (0,0))):(Instr.loadAt 43 (.pointer (some ⟨b,0,none⟩))).run Tryz.prog w=.ok (zr r) w:=(Arr.of_row (f:=r) h).load
theorem j2I (V:Value)(nd:PNode)(lb lo:Nat)(vf vs:Value)(hV:V=.agg (q1a nd lb lo vf vs).toArray)(mA:Nat)(hA40:mA≤40)(A:Nat→Nat→Nat→Bool)(j:Nat)(w:World)(hA:Tb w vf mA A) :
  Calls Tryz.prog 168 #[V,.int .i64 j] w fun e w'=>e=.returned (zr (zm fun x y=>q0S nd A x y j))∧Below w.heap.size w w':=by
 obtain⟨fa,fc,rfl⟩:=hA.form
 have HV:=zb hV
 have HA:=zb hA
 have HC:=zb (fun W (h:Tb W (.slice fa mA fc) mA A)=>q0x (.slice fa mA fc) mA A hA40 j W h)
 clear hV hA
 obtain⟨U,hU⟩:∃U,U=zr (zm (A j)):=⟨_,rfl⟩
 rw[←hU]at HC
 have HU:=zb hU
 clear hU
 by_cases hk:nd.kind=14∨nd.kind=16
 ·have hg:(fun x y=>q0S nd A x y j)=A j:=by funext x y;unfold q0S;rw[if_pos hk]
  rw[hg,←HU.out]
  clear hg
  rcases hk with hk|hk
  all_goals
   go_enter Tryz.func168,Tryz.ntmps168
   go_wp2_with (first|(refine qF rfl 168 (.tmp 0) rfl V _ rfl HV.out ?_;intro W0 g0 b0 z0;have c23:=q0I g0 23;simp only[List.getElem?_cons_zero,List.getElem?_cons_succ]at c23;have hl0:w.heap.size<W0.heap.size:=(by omega);have B1:=b0.alloc b0.size (.cells zCs 43);have G1:=zN W0 (.cells zCs 43);have HB1:=zb B1;have HG1:=zb G1;have HZ0:=zb z0;have HG0:=zb g0;clear B1 G1 g0 z0))
   refine(HC.out _ ((HA.out.below b0).below (by exact(zB _ _).alloc (zL _) _))).mono ?_
   rintro e w2 ⟨rfl,b2⟩
   obtain⟨W3,S3,g3,b3,z3⟩:=q0w w2 (zm (A j))
   have b23:Below (W0.alloc (.cells zCs 43)).heap.size (W0.alloc (.cells zCs 43)) W3:=b2.trans (b3.mono b2.size)
   obtain⟨W,S1,LV,BW⟩:=q1L HG1.out (by omega) HB1.out b23 (zm (A j))
   have L3:=qg g3
   rw[←HU.out]at S1 LV S3 L3
   have G03:W3.heap[w.heap.size]?=_:=(b23.block w.heap.size (by simp;omega)).trans ((zO _ _ hl0).trans HG0.out)
   have c0:=q0I G03 0
   simp only[List.getElem?_cons_zero,hk]at c0
   have hl3:w.heap.size<W3.heap.size:=by have:=b23.size;simp at this;omega
   have HW:=zb BW
   clear b2 BW c23 b0 b3 b23 g3 z3 G03
   go_wp2_with (first|(refine ze rfl 43 (.tmp 5) (.tmp 9) rfl ⟨w2.heap.size,0,none⟩ U rfl rfl W3 S3 ?_)|(refine zj rfl 43 (.tmp 5) rfl ⟨w2.heap.size,0,none⟩ U rfl L3 ?_)|(refine ze rfl 43 (.tmp 4) (.tmp 16) rfl ⟨W0.heap.size,0,none⟩ U rfl rfl W S1 ?_))
   exact zP (v:=U) (zl rfl _ _ _ _ rfl LV) rfl ⟨rfl,HW.out⟩
 ·by_cases hk2:nd.kind=15∨nd.kind=17
  ·have hg:(fun x y=>q0S nd A x y j)=(fun x y=>true&&!A j x y):=by funext x y;unfold q0S;rw[if_neg hk,if_pos hk2];simp
   rw[hg]
   have HWO:=zb (j0o (fun _ _=>true) (A j))
   have HAL:=zb q3g
   rw[←HU.out]at HWO
   generalize zm (fun x y=>true&&!A j x y)=r at *
   generalize zm (fun _ _=>true)=ra at *
   obtain⟨T,hT⟩:∃T,T=zr r:=⟨_,rfl⟩
   obtain⟨TA,hTA⟩:∃TA,TA=zr ra:=⟨_,rfl⟩
   rw[←hT]
   rw[←hT,←hTA]at HWO
   rw[←hTA]at HAL
   have HTT:=zb hT
   clear hg hT hTA hk
   rcases hk2 with HKK|HKK
   all_goals
    go_enter Tryz.func168,Tryz.ntmps168
    go_wp2_with (first|(refine qF rfl 168 (.tmp 0) rfl V _ rfl HV.out ?_;intro W0 g0 b0 z0;have c23:=q0I g0 23;simp only[List.getElem?_cons_zero,List.getElem?_cons_succ]at c23;have hl0:w.heap.size<W0.heap.size:=(by omega);have B1:=b0.alloc b0.size (.cells zCs 43);have G1:=zN W0 (.cells zCs 43);have HB1:=zb B1;have HG1:=zb G1;have HZ0:=zb z0;have HG0:=zb g0;clear B1 G1 g0 z0))
    refine(HC.out _ ((HA.out.below b0).below (by exact(zB _ _).alloc (zL _) _))).mono ?_
    rintro e w2 ⟨rfl,b2⟩
    obtain⟨W3,S3,g3,b3,z3⟩:=q0w w2 (zm (A j))
    have b23:Below (W0.alloc (.cells zCs 43)).heap.size (W0.alloc (.cells zCs 43)) W3:=b2.trans (b3.mono b2.size)
    have L3:=fun(W:World) (h:Below W3.heap.size W3 W)=>qg ((h.block w2.heap.size (by omega)).trans g3)
    rw[←HU.out]at S3 L3
    have G03:W3.heap[w.heap.size]?=_:=(b23.block w.heap.size (by simp;omega)).trans ((zO _ _ hl0).trans HG0.out)
    have c0:=q0I G03 0
    simp only[List.getElem?_cons_zero,HKK]at c0
    have hl3:w.heap.size<W3.heap.size:=by have:=b23.size;simp at this;omega
    have HL3:=zb L3
    have HB23:=zb b23
    clear b2 c23 b0 b3 b23 g3 z3 G03 L3
    go_wp2_with (refine ze rfl 43 (.tmp 5) (.tmp 9) rfl ⟨w2.heap.size,0,none⟩ U rfl rfl W3 S3 ?_)
    have fin:∀w7,Below W3.heap.size W3 w7→∃W,(Instr.storeAt 43 (.pointer (some ⟨W0.heap.size,0,none⟩)) T).run Tryz.prog w7=.ok () W∧(loadVar 43 ⟨W0.heap.size,0,none⟩).run Tryz.prog W=.ok T W∧Below w.heap.size w W:=fun w7 b7=>by
     obtain⟨W,S1,LV,BW⟩:=q1L HG1.out (by omega) HB1.out (HB23.out.trans (b7.mono HB23.out.size)) r
     rw[←HTT.out]at S1 LV
     exact⟨W,S1,LV,BW⟩
    have FIN:=zb fin
    clear fin
    refine wp_region_any (by kernel_rfl) ?_
    change wpAny _ _ _ _ _ _ _ (World.drew _)
    refine wpAny_ready (rs:=[0,1]) (by kernel_rfl) (by simp) ?_
    refine AllReady.cons rfl (fun K hK=>?_) (AllReady.cons rfl (fun K hK=>?_) AllReady.nil)
    ·rw[if_pos (by rfl)]
     go_simp
     refine(HAL.out _).mono ?_
     rintro e w4 ⟨rfl,b4⟩
     have B4:Below W3.heap.size W3 w4:=((zB _ _).drew).trans b4
     have L4:=HL3.out _ B4
     go_simp
     refine hK _ _ ?_
     clear hK K b4
     refine wpAny_ready (rs:=[1]) (by kernel_rfl) (by simp) ?_
     refine AllReady.cons rfl (fun K hK=>?_) AllReady.nil
     rw[if_pos (by rfl)]
     refine q0e 43 (.tmp 5) rfl ⟨w2.heap.size,0,none⟩ U rfl L4 ?_
     refine hK _ _ ?_
     clear hK K L4
     simp only[Act.put]
     refine wpAny_ready (rs:=[2]) (by kernel_rfl) (by simp) ?_
     refine AllReady.cons rfl (fun K hK=>?_) AllReady.nil
     rw[if_pos (by rfl)]
     go_simp
     refine(HWO.out _).mono ?_
     rintro e w5 ⟨rfl,b5⟩
     obtain⟨W,S1,LV,BW⟩:=FIN.out w5 (B4.trans (b5.mono B4.size))
     have HW:=zb BW
     go_simp
     refine hK _ _ ?_
     clear hK K b5 BW B4
     refine wpAny_ready (rs:=[3]) (by kernel_rfl) (by simp) ?_
     refine AllReady.cons rfl (fun K hK=>?_) AllReady.nil
     rw[if_pos (by rfl)]
     refine qe 43 (.tmp 4) (.tmp 22) rfl ⟨W0.heap.size,0,none⟩ T rfl rfl W S1 ?_
     refine hK _ _ ?_
     clear hK K
     refine wpAny_done (by kernel_rfl) ?_ _
     simp only[Act.put]
     go_wp2_with fail
     exact zP (v:=T) (zl rfl _ _ _ _ rfl LV) rfl ⟨rfl,HW.out⟩
    ·rw[if_pos (by rfl)]
     refine q0e 43 (.tmp 5) rfl ⟨w2.heap.size,0,none⟩ U rfl (HL3.out _ ((zB _ _).drew)) ?_
     refine hK _ _ ?_
     clear hK K
     simp only[Act.put]
     refine wpAny_ready (rs:=[0]) (by kernel_rfl) (by simp) ?_
     refine AllReady.cons rfl (fun K hK=>?_) AllReady.nil
     rw[if_pos (by rfl)]
     go_simp
     refine(HAL.out _).mono ?_
     rintro e w4 ⟨rfl,b4⟩
     have B4:Below W3.heap.size W3 w4:=((zB _ _).drew).trans b4
     go_simp
     refine hK _ _ ?_
     clear hK K b4
     refine wpAny_ready (rs:=[2]) (by kernel_rfl) (by simp) ?_
     refine AllReady.cons rfl (fun K hK=>?_) AllReady.nil
     rw[if_pos (by rfl)]
     go_simp
     refine(HWO.out _).mono ?_
     rintro e w5 ⟨rfl,b5⟩
     obtain⟨W,S1,LV,BW⟩:=FIN.out w5 (B4.trans (b5.mono B4.size))
     have HW:=zb BW
     go_simp
     refine hK _ _ ?_
     clear hK K b5 BW B4
     refine wpAny_ready (rs:=[3]) (by kernel_rfl) (by simp) ?_
     refine AllReady.cons rfl (fun K hK=>?_) AllReady.nil
     rw[if_pos (by rfl)]
     refine qe 43 (.tmp 4) (.tmp 22) rfl ⟨W0.heap.size,0,none⟩ T rfl rfl W S1 ?_
     refine hK _ _ ?_
     clear hK K
     refine wpAny_done (by kernel_rfl) ?_ _
     simp only[Act.put]
     go_wp2_with fail
     exact zP (v:=T) (zl rfl _ _ _ _ rfl LV) rfl ⟨rfl,HW.out⟩
  ·have hg:(fun x y=>q0S nd A x y j)=(fun _ _=>true):=by funext x y;unfold q0S;rw[if_neg hk,if_neg hk2]
   rw[hg]
   have HAL:=zb q3g
   generalize zm (fun _ _=>true)=r at *
   obtain⟨T,hT⟩:∃T,T=zr r:=⟨_,rfl⟩
   rw[←hT]
   rw[←hT]at HAL
   have HTT:=zb hT
   have k1:¬nd.kind=14:=fun h=>hk (.inl h)
   have k2:¬nd.kind=16:=fun h=>hk (.inr h)
   have k3:¬nd.kind=15:=fun h=>hk2 (.inl h)
   have k4:¬nd.kind=17:=fun h=>hk2 (.inr h)
   have e1:(nd.kind==14)=false:=by simpa using k1
   have e2:(nd.kind==16)=false:=by simpa using k2
   have e3:(nd.kind==15)=false:=by simpa using k3
   have e4:(nd.kind==17)=false:=by simpa using k4
   generalize hkk:nd.kind=kk at *
   have HKQ:=zb hkk
   clear hT hg hk hk2 hkk
   go_enter Tryz.func168,Tryz.ntmps168
   go_wp2_with (first|(refine qF rfl 168 (.tmp 0) rfl V _ rfl HV.out ?_;intro W0 g0 b0 z0;have c23:=q0I g0 23;simp only[List.getElem?_cons_zero,List.getElem?_cons_succ]at c23;have hl0:w.heap.size<W0.heap.size:=(by omega);have B1:=b0.alloc b0.size (.cells zCs 43);have G1:=zN W0 (.cells zCs 43);have HB1:=zb B1;have HG1:=zb G1;have HZ0:=zb z0;have HG0:=zb g0;clear B1 G1 g0 z0))
   refine(HC.out _ ((HA.out.below b0).below (by exact(zB _ _).alloc (zL _) _))).mono ?_
   rintro e w2 ⟨rfl,b2⟩
   obtain⟨W3,S3,g3,b3,z3⟩:=q0w w2 (zm (A j))
   have b23:Below (W0.alloc (.cells zCs 43)).heap.size (W0.alloc (.cells zCs 43)) W3:=b2.trans (b3.mono b2.size)
   have L3:=fun(W:World) (h:Below W3.heap.size W3 W)=>qg ((h.block w2.heap.size (by omega)).trans g3)
   rw[←HU.out]at S3 L3
   have G03:W3.heap[w.heap.size]?=_:=(b23.block w.heap.size (by simp;omega)).trans ((zO _ _ hl0).trans HG0.out)
   have c0:=q0I G03 0
   simp only[List.getElem?_cons_zero,HKQ.out]at c0
   have hl3:w.heap.size<W3.heap.size:=by have:=b23.size;simp at this;omega
   have HL3:=zb L3
   have HB23:=zb b23
   clear b2 c23 b0 b3 b23 g3 z3 G03 L3
   go_wp2_with (refine ze rfl 43 (.tmp 5) (.tmp 9) rfl ⟨w2.heap.size,0,none⟩ U rfl rfl W3 S3 ?_)
   refine(HAL.out _).mono ?_
   rintro e w5 ⟨rfl,b5⟩
   obtain⟨W,S1,LV,BW⟩:=q1L HG1.out (by omega) HB1.out (HB23.out.trans (b5.mono HB23.out.size)) r
   rw[←HTT.out]at S1 LV
   have HW:=zb BW
   clear b5 BW c0
   go_wp2_with (refine ze rfl 43 (.tmp 4) (.tmp 23) rfl ⟨W0.heap.size,0,none⟩ T rfl rfl W S1 ?_)
   exact zP (v:=T) (zl rfl _ _ _ _ rfl LV) rfl ⟨rfl,HW.out⟩
end Go.Proofs.YtiamjjonoeaggabGreatDoor
