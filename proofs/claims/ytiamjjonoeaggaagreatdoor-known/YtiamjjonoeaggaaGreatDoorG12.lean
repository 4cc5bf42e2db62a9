import Derived.Test.YtiamjjonoeaggaaGreatDoorGA
import Derived.Test.YtiamjjonoeaggaaGreatDoorGB
import Derived.Test.YtiamjjonoeaggaaGreatDoorG10
import Derived.Test.YtiamjjonoeaggaaGreatDoorG11
set_option maxRecDepth 100000
set_option maxHeartbeats 16000000
namespace Go.Proofs.YtiamjjonoeaggaaGreatDoor
open Go.RowKit
def qH (l:List Hp):List Value:=l.flatMap q5z
theorem q7L (l:List Hp)(h:Hp):qH (l++[h])=qH l++q5z h:=by simp[qH]
theorem q8Q {w w':World}{bl:List Nat}{base:Nat}{e:TypeId}{size:Nat}{v:Value}{n:Nat}{xs:List Value}(h:w.ownsRow base e size v n xs)(ho:OnlyB bl w w')(hb:∀k∈bl,k<base):w'.ownsRow base e size v n xs:=by
 refine⟨h.1,?_⟩
 rcases h.2 with h'|⟨g,cap,cur,h1,h2,h3,h4⟩
 ·exact .inl h'
 ·have hl:g<w.heap.size:=by
   rcases Nat.lt_or_ge g w.heap.size with q|q
   ·exact q
   ·rw[Array.getElem?_eq_none q]at h3;simp at h3
  exact .inr ⟨g,cap,cur,h1,h2,by rw[ho.block g hl (fun hm=>by have:=hb g hm;omega)];exact h3,h4⟩
theorem q1i {w:World}{base:Nat}{e:TypeId}{size:Nat}{v:Value}{n:Nat}{xs:List Value}(h:w.ownsRow base e size v n xs):∃ao cap,v=.slice ao n cap:=by
 rcases h.2 with⟨rfl,rfl⟩|⟨g,cap,cur,rfl,_⟩
 ·exact⟨none,0,rfl⟩
 ·exact⟨_,cap,rfl⟩
theorem j0Y:(Tryz.prog.info? 130).map (fun i=>(i.zero,i.size,i.bytes))=some (some (.agg z11),11,32):=by kernel_rfl
abbrev q0i:Array Value:=#[.int .u16 0,.slice none 0 0]
def RdRel (s:By)(w:World)(R:Sum Nat (List Hp))(g:Nat)(vh:Value)(wr:World):Prop:=
 ∃(i f:Nat) (acc:List Hp),i≤s.length∧s.length-i≤f∧f≤g∧acc.length≤i∧wr.ownsRow (w.heap.size+2) 130 11 vh acc.length (qH acc)∧q2g s f i acc=R∧Rdr wr (w.heap.size+1) s i∧wr.heap[w.heap.size]?=some (.cells q0i 92 (0,0))∧Below w.heap.size w wr∧w.heap.size+2≤wr.heap.size
theorem q8H (s:By)(hs:s.length≤80)(n:Nat)(l:List Hp)(hR:q3D s=.inr (n,l))(w:World) :
  Calls Tryz.prog 38 #[bs s] w fun e w'=>∃hv,e=.returned (.tuple #[.agg #[.int .u16 n,hv],.int .i64 0,.bool true])∧w'.ownsRow (w.heap.size+2) 130 11 hv l.length (qH l)∧Below w.heap.size w w':=by
 unfold q3D at hR
 by_cases h1:cI s 0=64
 ·rw[if_pos h1]at hR
  have hl0:=q2I (s:=s) (i:=0) (by omega)
  have hin:=q9N s 5 0 1 (by omega) (by omega)
  by_cases h2:(stF s 5 0 1).1=true∧1<(stF s 5 0 1).2.2
  ·rw[if_pos h2]at hR
   have hR2:q2g s s.length (stF s 5 0 1).2.2 []=.inr l∧(stF s 5 0 1).2.1=n:=by
    cases hh:q2g s s.length (stF s 5 0 1).2.2 []with
    |inl p=>rw[hh]at hR;simp at hR
    |inr l'=>rw[hh]at hR;simp at hR;exact⟨by rw[hR.2],hR.1⟩
   have HT:=zb (fun br W (h:Rdr W br s 0)=>q1V s hs br 0 (by omega) 64 h1 W h)
   have HS:=zb (fun br W (h:Rdr W br s 1)=>q9x s hs br 1 (by omega) W h (stF s 5 0 1) rfl)
   have HR2:=zb hR2
   have hv6:=hin.2.2.2
   generalize stF s 5 0 1=q at *
   obtain⟨q1,q2,q3⟩:=q
   simp only[]at h2 hin
   obtain⟨h2a,h2b⟩:=h2
   subst h2a
   have HQ:=zb h2b
   have hi3:q3≤s.length:=hin.2.1
   clear hR hR2 h1 hin h2b
   obtain⟨i0,hi0,hz0,hz1,hz2⟩:=info_parts j0Y
   go_enter Tryz.func38,Tryz.ntmps38
   go_wp2_with fail
   have R0:Rdr ((w.alloc (.cells q0i 92)).alloc (.cells #[bs s,.int .i64 0] 122)) (w.heap.size+1) s 0:=by
    have hg:=zN (w.alloc (.cells q0i 92)) (.cells #[bs s,.int .i64 0] 122)
    have hg':((w.alloc (.cells q0i 92)).alloc (.cells #[bs s,.int .i64 0] 122)).heap[w.heap.size+1]?=some (.cells #[bs s,.int .i64 0] 122 (0,0)):=by simpa using hg
    exact⟨by rw[zC _ _ 0 _ _ _ hg'];rfl,by rw[zC _ _ 1 _ _ _ hg'];rfl,fun o=>zF _ _ o _ _ hg',by simp⟩
   have Z0:((w.alloc (.cells q0i 92)).alloc (.cells #[bs s,.int .i64 0] 122)).heap[w.heap.size]?=some (.cells q0i 92 (0,0)):=by rw[zO _ _ (by simp)];exact zN _ _
   have B0:Below w.heap.size w ((w.alloc (.cells q0i 92)).alloc (.cells #[bs s,.int .i64 0] 122)):=((zB _ _).alloc (zL _) _).alloc (by simp) _
   have s0:((w.alloc (.cells q0i 92)).alloc (.cells #[bs s,.int .i64 0] 122)).heap.size=w.heap.size+2:=by simp
   generalize (w.alloc (.cells q0i 92)).alloc (.cells #[bs s,.int .i64 0] 122)=W0 at *
   refine(HT.out _ _ R0).mono ?_
   rintro e w1 ⟨rfl,r1,o1⟩
   have HR1:=zb r1
   have HO1:=zb o1
   have HB0:=zb B0
   have HZ0:=zb Z0
   clear r1 o1 R0 HT B0 Z0
   go_wp2_with fail
   refine(HS.out _ _ HR1.out).mono ?_
   rintro e w2 ⟨⟨v,rfl,hv⟩,r2,o2⟩
   have ev:=hv (by trivial)
   subst ev
   have HR2':=zb r2
   have O2:=HO1.out.trans o2
   have Z2:w2.heap[w.heap.size]?=some (.cells q0i 92 (0,0)):=(O2.block w.heap.size (by omega) (by simp)).trans HZ0.out
   have B2:Below w.heap.size w w2:=HB0.out.trans (O2.below (by omega) (by simp))
   have hs2:w.heap.size+2≤w2.heap.size:=by have:=O2.size;omega
   have HB2:=zb B2
   have HZ2:=zb Z2
   rw[show(true&&decide (1<q3))=true by simpa using HQ.out]
   clear r2 o2 O2 Z2 B2 HR1 HO1 HS HB0 HZ0 hv s0 W0
   go_wp2_with fail
   go_loopg [8] s.length (fun g vh wr=>RdRel s w (.inr l) g vh wr)
   case atStart=>exact⟨q3,s.length,[],hi3,by omega,zL _,by simp,zW _ _ _ _,HR2.out.1,HR2'.out,HZ2.out,HB2.out,hs2⟩
   case round =>
    obtain⟨i,f,acc,hi,hf,hfg,hac,hown,hst,hrd,hz,hb,hsz⟩:=hrel
    have HO:=zb hown
    have HST:=zb hst
    have HRD:=zb hrd
    have HZ:=zb hz
    have HB:=zb hb
    have HF:=zb hf
    have HFG:=zb hfg
    have c1:=hrd.at'
    have hlr:=hrd.lt
    clear hown hst hrd hz hb hf hfg
    by_cases hil:i<s.length
    ·obtain⟨f',hf'⟩:∃f',f=f'+1:=⟨f-1,by have:=HF.out;omega⟩
     have hst:=HST.out
     rw[hf',q2g,if_pos hil]at hst
     have hok:(q2H s i).1=true:=by
      cases hq:(q2H s i).1 with
      |true=>rfl
      |false=>rw[if_neg (by rw[hq];decide)]at hst;simp at hst
     rw[if_pos hok]at hst
     have hin:=j0s s i hi
     have HH:=zb (q7S s hs (w.heap.size+1) i hi wr HRD.out (q2H s i) rfl)
     generalize q2H s i=q at *
     obtain⟨p1,p2,hp⟩:=q
     simp only[]at hok hin hst
     subst hok
     have HST':=zb hst
     have hp2:p2≤s.length:=hin.2.1
     have hp3:i<p2:=hin.2.2 rfl
     have HFF:=zb hf'
     clear hst hin HST hf'
     go_wp2_with fail
     refine(HH.out).mono ?_
     rintro e w3 ⟨rfl,r3,o3⟩
     have hown3:=q8Q HO.out o3 (by simp)
     have z3:=(o3.block w.heap.size (by omega) (by simp)).trans HZ.out
     have b3:Below w.heap.size w w3:=HB.out.trans (o3.below (by omega) (by simp))
     obtain⟨W4,S4,g4,b4,z4⟩:=qI (P:=Tryz.prog) 130 w3 z11 #[.int .u8 (zn hp.nm 0),.int .u8 (zn hp.nm 1),.int .u8 (zn hp.nm 2),.int .u8 (zn hp.nm 3),.int .u8 (zn hp.nm 4),.int .u8 (zn hp.nm 5),.int .u8 (zn hp.nm 6),.int .u8 (zn hp.nm 7),.int .i64 (hp.ds.getD 0 0:Nat),.int .i64 (hp.ds.getD 1 0:Nat),.int .i64 hp.ds.length] (by kernel_rfl) rfl (by simp[Value.oneCell'])
     have L4:=(HapAt.of_row (cs:=q5z hp) rfl g4).load
     have HO4:=zb (zo hown3 b4)
     have HZ4:=zb ((b4.block w.heap.size (by have:=o3.size;omega)).trans z3)
     have HR4:=zb (r3.only (OnlyB.of_below (bl:=[]) b4) (by simp))
     have HB4:=zb (b3.trans (b4.mono b3.size))
     have hs4:w.heap.size+2≤W4.heap.size:=by have:=o3.size;omega
     have hl4:w3.heap.size<W4.heap.size:=by omega
     obtain⟨V,hV⟩:∃V,V=q4A hp:=⟨_,rfl⟩
     have S4':(Instr.storeAt 130 (.pointer (some ⟨w3.heap.size,0,none⟩)) V).run Tryz.prog (w3.alloc (.cells z11 130))=.ok () W4:=by rw[hV];exact S4
     rw[←hV]
     clear r3 o3 hown3 z3 b3 g4 b4 z4 S4 hV HH HO HZ HRD HB
     go_wp2_with (first|(refine ze rfl 130 (.tmp 9) (.tmp 34) rfl ⟨w3.heap.size,0,none⟩ V rfl rfl W4 S4' ?_)|(refine zj rfl 130 (.tmp 9) rfl ⟨w3.heap.size,0,none⟩ (q4A hp) rfl L4 ?_)|(at_builtin;refine q3a rfl (.tmp 41) (.tmp 43) 90 130 rfl Tryz.underlying90 hi0 hz0 hz1 hz2 rfl (by decide) W4 (w.heap.size+2) _ _ _ (q5z hp) W4 rfl HO4.out (by simp[Act.eval]) rfl (by simp[Value.oneCell']) (by omega) (by decide) (zB _ _) hs4 ?_;intro v' w' hown' hbel' hne))
     have hg1:0<gk:=by have:=HFG.out;have:=HFF.out;omega
     go_roundg (gk-1)
     case measure=>omega
     case rel =>
      refine⟨p2,f',acc++[hp],hp2,by have:=HF.out;have:=HFF.out;omega,by have:=HFG.out;have:=HFF.out;omega,by simp;omega,by rw[q7L];simpa using hown',HST'.out,?_,(hbel'.block w.heap.size (by omega)).trans HZ4.out,HB4.out.trans (hbel'.mono (by omega)),by have:=hbel'.size;omega⟩
      have hq:=hbel'.block (w.heap.size+1) (by omega)
      exact⟨by rw[zK (w:=W4) hq];exact HR4.out.text,by rw[zK (w:=W4) hq];exact HR4.out.at',fun o=>by rw[World.frozen?_of_block (w:=W4) hq];exact HR4.out.free o,zT HR4.out.lt hbel'.size⟩
    ·have hst:=HST.out
     have hfin:q2g s f i acc=.inr acc:=by
      cases f with
      |zero=>rfl
      |succ f=>rw[q2g,if_neg hil]
     rw[hfin]at hst
     simp at hst
     subst hst
     have hown:=HO.out
     obtain⟨va,vc,rfl⟩:=q1i hown
     have z0:=zC _ _ 0 _ _ _ HZ.out
     have z1:=zC _ _ 1 _ _ _ HZ.out
     have y0:=fun j=>zF _ _ j _ _ HZ.out
     simp only[gz]at z0 z1
     have hlz:w.heap.size<wr.heap.size:=by omega
     have HOW:=zb hown
     have HN:=zb HR2.out.2
     clear hown hfin HO HST HR2 HRD
     go_wp2_with fail
     have hown2:=ownsRow_setCell_below (a:=⟨w.heap.size,1,none⟩) (ownsRow_setCell_below (a:=⟨w.heap.size,0,none⟩) HOW.out (by simp) (.int .u16 q2)) (by simp) (.slice va acc.length vc)
     exact zP (v:=.tuple #[.agg #[.int .u16 q2,.slice va acc.length vc],.int .i64 0,.bool true]) (by simp[results,Tryz.results38,go_sem,z0,z1]) rfl ⟨.slice va acc.length vc,by rw[←HN.out],hown2,(HB.out.setCell (zL _) _).setCell (zL _) _⟩
  ·rw[if_neg h2]at hR;simp at hR
 ·rw[if_neg h1]at hR;simp at hR
abbrev PPt:=LPt × Value
abbrev ptCs (p:PPt):List Value:=[.int .u16 p.1.stamp,p.2,.int .i64 p.1.time]
def q2r (l:List PPt):List Value:=l.flatMap ptCs
theorem q6P (l:List PPt):∀(i:Nat) (h:i<l.length) (j:Nat),j<3→(q2r l)[i*3+j]?=(ptCs l[i])[j]?:=by
 induction l with
 |nil=>intro i h;simp at h
 |cons n r ih =>
  intro i h j hj
  have e:q2r (n::r)=ptCs n++q2r r:=rfl
  have e2:(ptCs n).length=3:=rfl
  rw[e]
  cases i with
  |zero=>rw[List.getElem?_append_left (by omega)];simp
  |succ i =>
   have hi:i<r.length:=by simpa using h
   rw[List.getElem?_append_right (by omega),e2,show(i+1)*3+j-3=i*3+j by omega,ih i hi j hj]
   rfl
structure LogAt (w:World)(b o:Nat)(ao:OA)(cap:Nat)(PL:List PPt):Prop where
 cell:w.cell? ⟨b,o,none⟩=some (.slice ao PL.length cap)
 lt:b<w.heap.size
 row:w.ownsRow 0 137 3 (.slice ao PL.length cap) PL.length (q2r PL)
 small:PL.length≤40
 times:∀(i:Nat) (hi:i<PL.length),(PL[i]).1.time≤32768*i∧(PL[i]).1.stamp≤65535
theorem LogAt.below {w w':World}{b o:Nat}{ao:OA}{cap:Nat}{PL:List PPt}(h:LogAt w b o ao cap PL)(hb:Below w.heap.size w w'):LogAt w' b o ao cap PL:=
 ⟨by rw[zK (w:=w) (hb.block b h.lt)];exact h.cell,zT h.lt hb.size,zo h.row hb,h.small,h.times⟩
theorem LogAt.bnd {w:World}{b o:Nat}{ao:OA}{cap:Nat}{PL:List PPt}(h:LogAt w b o ao cap PL){i:Nat}(hi:i<PL.length):(PL[i]).1.time≤2000000∧(PL[i]).1.stamp≤65535:=by
 have h1:=h.times i hi
 have h2:=h.small
 exact⟨by omega,h1.2⟩
theorem LogAt.at' {w:World}{b o:Nat}{ao:OA}{cap:Nat}{PL:List PPt}(h:LogAt w b o ao cap PL){i:Nat}(hi:i<PL.length) :
  ∃g,ao=some ⟨g,0,none⟩∧g<w.heap.size∧PL.length≤cap∧cap≤maxLen∧w.cell? ⟨g,i*3,none⟩=some (.int .u16 (PL[i]).1.stamp)∧w.cell? ⟨g,i*3+1,none⟩=some (PL[i]).2∧w.cell? ⟨g,i*3+2,none⟩=some (.int .i64 (PL[i]).1.time):=by
 have hr:=h.row
 obtain⟨g,cap',e⟩:=zJ hr (by omega)
 injection e with e1 e2 e3
 subst e1 e3
 have hlt:=(hr.lt g rfl).2
 refine⟨g,rfl,hlt,?_⟩
 have hc:PL.length≤cap∧cap≤maxLen:=by
  rcases hr.2 with⟨h',_⟩|⟨g',cap',cur,h',_,_,p1,p2,_⟩
  ·simp at h'
  ·simp only[Value.slice.injEq,Option.some.injEq,Addr.mk.injEq,and_true,true_and]at h'
   obtain⟨rfl,rfl⟩:=h'
   exact⟨p1,p2⟩
 have hl:(q2r PL).length=PL.length*3:=hr.1
 refine⟨hc.1,hc.2,?_,?_,?_⟩
 ·have:=hr.cellAt (i*3) (by omega)
  rw[this,show i*3=i*3+0 from rfl,q6P PL i hi 0 (by omega)]
  rfl
 ·have:=hr.cellAt (i*3+1) (by omega)
  rw[this,q6P PL i hi 1 (by omega)]
  rfl
 ·have:=hr.cellAt (i*3+2) (by omega)
  rw[this,q6P PL i hi 2 (by omega)]
  rfl
def hasB (n:Nat)(i:Int):Bool:=decide (0≤i)&&decide (i<n)
theorem q7s (b o:Nat)(ao:OA)(cap:Nat)(PL:List PPt)(i:Int)(w:World)(h:LogAt w b o ao cap PL) :
  Calls Tryz.prog 82 #[.pointer (some ⟨b,o,none⟩),.int .i64 i] w fun e w'=>e=.returned (.bool (hasB PL.length i))∧Below w.heap.size w w':=by
 have c0:=h.cell
 have hlt:=h.lt
 have hsm:=h.small
 clear h
 generalize PL.length=n at *
 unfold hasB
 go_enter Tryz.func82,Tryz.ntmps82
 go_wp2_with fail
 ·go_ret
  exact⟨q0r (by have h0:0≤i:=(by omega);simp[h0]),zB _ _⟩
 ·go_ret
  exact⟨q0r (by have h0:¬0≤i:=(by omega);simp[h0]),zB _ _⟩
theorem q7r (b o:Nat)(ao:OA)(cap:Nat)(PL:List PPt)(w:World)(h:LogAt w b o ao cap PL) :
  Calls Tryz.prog 42 #[.pointer (some ⟨b,o,none⟩)] w fun e w'=>e=.returned (.int .i64 PL.length)∧w'=w:=by
 have c0:=h.cell
 have hlt:=h.lt
 clear h
 generalize PL.length=n at *
 go_enter Tryz.func42,Tryz.ntmps42
 go_wp2_with fail
 go_ret
 exact⟨rfl,rfl⟩
theorem q8x {n:Nat}{i:Nat}(h:i<n):hasB n (i:Int)=true:=by unfold hasB;simp[h]
theorem j7Z {n:Nat}{i:Int}(h:i<0∨(n:Int)≤i):hasB n i=false:=by
 unfold hasB
 rcases h with h|h
 ·rw[decide_eq_false (by omega),Bool.false_and]
 ·rw[decide_eq_false (show ¬i<(n:Int)by omega),Bool.and_false]
abbrev zA (PL:List PPt):List LPt:=PL.map Prod.fst
theorem j4a {PL:List PPt}{i:Nat}(h:i<PL.length):tmL (zA PL) i=(PL[i]).1.time:=by
 unfold tmL
 rw[List.getElem?_map,zG h]
 rfl
theorem q6Q (b o:Nat)(ao:OA)(cap:Nat)(PL:List PPt)(i j:Nat)(hi:i<PL.length)(hj:j<PL.length)(w:World)(h:LogAt w b o ao cap PL) :
  Calls Tryz.prog 57 #[.pointer (some ⟨b,o,none⟩),.int .i64 i,.int .i64 j] w fun e w'=>e=.returned (.int .i64 (q0C (zA PL) i j))∧Below w.heap.size w w':=by
 have HI:=zb (fun W (h:LogAt W b o ao cap PL)=>q7s b o ao cap PL i W h)
 have HJ:=zb (fun W (h:LogAt W b o ao cap PL)=>q7s b o ao cap PL j W h)
 rw[q8x hi]at HI
 rw[q8x hj]at HJ
 have H:=zb h
 have hsm:=h.small
 have ti:=h.bnd hi
 have tj:=h.bnd hj
 have HD:Hid ((q0C (zA PL) i j:Int)=if (PL[j]).1.time<(PL[i]).1.time then -(((PL[j]).1.time:Int)-(PL[i]).1.time)else((PL[j]).1.time:Int)-(PL[i]).1.time):=zb (by
  unfold q0C
  rw[j4a hi,j4a hj]
  split<;>omega)
 generalize q0C (zA PL) i j=d at *
 clear h
 go_enter Tryz.func57,Tryz.ntmps57
 go_wp2_with fail
 refine(HI.out _ H.out).mono ?_
 rintro e w1 ⟨rfl,b1⟩
 have HB1:=zb b1
 have H1:=zb (H.out.below b1)
 clear b1
 go_wp2_with fail
 refine(HJ.out _ H1.out).mono ?_
 rintro e w2 ⟨rfl,b2⟩
 have HB2:Hid (Below w.heap.size w w2):=zb (HB1.out.trans (b2.mono HB1.out.size))
 have h2:=H1.out.below b2
 have c0:=h2.cell
 have hlt:=h2.lt
 obtain⟨g,rfl,hg,k1,k2,_,_,ci⟩:=h2.at' hi
 obtain⟨g',eg,_,_,_,_,_,cj⟩:=h2.at' hj
 injection eg with eg
 injection eg with eg
 subst eg
 unfold maxLen at k2
 generalize (PL[i]).1.time=x at *
 generalize (PL[j]).1.time=y at *
 obtain⟨tx,_⟩:=ti
 obtain⟨ty,_⟩:=tj
 clear b2 h2 H1 HB1 H HI HJ
 by_cases hxy:y<x
 ·have hd:=HD.out
  rw[if_pos hxy]at hd
  have HD2:=zb hd
  clear HD hd
  go_wp2_with fail
  go_region
  go_wp2_with fail
  go_ret
  exact⟨q1m (by rw[HD2.out]),HB2.out.drew⟩
 ·have hd:=HD.out
  rw[if_neg hxy]at hd
  have HD2:=zb hd
  clear HD hd
  go_wp2_with fail
  go_region
  go_wp2_with fail
  go_ret
  exact⟨q1m (by rw[HD2.out]),HB2.out.drew⟩
theorem q8R (b o:Nat)(ao:OA)(cap:Nat)(PL:List PPt)(i:Nat)(j:Int)(hi:i<PL.length)(hj:j<0∨(PL.length:Int)≤j)(w:World)(h:LogAt w b o ao cap PL) :
  Calls Tryz.prog 57 #[.pointer (some ⟨b,o,none⟩),.int .i64 i,.int .i64 j] w fun e w'=>e=.returned (.int .i64 0)∧Below w.heap.size w w':=by
 have HI:=zb (fun W (h:LogAt W b o ao cap PL)=>q7s b o ao cap PL i W h)
 have HJ:=zb (fun W (h:LogAt W b o ao cap PL)=>q7s b o ao cap PL j W h)
 rw[q8x hi]at HI
 rw[j7Z hj]at HJ
 have H:=zb h
 clear h
 go_enter Tryz.func57,Tryz.ntmps57
 go_wp2_with fail
 refine(HI.out _ H.out).mono ?_
 rintro e w1 ⟨rfl,b1⟩
 have HB1:=zb b1
 have H1:=zb (H.out.below b1)
 clear b1
 go_wp2_with fail
 refine(HJ.out _ H1.out).mono ?_
 rintro e w2 ⟨rfl,b2⟩
 have HB2:Hid (Below w.heap.size w w2):=zb (HB1.out.trans (b2.mono HB1.out.size))
 clear b2
 go_wp2_with fail
 go_ret
 exact⟨rfl,HB2.out⟩
theorem j1s (b o:Nat)(ao:OA)(cap:Nat)(PL:List PPt)(j:Int)(hn:PL.length=0)(w:World)(h:LogAt w b o ao cap PL) :
  Calls Tryz.prog 57 #[.pointer (some ⟨b,o,none⟩),.int .i64 0,.int .i64 j] w fun e w'=>e=.returned (.int .i64 0)∧Below w.heap.size w w':=by
 have HI:=zb (fun W (h:LogAt W b o ao cap PL)=>q7s b o ao cap PL 0 W h)
 rw[j7Z (by omega)]at HI
 have H:=zb h
 clear h hn
 go_enter Tryz.func57,Tryz.ntmps57
 go_wp2_with fail
 refine(HI.out _ H.out).mono ?_
 rintro e w1 ⟨rfl,b1⟩
 go_wp2_with fail
 go_ret
 exact⟨rfl,b1⟩
theorem pts_At (b o:Nat)(ao:OA)(cap:Nat)(PL:List PPt)(i:Nat)(hi:i<PL.length)(w:World)(h:LogAt w b o ao cap PL)(ha:∀p∈PL,∃va vn vc,p.2=.slice va vn vc) :
  Calls Tryz.prog 60 #[.pointer (some ⟨b,o,none⟩),.int .i64 i] w fun e w'=>e=.returned (.agg #[.int .u16 (PL[i]).1.stamp,(PL[i]).2])∧Below w.heap.size w w':=by
 have HI:=zb (fun W (h:LogAt W b o ao cap PL)=>q7s b o ao cap PL i W h)
 rw[q8x hi]at HI
 obtain⟨va,vn,vc,ev⟩:=ha _ (List.getElem_mem hi)
 obtain⟨st,hst⟩:∃st,st=(PL[i]).1.stamp:=⟨_,rfl⟩
 rw[ev,←hst]
 have EV:=zb ev
 have EST:=zb hst
 clear ev hst
 have hsm:=h.small
 have B0:Below w.heap.size w (w.alloc (.cells q0i 92)):=(zB _ _).alloc (zL _) _
 have H:=zb (h.below B0)
 have HB0:=zb B0
 clear h B0
 go_enter Tryz.func60,Tryz.ntmps60
 go_wp2_with fail
 have HZ0:=zb (zN w (.cells q0i 92))
 have s0:(w.alloc (.cells q0i 92)).heap.size=w.heap.size+1:=by simp
 generalize w.alloc (.cells q0i 92)=W0 at *
 refine(HI.out _ H.out).mono ?_
 rintro e w1 ⟨rfl,b1⟩
 have h1:=H.out.below b1
 have c0:=h1.cell
 have hlt:=h1.lt
 obtain⟨g,rfl,hg,k1,k2,cs,ch,_⟩:=h1.at' hi
 unfold maxLen at k2
 rw[EV.out]at ch
 rw[←EST.out]at cs
 have Z2:=(b1.block w.heap.size (by omega)).trans HZ0.out
 have z0:=zC _ _ 0 _ _ _ Z2
 have z1:=zC _ _ 1 _ _ _ Z2
 have y0:=fun j=>zF _ _ j _ _ Z2
 simp only[gz]at z0 z1
 have hlz:w.heap.size<w1.heap.size:=by have:=b1.size;omega
 have HB1:Hid (Below w.heap.size w w1):=zb (HB0.out.trans (b1.mono (by omega)))
 clear b1 h1 H HI HB0 HZ0 Z2 EV EST s0
 go_wp2_with fail
 exact zP (v:=.agg #[.int .u16 st,.slice va vn vc]) (by simp[results,Tryz.results60,go_sem,z0,z1]) rfl ⟨rfl,(HB1.out.setCell (zL _) _).setCell (zL _) _⟩
def toR (L:List LPt)(st:Nat):Nat:=match L[L.length-1]? with
 |some p=>(st+65536-p.stamp) % 65536
 |none=>0
theorem j1t (b o:Nat)(ao:OA)(cap:Nat)(PL:List PPt)(st:Nat)(hst:st≤65535)(w:World)(h:LogAt w b o ao cap PL) :
  Calls Tryz.prog 56 #[.pointer (some ⟨b,o,none⟩),.int .u16 st] w fun e w'=>e=.returned (.int .i64 (toR (zA PL) st))∧Below w.heap.size w w':=by
 have c0:=h.cell
 have hlt:=h.lt
 have hsm:=h.small
 by_cases hn:PL.length=0
 ·have e:toR (zA PL) st=0:=by
   have:PL=[]:=List.eq_nil_of_length_eq_zero hn
   rw[this];rfl
  rw[e]
  rw[hn]at c0
  clear h e hn hsm
  go_enter Tryz.func56,Tryz.ntmps56
  go_wp2_with fail
  go_ret
  exact⟨rfl,zB _ _⟩
 ·have hi:PL.length-1<PL.length:=by omega
  have e:toR (zA PL) st=(st+65536-(PL[PL.length-1]).1.stamp) % 65536:=by
   unfold toR
   simp only[zA,List.length_map,List.getElem?_map,zG hi,Option.map_some]
  have hs2:=(h.bnd hi).2
  obtain⟨g,rfl,hg,k1,k2,cs,c8,c9⟩:=h.at' hi
  clear c8 c9
  have HE:Hid ((toR (zA PL) st:Int)=((st:Int)-(PL[PL.length-1]).1.stamp+65536) % 65536):=zb (by rw[e];omega)
  generalize toR (zA PL) st=d at *
  generalize (PL[PL.length-1]).1.stamp=x at *
  unfold maxLen at k2
  clear h e
  generalize PL.length=n at *
  obtain⟨m,rfl⟩:∃m,n=m+1:=⟨n-1,by omega⟩
  rw[show m+1-1=m from rfl]at cs
  clear hn hi
  go_enter Tryz.func56,Tryz.ntmps56
  go_wp2_with fail
  try go_region
  try go_wp2_with fail
  go_ret
  exact⟨q1m HE.out.symm,by first|exact zB _ _|exact(zB _ _).drew⟩
def SeRel (w:World)(n R:Nat)(S:Nat→Nat→Nat)(g:Nat)(vc:Value)(wr:World):Prop:=∃c f:Nat,c+f=n∧f≤g∧vc=.int .i64 c∧S f c=R∧Below w.heap.size w wr
theorem j5B (b o:Nat)(ao:OA)(cap:Nat)(PL:List PPt)(rc:Int)(w:World)(h:LogAt w b o ao cap PL) :
  Calls Tryz.prog 40 #[.pointer (some ⟨b,o,none⟩),.int .i64 rc] w fun e w'=>e=.returned (.int .i64 (q0u (zA PL) rc))∧Below w.heap.size w w':=by
 have H:=zb h
 have hsm:=h.small
 have c0:=h.cell
 have hlt:=h.lt
 obtain⟨R,hR⟩:∃R,R=q0u (zA PL) rc:=⟨_,rfl⟩
 rw[←hR]
 have HR:Hid (q3S (zA PL) rc PL.length 0=R):=zb (by rw[hR];unfold q0u;rw[List.length_map])
 have HS:Hid (∀f c,q3S (zA PL) rc (f+1) c=if c+1≤PL.length∧rc<(q0C (zA PL) c (PL.length-1):Int)then q3S (zA PL) rc f (c+1)else c):=zb (fun f c=>by rw[q3S,List.length_map])
 have HT:Hid (∀c,c<PL.length→∀W,LogAt W b o ao cap PL→Calls Tryz.prog 57 #[.pointer (some ⟨b,o,none⟩),.int .i64 (c:Nat),.int .i64 ((PL.length:Int)-1)] W fun e w'=>e=.returned (.int .i64 (q0C (zA PL) c (PL.length-1)))∧Below W.heap.size W w'):=zb (fun c hc W hW=>by
  have:=q6Q b o ao cap PL c (PL.length-1) hc (by omega) W hW
  rwa [show((PL.length-1:Nat):Int)=(PL.length:Int)-1 by omega]at this)
 have HZ:Hid (∀c,q3S (zA PL) rc 0 c=c):=zb (fun c=>rfl)
 clear h hR
 generalize q3S (zA PL) rc=S at *
 go_enter Tryz.func40,Tryz.ntmps40
 go_wp2_with fail
 go_loopg [6] PL.length (fun g vc wr=>SeRel w PL.length R S g vc wr)
 case atStart=>exact⟨0,PL.length,by omega,zL _,rfl,HR.out,zB _ _⟩
 case round =>
  obtain⟨c,f,hcf,hfg,rfl,hst,hb⟩:=hrel
  have HB:=zb hb
  have HF:=zb hfg
  have H1:=zb (H.out.below hb)
  clear hb hfg HR
  by_cases hc:c<PL.length
  ·have HCF:=zb hcf
   obtain⟨f',hf'⟩:∃f',f=f'+1:=⟨f-1,by omega⟩
   rw[hf',HS.out]at hst
   have HTc:=zb (HT.out c hc)
   have HFF:=zb hf'
   generalize q0C (zA PL) c (PL.length-1)=d at *
   clear hf' hcf
   by_cases hd:rc<(d:Int)
   ·rw[if_pos ⟨by omega,hd⟩]at hst
    have HST:=zb hst
    clear hst
    go_wp2_with fail
    refine(HTc.out _ H1.out).mono ?_
    rintro e w2 ⟨rfl,b2⟩
    have HB2:=zb (HB.out.trans (b2.mono HB.out.size))
    clear b2
    go_wp2_with fail
    have hg1:0<gk:=by have:=HF.out;have:=HFF.out;omega
    go_roundg (gk-1)
    case measure=>omega
    case rel=>exact⟨c+1,f',by have:=HCF.out;have:=HFF.out;omega,by have:=HF.out;have:=HFF.out;omega,by go_num,HST.out,HB2.out⟩
   ·rw[if_neg (fun h=>hd h.2)]at hst
    have HST:=zb hst
    clear hst
    go_wp2_with fail
    refine(HTc.out _ H1.out).mono ?_
    rintro e w2 ⟨rfl,b2⟩
    have HB2:=zb (HB.out.trans (b2.mono HB.out.size))
    clear b2
    go_wp2_with fail
    go_ret
    exact⟨by rw[←HST.out];rfl,HB2.out⟩
  ·have hf0:f=0:=by omega
   subst hf0
   rw[HZ.out]at hst
   have HST:=zb hst
   clear hst hcf
   go_wp2_with fail
   go_ret
   exact⟨by rw[←HST.out];rfl,HB.out⟩
theorem q4B {w:World}{b b':Nat}{e:TypeId}{size:Nat}{v:Value}{n:Nat}{xs:List Value}(hb:b≤b')(h:w.ownsRow b' e size v n xs):w.ownsRow b e size v n xs:=by
 refine⟨h.1,?_⟩
 rcases h.2 with h|⟨g,cap,cur,h1,h2,h3⟩
 ·exact .inl h
 ·exact .inr ⟨g,cap,cur,h1,zM hb h2,h3⟩
theorem build0 (w:World):(Instr.buildSlice 90 0 #[]).run Tryz.prog w=.ok (.slice (some ⟨w.heap.size,0,none⟩) 0 0) (w.alloc (.cells #[] 130)):=by kernel_rfl
theorem j3i {P:Program}{ops:Array Oper}{rest:List Oper}{o:Oper}{a:Act}{W:World}{Q:Exit→Act→World→Prop}(hgd:o.guard=none)(ty:TypeId)(ho:o.op=.buildSlice ty 0 #[])
  (v:Value)(W':World)(hr:(Instr.buildSlice ty 0 #[]).run P W=.ok v W')
  (h:wpList P ops Q rest (a.put o.dst v) W'):wpList P ops Q (o::rest) a W:=by
 refine wpList_plain hgd fun _ hK=>?_
 unfold Oper.wp execOp
 simp only[ho,hr,Sem.run_bind,Sem.run_pure,Result.andThen_ok,Array.map_empty]
 exact hK _ _ h
theorem app_nil (w:World)(g:Nat)(ty:TypeId):(Builtin.append_ #[90,90] ty #[.slice (some ⟨g,0,none⟩) 0 0,.slice none 0 0]).run Tryz.prog w=.ok (.slice (some ⟨g,0,none⟩) 0 0) w:=by kernel_rfl
theorem j7H {P:Program}{ops:Array Oper}{rest:List Oper}{o:Oper}{a:Act}{W:World}{Q:Exit→Act→World→Prop}(hgd:o.guard=none)(x y:Operand)(t:TypeId)(ho:o.op=.call {callee:=.builtin .append,args:=#[x,y],argTypes:=#[t,t]})
  (vx vy v':Value)(W':World)(hx:a.eval x=vx)(hy:a.eval y=vy)(hr:(Builtin.append_ #[t,t] o.type #[vx,vy]).run P W=.ok v' W')(h:wpList P ops Q rest (a.put o.dst v') W'):wpList P ops Q (o::rest) a W:=by
 refine wpList_plain hgd fun _ hK=>?_
 unfold Oper.wp execOp
 simp only[ho,resolve,invoke,builtin,Sem.run_bind,Sem.run_pure,Result.andThen_ok,List.map_toArray,List.map_cons,List.map_nil,hx,hy,hr]
 exact hK _ _ h
theorem j3u (l:List Hp):∀u∈qH l,u.oneCell'=true:=by
 intro u hu
 unfold qH at hu
 rw[List.mem_flatMap]at hu
 obtain⟨h,_,hu⟩:=hu
 simp[q5z]at hu
 rcases hu with rfl|rfl|rfl|rfl|rfl|rfl|rfl|rfl|rfl|rfl|rfl<;>rfl
theorem j5C (st:Nat)(hv:Value)(l:List Hp)(w:World)(h:w.ownsRow 0 130 11 hv l.length (qH l))(hl:l.length≤80) :
  Calls Tryz.prog 58 #[.agg #[.int .u16 st,hv]] w fun e w'=>∃hv',e=.returned (.agg #[.int .u16 st,hv'])∧w'.ownsRow w.heap.size 130 11 hv' l.length (qH l)∧Below w.heap.size w w':=by
 have H:=zb h
 rcases h.2 with⟨rfl,hn⟩|⟨g,cap,cur,rfl,_,hg,hc1,hc2,_⟩
 ·have hl0:l=[]:=List.eq_nil_of_length_eq_zero hn
  subst hl0
  clear h hn
  go_enter Tryz.func58,Tryz.ntmps58
  go_wp2_with (first|(refine j3i rfl 90 rfl _ _ (build0 _) ?_)|(at_builtin;refine j7H rfl (.tmp 3) (.tmp 5) 90 rfl _ _ _ _ rfl rfl (app_nil _ (w.heap.size+1+1) _) ?_))
  exact zP (v:=.agg #[.int .u16 st,.slice (some ⟨w.heap.size+1+1,0,none⟩) 0 0]) (by simp[results,Tryz.results58,go_sem]) rfl ⟨_,rfl,by have:=World.ownsRow_made (base:=w.heap.size) (e:=130) (size:=11) ((w.alloc (.cells #[.int .u16 st,.slice (some ⟨w.heap.size+1+1,0,none⟩) 0 0] 92)).alloc (.cells #[.int .u16 st,.slice (some ⟨w.heap.size+1+1,0,none⟩) 0 0] 92)) #[] 0 (by simp;omega) (by decide) rfl;rw[show((w.alloc (.cells #[.int .u16 st,.slice (some ⟨w.heap.size+1+1,0,none⟩) 0 0] 92)).alloc (.cells #[.int .u16 st,.slice (some ⟨w.heap.size+1+1,0,none⟩) 0 0] 92)).heap.size=w.heap.size+1+1 by simp]at this;exact this,(((zB _ _).alloc (zL _) _).alloc (by simp) _).alloc (by simp;omega) _⟩
 ·have hlt:g<w.heap.size:=by
   rcases Nat.lt_or_ge g w.heap.size with q|q
   ·exact q
   ·rw[Array.getElem?_eq_none q]at hg;simp at hg
  have hcl:=h.1
  have hcc:∀j u,(qH l)[j]?=some u→w.cell? ⟨g,0+j,none⟩=some u:=fun j u hj=>by
   rw[Nat.zero_add,h.cellAt j (by have:=(List.getElem?_eq_some_iff.1 hj).1;omega)]
   exact hj
  have HCL:=zb hcl
  have HCC:=zb hcc
  clear h hg hcl hcc
  obtain⟨i0,hi0,hz0,hz1,hz2⟩:=info_parts j0Y
  have HOW:=zb (World.ownsRow_made (base:=w.heap.size+2) (e:=130) (size:=11) ((w.alloc (.cells #[.int .u16 st,.slice (some ⟨g,0,none⟩) l.length cap] 92)).alloc (.cells q0i 92)) #[] 0 (by simp) (by decide) rfl)
  have BW:Below w.heap.size w (((w.alloc (.cells #[.int .u16 st,.slice (some ⟨g,0,none⟩) l.length cap] 92)).alloc (.cells q0i 92)).alloc (.cells #[] 130)):=(((zB _ _).alloc (zL _) _).alloc (by simp) _).alloc (by simp;omega) _
  have HCW:Hid (∀j u,(qH l)[j]?=some u→(((w.alloc (.cells #[.int .u16 st,.slice (some ⟨g,0,none⟩) l.length cap] 92)).alloc (.cells q0i 92)).alloc (.cells #[] 130)).cell? ⟨g,0+j,none⟩=some u):=zb (fun j u hj=>by
   rw[zK (w:=w) (BW.block g hlt)]
   exact HCC.out j u hj)
  have G0:(((w.alloc (.cells #[.int .u16 st,.slice (some ⟨g,0,none⟩) l.length cap] 92)).alloc (.cells q0i 92)).alloc (.cells #[] 130)).heap[w.heap.size]?=some (.cells #[.int .u16 st,.slice (some ⟨g,0,none⟩) l.length cap] 92 (0,0)):=by
   rw[zO _ _ (by simp;omega),zO _ _ (by simp)];exact zN _ _
  have G1:(((w.alloc (.cells #[.int .u16 st,.slice (some ⟨g,0,none⟩) l.length cap] 92)).alloc (.cells q0i 92)).alloc (.cells #[] 130)).heap[w.heap.size+1]?=some (.cells q0i 92 (0,0)):=by
   rw[zO _ _ (by simp)]
   have:=zN (w.alloc (.cells #[.int .u16 st,.slice (some ⟨g,0,none⟩) l.length cap] 92)) (.cells q0i 92)
   simpa using this
  have hsz:w.heap.size+2<(((w.alloc (.cells #[.int .u16 st,.slice (some ⟨g,0,none⟩) l.length cap] 92)).alloc (.cells q0i 92)).alloc (.cells #[] 130)).heap.size:=by simp
  have HG0:=zb G0
  have HG1:=zb G1
  have HBW:=zb BW
  have HSZ:=zb hsz
  clear G0 G1 BW hsz HCC
  have HON:=zb (j3u l)
  go_enter Tryz.func58,Tryz.ntmps58
  go_wp2_with (first|(refine j3i rfl 90 rfl _ _ (build0 _) ?_)|(at_builtin;(have hX:=HOW.out;rw[show((w.alloc (.cells #[.int .u16 st,.slice (some ⟨g,0,none⟩) l.length cap] 92)).alloc (.cells q0i 92)).heap.size=w.heap.size+1+1 by simp]at hX;refine q2F rfl (.tmp 3) (.tmp 5) 90 130 rfl Tryz.underlying90 hi0 hz0 hz1 hz2 rfl (by decide) (((w.alloc (.cells #[.int .u16 st,.slice (some ⟨g,0,none⟩) l.length cap] 92)).alloc (.cells q0i 92)).alloc (.cells #[] 130)) (w.heap.size+2) _ 0 [] (qH l) _ rfl hX g 0 l.length cap rfl HCL.out HCW.out HON.out (by omega) (by decide) (zB _ _) (Nat.le_of_lt HSZ.out) ?_);intro v' w' hown' hbel' _;obtain⟨va',vc',rfl⟩:=q1i hown';have q0:=(hbel'.block w.heap.size (by omega)).trans HG0.out;have q1:=(hbel'.block (w.heap.size+1) (by omega)).trans HG1.out;have z0:=zC _ _ 0 _ _ _ q0;have z1:=zC _ _ 1 _ _ _ q0;have y0:=zC _ _ 0 _ _ _ q1;have y1:=zC _ _ 1 _ _ _ q1;have f0:=fun j=>zF _ _ j _ _ q0;have f1:=fun j=>zF _ _ j _ _ q1;simp only[gz]at z0 z1 y0 y1;have hs':w.heap.size+1<w'.heap.size:=(by have:=hbel'.size;have:=HSZ.out;omega);have hs0:w.heap.size<w'.heap.size:=(by omega);have HOW':=zb hown';have HB':=zb (HBW.out.trans (hbel'.mono (by omega)));clear hown' hbel' q0 q1))
  have hO:w'.ownsRow (w.heap.size+2) 130 11 (.slice va' l.length vc') l.length (qH l):=by have:=HOW'.out;simpa using this
  have hO2:=ownsRow_setCell_below (a:=⟨w.heap.size+1,1,none⟩) (ownsRow_setCell_below (a:=⟨w.heap.size+1,0,none⟩) (ownsRow_setCell_below (a:=⟨w.heap.size,1,none⟩) hO (by simp) (.slice va' l.length vc')) (by simp) (.int .u16 st)) (by simp) (.slice va' l.length vc')
  exact zP (v:=.agg #[.int .u16 st,.slice va' l.length vc']) (by simp[results,Tryz.results58,go_sem,y0,y1]) rfl ⟨_,rfl,q4B (by omega) hO2,((HB'.out.setCell (zL _) _).setCell (by simp) _).setCell (by simp) _⟩
end Go.Proofs.YtiamjjonoeaggaaGreatDoor
