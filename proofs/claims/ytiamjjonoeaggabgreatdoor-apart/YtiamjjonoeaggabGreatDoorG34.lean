import Derived.Test.YtiamjjonoeaggabGreatDoorGA
import Derived.Test.YtiamjjonoeaggabGreatDoorG01
import Derived.Test.YtiamjjonoeaggabGreatDoorG02
import Derived.Test.YtiamjjonoeaggabGreatDoorG05
import Derived.Test.YtiamjjonoeaggabGreatDoorG14
import Derived.Test.YtiamjjonoeaggabGreatDoorG18
import Derived.Test.YtiamjjonoeaggabGreatDoorG29
import Derived.Test.YtiamjjonoeaggabGreatDoorG33
set_option maxRecDepth 100000
set_option maxHeartbeats 16000000
namespace Go.Proofs.YtiamjjonoeaggabGreatDoor
open Go.RowKit
theorem j5B (s:By)(hs:s.length≤80)(p:Nat)(hR:q2N s=.inl p)(w:World) :
  Calls Tryz.prog 32 #[bs s] w fun e w'=>e=.returned (.tuple #[.agg q0l,.int .i64 p,.bool false])∧Below w.heap.size w w':=by
 unfold q2N at hR
 by_cases h1:cI s 0=64
 ·rw[if_pos h1]at hR
  have hl0:=q2S (s:=s) (i:=0) (by omega)
  have hin:=j0a s 5 0 1 (by omega) (by omega)
  by_cases h2:(stF s 5 0 1).1=true∧1<(stF s 5 0 1).2.2
  ·rw[if_pos h2]at hR
   have hR2:q2n s s.length (stF s 5 0 1).2.2 []=.inl p:=by
    cases hh:q2n s s.length (stF s 5 0 1).2.2 []with
    |inl p'=>rw[hh]at hR;simp at hR;rw[hR]
    |inr l'=>rw[hh]at hR;simp at hR
   have HT:=zb (fun br W (h:Rdr W br s 0)=>q2e s hs br 0 (by omega) 64 h1 W h)
   have HS:=zb (fun br W (h:Rdr W br s 1)=>q9L s hs br 1 (by omega) W h (stF s 5 0 1) rfl)
   have HR2:=zb hR2
   generalize stF s 5 0 1=q at *
   obtain⟨q1,q2,q3⟩:=q
   simp only[]at h2 hin
   obtain⟨h2a,h2b⟩:=h2
   subst h2a
   have HQ:=zb h2b
   have hi3:q3≤s.length:=hin.2.1
   clear hR hR2 h1 hin h2b
   obtain⟨i0,hi0,hz0,hz1,hz2⟩:=info_parts j1q
   go_enter Tryz.func32,Tryz.ntmps32
   go_wp2_with fail
   have R0:Rdr ((w.alloc (.cells q0l 96)).alloc (.cells #[bs s,.int .i64 0] 121)) (w.heap.size+1) s 0:=by
    have hg:=zN (w.alloc (.cells q0l 96)) (.cells #[bs s,.int .i64 0] 121)
    have hg':((w.alloc (.cells q0l 96)).alloc (.cells #[bs s,.int .i64 0] 121)).heap[w.heap.size+1]?=some (.cells #[bs s,.int .i64 0] 121 (0,0)):=by simpa using hg
    exact⟨by rw[zC _ _ 0 _ _ _ hg'];rfl,by rw[zC _ _ 1 _ _ _ hg'];rfl,fun o=>zF _ _ o _ _ hg',by simp⟩
   have Z0:((w.alloc (.cells q0l 96)).alloc (.cells #[bs s,.int .i64 0] 121)).heap[w.heap.size]?=some (.cells q0l 96 (0,0)):=by rw[zO _ _ (by simp)];exact zN _ _
   have B0:Below w.heap.size w ((w.alloc (.cells q0l 96)).alloc (.cells #[bs s,.int .i64 0] 121)):=((zB _ _).alloc (zL _) _).alloc (by simp) _
   have s0:((w.alloc (.cells q0l 96)).alloc (.cells #[bs s,.int .i64 0] 121)).heap.size=w.heap.size+2:=by simp
   generalize (w.alloc (.cells q0l 96)).alloc (.cells #[bs s,.int .i64 0] 121)=W0 at *
   refine(HT.out _ _ R0).mono ?_
   rintro e w1 ⟨rfl,r1,o1⟩
   have HR1:=zb r1
   have HO1:=zb o1
   have HB0:=zb B0
   have HZ0:=zb Z0
   clear r1 o1 R0 HT B0 Z0
   go_wp2_with fail
   refine(HS.out _ _ HR1.out).mono ?_
   rintro e w2 ⟨⟨v,rfl,hv⟩,r2,o2⟩
   have HR2':=zb r2
   have O2:=HO1.out.trans o2
   have Z2:w2.heap[w.heap.size]?=some (.cells q0l 96 (0,0)):=(O2.block w.heap.size (by omega) (by simp)).trans HZ0.out
   have B2:Below w.heap.size w w2:=HB0.out.trans (O2.below (by omega) (by simp))
   have hs2:w.heap.size+2≤w2.heap.size:=by have:=O2.size;omega
   have HB2:=zb B2
   have HZ2:=zb Z2
   rw[show(true&&decide (1<q3))=true by simpa using HQ.out]
   clear r2 o2 O2 Z2 B2 HR1 HO1 HS HB0 HZ0 hv s0 W0
   go_wp2_with fail
   go_loopg [8] s.length (fun g vh wr=>RdRel s w (.inl p) g vh wr)
   case atStart=>exact⟨q3,s.length,[],hi3,by omega,zL _,by simp,zW _ _ _ _,HR2.out,HR2'.out,HZ2.out,HB2.out,hs2⟩
   case round =>
    obtain⟨i,f,acc,hi,hf,hfg,hac,hown,hst,hrd,hz,hb,hsz⟩:=hrel
    have HO:=zb hown
    have HST:=zb hst
    have HRD:=zb hrd
    have HZ:=zb hz
    have HB:=zb hb
    have HF:=zb hf
    have HFG:=zb hfg
    have c1:=hrd.at'
    have hlr:=hrd.lt
    clear hown hst hrd hz hb hf hfg
    by_cases hil:i<s.length
    ·obtain⟨f',hf'⟩:∃f',f=f'+1:=⟨f-1,by have:=HF.out;omega⟩
     have hst:=HST.out
     rw[hf',q2n,if_pos hil]at hst
     have hin:=j0I s i hi
     have HH:=zb (q8h s hs (w.heap.size+1) i hi wr HRD.out (q2R s i) rfl)
     by_cases hok:(q2R s i).1=true
     ·rw[if_pos hok]at hst
      generalize q2R s i=q at *
      obtain⟨p1,p2,hp⟩:=q
      simp only[]at hok hin hst
      subst hok
      have HST':=zb hst
      have hp2:p2≤s.length:=hin.2.1
      have hp3:i<p2:=hin.2.2 rfl
      have HFF:=zb hf'
      clear hst hin HST hf'
      go_wp2_with fail
      refine(HH.out).mono ?_
      rintro e w3 ⟨rfl,r3,o3⟩
      have hown3:=q9h HO.out o3 (by simp)
      have z3:=(o3.block w.heap.size (by omega) (by simp)).trans HZ.out
      have b3:Below w.heap.size w w3:=HB.out.trans (o3.below (by omega) (by simp))
      obtain⟨W4,S4,g4,b4,z4⟩:=q0m (P:=Tryz.prog) 129 w3 z11 #[.int .u8 (zn hp.nm 0),.int .u8 (zn hp.nm 1),.int .u8 (zn hp.nm 2),.int .u8 (zn hp.nm 3),.int .u8 (zn hp.nm 4),.int .u8 (zn hp.nm 5),.int .u8 (zn hp.nm 6),.int .u8 (zn hp.nm 7),.int .i64 (hp.ds.getD 0 0:Nat),.int .i64 (hp.ds.getD 1 0:Nat),.int .i64 hp.ds.length] (by kernel_rfl) rfl (by simp[Value.oneCell'])
      have L4:=(HapAt.of_row (cs:=q5N hp) rfl g4).load
      have HO4:=zb (zp hown3 b4)
      have HZ4:=zb ((b4.block w.heap.size (by have:=o3.size;omega)).trans z3)
      have HR4:=zb (r3.only (OnlyB.of_below (bl:=[]) b4) (by simp))
      have HB4:=zb (b3.trans (b4.mono b3.size))
      have hs4:w.heap.size+2≤W4.heap.size:=by have:=o3.size;omega
      have hl4:w3.heap.size<W4.heap.size:=by omega
      obtain⟨V,hV⟩:∃V,V=q4M hp:=⟨_,rfl⟩
      have S4':(Instr.storeAt 129 (.pointer (some ⟨w3.heap.size,0,none⟩)) V).run Tryz.prog (w3.alloc (.cells z11 129))=.ok () W4:=by rw[hV];exact S4
      rw[←hV]
      clear r3 o3 hown3 z3 b3 g4 b4 z4 S4 hV HH HO HZ HRD HB
      go_wp2_with (first|(refine ze rfl 129 (.tmp 9) (.tmp 34) rfl ⟨w3.heap.size,0,none⟩ V rfl rfl W4 S4' ?_)|(refine zj rfl 129 (.tmp 9) rfl ⟨w3.heap.size,0,none⟩ (q4M hp) rfl L4 ?_)|(at_builtin;refine q3k rfl (.tmp 41) (.tmp 43) 94 129 rfl Tryz.underlying94 hi0 hz0 hz1 hz2 rfl (by decide) W4 (w.heap.size+2) _ _ _ (q5N hp) W4 rfl HO4.out (by simp[Act.eval]) rfl (by simp[Value.oneCell']) (by omega) (by decide) (zB _ _) hs4 ?_;intro v' w' hown' hbel' hne))
      have hg1:0<gk:=by have:=HFG.out;have:=HFF.out;omega
      go_roundg (gk-1)
      case measure=>omega
      case rel =>
       refine⟨p2,f',acc++[hp],hp2,by have:=HF.out;have:=HFF.out;omega,by have:=HFG.out;have:=HFF.out;omega,by simp;omega,by rw[q8b];simpa using hown',HST'.out,?_,(hbel'.block w.heap.size (by omega)).trans HZ4.out,HB4.out.trans (hbel'.mono (by omega)),by have:=hbel'.size;omega⟩
       have hq:=hbel'.block (w.heap.size+1) (by omega)
       exact⟨by rw[zK (w:=W4) hq];exact HR4.out.text,by rw[zK (w:=W4) hq];exact HR4.out.at',fun o=>by rw[World.frozen?_of_block (w:=W4) hq];exact HR4.out.free o,zT HR4.out.lt hbel'.size⟩
     ·rw[if_neg hok]at hst
      generalize q2R s i=q at *
      obtain⟨p1,p2,hp⟩:=q
      simp only[]at hok hin hst
      have hok':p1=false:=by simpa using hok
      subst hok'
      simp only[Sum.inl.injEq]at hst
      subst hst
      clear hin HST hok hf'
      go_wp2_with fail
      refine(HH.out).mono ?_
      rintro e w3 ⟨rfl,r3,o3⟩
      have z3:=(o3.block w.heap.size (by omega) (by simp)).trans HZ.out
      have b3:Below w.heap.size w w3:=HB.out.trans (o3.below (by omega) (by simp))
      obtain⟨W4,S4,g4,b4,z4⟩:=q0m (P:=Tryz.prog) 129 w3 z11 #[.int .u8 (zn hp.nm 0),.int .u8 (zn hp.nm 1),.int .u8 (zn hp.nm 2),.int .u8 (zn hp.nm 3),.int .u8 (zn hp.nm 4),.int .u8 (zn hp.nm 5),.int .u8 (zn hp.nm 6),.int .u8 (zn hp.nm 7),.int .i64 (hp.ds.getD 0 0:Nat),.int .i64 (hp.ds.getD 1 0:Nat),.int .i64 hp.ds.length] (by kernel_rfl) rfl (by simp[Value.oneCell'])
      have Z4:=(b4.block w.heap.size (by have:=o3.size;omega)).trans z3
      have R4:=r3.only (OnlyB.of_below (bl:=[]) b4) (by simp)
      have HB4:=zb (b3.trans (b4.mono b3.size))
      have hs4:w.heap.size+2≤W4.heap.size:=by have:=o3.size;omega
      have hl4:w3.heap.size<W4.heap.size:=by omega
      obtain⟨V,hV⟩:∃V,V=q4M hp:=⟨_,rfl⟩
      have S4':(Instr.storeAt 129 (.pointer (some ⟨w3.heap.size,0,none⟩)) V).run Tryz.prog (w3.alloc (.cells z11 129))=.ok () W4:=by rw[hV];exact S4
      rw[←hV]
      have z0:=zC _ _ 0 _ _ _ Z4
      have z1:=zC _ _ 1 _ _ _ Z4
      have y0:=fun j=>zF _ _ j _ _ Z4
      simp only[gz]at z0 z1
      have d1:=R4.at'
      have hlz:w.heap.size<W4.heap.size:=by omega
      have hl5:=R4.lt
      clear r3 o3 z3 b3 g4 b4 z4 S4 hV HH HO HZ HRD HB R4 Z4 c1
      go_wp2_with (refine ze rfl 129 (.tmp 9) (.tmp 34) rfl ⟨w3.heap.size,0,none⟩ V rfl rfl W4 S4' ?_)
      go_region
      go_wp2_with fail
      exact zP (v:=.tuple #[.agg q0l,.int .i64 p2,.bool false]) (by simp[results,Tryz.results32,go_sem,z0,z1]) rfl ⟨rfl,((HB4.out.setCell (zL _) _).setCell (zL _) _).drew⟩
    ·have hst:=HST.out
     have hfin:q2n s f i acc=.inr acc:=by
      cases f with
      |zero=>rfl
      |succ f=>rw[q2n,if_neg hil]
     rw[hfin]at hst
     simp at hst
  ·rw[if_neg h2]at hR
   have HT:=zb (fun br W (h:Rdr W br s 0)=>q2e s hs br 0 (by omega) 64 h1 W h)
   have HS:=zb (fun br W (h:Rdr W br s 1)=>q9L s hs br 1 (by omega) W h (stF s 5 0 1) rfl)
   generalize stF s 5 0 1=q at *
   obtain⟨q1,q2,q3⟩:=q
   simp only[Sum.inl.injEq]at hR h2
   subst hR
   have hff:(q1&&decide (1<q3))=false:=by
    cases q1
    ·rfl
    ·simp at h2;simp;omega
   have HFF:=zb hff
   clear h1 hin h2 hff
   go_enter Tryz.func32,Tryz.ntmps32
   go_wp2_with fail
   have R0:Rdr ((w.alloc (.cells q0l 96)).alloc (.cells #[bs s,.int .i64 0] 121)) (w.heap.size+1) s 0:=by
    have hg:=zN (w.alloc (.cells q0l 96)) (.cells #[bs s,.int .i64 0] 121)
    have hg':((w.alloc (.cells q0l 96)).alloc (.cells #[bs s,.int .i64 0] 121)).heap[w.heap.size+1]?=some (.cells #[bs s,.int .i64 0] 121 (0,0)):=by simpa using hg
    exact⟨by rw[zC _ _ 0 _ _ _ hg'];rfl,by rw[zC _ _ 1 _ _ _ hg'];rfl,fun o=>zF _ _ o _ _ hg',by simp⟩
   have Z0:((w.alloc (.cells q0l 96)).alloc (.cells #[bs s,.int .i64 0] 121)).heap[w.heap.size]?=some (.cells q0l 96 (0,0)):=by rw[zO _ _ (by simp)];exact zN _ _
   have B0:Below w.heap.size w ((w.alloc (.cells q0l 96)).alloc (.cells #[bs s,.int .i64 0] 121)):=((zB _ _).alloc (zL _) _).alloc (by simp) _
   have s0:((w.alloc (.cells q0l 96)).alloc (.cells #[bs s,.int .i64 0] 121)).heap.size=w.heap.size+2:=by simp
   generalize (w.alloc (.cells q0l 96)).alloc (.cells #[bs s,.int .i64 0] 121)=W0 at *
   refine(HT.out _ _ R0).mono ?_
   rintro e w1 ⟨rfl,r1,o1⟩
   have HR1:=zb r1
   have HO1:=zb o1
   have HB0:=zb B0
   have HZ0:=zb Z0
   clear r1 o1 R0 HT B0 Z0
   go_wp2_with fail
   refine(HS.out _ _ HR1.out).mono ?_
   rintro e w2 ⟨⟨v,rfl,hv⟩,r2,o2⟩
   have O2:=HO1.out.trans o2
   have Z2:w2.heap[w.heap.size]?=some (.cells q0l 96 (0,0)):=(O2.block w.heap.size (by omega) (by simp)).trans HZ0.out
   have HB2:Hid (Below w.heap.size w w2):=zb (HB0.out.trans (O2.below (by omega) (by simp)))
   have hs2:w.heap.size+2≤w2.heap.size:=by have:=O2.size;omega
   have z0:=zC _ _ 0 _ _ _ Z2
   have z1:=zC _ _ 1 _ _ _ Z2
   have y0:=fun j=>zF _ _ j _ _ Z2
   simp only[gz]at z0 z1
   have d1:=r2.at'
   have hlz:w.heap.size<w2.heap.size:=by omega
   have hl5:=r2.lt
   rw[HFF.out]
   clear r2 o2 O2 Z2 HR1 HO1 HS HB0 HZ0 hv s0 W0
   go_wp2_with fail
   go_region
   go_wp2_with fail
   exact zP (v:=.tuple #[.agg q0l,.int .i64 q3,.bool false]) (by simp[results,Tryz.results32,go_sem,z0,z1]) rfl ⟨rfl,((HB2.out.setCell (zL _) _).setCell (zL _) _).drew⟩
 ·rw[if_neg h1]at hR
  simp only[Sum.inl.injEq]at hR
  subst hR
  have HT:=zb (fun br W (h:Rdr W br s 0)=>q3I s hs br 0 (by omega) 64 h1 W h)
  clear h1
  go_enter Tryz.func32,Tryz.ntmps32
  go_wp2_with fail
  have R0:Rdr ((w.alloc (.cells q0l 96)).alloc (.cells #[bs s,.int .i64 0] 121)) (w.heap.size+1) s 0:=by
   have hg:=zN (w.alloc (.cells q0l 96)) (.cells #[bs s,.int .i64 0] 121)
   have hg':((w.alloc (.cells q0l 96)).alloc (.cells #[bs s,.int .i64 0] 121)).heap[w.heap.size+1]?=some (.cells #[bs s,.int .i64 0] 121 (0,0)):=by simpa using hg
   exact⟨by rw[zC _ _ 0 _ _ _ hg'];rfl,by rw[zC _ _ 1 _ _ _ hg'];rfl,fun o=>zF _ _ o _ _ hg',by simp⟩
  have Z0:((w.alloc (.cells q0l 96)).alloc (.cells #[bs s,.int .i64 0] 121)).heap[w.heap.size]?=some (.cells q0l 96 (0,0)):=by rw[zO _ _ (by simp)];exact zN _ _
  have B0:Below w.heap.size w ((w.alloc (.cells q0l 96)).alloc (.cells #[bs s,.int .i64 0] 121)):=((zB _ _).alloc (zL _) _).alloc (by simp) _
  have s0:((w.alloc (.cells q0l 96)).alloc (.cells #[bs s,.int .i64 0] 121)).heap.size=w.heap.size+2:=by simp
  generalize (w.alloc (.cells q0l 96)).alloc (.cells #[bs s,.int .i64 0] 121)=W0 at *
  refine(HT.out _ _ R0).mono ?_
  rintro e w1 ⟨rfl,b1⟩
  have r1:=R0.only (OnlyB.of_below (bl:=[]) b1) (by simp)
  have Z2:=(b1.block w.heap.size (by omega)).trans Z0
  have HB2:Hid (Below w.heap.size w w1):=zb (B0.trans (b1.mono (by omega)))
  have z0:=zC _ _ 0 _ _ _ Z2
  have z1:=zC _ _ 1 _ _ _ Z2
  have y0:=fun j=>zF _ _ j _ _ Z2
  simp only[gz]at z0 z1
  have d1:=r1.at'
  have hlz:w.heap.size<w1.heap.size:=by have:=b1.size;omega
  have hl5:=r1.lt
  clear r1 b1 Z2 R0 Z0 B0 s0 W0 HT
  go_wp2_with fail
  go_region
  go_wp2_with fail
  exact zP (v:=.tuple #[.agg q0l,.int .i64 0,.bool false]) (by simp[results,Tryz.results32,go_sem,z0,z1]) rfl ⟨rfl,((HB2.out.setCell (zL _) _).setCell (zL _) _).drew⟩
theorem settF_le (L:List LPt)(rc:Int):∀f c,c≤L.length→q4e L rc f c≤L.length:=by
 intro f
 induction f with
 |zero=>intro c h;exact h
 |succ f ih =>
  intro c h
  rw[q4e]
  split
  ·rename_i hh
   exact ih (c+1) hh.1
  ·exact h
theorem q3t (L:List LPt)(rc:Int):qp L rc≤L.length:=settF_le L rc _ 0 (zZ _)
theorem hapsF_le (s:By):∀(f i:Nat) (acc R:List Hp),q2n s f i acc=.inr R→R.length≤acc.length+f:=by
 intro f
 induction f with
 |zero =>
  intro i acc R h
  rw[q2n]at h
  have:acc=R:=by simpa using h
  rw[this]
  omega
 |succ f ih =>
  intro i acc R h
  rw[q2n]at h
  split at h
  ·split at h
   ·have:=ih _ _ _ h
    simp at this
    omega
   ·exact absurd h (by simp)
  ·have:acc=R:=by simpa using h
   rw[this]
   omega
theorem line_few {s:By}{n:Nat}{l:List Hp}(h:q2N s=.inr (n,l)):l.length≤s.length:=by
 unfold q2N at h
 split at h
 ·split at h
  ·split at h
   ·exact absurd h (by simp)
   ·rename_i l' he
    have:l'=l:=by simpa using (by simpa using h:_∧_).2
    subst this
    have:=hapsF_le s _ _ _ _ he
    simpa using this
  ·exact absurd h (by simp)
 ·exact absurd h (by simp)
def q1Q (L:List LPt)(ended:Bool)(s:By):Int × Int:=
 if ended=true then(9,0)else if 80<s.length then(1,0)else match q2N s with
  | .inl p=>(3,p)
  | .inr (st,_)=>if toR L st<32768∧L.length<40 then(0,0)else(if 32768≤toR L st then 7 else 8,0)
def q6G (L:List LPt)(ended:Bool)(s:By):List LPt:=
 if (q1Q L ended s).1=0 then(match q2N s with
  | .inl _=>L
  | .inr (st,l)=>L++[⟨st,q7S L st,l⟩])else L
def j1e (F:zg)(L:List LPt)(told:Nat)(ended:Bool)(s:By):Nat:=if (q1Q L ended s).1=0 then max told (qp (q6G L ended s) (qk F).reach)else told
def j0n (F:zg)(L:List LPt)(told:Nat)(ended:Bool)(s:By):List Ver:=if (q1Q L ended s).1=0 then qI F (q6G L ended s) told (qp (q6G L ended s) (qk F).reach)else []
def q1q (w w':World)(b gn cn:Nat)(ao:OA)(F:zg)(L:List LPt)(told:Nat)(ended:Bool):Prop:=
 ∃ao' cap' PL',MonAt w' b gn cn ao' cap' F PL' told ended∧zz PL'=L∧OnlyB (b::q0P ao) w w'∧(∀k∈q0P ao',k∈q0P ao∨w.heap.size≤k)
theorem q1q.same {w w':World}{b gn cn:Nat}{ao:OA}{cap:Nat}{F:zg}{PL:List PPt}{told:Nat}{ended:Bool}(h:MonAt w b gn cn ao cap F PL told ended)(hb:Below w.heap.size w w'):q1q w w' b gn cn ao F (zz PL) told ended:=
 ⟨ao,cap,PL,h.below hb,rfl,.of_below hb,fun _ hk=>.inl hk⟩
def endE (ended:Bool):Int:=if ended=true then 9 else 0
def endN (L:List LPt)(told:Nat)(ended:Bool):Nat:=if ended=true then told else L.length
def endV (F:zg)(L:List LPt)(told:Nat)(ended:Bool):List Ver:=if ended=true then []else qI F L told L.length
theorem j0Q (b gn cn:Nat)(ao:OA)(cap:Nat)(F:zg)(hF:FormGood F)(PL:List PPt)(told:Nat)(ended:Bool)(w:World)(h:MonAt w b gn cn ao cap F PL told ended) :
  Calls Tryz.prog 17 #[.pointer (some ⟨b,0,none⟩)] w fun e w'=>∃v,e=.returned (.tuple #[v,.int .i64 (endE ended)])∧w'.ownsRow w.heap.size 45 12 v (endV F (zz PL) told ended).length (zV (endV F (zz PL) told ended))∧q1q w w' b gn cn ao F (zz PL) (endN (zz PL) told ended) true:=by
 obtain⟨c0,c1,c2,c3,c4,c5,c6⟩:=h.cells
 have hlt:=h.lt
 have hfz:=h.frozen 6
 have HM:=zb h
 cases ended with
 |true =>
  clear h c0 c1 c2 c3 c4 c5
  go_enter Tryz.func17,Tryz.ntmps17
  go_wp2_with fail
  go_ret2
  exact⟨.slice none 0 0,rfl,zW _ _ _ _,q1q.same HM.out (zB _ _)⟩
 |false =>
  have HM1:=zb (h.setEnded true)
  have HC:=zb (q7H b 4 ao cap PL _ HM1.out.log)
  have HT:=zb (j6H b gn cn ao cap F hF PL told true PL.length (zL _) _ HM1.out)
  have hfew:=h.few
  clear h c0 c1 c2 c3 c4 c5
  go_enter Tryz.func17,Tryz.ntmps17
  go_wp2_with fail
  refine HC.out.mono ?_
  rintro e w1 ⟨rfl,rfl⟩
  go_wp2_with fail
  refine HT.out.mono ?_
  rintro e w2 ⟨v,rfl,hO,hM2,hb2⟩
  obtain⟨va,vc,rfl⟩:=q1n hO
  go_wp2_with fail
  go_ret2
  have e1:endV F (zz PL) told false=qI F (zz PL) told PL.length:=by unfold endV;rw[if_neg (by decide),List.length_map]
  have e2:endN (zz PL) told false=PL.length:=by unfold endN;rw[if_neg (by decide),List.length_map]
  refine⟨.slice va (PL.length-told) vc,rfl,?_,ao,cap,PL,?_,rfl,?_,fun _ hk=>.inl hk⟩
  ·rw[e1,q0q]
   simpa using hO
  ·rw[Nat.max_eq_right hfew]at hM2
   rw[e2]
   exact hM2
  ·exact((OnlyB.refl [b] w).setCell (by simp) _).trans hb2 |>.wide (by simp)
def q6R (w:World)(b gn cn:Nat)(ao:OA)(F:zg)(PL:List PPt)(told:Nat)(ended:Bool)(s:By)(e:Ending)(w':World):Prop:=
 ∃v,e=.returned (.tuple #[v,.int .i64 (q1Q (zz PL) ended s).1,.int .i64 (q1Q (zz PL) ended s).2])∧w'.ownsRow w.heap.size 45 12 v (j0n F (zz PL) told ended s).length (zV (j0n F (zz PL) told ended s))∧q1q w w' b gn cn ao F (q6G (zz PL) ended s) (j1e F (zz PL) told ended s) ended
theorem j0G {w w':World}{b gn cn:Nat}{ao:OA}{cap:Nat}{F:zg}{PL:List PPt}{told:Nat}{ended:Bool}{s:By}{er at':Int}(h:MonAt w b gn cn ao cap F PL told ended)(he:q1Q (zz PL) ended s=(er,at'))(h0:er≠0)(hb:Below w.heap.size w w') :
  q6R w b gn cn ao F PL told ended s (.returned (.tuple #[.slice none 0 0,.int .i64 er,.int .i64 at'])) w':=by
 have hne:¬(q1Q (zz PL) ended s).1=0:=by rw[he];exact h0
 refine⟨_,by rw[he],?_,?_⟩
 ·unfold j0n
  rw[if_neg hne]
  exact zW _ _ _ _
 ·unfold q6G j1e
  rw[if_neg hne,if_neg hne]
  exact q1q.same h hb
theorem j4q (b gn cn:Nat)(ao:OA)(cap:Nat)(F:zg)(PL:List PPt)(told:Nat)(s:By)(w:World)(h:MonAt w b gn cn ao cap F PL told true) :
  Calls Tryz.prog 10 #[.pointer (some ⟨b,0,none⟩),bs s] w fun e w'=>q6R w b gn cn ao F PL told true s e w':=by
 obtain⟨c0,c1,c2,c3,c4,c5,c6⟩:=h.cells
 have hlt:=h.lt
 have HM:=zb h
 clear h c0 c1 c2 c3 c4 c5
 go_enter Tryz.func10,Tryz.ntmps10
 go_wp2_with fail
 go_ret3
 exact j0G HM.out rfl (by decide) (zB _ _)
theorem j4r (b gn cn:Nat)(ao:OA)(cap:Nat)(F:zg)(PL:List PPt)(told:Nat)(s:By)(hs64:s.length≤maxLen)(hl:80<s.length)(w:World)(h:MonAt w b gn cn ao cap F PL told false) :
  Calls Tryz.prog 10 #[.pointer (some ⟨b,0,none⟩),bs s] w fun e w'=>q6R w b gn cn ao F PL told false s e w':=by
 obtain⟨c0,c1,c2,c3,c4,c5,c6⟩:=h.cells
 have hlt:=h.lt
 have HM:=zb h
 have HE:Hid (q1Q (zz PL) false s=(1,0)):=zb (by unfold q1Q;rw[if_neg (by decide),if_pos hl])
 unfold maxLen at hs64
 clear h c0 c1 c2 c3 c4 c5
 go_enter Tryz.func10,Tryz.ntmps10
 go_wp2_with fail
 go_ret3
 exact j0G HM.out HE.out (by decide) (zB _ _)
theorem j4s (b gn cn:Nat)(ao:OA)(cap:Nat)(F:zg)(PL:List PPt)(told:Nat)(s:By)(hl:s.length≤80)(p:Nat)(hp:q2N s=.inl p)(w:World)(h:MonAt w b gn cn ao cap F PL told false) :
  Calls Tryz.prog 10 #[.pointer (some ⟨b,0,none⟩),bs s] w fun e w'=>q6R w b gn cn ao F PL told false s e w':=by
 obtain⟨c0,c1,c2,c3,c4,c5,c6⟩:=h.cells
 have hlt:=h.lt
 have HM:=zb h
 have HE:Hid (q1Q (zz PL) false s=(3,(p:Int))):=zb (by unfold q1Q;rw[if_neg (by decide),if_neg (by omega),hp])
 have HR:=zb (j5B s hl p hp)
 clear h c0 c1 c2 c3 c4 c5 hp
 go_enter Tryz.func10,Tryz.ntmps10
 go_wp2_with fail
 refine(HR.out _).mono ?_
 rintro e w1 ⟨rfl,b1⟩
 have HB1:=zb b1
 clear b1
 go_wp2_with fail
 go_ret3
 exact j0G HM.out HE.out (by decide) (by first|exact(HB1.out.alloc HB1.out.size _).setCells _|exact HB1.out.alloc HB1.out.size _)
theorem j4t (b gn cn:Nat)(ao:OA)(cap:Nat)(F:zg)(PL:List PPt)(told:Nat)(s:By)(hl:s.length≤80)(st:Nat)(l:List Hp)(hp:q2N s=.inr (st,l))(hno:¬(toR (zz PL) st<32768∧PL.length<40))(w:World)(h:MonAt w b gn cn ao cap F PL told false) :
  Calls Tryz.prog 10 #[.pointer (some ⟨b,0,none⟩),bs s] w fun e w'=>q6R w b gn cn ao F PL told false s e w':=by
 obtain⟨c0,c1,c2,c3,c4,c5,c6⟩:=h.cells
 have hlt:=h.lt
 have HM:=zb h
 have hst:=(q8u hp).2.2.1
 have HR:=zb (q8X s hl st l hp)
 have HAD:=zb (fun va vn vc W q=>j7E st hst va vn vc b 4 ao cap PL W q hno)
 obtain⟨er,her⟩:∃er:Int,er=if 32768≤toR (zz PL) st then 7 else 8:=⟨_,rfl⟩
 have HE:Hid (q1Q (zz PL) false s=(er,0)):=zb (by unfold q1Q;rw[if_neg (by decide),if_neg (by omega),hp];simp only[];rw[if_neg (by rw[List.length_map];exact hno),her])
 rw[←her]at HAD
 have her2:(er != 0)=true:=by rw[her];split<;>decide
 have HNE:Hid (er≠0):=zb (by simpa using her2)
 clear h c0 c1 c2 c3 c4 c5 hp her hno
 go_enter Tryz.func10,Tryz.ntmps10
 go_wp2_with fail
 refine(HR.out _).mono ?_
 rintro e w1 ⟨hv,rfl,hO,b1⟩
 obtain⟨va,vc,rfl⟩:=q1n hO
 have HB1:=zb b1
 clear b1 hO
 go_wp2_with fail
 obtain⟨W1,hW1⟩:∃W1,W1=w1.alloc (.cells #[.int .u16 st,.slice va l.length vc] 96):=⟨_,rfl⟩
 have BW1:Below w.heap.size w W1:=by rw[hW1];exact HB1.out.alloc HB1.out.size _
 have G1:W1.heap[w1.heap.size]?=some (.cells #[.int .u16 st,.slice va l.length vc] 96 (0,0)):=by rw[hW1];exact zN _ _
 rw[←hW1]
 have z0:=zC _ _ 0 _ _ _ G1
 have z1:=zC _ _ 1 _ _ _ G1
 simp only[gz]at z0 z1
 have hz1:=zd G1
 have HBW:=zb BW1
 clear hW1 BW1 G1
 go_region_held3 (fun w'=>w'.cell? ⟨w1.heap.size,0,none⟩=some (.int .u16 st)∧w'.cell? ⟨w1.heap.size,1,none⟩=some (.slice va l.length vc)) (first|go_keep|(exact⟨z0,z1⟩)|(exact⟨(zK (a:=⟨w1.heap.size,0,none⟩) (b3.block _ hz1)).trans z0,(zK (a:=⟨w1.heap.size,1,none⟩) (b3.block _ hz1)).trans z1⟩)) ((go_at_call 33;refine(HAD.out _ _ _ _ ((HM.out.below HBW.out).below (by exact(zB _ _).drew)).log).mono ?_;rintro e w3 ⟨rfl,b3⟩))
 have B3:Below w.heap.size w w3:=HBW.out.trans ((((zB _ _).drew).trans b3).mono HBW.out.size)
 have HB3:=zb B3
 clear B3 b3
 go_wp2_with fail
 go_ret3
 exact j0G HM.out HE.out HNE.out HB3.out
theorem MonAt.added {w w':World}{b gn cn:Nat}{ao:OA}{cap:Nat}{F:zg}{PL:List PPt}{told:Nat}{ended:Bool}{g' cap':Nat}{pt:LPt}{hv':Value}(h:MonAt w b gn cn ao cap F PL told ended)(ho:OnlyB (b::q0P ao) w w')(hl:LogAt w' b 4 (some ⟨g',0,none⟩) cap' (PL++[(pt,hv')]))
  (hb:w'.heap[b]?=some (.cells ((j2O (.slice (some ⟨gn,0,none⟩) (zv F) cn) (qk F).x (qk F).y (qk F).reach (.slice ao PL.length cap) told ended).setIfInBounds 4 (.slice (some ⟨g',0,none⟩) (PL.length+1) cap')) 93 (0,0)))
  (hr:w'.ownsRow 0 129 11 hv' pt.haps.length (q0b pt.haps))(h80:pt.haps.length≤80)(hd:∀h∈pt.haps,∀d∈h.ds,d≤9):MonAt w' b gn cn (some ⟨g',0,none⟩) cap' F (PL++[(pt,hv')]) told ended:=by
 refine⟨?_,q0E h.nodes ho h.kinds (by decide) (by decide),hl,fun p hp=>?_,by have:=h.few;simp;omega⟩
 ·rw[hb,List.length_append]
  rfl
 ·rcases List.mem_append.1 hp with hp|hp
  ·exact⟨q0E (h.haps p hp).1 ho h.kinds (by decide) (by decide),(h.haps p hp).2⟩
  ·have:p=(pt,hv'):=by simpa using hp
   subst this
   exact⟨hr,h80,hd⟩
theorem j4u (b gn cn:Nat)(ao:OA)(cap:Nat)(F:zg)(hF:FormGood F)(PL:List PPt)(told:Nat)(s:By)(hl:s.length≤80)(st:Nat)(l:List Hp)(hp:q2N s=.inr (st,l))(hyes:toR (zz PL) st<32768∧PL.length<40)(w:World)(h:MonAt w b gn cn ao cap F PL told false) :
  Calls Tryz.prog 10 #[.pointer (some ⟨b,0,none⟩),bs s] w fun e w'=>q6R w b gn cn ao F PL told false s e w':=by
 obtain⟨c0,c1,c2,c3,c4,c5,c6⟩:=h.cells
 have hlt:=h.lt
 have HM:=zb h
 obtain⟨_,hok,hst,_⟩:=q8u hp
 have hfew:=line_few hp
 have HR:=zb (q8X s hl st l hp)
 have HAD:=zb (fun va vc W (q:MonAt W b gn cn ao cap F PL told false) (hr:W.ownsRow 0 129 11 (.slice va l.length vc) l.length (q0b l))=>j5L st hst (.slice va l.length vc) l b 4 ao cap PL W q.log _ _ q.blk (by decide) (by decide) hr (by omega) hyes.1 hyes.2)
 have HE:Hid (q1Q (zz PL) false s=(0,0)):=zb (by unfold q1Q;rw[if_neg (by decide),if_neg (by omega),hp];simp only[];rw[if_pos (by rw[List.length_map];exact hyes)])
 have HLL:Hid (q6G (zz PL) false s=zz PL++[⟨st,q7S (zz PL) st,l⟩]):=zb (by unfold q6G;rw[if_pos (by rw[HE.out]),hp])
 have HD:Hid (∀h∈l,∀d∈h.ds,d≤9):=zb (fun h hh=>(hok h hh).ds.2)
 have HFE:=zb hfew
 clear h c0 c1 c2 c3 c4 c5 hp hok
 go_enter Tryz.func10,Tryz.ntmps10
 go_wp2_with fail
 refine(HR.out _).mono ?_
 rintro e w1 ⟨hv,rfl,hO,b1⟩
 obtain⟨va,vc,rfl⟩:=q1n hO
 have HB1:=zb b1
 have HO:=zb hO
 clear b1 hO
 go_wp2_with fail
 obtain⟨W1,hW1⟩:∃W1,W1=w1.alloc (.cells #[.int .u16 st,.slice va l.length vc] 96):=⟨_,rfl⟩
 have BW1:Below w.heap.size w W1:=by rw[hW1];exact HB1.out.alloc HB1.out.size _
 have G1:W1.heap[w1.heap.size]?=some (.cells #[.int .u16 st,.slice va l.length vc] 96 (0,0)):=by rw[hW1];exact zN _ _
 have HO1:Hid (W1.ownsRow 0 129 11 (.slice va l.length vc) l.length (q0b l)):=zb (by rw[hW1];exact q4N (zZ _) (HO.out.alloc _))
 rw[←hW1]
 have z0:=zC _ _ 0 _ _ _ G1
 have z1:=zC _ _ 1 _ _ _ G1
 simp only[gz]at z0 z1
 have hz1:=zd G1
 have HBW:=zb BW1
 have HG1:=zb G1
 have M1:MonAt W1.drew b gn cn ao cap F PL told false:=(HM.out.below HBW.out).below (by exact(zB _ _).drew)
 have HM1:=zb M1
 have HK1:Hid (w1.heap.size∉b::q0P ao):=zb (by
  intro hm
  obtain⟨cs,t,hc,ht⟩:=M1.kinds _ hm
  have hc':W1.heap[w1.heap.size]?=some (.cells cs t (0,0)):=hc
  rw[G1]at hc'
  simp at hc'
  rcases ht with rfl|rfl
  ·exact absurd hc'.2 (by decide)
  ·exact absurd hc'.2 (by decide))
 clear hW1 BW1 G1 M1
 go_region_held3 (fun w'=>w'.cell? ⟨w1.heap.size,0,none⟩=some (.int .u16 st)∧w'.cell? ⟨w1.heap.size,1,none⟩=some (.slice va l.length vc)) (first|go_keep|(exact⟨z0,z1⟩)|(exact⟨(o3.cell hz1 HK1.out).trans z0,(o3.cell hz1 HK1.out).trans z1⟩)) ((go_at_call 33;refine(HAD.out _ _ _ HM1.out HO1.out.drew).mono ?_;rintro e w3 ⟨rfl,g',cap',hv',hlog,hrow,hblk,o3,hwh⟩))
 have M3:=HM1.out.added o3 hlog hblk (q4N (zZ _) hrow) (by show l.length≤80;have:=HFE.out;omega) HD.out
 have O3:OnlyB (b::q0P ao) w w3:=(OnlyB.of_below (HBW.out.drew)).trans o3
 have hzw:w.heap.size≤W1.heap.size:=HBW.out.size
 have WH:Hid (∀k∈q0P (some ⟨g',0,none⟩),k∈q0P ao∨w.heap.size≤k):=zb (by
  intro k hk
  have:k=g':=by simpa[q0P]using hk
  subst this
  rcases hwh with h|h
  ·exact .inl h
  ·exact .inr (zM hzw h))
 have HPL:Hid (zz (PL++[({stamp:=st,time:=q7S (zz PL) st,haps:=l},hv')])=q6G (zz PL) false s):=zb (by rw[HLL.out];exact List.map_append)
 obtain⟨PL',hPL'⟩:∃PL',PL'=PL++[(({stamp:=st,time:=q7S (zz PL) st,haps:=l}:LPt),hv')]:=⟨_,rfl⟩
 rw[←hPL']at M3 HPL
 have HM3:=zb M3
 have HO3:=zb O3
 have d3:=M3.cells.2.2.2.1
 have hl3:=M3.lt
 have HSE:=zb (fun W (q:MonAt W b gn cn (some ⟨g',0,none⟩) cap' F PL' told false)=>j5M b 4 (some ⟨g',0,none⟩) cap' PL' (qk F).reach W q.log)
 have hle:=q3t (zz PL') (qk F).reach
 rw[List.length_map]at hle
 have HT:=zb (fun W (q:MonAt W b gn cn (some ⟨g',0,none⟩) cap' F PL' told false)=>j6H b gn cn _ cap' F hF PL' told false (qp (zz PL') (qk F).reach) hle W q)
 generalize hsr:qp (zz PL') (qk F).reach=sr at *
 have HSR:=zb hsr
 clear hPL' hsr M3 O3 hlog hrow hblk hwh z0 z1 HM1 HO1 HG1 HAD HR HB1 HO o3
 generalize hrc:(qk F).reach=rc at *
 have HRC:=zb hrc
 clear hrc
 go_wp2_with fail
 go_region_held3 (fun w'=>w'.cell? ⟨b,3,none⟩=some (.int .i64 rc)) (first|go_keep|(exact d3)|(exact(zK (a:=⟨b,3,none⟩) (b4.block _ hl3)).trans d3)) ((go_at_call 34;refine(HSE.out _ (HM3.out.below (by exact(zB _ _).drew))).mono ?_;rintro e w4 ⟨rfl,b4⟩))
 have B4:Below w3.heap.size w3 w4:=((zB _ _).drew).trans b4
 have HM4:=zb (HM3.out.below B4)
 have HO4:Hid (OnlyB (b::q0P ao) w w4):=zb (HO3.out.trans (.of_below B4))
 clear b4 B4 d3
 go_wp2_with fail
 refine(HT.out _ HM4.out).mono ?_
 rintro e w5 ⟨v,rfl,hrow5,M5,o5⟩
 obtain⟨va5,vc5,rfl⟩:=q1n hrow5
 have HR5:=zb hrow5
 have HM5:=zb M5
 have HO5:=zb o5
 clear hrow5 M5 o5
 go_wp2_with fail
 go_ret3
 have ev:j0n F (zz PL) told false s=qI F (zz PL') told sr:=by
  unfold j0n
  rw[HE.out,if_pos rfl,←HPL.out,HRC.out,HSR.out]
 have en:j1e F (zz PL) told false s=max told sr:=by
  unfold j1e
  rw[HE.out,if_pos rfl,←HPL.out,HRC.out,HSR.out]
 refine⟨.slice va5 (sr-told) vc5,by rw[HE.out];rfl,?_,some ⟨g',0,none⟩,cap',PL',?_,HPL.out,?_,WH.out⟩
 ·rw[ev,q0q]
  exact q4N HO4.out.size HR5.out
 ·rw[en]
  exact HM5.out
 ·exact HO4.out.trans (HO5.out.wide (by simp))
theorem q6h (b gn cn:Nat)(ao:OA)(cap:Nat)(F:zg)(hF:FormGood F)(PL:List PPt)(told:Nat)(ended:Bool)(s:By)(hs64:s.length≤maxLen)(w:World)(h:MonAt w b gn cn ao cap F PL told ended) :
  Calls Tryz.prog 10 #[.pointer (some ⟨b,0,none⟩),bs s] w fun e w'=>q6R w b gn cn ao F PL told ended s e w':=by
 cases ended with
 |true=>exact j4q b gn cn ao cap F PL told s w h
 |false =>
  by_cases hl:80<s.length
  ·exact j4r b gn cn ao cap F PL told s hs64 hl w h
  ·cases hp:q2N s with
   |inl p=>exact j4s b gn cn ao cap F PL told s (by omega) p hp w h
   |inr q =>
    obtain⟨st,l⟩:=q
    by_cases hy:toR (zz PL) st<32768∧PL.length<40
    ·exact j4u b gn cn ao cap F hF PL told s (by omega) st l hp hy w h
    ·exact j4t b gn cn ao cap F PL told s (by omega) st l hp hy w h
theorem q2M {s:By}(h:(zA s).1=0):FormGood (qb s)∧q2d (qb s)=true∧q2s s=qk (qb s):=by
 obtain⟨h0,ha⟩:=j0Z h
 have hrd:=q7J h0
 have hg:q5E (q0Y s).1:=q5R s
 have h240:¬240<s.length:=by
  intro hl
  unfold q1m at h0
  rw[if_pos hl]at h0
  simp at h0
 have hll:=j3R s
 have hsz:=j2f _ _ hrd
 rw[q0f]at hsz
 refine⟨⟨j5U _ _ hrd hg,q3L hrd,by omega⟩,ha,?_⟩
 have hgd:=j0Y h0
 have e1:q2s s=(q3X (qb s)).1:=by rw[hgd]
 have e2:(q3X (qb s)).2.1=0:=by rw[hgd];exact h
 rw[e1]
 unfold q3X at e2 ⊢
 by_cases hf:(q0J (qb s)).1=0
 ·rw[if_pos hf]
 ·rw[if_neg hf]at e2
  exact absurd e2 hf
theorem j0T (L:List LPt):∀F:zg,zu L (q1k F)=zu L F:=by
 intro F
 induction F with
 |nil=>rfl
 |node p sp y l r ihl ihr =>
  funext i x z
  simp only[q1k,zu]
  rw[ihl,ihr]
  rfl
theorem j2p {F F':zg}(h:q1k F'=q1k F)(L:List LPt):zu L F'=zu L F:=by rw[←j0T,h,j0T]
theorem j9r (L M:List LPt)(hL:Mono (L++M)):∀F:zg,q3x F→q2d F=true→∀i,i<L.length→zf F<(tmL L (L.length-1):Int)-tmL L i→∀x z,zu (L++M) F i x z=zu L F i x z:=by
 intro F
 induction F with
 |nil=>intros;rfl
 |node p sp y l r ihl ihr =>
  intro hF ha i hi hs x z
  obtain⟨hn,hl,hr⟩:=hF
  simp only[q2d,Bool.and_eq_true]at ha
  obtain⟨⟨ha1,ha2⟩,ha3⟩:=ha
  have hk:=(j8v 0 p sp hn).1
  have hR:zf (.node p sp y l r)=if q1X (zQ 0 p sp y l r).kind=true then q4q (zQ 0 p sp y l r).shi (if zf r > zf l then zf r else zf l)else(if zf r > zf l then zf r else zf l):=(j5R 0 p sp hn).symm
  have e:=node_ext (zQ 0 p sp y l r) L M hL (zu L l) (zu L r) (zu (L++M) l) (zu (L++M) r) (zf l) (zf r) _ (q2Y l) (q2Y r) (by
   show 0≤q3w y.hi
   rw[hn.hi]
   omega) (by
   intro hk
   show(y.hi==[42])=false
   have h1:q0B y.word=true:=by rw[hn.word.ahead];exact hk
   rw[h1]at ha1
   simpa using ha1) hk hR (fun j hj hs x y=>ihl hl ha2 j hj hs x y) (fun j hj hs x y=>ihr hr ha3 j hj hs x y) i hi hs x z
  rw[zu,zu,e]
  congr 1
  simp
  omega
theorem j3l {L M:List LPt}{i:Nat}(h:i<L.length):q1Y (L++M) i=q1Y L i:=by
 unfold q1Y
 rw[List.getElem?_append_left h]
theorem tell_ext {F:zg}(hF:q3x F)(ha:q2d F=true){L M:List LPt}(hL:Mono (L++M))(a c:Nat)(hc:c≤qp L (zf F)):qI F L a c=qI F (L++M) a c:=by
 have hm:Mono L:=fun i j h1 h2=>by
  have:=hL i j h1 (by simp;omega)
  rw[q3D (by omega),q3D h2]at this
  exact this
 have hsl:=q3t L (zf F)
 unfold qI
 refine List.map_congr_left (fun i hi=>?_)
 have hi2:=List.mem_range'_1.1 hi
 have hil:i<L.length:=by omega
 have e:zu (L++M) F i=zu L F i:=by
  funext x z
  exact j9r L M hL F hF ha i hil ((q9m hm _ hil).2 (by omega)) x z
 unfold verR
 rw[e,j3l hil]
theorem j3p (F:zg)(L:List LPt)(a b c:Nat)(h1:a≤b)(h2:b≤c):qI F L a b++qI F L b c=qI F L a c:=by
 unfold qI
 rw[←List.map_append,show c-a=(b-a)+(c-b)by omega,←List.range'_append_1,show a+(b-a)=b by omega]
abbrev Lin:=Nat × List Hp
def q2Q (L:List LPt)(a:Lin):List LPt:=L++[⟨a.1,q7S L a.1,a.2⟩]
def qa (ls:List Lin):List LPt:=ls.foldl q2Q []
theorem j9G (ls:List Lin)(a:Lin):qa (ls++[a])=q2Q (qa ls) a:=by
 unfold qa
 rw[List.foldl_append]
 rfl
theorem j0R (L:List LPt):∀ls:List Lin,∃M,ls.foldl q2Q L=L++M∧M.length=ls.length:=by
 intro ls
 induction ls generalizing L with
 |nil=>exact⟨[],by simp,rfl⟩
 |cons a r ih =>
  obtain⟨M,e,l⟩:=ih (q2Q L a)
  refine⟨[⟨a.1,q7S L a.1,a.2⟩]++M,?_,by simp[l]⟩
  rw[List.foldl_cons,e]
  unfold q2Q
  rw[List.append_assoc]
theorem q2o (ls:List Lin):(qa ls).length=ls.length:=by
 obtain⟨M,e,l⟩:=j0R [] ls
 unfold qa
 rw[e]
 simpa using l
theorem j5A (ls:List Lin)(k:Nat):∃M,qa ls=qa (ls.take k)++M:=by
 obtain⟨M,e,_⟩:=j0R (qa (ls.take k)) (ls.drop k)
 refine⟨M,?_⟩
 rw[←e]
 unfold qa
 rw[←List.foldl_append,List.take_append_drop]
theorem addL_ok (ls:List Lin):∀L,LogOk L→LogOk (ls.foldl q2Q L):=by
 induction ls with
 |nil=>intro L h;exact h
 |cons a r ih=>intro L h;exact ih _ (h.add a.1 a.2)
theorem q7A (ls:List Lin):LogOk (qa ls):=addL_ok ls [] .nil
theorem q3H (ls:List Lin)(k:Nat)(h:k<ls.length):qa (ls.take (k+1))=q2Q (qa (ls.take k)) ls[k]:=by
 rw[←j9G,List.take_append_getElem h]
structure LinOk (L:List LPt)(s:By)(a:Lin):Prop where
 line:q2N s=.inr a
 len:s.length≤80
 near:toR L a.1<32768
 few:L.length<40
theorem feed_ok {L:List LPt}{s:By}{a:Lin}(h:LinOk L s a)(F:zg)(told:Nat):q1Q L false s=(0,0)∧q6G L false s=q2Q L a∧j1e F L told false s=max told (qp (q2Q L a) (zf F))∧j0n F L told false s=qI F (q2Q L a) told (qp (q2Q L a) (zf F)):=by
 have e1:q1Q L false s=(0,0):=by
  unfold q1Q
  rw[if_neg (by decide),if_neg (by have:=h.len;omega),h.line]
  simp only[]
  rw[if_pos ⟨h.near,h.few⟩]
 have e2:q6G L false s=q2Q L a:=by
  unfold q6G
  rw[e1,if_pos rfl,h.line]
  rfl
 refine⟨e1,e2,?_,?_⟩
 ·unfold j1e
  rw[e1,if_pos rfl,e2]
  rfl
 ·unfold j0n
  rw[e1,if_pos rfl,e2]
  rfl
end Go.Proofs.YtiamjjonoeaggabGreatDoor
