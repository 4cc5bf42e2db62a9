import Derived.Test.YtiamjjonoeaggaaGreatDoorGA
import Derived.Test.YtiamjjonoeaggaaGreatDoorG12
set_option maxRecDepth 100000
set_option maxHeartbeats 16000000
namespace Go.Proofs.YtiamjjonoeaggaaGreatDoor
open Go.RowKit
theorem j5q (s:By)(hs:s.length≤80)(p:Nat)(hR:q3D s=.inl p)(w:World) :
  Calls Tryz.prog 38 #[bs s] w fun e w'=>e=.returned (.tuple #[.agg q0i,.int .i64 p,.bool false])∧Below w.heap.size w w':=by
 unfold q3D at hR
 by_cases h1:cI s 0=64
 ·rw[if_pos h1]at hR
  have hl0:=q2I (s:=s) (i:=0) (by omega)
  have hin:=q9N s 5 0 1 (by omega) (by omega)
  by_cases h2:(stF s 5 0 1).1=true∧1<(stF s 5 0 1).2.2
  ·rw[if_pos h2]at hR
   have hR2:q2g s s.length (stF s 5 0 1).2.2 []=.inl p:=by
    cases hh:q2g s s.length (stF s 5 0 1).2.2 []with
    |inl p'=>rw[hh]at hR;simp at hR;rw[hR]
    |inr l'=>rw[hh]at hR;simp at hR
   have HT:=zb (fun br W (h:Rdr W br s 0)=>q1V s hs br 0 (by omega) 64 h1 W h)
   have HS:=zb (fun br W (h:Rdr W br s 1)=>q9x s hs br 1 (by omega) W h (stF s 5 0 1) rfl)
   have HR2:=zb hR2
   generalize stF s 5 0 1=q at *
   obtain⟨q1,q2,q3⟩:=q
   simp only[]at h2 hin
   obtain⟨h2a,h2b⟩:=h2
   subst h2a
   have HQ:=zb h2b
   have hi3:q3≤s.length:=hin.2.1
   clear hR hR2 h1 hin h2b
   obtain⟨i0,hi0,hz0,hz1,hz2⟩:=info_parts j0Y
   go_enter Tryz.func38,Tryz.ntmps38
   go_wp2_with fail
   have R0:Rdr ((w.alloc (.cells q0i 92)).alloc (.cells #[bs s,.int .i64 0] 122)) (w.heap.size+1) s 0:=by
    have hg:=zN (w.alloc (.cells q0i 92)) (.cells #[bs s,.int .i64 0] 122)
    have hg':((w.alloc (.cells q0i 92)).alloc (.cells #[bs s,.int .i64 0] 122)).heap[w.heap.size+1]?=some (.cells #[bs s,.int .i64 0] 122 (0,0)):=by simpa using hg
    exact⟨by rw[zC _ _ 0 _ _ _ hg'];rfl,by rw[zC _ _ 1 _ _ _ hg'];rfl,fun o=>zF _ _ o _ _ hg',by simp⟩
   have Z0:((w.alloc (.cells q0i 92)).alloc (.cells #[bs s,.int .i64 0] 122)).heap[w.heap.size]?=some (.cells q0i 92 (0,0)):=by rw[zO _ _ (by simp)];exact zN _ _
   have B0:Below w.heap.size w ((w.alloc (.cells q0i 92)).alloc (.cells #[bs s,.int .i64 0] 122)):=((zB _ _).alloc (zL _) _).alloc (by simp) _
   have s0:((w.alloc (.cells q0i 92)).alloc (.cells #[bs s,.int .i64 0] 122)).heap.size=w.heap.size+2:=by simp
   generalize (w.alloc (.cells q0i 92)).alloc (.cells #[bs s,.int .i64 0] 122)=W0 at *
   refine(HT.out _ _ R0).mono ?_
   rintro e w1 ⟨rfl,r1,o1⟩
   have HR1:=zb r1
   have HO1:=zb o1
   have HB0:=zb B0
   have HZ0:=zb Z0
   clear r1 o1 R0 HT B0 Z0
   go_wp2_with fail
   refine(HS.out _ _ HR1.out).mono ?_
   rintro e w2 ⟨⟨v,rfl,hv⟩,r2,o2⟩
   have HR2':=zb r2
   have O2:=HO1.out.trans o2
   have Z2:w2.heap[w.heap.size]?=some (.cells q0i 92 (0,0)):=(O2.block w.heap.size (by omega) (by simp)).trans HZ0.out
   have B2:Below w.heap.size w w2:=HB0.out.trans (O2.below (by omega) (by simp))
   have hs2:w.heap.size+2≤w2.heap.size:=by have:=O2.size;omega
   have HB2:=zb B2
   have HZ2:=zb Z2
   rw[show(true&&decide (1<q3))=true by simpa using HQ.out]
   clear r2 o2 O2 Z2 B2 HR1 HO1 HS HB0 HZ0 hv s0 W0
   go_wp2_with fail
   go_loopg [8] s.length (fun g vh wr=>RdRel s w (.inl p) g vh wr)
   case atStart=>exact⟨q3,s.length,[],hi3,by omega,zL _,by simp,zW _ _ _ _,HR2.out,HR2'.out,HZ2.out,HB2.out,hs2⟩
   case round =>
    obtain⟨i,f,acc,hi,hf,hfg,hac,hown,hst,hrd,hz,hb,hsz⟩:=hrel
    have HO:=zb hown
    have HST:=zb hst
    have HRD:=zb hrd
    have HZ:=zb hz
    have HB:=zb hb
    have HF:=zb hf
    have HFG:=zb hfg
    have c1:=hrd.at'
    have hlr:=hrd.lt
    clear hown hst hrd hz hb hf hfg
    by_cases hil:i<s.length
    ·obtain⟨f',hf'⟩:∃f',f=f'+1:=⟨f-1,by have:=HF.out;omega⟩
     have hst:=HST.out
     rw[hf',q2g,if_pos hil]at hst
     have hin:=j0s s i hi
     have HH:=zb (q7S s hs (w.heap.size+1) i hi wr HRD.out (q2H s i) rfl)
     by_cases hok:(q2H s i).1=true
     ·rw[if_pos hok]at hst
      generalize q2H s i=q at *
      obtain⟨p1,p2,hp⟩:=q
      simp only[]at hok hin hst
      subst hok
      have HST':=zb hst
      have hp2:p2≤s.length:=hin.2.1
      have hp3:i<p2:=hin.2.2 rfl
      have HFF:=zb hf'
      clear hst hin HST hf'
      go_wp2_with fail
      refine(HH.out).mono ?_
      rintro e w3 ⟨rfl,r3,o3⟩
      have hown3:=q8Q HO.out o3 (by simp)
      have z3:=(o3.block w.heap.size (by omega) (by simp)).trans HZ.out
      have b3:Below w.heap.size w w3:=HB.out.trans (o3.below (by omega) (by simp))
      obtain⟨W4,S4,g4,b4,z4⟩:=qI (P:=Tryz.prog) 130 w3 z11 #[.int .u8 (zn hp.nm 0),.int .u8 (zn hp.nm 1),.int .u8 (zn hp.nm 2),.int .u8 (zn hp.nm 3),.int .u8 (zn hp.nm 4),.int .u8 (zn hp.nm 5),.int .u8 (zn hp.nm 6),.int .u8 (zn hp.nm 7),.int .i64 (hp.ds.getD 0 0:Nat),.int .i64 (hp.ds.getD 1 0:Nat),.int .i64 hp.ds.length] (by kernel_rfl) rfl (by simp[Value.oneCell'])
      have L4:=(HapAt.of_row (cs:=q5z hp) rfl g4).load
      have HO4:=zb (zo hown3 b4)
      have HZ4:=zb ((b4.block w.heap.size (by have:=o3.size;omega)).trans z3)
      have HR4:=zb (r3.only (OnlyB.of_below (bl:=[]) b4) (by simp))
      have HB4:=zb (b3.trans (b4.mono b3.size))
      have hs4:w.heap.size+2≤W4.heap.size:=by have:=o3.size;omega
      have hl4:w3.heap.size<W4.heap.size:=by omega
      obtain⟨V,hV⟩:∃V,V=q4A hp:=⟨_,rfl⟩
      have S4':(Instr.storeAt 130 (.pointer (some ⟨w3.heap.size,0,none⟩)) V).run Tryz.prog (w3.alloc (.cells z11 130))=.ok () W4:=by rw[hV];exact S4
      rw[←hV]
      clear r3 o3 hown3 z3 b3 g4 b4 z4 S4 hV HH HO HZ HRD HB
      go_wp2_with (first|(refine ze rfl 130 (.tmp 9) (.tmp 34) rfl ⟨w3.heap.size,0,none⟩ V rfl rfl W4 S4' ?_)|(refine zj rfl 130 (.tmp 9) rfl ⟨w3.heap.size,0,none⟩ (q4A hp) rfl L4 ?_)|(at_builtin;refine q3a rfl (.tmp 41) (.tmp 43) 90 130 rfl Tryz.underlying90 hi0 hz0 hz1 hz2 rfl (by decide) W4 (w.heap.size+2) _ _ _ (q5z hp) W4 rfl HO4.out (by simp[Act.eval]) rfl (by simp[Value.oneCell']) (by omega) (by decide) (zB _ _) hs4 ?_;intro v' w' hown' hbel' hne))
      have hg1:0<gk:=by have:=HFG.out;have:=HFF.out;omega
      go_roundg (gk-1)
      case measure=>omega
      case rel =>
       refine⟨p2,f',acc++[hp],hp2,by have:=HF.out;have:=HFF.out;omega,by have:=HFG.out;have:=HFF.out;omega,by simp;omega,by rw[q7L];simpa using hown',HST'.out,?_,(hbel'.block w.heap.size (by omega)).trans HZ4.out,HB4.out.trans (hbel'.mono (by omega)),by have:=hbel'.size;omega⟩
       have hq:=hbel'.block (w.heap.size+1) (by omega)
       exact⟨by rw[zK (w:=W4) hq];exact HR4.out.text,by rw[zK (w:=W4) hq];exact HR4.out.at',fun o=>by rw[World.frozen?_of_block (w:=W4) hq];exact HR4.out.free o,zT HR4.out.lt hbel'.size⟩
     ·rw[if_neg hok]at hst
      generalize q2H s i=q at *
      obtain⟨p1,p2,hp⟩:=q
      simp only[]at hok hin hst
      have hok':p1=false:=by simpa using hok
      subst hok'
      simp only[Sum.inl.injEq]at hst
      subst hst
      clear hin HST hok hf'
      go_wp2_with fail
      refine(HH.out).mono ?_
      rintro e w3 ⟨rfl,r3,o3⟩
      have z3:=(o3.block w.heap.size (by omega) (by simp)).trans HZ.out
      have b3:Below w.heap.size w w3:=HB.out.trans (o3.below (by omega) (by simp))
      obtain⟨W4,S4,g4,b4,z4⟩:=qI (P:=Tryz.prog) 130 w3 z11 #[.int .u8 (zn hp.nm 0),.int .u8 (zn hp.nm 1),.int .u8 (zn hp.nm 2),.int .u8 (zn hp.nm 3),.int .u8 (zn hp.nm 4),.int .u8 (zn hp.nm 5),.int .u8 (zn hp.nm 6),.int .u8 (zn hp.nm 7),.int .i64 (hp.ds.getD 0 0:Nat),.int .i64 (hp.ds.getD 1 0:Nat),.int .i64 hp.ds.length] (by kernel_rfl) rfl (by simp[Value.oneCell'])
      have Z4:=(b4.block w.heap.size (by have:=o3.size;omega)).trans z3
      have R4:=r3.only (OnlyB.of_below (bl:=[]) b4) (by simp)
      have HB4:=zb (b3.trans (b4.mono b3.size))
      have hs4:w.heap.size+2≤W4.heap.size:=by have:=o3.size;omega
      have hl4:w3.heap.size<W4.heap.size:=by omega
      obtain⟨V,hV⟩:∃V,V=q4A hp:=⟨_,rfl⟩
      have S4':(Instr.storeAt 130 (.pointer (some ⟨w3.heap.size,0,none⟩)) V).run Tryz.prog (w3.alloc (.cells z11 130))=.ok () W4:=by rw[hV];exact S4
      rw[←hV]
      have z0:=zC _ _ 0 _ _ _ Z4
      have z1:=zC _ _ 1 _ _ _ Z4
      have y0:=fun j=>zF _ _ j _ _ Z4
      simp only[gz]at z0 z1
      have d1:=R4.at'
      have hlz:w.heap.size<W4.heap.size:=by omega
      have hl5:=R4.lt
      clear r3 o3 z3 b3 g4 b4 z4 S4 hV HH HO HZ HRD HB R4 Z4 c1
      go_wp2_with (refine ze rfl 130 (.tmp 9) (.tmp 34) rfl ⟨w3.heap.size,0,none⟩ V rfl rfl W4 S4' ?_)
      go_region
      go_wp2_with fail
      exact zP (v:=.tuple #[.agg q0i,.int .i64 p2,.bool false]) (by simp[results,Tryz.results38,go_sem,z0,z1]) rfl ⟨rfl,((HB4.out.setCell (zL _) _).setCell (zL _) _).drew⟩
    ·have hst:=HST.out
     have hfin:q2g s f i acc=.inr acc:=by
      cases f with
      |zero=>rfl
      |succ f=>rw[q2g,if_neg hil]
     rw[hfin]at hst
     simp at hst
  ·rw[if_neg h2]at hR
   have HT:=zb (fun br W (h:Rdr W br s 0)=>q1V s hs br 0 (by omega) 64 h1 W h)
   have HS:=zb (fun br W (h:Rdr W br s 1)=>q9x s hs br 1 (by omega) W h (stF s 5 0 1) rfl)
   generalize stF s 5 0 1=q at *
   obtain⟨q1,q2,q3⟩:=q
   simp only[Sum.inl.injEq]at hR h2
   subst hR
   have hff:(q1&&decide (1<q3))=false:=by
    cases q1
    ·rfl
    ·simp at h2;simp;omega
   have HFF:=zb hff
   clear h1 hin h2 hff
   go_enter Tryz.func38,Tryz.ntmps38
   go_wp2_with fail
   have R0:Rdr ((w.alloc (.cells q0i 92)).alloc (.cells #[bs s,.int .i64 0] 122)) (w.heap.size+1) s 0:=by
    have hg:=zN (w.alloc (.cells q0i 92)) (.cells #[bs s,.int .i64 0] 122)
    have hg':((w.alloc (.cells q0i 92)).alloc (.cells #[bs s,.int .i64 0] 122)).heap[w.heap.size+1]?=some (.cells #[bs s,.int .i64 0] 122 (0,0)):=by simpa using hg
    exact⟨by rw[zC _ _ 0 _ _ _ hg'];rfl,by rw[zC _ _ 1 _ _ _ hg'];rfl,fun o=>zF _ _ o _ _ hg',by simp⟩
   have Z0:((w.alloc (.cells q0i 92)).alloc (.cells #[bs s,.int .i64 0] 122)).heap[w.heap.size]?=some (.cells q0i 92 (0,0)):=by rw[zO _ _ (by simp)];exact zN _ _
   have B0:Below w.heap.size w ((w.alloc (.cells q0i 92)).alloc (.cells #[bs s,.int .i64 0] 122)):=((zB _ _).alloc (zL _) _).alloc (by simp) _
   have s0:((w.alloc (.cells q0i 92)).alloc (.cells #[bs s,.int .i64 0] 122)).heap.size=w.heap.size+2:=by simp
   generalize (w.alloc (.cells q0i 92)).alloc (.cells #[bs s,.int .i64 0] 122)=W0 at *
   refine(HT.out _ _ R0).mono ?_
   rintro e w1 ⟨rfl,r1,o1⟩
   have HR1:=zb r1
   have HO1:=zb o1
   have HB0:=zb B0
   have HZ0:=zb Z0
   clear r1 o1 R0 HT B0 Z0
   go_wp2_with fail
   refine(HS.out _ _ HR1.out).mono ?_
   rintro e w2 ⟨⟨v,rfl,hv⟩,r2,o2⟩
   have O2:=HO1.out.trans o2
   have Z2:w2.heap[w.heap.size]?=some (.cells q0i 92 (0,0)):=(O2.block w.heap.size (by omega) (by simp)).trans HZ0.out
   have HB2:Hid (Below w.heap.size w w2):=zb (HB0.out.trans (O2.below (by omega) (by simp)))
   have hs2:w.heap.size+2≤w2.heap.size:=by have:=O2.size;omega
   have z0:=zC _ _ 0 _ _ _ Z2
   have z1:=zC _ _ 1 _ _ _ Z2
   have y0:=fun j=>zF _ _ j _ _ Z2
   simp only[gz]at z0 z1
   have d1:=r2.at'
   have hlz:w.heap.size<w2.heap.size:=by omega
   have hl5:=r2.lt
   rw[HFF.out]
   clear r2 o2 O2 Z2 HR1 HO1 HS HB0 HZ0 hv s0 W0
   go_wp2_with fail
   go_region
   go_wp2_with fail
   exact zP (v:=.tuple #[.agg q0i,.int .i64 q3,.bool false]) (by simp[results,Tryz.results38,go_sem,z0,z1]) rfl ⟨rfl,((HB2.out.setCell (zL _) _).setCell (zL _) _).drew⟩
 ·rw[if_neg h1]at hR
  simp only[Sum.inl.injEq]at hR
  subst hR
  have HT:=zb (fun br W (h:Rdr W br s 0)=>q3v s hs br 0 (by omega) 64 h1 W h)
  clear h1
  go_enter Tryz.func38,Tryz.ntmps38
  go_wp2_with fail
  have R0:Rdr ((w.alloc (.cells q0i 92)).alloc (.cells #[bs s,.int .i64 0] 122)) (w.heap.size+1) s 0:=by
   have hg:=zN (w.alloc (.cells q0i 92)) (.cells #[bs s,.int .i64 0] 122)
   have hg':((w.alloc (.cells q0i 92)).alloc (.cells #[bs s,.int .i64 0] 122)).heap[w.heap.size+1]?=some (.cells #[bs s,.int .i64 0] 122 (0,0)):=by simpa using hg
   exact⟨by rw[zC _ _ 0 _ _ _ hg'];rfl,by rw[zC _ _ 1 _ _ _ hg'];rfl,fun o=>zF _ _ o _ _ hg',by simp⟩
  have Z0:((w.alloc (.cells q0i 92)).alloc (.cells #[bs s,.int .i64 0] 122)).heap[w.heap.size]?=some (.cells q0i 92 (0,0)):=by rw[zO _ _ (by simp)];exact zN _ _
  have B0:Below w.heap.size w ((w.alloc (.cells q0i 92)).alloc (.cells #[bs s,.int .i64 0] 122)):=((zB _ _).alloc (zL _) _).alloc (by simp) _
  have s0:((w.alloc (.cells q0i 92)).alloc (.cells #[bs s,.int .i64 0] 122)).heap.size=w.heap.size+2:=by simp
  generalize (w.alloc (.cells q0i 92)).alloc (.cells #[bs s,.int .i64 0] 122)=W0 at *
  refine(HT.out _ _ R0).mono ?_
  rintro e w1 ⟨rfl,b1⟩
  have r1:=R0.only (OnlyB.of_below (bl:=[]) b1) (by simp)
  have Z2:=(b1.block w.heap.size (by omega)).trans Z0
  have HB2:Hid (Below w.heap.size w w1):=zb (B0.trans (b1.mono (by omega)))
  have z0:=zC _ _ 0 _ _ _ Z2
  have z1:=zC _ _ 1 _ _ _ Z2
  have y0:=fun j=>zF _ _ j _ _ Z2
  simp only[gz]at z0 z1
  have d1:=r1.at'
  have hlz:w.heap.size<w1.heap.size:=by have:=b1.size;omega
  have hl5:=r1.lt
  clear r1 b1 Z2 R0 Z0 B0 s0 W0 HT
  go_wp2_with fail
  go_region
  go_wp2_with fail
  exact zP (v:=.tuple #[.agg q0i,.int .i64 0,.bool false]) (by simp[results,Tryz.results38,go_sem,z0,z1]) rfl ⟨rfl,((HB2.out.setCell (zL _) _).setCell (zL _) _).drew⟩
end Go.Proofs.YtiamjjonoeaggaaGreatDoor
