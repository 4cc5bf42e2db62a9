import Derived.Test.YtiamjjonoeaggabGreatDoorGA
import Derived.Test.YtiamjjonoeaggabGreatDoorGB
import Derived.Test.YtiamjjonoeaggabGreatDoorG44
set_option maxRecDepth 100000
set_option maxHeartbeats 16000000
namespace Go.Proofs.YtiamjjonoeaggabGreatDoor
open Go.RowKit
def LkRel (bw:Nat)(s:St)(w:World)(g:Nat)(vi:Value)(wr:World):Prop:=∃k:Nat,k≤s.LS.length∧s.LS.length-k≤g∧vi=.int .i64 k∧Wld wr bw s∧Below w.heap.size w wr
theorem law_looks (bw:Nat)(s:St)(w:World)(h:Wld w bw s)(hg:Grp s.LS)(hL:s.LS.length≤10000000) :
  Calls Tryz.prog 21 #[.pointer (some ⟨bw,0,none⟩)] w fun e w'=>e=.returned (.bool true)∧Below w.heap.size w w':=by
 have H:=zb h
 have HG:=zb hg
 have HSM:Hid (∀i,i<s.LS.length→flR (lg s.LS i).cf (lg s.LS i).n=flR (lg s.LS i).f (lg s.LS i).n):=zb (fun i hi=>by obtain⟨e1,e2⟩:=hg.same i hi;rw[e1,e2])
 generalize hll:s.LS.length=L4 at *
 have HLL:=zb hll
 have HSV:Hid (∀W k,Wld W bw s→k<L4→Calls Tryz.prog 44 #[(lg s.LS k).v,(lg s.LS k).cv] W fun e w'=>e=.returned (.bool true)∧Below W.heap.size W w'):=zb (fun W k hW hk=>by
  have hm:=q8y (LS:=s.LS) (i:=k) (by rw[HLL.out];exact hk)
  have hc:=hW.cop _ hm
  rw[HSM.out k hk]at hc
  exact q9Y _ _ (lg s.LS k).n _ _ _ ⟨_,_,_,flR_vc _ _⟩ W (hW.row _ hm) hc)
 have HCL:Hid (∀W,Wld W bw s→∀k,k<L4→∃gl kl gw kw,W.cell? ⟨bw,2,none⟩=some (.slice (some ⟨gl,0,none⟩) L4 kl)∧W.cell? ⟨bw,3,none⟩=some (.slice (some ⟨gw,0,none⟩) L4 kw)∧(∀W',Below W.heap.size W W'→W'.cell? ⟨bw,2,none⟩=some (.slice (some ⟨gl,0,none⟩) L4 kl)∧W'.cell? ⟨gl,k,none⟩=some (lg s.LS k).v∧W'.cell? ⟨bw,3,none⟩=some (.slice (some ⟨gw,0,none⟩) L4 kw)∧W'.cell? ⟨gw,k,none⟩=some (lg s.LS k).cv)∧L4≤kl∧L4≤kw∧L4≤9223372036854775807):=zb (fun W hW k hk=>by
  obtain⟨gl,kl,gw,kw,e1,e2,e3,e4,l1,l2,b1,m1,b2,m2,_,_⟩:=hW.lists (by rw[HLL.out];omega)
  rw[HLL.out]at e1 e2 e3 e4 b1 b2
  have c2:=zC _ _ 2 _ _ _ hW.blk
  have c3:=zC _ _ 3 _ _ _ hW.blk
  simp only[List.getElem?_toArray,List.getElem?_cons_zero,List.getElem?_cons_succ,e1,e2]at c2 c3
  exact⟨gl,kl,gw,kw,c2,c3,fun W' hb=>⟨(zo hb _ _ hW.lt).trans c2,(zo hb _ _ l1).trans (e3 k hk),(zo hb _ _ hW.lt).trans c3,(zo hb _ _ l2).trans (e4 k hk)⟩,b1,b2,q3U b1 m1⟩)
 have hlt:=h.lt
 have HC0:Hid (∀W,Wld W bw s→∃la lc,W.cell? ⟨bw,2,none⟩=some (.slice la L4 lc)):=zb (fun W hW=>by
  obtain⟨la,lc,e⟩:=qv hW.ls
  have c2:=zC _ _ 2 _ _ _ hW.blk
  simp only[gz]at c2
  rw[e,HLL.out]at c2
  exact⟨la,lc,c2⟩)
 clear h hg hll HSM
 go_enter Tryz.func21,Tryz.ntmps21
 go_wp2_with fail
 go_loopg [3] L4 (fun g vi wr=>LkRel bw s w g vi wr)
 case atStart=>exact⟨0,zZ _,by rw[HLL.out];omega,rfl,H.out,zB _ _⟩
 case round =>
  obtain⟨k,hk,hgk,rfl,hw,hb⟩:=hrel
  rw[HLL.out]at hk hgk
  have HGK:=zb hgk
  have HW:=zb hw
  have HB:=zb hb
  have hltr:=hw.lt
  obtain⟨la,lc,c2⟩:=HC0.out _ hw
  by_cases hkn:k<L4
  ·obtain⟨gl,kl,gw,kw,c2',c3,hst,b1,b2,b3⟩:=HCL.out _ hw k hkn
   rw[c2']at c2
   obtain⟨rfl,rfl⟩:some ⟨gl,0,none⟩=la∧kl=lc:=by simpa using c2
   obtain⟨va,vc,ev⟩:=qv (hw.row _ (q8y (LS:=s.LS) (i:=k) (by rw[HLL.out];exact hkn)))
   obtain⟨ua,uc,eu⟩:=qv (hw.cop _ (q8y (LS:=s.LS) (i:=k) (by rw[HLL.out];exact hkn)))
   have HSV1:=zb (fun W hW=>HSV.out W k hW hkn)
   have HST:=zb hst
   rw[ev,eu]at HSV1 HST
   have C0:=HST.out _ ((zB _ wr).drew)
   generalize (lg s.LS k).n=nk at *
   clear hw hb hgk hst ev eu c2
   go_wp2_with fail
   refine wp_region_held_drew (S:=fun w'=>w'.cell? ⟨bw,2,none⟩=some (.slice (some ⟨gl,0,none⟩) L4 kl)∧w'.cell? ⟨gl,k,none⟩=some (.slice va nk vc)∧w'.cell? ⟨bw,3,none⟩=some (.slice (some ⟨gw,0,none⟩) L4 kw)∧w'.cell? ⟨gw,k,none⟩=some (.slice ua nk uc)) (by kernel_rfl) C0 (fun hS0=>?_)
   simp only[rz,Nat.zero_add,Nat.reduceAdd]
   refine tq 0 14 ?_
   simp only[Act.put,pz]
   refine tq 1 15 ?_
   simp only[Act.put,pz]
   refine tq 2 16 ?_
   simp only[Act.put,pz]
   refine tq 3 17 ?_
   simp only[Act.put,pz]
   refine tq 4 18 ?_
   simp only[Act.put,pz]
   refine tq 5 19 ?_
   simp only[Act.put,pz]
   refine tq 6 20 ?_
   simp only[Act.put,pz]
   refine tq 7 21 ?_
   simp only[Act.put,pz]
   refine tq 8 22 ?_
   simp only[Act.put,pz]
   refine tq 9 23 ?_
   simp only[Act.put,pz]
   refine tq 10 24 ?_
   simp only[Act.put,pz]
   refine tq 11 25 ?_
   simp only[Act.put,pz]
   refine tq 12 26 ?_
   simp only[Act.put,pz]
   refine tq 13 27 ?_
   simp only[Act.put,pz]
   refine rd1 14 rfl fun K hK=>?_
   go_simp
   refine(HSV1.out _ (HW.out.below ((zB _ wr).drew))).mono ?_
   rintro e w5 ⟨rfl,b5⟩
   have B5:Below wr.heap.size wr w5:=((zB _ wr).drew).trans (b5.mono (zL _))
   go_simp
   refine hK.out _ _ (HST.out _ B5) (fun hS1=>?_)
   clear hK K b5 C0
   simp only[pz]
   refine tq 15 4 ?_
   simp only[Act.put,pz]
   refine zD (by kernel_rfl) ?_ _
   have HB5:=zb B5
   clear hS0 hS1 B5
   go_wp2_with fail
   have hg1:0<gk:=by have:=HGK.out;omega
   go_roundg (gk-1)
   case measure=>omega
   case rel=>exact⟨k+1,by rw[HLL.out];omega,by rw[HLL.out];have:=HGK.out;omega,by go_num,HW.out.below HB5.out,HB.out.trans (HB5.out.mono HB.out.size)⟩
  ·clear hw hb hgk
   go_wp2_with fail
   go_ret
   exact⟨rfl,HB.out⟩
theorem law_all0 (ao:OA)(len cap:Nat)(K A B:Nat→Int)(S:Nat→By)(w:World)(h:0<len→∃b off,ao=some ⟨b,off,none⟩∧Scr4 w b off len K A B S)(hlen:len≤1048576) :
  Calls Tryz.prog 5 #[.slice ao len cap] w fun e w'=>e=.returned (.bool true)∧Below w.heap.size w w':=by
 have H:=zb h
 clear h
 have HM0:=zb (j6Q simpleS (by decide) w.heap.size st0 _ (wld_new w) Grp.nil (by decide))
 go_enter Tryz.func5,Tryz.ntmps5
 go_wp2_with fail
 refine(HM0.out).mono ?_
 rintro e w1 ⟨rfl,s1,p1,p2,p3,p4,p5,p6,p7⟩
 have HW1:=zb p1
 have HG1:=zb p2
 have HB1:Hid (Below w.heap.size w w1):=zb (((zB _ _).alloc (zL _) _).trans p7)
 have HL1:Hid (s1.MS.length≤1∧s1.LS.length≤4∧s1.mc≤1):=zb ⟨p3,p5,p6⟩
 clear p1 p2 p3 p4 p5 p6 p7 HM0
 go_wp2_with fail
 go_loopg [4,5] len (fun g vok vi wr=>PlRel len w g vok vi wr)
 case atStart=>exact⟨0,s1,zZ _,by omega,rfl,rfl,HW1.out,HG1.out,HL1.out.1,HL1.out.2.1,HL1.out.2.2,HB1.out⟩
 case round =>
  obtain⟨k,s,hk,hg,rfl,rfl,q1,q2,q3,q4,q5,q6⟩:=hrel
  have HG:=zb hg
  have HW:=zb q1
  have HGR:=zb q2
  have HB:=zb q6
  have HLN:Hid (s.MS.length≤k+1∧s.LS.length≤4*k+4∧s.mc≤k+1):=zb ⟨q3,q4,q5⟩
  clear hg q1 q2 q3 q4 q5 q6
  by_cases hkn:k<len
  ·obtain⟨b,off,rfl,hs0⟩:=H.out (by omega)
   have HS:=zb (hs0.below HB.out)
   clear hs0
   obtain⟨sA,sB,sS⟩:=HS.out.small k hkn
   have HST:=zb (law_step w.heap.size s (K k) (A k) (B k) (S k) sS sA sB wr HW.out HGR.out (by have:=HLN.out.1;omega) (by have:=HLN.out.2.1;omega) (by have:=HLN.out.2.2;omega))
   have LD:=run_loadAt_mid (P:=Tryz.prog) wr b (off+k*4) 68 _ _ (HS.out.cells k hkn) Tryz.underlying68 rfl (by kernel_rfl)
   have hbl:b<wr.heap.size:=HS.out.lt
   obtain⟨V,hV⟩:∃V,V=Value.agg #[.int .i64 (K k),.int .i64 (A k),.int .i64 (B k),bs (S k)]:=⟨_,rfl⟩
   rw[←hV]at HST
   rw[show Value.agg ([Value.int .i64 (K k),.int .i64 (A k),.int .i64 (B k),bs (S k)]:List Value).toArray=V by rw[hV]]at LD
   clear hV sA sB sS
   go_wp2_with (refine zg rfl 68 (.tmp 22) rfl ⟨b,off+k*4,none⟩ V rfl LD ?_)
   refine(HST.out).mono ?_
   rintro e w2 ⟨rfl,s',p1,p2,p3,p4,p5,p6,p7⟩
   have HW2:=zb p1
   have HG2:=zb p2
   have HB2:Hid (Below w.heap.size w w2):=zb (HB.out.trans p7)
   have HL2:Hid (s'.MS.length≤k+2∧s'.LS.length≤4*k+8∧s'.mc≤k+2):=zb ⟨by have:=HLN.out.1;omega,by have:=HLN.out.2.1;omega,by have:=HLN.out.2.2;omega⟩
   clear p1 p2 p3 p4 p5 p6 p7 HST LD
   go_wp2_with fail
   obtain⟨go,hgo⟩:∃go,go=gk:=⟨_,rfl⟩
   rw[←hgo]at HG
   go_loopg [4,6] s'.MS.length (fun g vok vi wr2=>SnRel w s' g vok vi wr2)
   case atStart=>exact⟨0,zZ _,by omega,rfl,rfl,HW2.out,HB2.out⟩
   case round =>
    obtain⟨k2,hk2,hg2,rfl,rfl,q1,q2⟩:=hrel
    have HG3:=zb hg2
    have HW3:=zb q1
    have HB3:=zb q2
    obtain⟨ax,kx,ex⟩:=qv q1.xs
    have c0:=zC _ _ 0 _ _ _ q1.blk
    simp only[List.getElem?_toArray,List.getElem?_cons_zero]at c0
    rw[ex]at c0
    have hlt2:=q1.lt
    have HSN:=zb (fun hh:k2<s'.MS.length=>law_seen w.heap.size s' k2 hh _ q1)
    have HLO:=zb (law_looks w.heap.size s' _ q1 HG2.out (by have:=HL2.out.2.1;omega))
    have hmb:s'.MS.length≤2000000:=by have:=HL2.out.1;omega
    generalize hml:s'.MS.length=ml at *
    clear hg2 q1 q2 ex
    by_cases hkm:k2<ml
    ·go_wp2_with fail
     refine(HSN.out hkm).mono ?_
     rintro e w3 ⟨rfl,b3⟩
     have HB4:Hid (Below w.heap.size w w3):=zb (HB3.out.trans (b3.mono (by omega)))
     have HW4:=zb (HW3.out.below b3)
     clear b3
     go_wp2_with fail
     have hg1:0<gk:=by have:=HG3.out;omega
     go_roundg (gk-1)
     case measure=>omega
     case rel=>exact⟨k2+1,by omega,by have:=HG3.out;omega,rfl,by go_num,HW4.out,HB4.out⟩
    ·go_wp2_with fail
     refine HLO.out.mono ?_
     rintro e w3 ⟨rfl,b3⟩
     have HB4:Hid (Below w.heap.size w w3):=zb (HB3.out.trans (b3.mono (by omega)))
     have HW4:=zb (HW3.out.below b3)
     clear b3
     go_wp2_with fail
     have hg1:0<go:=by have:=HG.out;omega
     go_roundg (go-1)
     case measure=>omega
     case rel=>exact⟨k+1,s',by omega,by have:=HG.out;omega,rfl,by go_num,HW4.out,HG2.out,by have:=HL2.out.1;omega,by have:=HL2.out.2.1;omega,by have:=HL2.out.2.2;omega,HB4.out⟩
  ·go_wp2_with fail
   go_ret
   exact⟨rfl,HB.out⟩
end Go.Proofs.YtiamjjonoeaggabGreatDoor
