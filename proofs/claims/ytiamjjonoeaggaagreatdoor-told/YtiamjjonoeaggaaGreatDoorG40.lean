import Derived.Test.YtiamjjonoeaggaaGreatDoorGA
import Derived.Test.YtiamjjonoeaggaaGreatDoorGB
import Derived.Test.YtiamjjonoeaggaaGreatDoorG38
import Derived.Test.YtiamjjonoeaggaaGreatDoorG39
set_option maxRecDepth 100000
set_option maxHeartbeats 16000000
namespace Go.Proofs.YtiamjjonoeaggaaGreatDoor
open Go.RowKit
structure ToAt (w W:World)(b gn cn b5:Nat)(G:zh)(MA:Array Value)(base:Nat)(vl:Value)(TX:List LnV)(LG:List LPt)(told:Nat)(ended:Bool):Prop where
 mon:∃ao cap PL,MonAt W b gn cn ao cap G PL told ended∧zA PL=LG∧∀q∈q1Z ao,w.heap.size≤q
 made:W.heap[b5]?=some (.cells MA 23 (0,0))
 row:W.ownsRow base 44 4 vl TX.length (q1U TX)
 bel:Below w.heap.size w W
 mb:w.heap.size≤b
theorem ToAt.below {w W W':World}{b gn cn b5:Nat}{G:zh}{MA:Array Value}{base:Nat}{vl:Value}{TX:List LnV}{LG:List LPt}{told:Nat}{ended:Bool}(h:ToAt w W b gn cn b5 G MA base vl TX LG told ended)(hb:Below W.heap.size W W'):ToAt w W' b gn cn b5 G MA base vl TX LG told ended:=by
 obtain⟨ao,cap,PL,h1,h2,h3⟩:=h.mon
 exact⟨⟨ao,cap,PL,h1.below hb,h2,h3⟩,(hb.block _ (zd h.made)).trans h.made,zo h.row hb,h.bel.trans (hb.mono h.bel.size),h.mb⟩
theorem ToAt.turned {w W W':World}{b gn cn b5:Nat}{G:zh}{MA:Array Value}{base:Nat}{vl:Value}{TX:List LnV}{LG LG':List LPt}{told told':Nat}{ended ended':Bool}{ao ao':OA}{cap cap':Nat}{PL PL':List PPt}(h:ToAt w W b gn cn b5 G MA base vl TX LG told ended)(h1:MonAt W b gn cn ao cap G PL told ended)(h3:∀q∈q1Z ao,w.heap.size≤q)
  (m1:MonAt W' b gn cn ao' cap' G PL' told' ended')(m2:zA PL'=LG')(m3:OnlyB (b::q1Z ao) W W')(m4:∀q∈q1Z ao',q∈q1Z ao∨W.heap.size≤q):ToAt w W' b gn cn b5 G MA base vl TX LG' told' ended':=by
 refine⟨⟨ao',cap',PL',m1,m2,fun q hq=>?_⟩,?_,q6V h.row m3 h1.kinds (by decide) (by decide),h.bel.trans (m3.below h.bel.size (fun q hq=>?_)),h.mb⟩
 ·rcases m4 q hq with e|e
  ·exact h3 q e
  ·have:=h.bel.size;omega
 ·refine(m3.block b5 (zd h.made) (fun hm=>?_)).trans h.made
  obtain⟨cs,t,e1,e2⟩:=h1.kinds b5 hm
  rw[h.made]at e1
  simp only[Option.some.injEq,Obj.cells.injEq]at e1
  rcases e2 with e2|e2
  ·rw[e2]at e1;exact absurd e1.2.1 (by decide)
  ·rw[e2]at e1;exact absurd e1.2.1 (by decide)
 ·rcases List.mem_cons.1 hq with rfl|e
  ·exact h.mb
  ·exact h3 q e
def TjRel (tk d:Nat)(w:World)(g:Nat)(vt vj:Value)(wr:World):Prop:=∃j:Nat,j≤d∧d-j≤g∧vj=.int .i64 j∧vt=.int .i64 ((tk+j:Nat):Int)∧Below w.heap.size w wr
def TdRel (w:World)(b gn cn b5:Nat)(G:zh)(MA:Array Value)(base:Nat)(vl:Value)(TX:List LnV)(LG:Nat→List LPt)(TD:Nat→Nat)(n:Nat)(g:Nat)(vt vk:Value)(wr:World):Prop:=
 ∃k:Nat,k≤n∧n-k≤g∧vk=.int .i64 k∧vt=.int .i64 (TD k)∧ToAt w wr b gn cn b5 G MA base vl TX (LG k) (TD k) false
theorem kep_Told (raw lines:By)(hr:raw.length≤maxLen)(hl:lines.length≤maxLen)(w:World)(ht:q8i w) :
  Calls Tryz.prog 3 #[bs raw,bs lines] w fun e w'=>e=.returned (.bool true)∧Below w.heap.size w w':=by
 have HFM:=zb (j3r raw hr 3 (by omega) w)
 have HLG:=zb (fun W q=>j1d lines hl W q)
 have fa:=fine3 raw
 have HT:=zb ht
 clear ht hr hl
 have HRB:Hid (zf (mkF raw 3 0).1≤1000):=zb (by have:=reach_mk raw 3 0;omega)
 generalize (mkF raw 3 0).1=F at *
 have hh8:hgt F≤8:=by have:=fa.hgt;omega
 have hl240:(zy F).length≤240:=by have:=fa.len;omega
 have HCK:=zb (fun W=>check_made F fa.fine hh8 hl240 W)
 obtain⟨hck,hbr⟩:=j0O fa.fine hh8 hl240
 obtain⟨hG,hah,_⟩:=j3t (s:=zy F) (by rw[hck])
 have HBG:=zb (fun W=>j9c (zy F) (by rw[hck]) (by unfold maxLen;omega) W)
 have HPR:=zb (fun i hi base v W hv=>proper_ver F lines 0 i hi base v W hv)
 have hlen:=q8J lines 0
 have HLF:=zb (log_facts lines 0)
 have HOK:=zb (log_oks lines 0)
 have hrc:zf (qK (zy F))=zf F:=bareT_eq hbr
 have HTB:Hid (∀L a c,q0D (qK (zy F)) L a c=q0D F L a c):=zb (fun L a c=>j9Z hbr L a c)
 have HED:=zb (fun b gn cn ao cap PL told W h=>vig_End b gn cn ao cap (qK (zy F)) hG PL told false W h)
 have HSE:=zb (fun b gn cn ao cap PL told ended W h=>vig_Seen b gn cn ao cap (qK (zy F)) PL told ended W h)
 obtain⟨X,hX⟩:∃X,X=q0T lines 0:=⟨_,rfl⟩
 rw[←hX]at HLG HPR hlen HLF HOK
 obtain⟨TD,hTD⟩:∃TD:Nat→Nat,TD=fun k=>q0u (q0A ((X.map q4t).take k)) (zf F):=⟨_,rfl⟩
 have hT0:TD 0=0:=by rw[hTD];rfl
 have HTF:Hid (∀k,k<X.length→TD (k+1)≤k+1∧TD k≤TD (k+1)∧(∀i,i<TD (k+1)→zf F<(tmL (q7G X) k:Int)-(tmL (q7G X) i:Int))∧(TD (k+1)≤k→¬zf F<(tmL (q7G X) k:Int)-(tmL (q7G X) (TD (k+1)):Int))):=zb (fun k hk=>by
  have hk2:k<(X.map q4t).length:=by simpa using hk
  obtain⟨t1,t2,t3⟩:=told_facts (X.map q4t) (zf F) k hk2
  have t4:=j2R (j3I ((X.map q4t).take k)) (X.map q4t)[k] (zf F)
  rw[←q9v _ k hk2]at t4
  rw[hTD]
  exact⟨t1,t4,t2,t3⟩)
 have HFD:Hid (∀(wr:World) (b gn cn:Nat) (ao:OA) (cap:Nat) (PL:List PPt) (k:Nat) (hk:k<X.length),MonAt wr b gn cn ao cap (qK (zy F)) PL (TD k) false→zA PL=q0A ((X.map q4t).take k) →
   Calls Tryz.prog 16 #[.pointer (some ⟨b,0,none⟩),bs ((X.map q4I)[k]'(by simpa using hk)).2.2.2] wr fun e w'=>∃v,e=.returned (.tuple #[v,.int .i64 0,.int .i64 0]) ∧
   w'.ownsRow wr.heap.size 49 12 v (q0D F (q7G X) (TD k) (TD (k+1))).length (qn (q0D F (q7G X) (TD k) (TD (k+1)))) ∧
   ∃ao' cap' PL',MonAt w' b gn cn ao' cap' (qK (zy F)) PL' (TD (k+1)) false∧zA PL'=q0A ((X.map q4t).take (k+1))∧OnlyB (b::q1Z ao) wr w'∧∀q∈q1Z ao',q∈q1Z ao∨wr.heap.size≤q):=zb (fun wr b gn cn ao cap PL k hk hM hP=>by
  have h:=run_feed (wr:=wr) (b:=b) (gn:=gn) (cn:=cn) (ao:=ao) (cap:=cap) (PL:=PL) hG hah (ls:=X.map q4t) (k:=k) (by simpa using hk) (HOK.out k (by simpa using hk)) (by rw[hrc];rw[hTD]at hM;exact hM) hP
  rw[hrc,HTB.out]at h
  rw[hTD]
  exact h)
 have hTD2:∀k,k≤X.length→TD k≤k:=fun k hk=>by
  cases k with
  |zero=>rw[hT0];exact zL _
  |succ k=>exact(HTF.out k (by omega)).1
 have HT2:=zb hTD2
 generalize qK (zy F)=G at *
 have cT:(q0o F)[0]?=some (bs (zy F)):=rfl
 have c2T:(q0o F)[2]?=some (.bool (zg F [120])):=rfl
 have c3T:(q0o F)[3]?=some (.bool (zg F [121])):=rfl
 have c4T:(q0o F)[4]?=some (.int .i64 (zf F)):=rfl
 have HAO:=zb (q5G F)
 have HAI:=zb (q1y F)
 have HAZ:Hid ((q0o F).size=5):=zb rfl
 have HWH:Hid (∀a c j (h:j<(q0D F (q7G X) a c).length),(q0D F (q7G X) a c)[j]=verR F (q7G X) (a+j)):=zb (fun a c j h=>tell_at F _ a c j h)
 have HTL:Hid (∀a c,(q0D F (q7G X) a c).length=c-a):=zb (fun a c=>q1W F _ a c)
 obtain⟨VV,hVV⟩:∃VV:Nat→Value,VV=fun i=>Value.agg (j0g (verR F (q7G X) i)).toArray:=⟨_,rfl⟩
 have HPR2:Hid (∀(i:Nat),i<X.length→∀(base:Nat) (v:Value) (W:World),W.ownsRow base 44 4 v (X.map q4I).length (q1U (X.map q4I))→Calls Tryz.prog 17 #[VV i,.int .i64 i,v,.agg (q0o F)] W fun e w'=>e=.returned (.bool true)∧Below W.heap.size W w'):=zb (fun i hi base v W hv=>by rw[hVV];exact HPR.out i hi base v W hv)
 have HLV:Hid (∀(a c j:Nat) (W:World) (base g cap:Nat),a+j<c→W.ownsRow base 49 12 (.slice (some ⟨g,0,none⟩) (c-a) cap) (c-a) (qn (q0D F (q7G X) a c))→(Instr.loadAt 49 (.pointer (some ⟨g,j*12,none⟩))).run Tryz.prog W=.ok (VV (a+j)) W):=zb (fun a c j W base g cap hj hv=>by
  have hlen2:(q0D F (q7G X) a c).length=c-a:=q1W F _ a c
  have:=ver_whole (X:=q0D F (q7G X) a c) (by rw[hlen2];exact hv) (k:=j) (by omega)
  rw[tell_at]at this
  rw[hVV]
  exact this)
 have HED2:Hid (∀(b gn cn:Nat) (ao:OA) (cap:Nat) (PL:List PPt) (told:Nat) (W:World),MonAt W b gn cn ao cap G PL told false→zA PL=q7G X→Calls Tryz.prog 19 #[.pointer (some ⟨b,0,none⟩)] W fun e w'=>∃v,e=.returned (.tuple #[v,.int .i64 0])∧w'.ownsRow W.heap.size 49 12 v (X.length-told) (qn (q0D F (q7G X) told X.length))∧∃ao' cap' PL',MonAt w' b gn cn ao' cap' G PL' X.length true∧zA PL'=q7G X∧OnlyB (b::q1Z ao) W w'∧(∀q∈q1Z ao',q∈q1Z ao∨W.heap.size≤q)):=zb (fun b gn cn ao cap PL told W h hP=>by
  refine(HED.out b gn cn ao cap PL told W h).mono ?_
  rintro e w' ⟨v,rfl,h1,ao',cap',PL',h2,h3,h4,h5⟩
  unfold endV at h1
  unfold endN at h2
  simp only[Bool.false_eq_true,if_false]at h1 h2
  rw[hP,q7t,HTB.out,q1W]at h1
  rw[hP,q7t]at h2
  exact⟨v,rfl,h1,ao',cap',PL',h2,h3.trans hP,h4,h5⟩)
 have HLC:Hid (∀(W:World) (base g cap i:Nat),i<X.length→W.ownsRow base 44 4 (.slice (some ⟨g,0,none⟩) X.length cap) (X.map q4I).length (q1U (X.map q4I))→W.cell? ⟨g,i*4+1,none⟩=some (.int .i64 (tmL (q7G X) i))):=zb (fun W base g cap i hi hv=>by
  have hl2:(X.map q4I).length=X.length:=by simp
  have:=(ln_cell (X:=X.map q4I) (by rw[hl2];rw[hl2]at hv;exact hv) (k:=i) (by rw[hl2];exact hi)).1
  rw[this,List.getElem_map,←(HLF.out i hi).1]
  rfl)
 have HTM:Hid (∀i,i<X.length→tmL (q7G X) i≤1000000):=zb (fun i hi=>(HLF.out i hi).2.2)
 have hpts:q0A ((X.map q4t).take X.length)=q7G X:=by
  unfold q7G
  rw[show X.length=(X.map q4t).length by simp,List.take_length]
 have HPT:=zb hpts
 have hr1:-1≤zf F:=q2O F
 have hr2:zf F≤1000:=HRB.out
 generalize tmL (q7G X)=TM at *
 generalize q0o F=MA at *
 generalize zg F [120]=fx at *
 generalize zg F [121]=fy at *
 generalize zf F=rc at *
 generalize zy F=TF at *
 clear hVV HPR HED HLF HWH HTL hpts hTD hTD2 hX fa hh8 hck hbr hG hah hrc HTB HOK
 go_enter Tryz.func3,Tryz.ntmps3
 go_wp2_with fail
 refine HFM.out.mono ?_
 rintro e w1 ⟨rfl,b1⟩
 obtain⟨W2,s1,s2,s3,s4⟩:=qI (P:=Tryz.prog) 23 w1 q4y MA HAI.out (by rw[HAZ.out];rfl) HAO.out
 have B2:Below w.heap.size w W2:=b1.trans (s3.mono b1.size)
 have hl2:w1.heap.size<W2.heap.size:=zd s2
 have hb5:w.heap.size≤w1.heap.size:=b1.size
 have c2:=(zC _ _ 0 _ _ _ s2).trans cT
 have HS:=zb s1
 have HB2:=zb B2
 have HM2:=zb s2
 have HC2:=zb c2
 clear b1 s1 s2 s3 s4 B2
 go_wp2_with (refine ze rfl 23 (.tmp 5) (.tmp 27) rfl ⟨w1.heap.size,0,none⟩ (.agg MA) rfl rfl W2 HS.out ?_)
 refine(HCK.out _).mono ?_
 rintro e w3 ⟨rfl,b3⟩
 have hl3:w1.heap.size<w3.heap.size:=zT hl2 b3.size
 have M3:=(b3.block _ hl2).trans HM2.out
 have k0:=(zC _ _ 0 _ _ _ M3).trans cT
 have k2:=(zC _ _ 2 _ _ _ M3).trans c2T
 have k3:=(zC _ _ 3 _ _ _ M3).trans c3T
 have k4:=(zC _ _ 4 _ _ _ M3).trans c4T
 have HM3:=zb M3
 have HB3:=zb (HB2.out.trans (b3.mono HB2.out.size))
 clear b3 M3 c2 HC2 HM2 HS
 go_wp2_with fail
 have B3a:Below w3.heap.size w3 (w3.alloc (.cells #[.bool fx,.bool fy,.int .i64 rc] 29)):=(zB _ _).alloc (zL _) _
 refine(HBG.out _).mono ?_
 rintro e w4 ⟨b,gn,cn,rfl,hb4,hM4,b4⟩
 have B4:Below w3.heap.size w3 w4:=B3a.trans (b4.mono B3a.size)
 have hl4:w1.heap.size<w4.heap.size:=zT hl3 B4.size
 have HM4:=zb ((B4.block _ hl3).trans HM3.out)
 have HB4:=zb (HB3.out.trans (B4.mono HB3.out.size))
 have HO4:=zb hM4
 have hbw:w.heap.size≤b:=by have:=HB3.out.size;have:=B3a.size;omega
 clear hM4 b4 B3a B4 hb4 k0 k2 k3 k4 HM3
 go_wp2_with fail
 refine(HLG.out _ (HT.out.below HB4.out (zL _))).mono ?_
 rintro e w5 ⟨v,rfl,r5,b5⟩
 have hTXL:(X.map q4I).length=X.length:=by simp
 have TO5:ToAt w w5 b gn cn w1.heap.size G MA w4.heap.size v (X.map q4I) (q0A ((X.map q4t).take 0)) 0 false:=
  ⟨⟨none,0,[],HO4.out.below b5,rfl,by simp[q1Z]⟩,(b5.block _ hl4).trans HM4.out,r5,HB4.out.trans (b5.mono HB4.out.size),hbw⟩
 obtain⟨la,lc,rfl⟩:=ql r5
 rw[hTXL]at TO5 ⊢
 have HTO5:=zb TO5
 clear r5 b5 TO5 HO4 HM4 HB4 HB3 HB2 HBG HCK HLG HFM HT
 go_wp2_with fail
 go_loopg [12,13] X.length (fun g vt vk wr=>TdRel w b gn cn w1.heap.size G MA w4.heap.size (.slice la X.length lc) (X.map q4I) (fun k=>q0A ((X.map q4t).take k)) TD X.length g vt vk wr)
 case atStart=>exact⟨0,zZ _,by omega,rfl,by rw[hT0];rfl,by rw[hT0];exact HTO5.out⟩
 case round =>
  obtain⟨k,hk,hg,rfl,rfl,hTo⟩:=hrel
  obtain⟨g1,hg1⟩:∃g1,g1=gk:=⟨_,rfl⟩
  have HG1:Hid (X.length-k≤g1):=zb (by omega)
  have HTO:=zb hTo
  clear hg hTo HTO5
  by_cases hkn:k<X.length
  ·skip
   have hlx:=HTO.out.row
   obtain⟨gl,lc',ea⟩:∃gl lc',Value.slice la X.length lc=.slice (some ⟨gl,0,none⟩) (X.map q4I).length lc':=zJ hlx (by simp;omega)
   obtain⟨rfl,rfl⟩:la=some ⟨gl,0,none⟩∧lc=lc':=by simp only[Value.slice.injEq]at ea;exact⟨ea.1,ea.2.2⟩
   have hN:(X.map q4I).length=X.length:=by simp
   obtain⟨ao,cap,PL,m1,m2,m3⟩:=HTO.out.mon
   have c3:=(ln_cell (X:=X.map q4I) (by rw[hN];rw[hN]at hlx;exact hlx) (k:=k) (by rw[hN];exact hkn)).2
   have hgl:gl<wr.heap.size:=World.block_lt_of_cell? wr _ c3
   have hcap:X.length≤lc:=by
    rw[hN]at hlx
    obtain⟨_,_,a1,_⟩:=q7p hlx
    exact a1
   have HF1:=zb (HFD.out wr b gn cn ao cap PL k hkn m1 m2)
   have HM1:=zb m1
   have HM3:=zb m3
   generalize (X.map q4I)[k].2.2.2=tx at *
   clear m1 m2 m3 ea hlx
   obtain⟨t1,t2,t3,t4⟩:=HTF.out k hkn
   have HT3:=zb t3
   have HT4:=zb t4
   clear t3 t4
   go_wp2_with fail
   refine HF1.out.mono ?_
   rintro e w6 ⟨v6,rfl,r6,ao',cap',PL',n1,n2,n3,n4⟩
   have HTO6:=zb (HTO.out.turned HM1.out HM3.out n1 n2 n3 n4)
   rw[q1W]at r6
   obtain⟨xa,xc,rfl⟩:=ql r6
   have HR6:=zb r6
   clear n1 n2 n3 n4 r6 HF1 HM1 HM3 HTO c3
   obtain⟨tk,htk⟩:∃tk,tk=TD k:=⟨_,rfl⟩
   obtain⟨te,htn⟩:∃te,te=TD (k+1):=⟨_,rfl⟩
   rw[←htk]at t2 HR6 ⊢
   rw[←htn]at t1 t2 HR6 HTO6 HT3 HT4 ⊢
   obtain⟨d,hd⟩:∃d,d=te-tk:=⟨_,rfl⟩
   rw[←hd]at HR6 ⊢
   have HD:=zb hd
   have htd:tk+d=te:=by omega
   have HTDD:=zb htd
   have hd12:d≤13:=by omega
   have HTN:=zb htn
   clear hd htd htk htn
   go_wp2_with fail
   go_loopg [12,17] d (fun g vt vj wr=>TjRel tk d w6 g vt vj wr)
   case atStart=>exact⟨0,zZ _,by omega,rfl,rfl,zB _ _⟩
   case round =>
    obtain⟨j,hj,hgj,rfl,rfl,hbj⟩:=hrel
    have HG2:=zb hgj
    have HB2:=zb hbj
    clear hgj hbj
    obtain⟨m,hm⟩:∃m,m=tk+j:=⟨_,rfl⟩
    rw[←hm]
    have HTJ:=zb (HTO6.out.below HB2.out)
    have hcr:=HTJ.out.row
    have htd:=HTDD.out
    have hm13:m≤13:=by omega
    have HMJ:=zb hm
    by_cases hjn:j<d
    ·have hmn:m<X.length:=by omega
     have hmtn:m<te:=by omega
     clear hm htd
     obtain⟨gv,vc,ev⟩:=zJ HR6.out (by omega)
     obtain⟨rfl,rfl⟩:xa=some ⟨gv,0,none⟩∧xc=vc:=by simpa using ev
     obtain⟨_,_,a1,_⟩:=q7p HR6.out
     have hgv:gv<wr.heap.size:=by
      have r7:=zo HR6.out HB2.out
      obtain⟨_,q1,_⟩:=q7p r7
      exact zd q1
     obtain⟨VI,hVI⟩:∃VI,VI=VV m:=⟨_,rfl⟩
     have HSS:Hid (∀W,Below wr.heap.size wr W→(Instr.loadAt 49 (.pointer (some ⟨gv,j*12,none⟩))).run Tryz.prog W=.ok VI W∧(Instr.loadAt 23 (.pointer (some ⟨w1.heap.size,0,none⟩))).run Tryz.prog W=.ok (.agg MA) W):=zb (fun W hW=>by
      refine⟨?_,?_⟩
      ·rw[hVI,HMJ.out]
       have hr7:=zo (zo HR6.out HB2.out) hW
       rw[HD.out]at hr7
       exact HLV.out tk te j W _ gv xc (by rw[←HMJ.out];exact hmtn) hr7
      ·exact qC (P:=Tryz.prog) 23 23 W w1.heap.size MA (0,0) _ ((HTJ.out.below hW).made) Tryz.underlying23 rfl HAI.out)
     have HPC:Hid (∀W,Below wr.heap.size wr W→Calls Tryz.prog 17 #[VI,.int .i64 m,.slice (some ⟨gl,0,none⟩) X.length lc,.agg MA] W fun e w'=>e=.returned (.bool true)∧Below W.heap.size W w'):=zb (fun W hW=>by rw[hVI];exact HPR2.out m hmn _ _ W ((HTJ.out.below hW).row))
     have HCC:Hid (∀W,Below wr.heap.size wr W→W.cell? ⟨gl,k*4+1,none⟩=some (.int .i64 (TM k))∧W.cell? ⟨gl,m*4+1,none⟩=some (.int .i64 (TM m))∧W.cell? ⟨w1.heap.size,4,none⟩=some (.int .i64 rc)):=zb (fun W hW=>⟨HLC.out W _ gl lc k hkn (HTJ.out.below hW).row,HLC.out W _ gl lc m hmn (HTJ.out.below hW).row,(zC _ _ 4 _ _ _ (HTJ.out.below hW).made).trans c4T⟩)
     have D3:=(zB wr.heap.size wr).drew
     have hl6:=HB2.out.size
     have hgl6:gl<wr.heap.size:=World.block_lt_of_cell? wr _ (HCC.out _ (zB _ _)).1
     have hb6:w1.heap.size<wr.heap.size:=zd HTJ.out.made
     clear hVI ev hcr
     go_wp2_with fail
     refine wp_region_held_drew (S:=fun w'=>(Instr.loadAt 49 (.pointer (some ⟨gv,j*12,none⟩))).run Tryz.prog w'=.ok VI w'∧(Instr.loadAt 23 (.pointer (some ⟨w1.heap.size,0,none⟩))).run Tryz.prog w'=.ok (.agg MA) w') (by kernel_rfl) (HSS.out _ D3) (fun hS0=>?_)
     simp only[rz,Nat.zero_add,Nat.reduceAdd]
     refine tq 0 97 ?_
     simp only[Act.put,pz]
     refine tq 1 98 ?_
     simp only[Act.put,pz]
     refine tq 2 99 ?_
     simp only[Act.put,pz]
     refine q0V (i:=3) (v:=VI) 100 rfl rfl (by kernel_rfl) (by kernel_rfl) (by kernel_rfl) (fun _ _ _ h=>h) (by rfl) (by assumption) ?_ ?_
     ·intro W hSw;exact q6b 49 (.tmp 99) rfl ⟨gv,j*12,none⟩ _ rfl hSw.1
     simp only[Act.put,pz]
     refine tq 4 101 ?_
     simp only[Act.put,pz]
     refine tq 5 102 ?_
     simp only[Act.put,pz]
     refine q0V (i:=6) (v:=.agg MA) 103 rfl rfl (by kernel_rfl) (by kernel_rfl) (by kernel_rfl) (fun _ _ _ h=>h) (by rfl) (by assumption) ?_ ?_
     ·intro W hSw;exact q6b 23 (.tmp 5) rfl ⟨w1.heap.size,0,none⟩ _ rfl hSw.2
     simp only[Act.put,pz]
     refine rd1 7 rfl fun K hK=>?_
     go_simp
     refine(HPC.out _ D3).mono ?_
     rintro e w7 ⟨rfl,b7⟩
     have B7:Below wr.heap.size wr w7:=D3.trans (b7.mono D3.size)
     go_simp
     refine hK.out _ _ (HSS.out _ B7) (fun hS1=>?_)
     clear hK K b7 hS0
     simp only[pz]
     refine tq 8 18 ?_
     simp only[Act.put,pz]
     refine zD (by kernel_rfl) ?_ _
     have HB7:=zb B7
     have HCD:Hid (∀W,Below w7.heap.size w7 W→W.cell? ⟨gl,k*4+1,none⟩=some (.int .i64 (TM k))∧W.cell? ⟨gl,m*4+1,none⟩=some (.int .i64 (TM m))∧W.cell? ⟨w1.heap.size,4,none⟩=some (.int .i64 rc)):=zb (fun W hW=>HCC.out W (HB7.out.trans (hW.mono HB7.out.size)))
     clear hS1 B7 D3 HSS HPC HCC
     have b1:=HTM.out k hkn
     have b2:=HTM.out m hmn
     have b3:=HT3.out m hmtn
     obtain⟨tmk,htmk⟩:∃x,x=TM k:=⟨_,rfl⟩
     obtain⟨tmm,htmm⟩:∃x,x=TM m:=⟨_,rfl⟩
     rw[←htmk]at b1 b3 HCD
     rw[←htmm]at b2 b3 HCD
     clear htmk htmm
     have hws:IntKind.i64.wrap ((tmk:Int)-(tmm:Int))=(tmk:Int)-(tmm:Int):=by rw[IntKind.wrap_i64];omega
     have hnl:¬(tmk:Int)-(tmm:Int)≤rc:=by omega
     go_wp2_with fail
     have D4:=(zB w7.heap.size w7).drew
     refine wp_region_held_drew (S:=fun w'=>w'.cell? ⟨gl,k*4+1,none⟩=some (.int .i64 tmk)∧w'.cell? ⟨gl,m*4+1,none⟩=some (.int .i64 tmm)∧w'.cell? ⟨w1.heap.size,4,none⟩=some (.int .i64 rc)) (by kernel_rfl) (HCD.out _ D4) (fun hS0=>?_)
     simp only[rz,Nat.zero_add,Nat.reduceAdd]
     refine tq 0 105 ?_
     simp only[Act.put,pz]
     refine tq 1 106 ?_
     simp only[Act.put,pz]
     refine tq 2 107 ?_
     simp only[Act.put,pz]
     refine tq 3 108 ?_
     simp only[Act.put,pz]
     refine tq 4 109 ?_
     simp only[Act.put,pz]
     refine tq 5 110 ?_
     simp only[Act.put,pz]
     refine tq 6 111 ?_
     simp only[Act.put,pz]
     refine tq 7 112 ?_
     simp only[Act.put,pz]
     refine tq 8 113 ?_
     simp only[Act.put,pz]
     refine tq 9 114 ?_
     simp only[Act.put,pz]
     refine tq 10 115 ?_
     simp only[Act.put,pz]
     refine tq 11 116 ?_
     simp only[Act.put,pz]
     refine tq 12 117 ?_
     simp only[Act.put,pz]
     refine tq 13 118 ?_
     simp only[Act.put,pz]
     refine tq 14 119 ?_
     simp only[Act.put,pz]
     refine tq 15 120 ?_
     simp only[Act.put,pz]
     refine tq 16 121 ?_
     simp only[Act.put,pz]
     refine tq 17 122 ?_
     simp only[Act.put,pz]
     refine zD (by kernel_rfl) ?_ _
     have HB8:=zb (HB2.out.trans ((HB7.out.trans (D4.mono HB7.out.size)).mono HB2.out.size))
     clear hS0 D4 HCD HB7
     have hwm:IntKind.i64.wrap ((m:Int)+1)=((m+1:Nat):Int):=by rw[IntKind.wrap_i64];omega
     go_wp2_with fail
     have hgp:0<gk:=by have:=HG2.out;omega
     go_roundg (gk-1)
     case measure=>omega
     case rel=>exact⟨j+1,by omega,by have:=HG2.out;omega,by go_num,by rw[←Nat.add_assoc,←HMJ.out];go_num,HB8.out⟩
    ·have hmt:m=te:=by omega
     rw[hmt]
     have hb6:w1.heap.size<wr.heap.size:=zd HTJ.out.made
     have hg1p:0<g1:=by have:=HG1.out;omega
     clear hm hmt hcr hm13 HMJ htd
     by_cases hle:te≤k
     ·have hTnX:te<X.length:=by omega
      have HCC:Hid (∀W,Below wr.heap.size wr W→W.cell? ⟨gl,k*4+1,none⟩=some (.int .i64 (TM k))∧W.cell? ⟨gl,te*4+1,none⟩=some (.int .i64 (TM te))∧W.cell? ⟨w1.heap.size,4,none⟩=some (.int .i64 rc)):=zb (fun W hW=>⟨HLC.out W _ gl lc k hkn (HTJ.out.below hW).row,HLC.out W _ gl lc te hTnX (HTJ.out.below hW).row,(zC _ _ 4 _ _ _ (HTJ.out.below hW).made).trans c4T⟩)
      have hgl6:gl<wr.heap.size:=World.block_lt_of_cell? wr _ (HCC.out _ (zB _ _)).1
      have b1:=HTM.out k hkn
      have b2:=HTM.out te hTnX
      have b3:=HT4.out hle
      obtain⟨tmk,htmk⟩:∃x,x=TM k:=⟨_,rfl⟩
      obtain⟨tmm,htmm⟩:∃x,x=TM te:=⟨_,rfl⟩
      rw[←htmk]at b1 b3 HCC
      rw[←htmm]at b2 b3 HCC
      clear htmk htmm
      have hws:IntKind.i64.wrap ((tmk:Int)-(tmm:Int))=(tmk:Int)-(tmm:Int):=by rw[IntKind.wrap_i64];omega
      have hnl:¬rc<(tmk:Int)-(tmm:Int):=by omega
      have hlei:(te:Int)≤(k:Int):=by omega
      have D3:=(zB wr.heap.size wr).drew
      go_wp2_with fail
      refine wp_region_held_drew (S:=fun w'=>w'.cell? ⟨gl,k*4+1,none⟩=some (.int .i64 tmk)∧w'.cell? ⟨gl,te*4+1,none⟩=some (.int .i64 tmm)∧w'.cell? ⟨w1.heap.size,4,none⟩=some (.int .i64 rc)) (by kernel_rfl) (HCC.out _ D3) (fun hS0=>?_)
      simp only[rz,Nat.zero_add,Nat.reduceAdd]
      refine tq 0 125 ?_
      simp only[Act.put,pz]
      refine tq 1 126 ?_
      simp only[Act.put,pz]
      refine tq 2 127 ?_
      simp only[Act.put,pz]
      refine tq 3 128 ?_
      simp only[Act.put,pz]
      refine tq 4 129 ?_
      simp only[Act.put,pz]
      refine tq 5 130 ?_
      simp only[Act.put,pz]
      refine tq 6 131 ?_
      simp only[Act.put,pz]
      refine tq 7 132 ?_
      simp only[Act.put,pz]
      refine tq 8 133 ?_
      simp only[Act.put,pz]
      refine tq 9 134 ?_
      simp only[Act.put,pz]
      refine tq 10 135 ?_
      simp only[Act.put,pz]
      refine tq 11 136 ?_
      simp only[Act.put,pz]
      refine tq 12 137 ?_
      simp only[Act.put,pz]
      refine tq 13 138 ?_
      simp only[Act.put,pz]
      refine tq 14 139 ?_
      simp only[Act.put,pz]
      refine tq 15 140 ?_
      simp only[Act.put,pz]
      refine tq 16 141 ?_
      simp only[Act.put,pz]
      refine tq 17 142 ?_
      simp only[Act.put,pz]
      refine tq 18 143 ?_
      simp only[Act.put,pz]
      refine zD (by kernel_rfl) ?_ _
      have HTK:=zb (HTJ.out.below D3)
      clear hS0 D3 HCC
      go_wp2_with fail
      go_roundg (g1-1)
      case measure=>omega
      case rel=>exact⟨k+1,by omega,by have:=HG1.out;omega,by go_num,by rw[←HTN.out],by rw[←HTN.out];exact HTK.out⟩
     ·have hlei:¬(te:Int)≤(k:Int):=by omega
      have D3:=(zB wr.heap.size wr).drew
      go_wp2_with fail
      refine wp_region_held_drew (S:=fun _=>True) (by kernel_rfl) trivial (fun hS0=>?_)
      simp only[rz,Nat.zero_add,Nat.reduceAdd]
      refine tq 0 125 ?_
      simp only[Act.put,pz]
      refine tq 1 126 ?_
      simp only[Act.put,pz]
      refine tq 2 127 ?_
      simp only[Act.put,pz]
      refine tq 3 128 ?_
      simp only[Act.put,pz]
      refine tn 4 129 ?_
      simp only[Act.put,pz]
      refine tn 5 130 ?_
      simp only[Act.put,pz]
      refine tn 6 131 ?_
      simp only[Act.put,pz]
      refine tn 7 132 ?_
      simp only[Act.put,pz]
      refine tn 8 133 ?_
      simp only[Act.put,pz]
      refine tn 9 134 ?_
      simp only[Act.put,pz]
      refine tn 10 135 ?_
      simp only[Act.put,pz]
      refine tn 11 136 ?_
      simp only[Act.put,pz]
      refine tn 12 137 ?_
      simp only[Act.put,pz]
      refine tn 13 138 ?_
      simp only[Act.put,pz]
      refine tn 14 139 ?_
      simp only[Act.put,pz]
      refine tn 15 140 ?_
      simp only[Act.put,pz]
      refine tn 16 141 ?_
      simp only[Act.put,pz]
      refine tn 17 142 ?_
      simp only[Act.put,pz]
      refine tq 18 143 ?_
      simp only[Act.put,pz]
      refine zD (by kernel_rfl) ?_ _
      have HTK:=zb (HTJ.out.below D3)
      clear hS0 D3
      go_wp2_with fail
      go_roundg (g1-1)
      case measure=>omega
      case rel=>exact⟨k+1,by omega,by have:=HG1.out;omega,by go_num,by rw[←HTN.out],by rw[←HTN.out];exact HTK.out⟩
  ·have hke:k=X.length:=by omega
   subst hke
   obtain⟨ao,cap,PL,m1,m2,m3⟩:=HTO.out.mon
   simp only[]at m2
   rw[HPT.out]at m2
   have hPL:PL.length=X.length:=by
    have:=congrArg List.length m2
    rw[q7t]at this
    simpa[zA]using this
   have HS1:=zb (HSE.out b gn cn ao cap PL (TD X.length) false wr m1)
   rw[hPL]at HS1
   have hT3:=HT2.out X.length (zL _)
   have HM1:=zb m1
   have HM2:=zb m2
   have HM3:=zb m3
   obtain⟨tk,htk⟩:∃tk,tk=TD X.length:=⟨_,rfl⟩
   rw[←htk]at HS1 HM1 HTO hT3 ⊢
   clear m1 m2 m3 htk hPL
   go_wp2_with fail
   refine HS1.out.mono ?_
   rintro e w6 ⟨rfl,b6⟩
   have HT6:=zb (HTO.out.below b6)
   have HM6:=zb (HM1.out.below b6)
   clear b6 HS1 HM1
   go_wp2_with fail
   refine(HED2.out b gn cn ao cap PL tk w6 HM6.out HM2.out).mono ?_
   rintro e w7 ⟨v7,rfl,r7,ao',cap',PL',n1,n2,n3,n4⟩
   have HTO7:=zb (HT6.out.turned HM6.out HM3.out n1 n2 n3 n4)
   have hPL':PL'.length=X.length:=by
    have:=congrArg List.length n2
    rw[q7t]at this
    simpa[zA]using this
   obtain⟨d,hd⟩:∃d,d=X.length-tk:=⟨_,rfl⟩
   rw[←hd]at r7
   obtain⟨xa,xc,rfl⟩:=ql r7
   have HR7:=zb r7
   have HD:=zb hd
   have htd:tk+d=X.length:=by omega
   have HTDD:=zb htd
   have hd12:d≤13:=by omega
   have HN1:=zb n1
   have HPL':=zb hPL'
   clear n1 n2 n3 n4 r7 hd htd hPL' HM6 HM2 HM3 HT6
   go_wp2_with fail
   go_loopg [12,22] d (fun g vt vj wr=>TjRel tk d w7 g vt vj wr)
   case atStart=>exact⟨0,zZ _,by omega,rfl,rfl,zB _ _⟩
   case round =>
    obtain⟨j,hj,hgj,rfl,rfl,hbj⟩:=hrel
    have HG2:=zb hgj
    have HB2:=zb hbj
    clear hgj hbj
    obtain⟨m,hm⟩:∃m,m=tk+j:=⟨_,rfl⟩
    rw[←hm]
    have HTJ:=zb (HTO7.out.below HB2.out)
    have htd:=HTDD.out
    have hm13:m≤13:=by omega
    have HMJ:=zb hm
    by_cases hjn:j<d
    ·have hmn:m<X.length:=by omega
     clear hm htd
     have hlx:=HTJ.out.row
     have hN:(X.map q4I).length=X.length:=by simp
     obtain⟨gl,lc',ea⟩:∃gl lc',Value.slice la X.length lc=.slice (some ⟨gl,0,none⟩) (X.map q4I).length lc':=zJ hlx (by rw[hN];omega)
     obtain⟨rfl,rfl⟩:la=some ⟨gl,0,none⟩∧lc=lc':=by simp only[Value.slice.injEq]at ea;exact⟨ea.1,ea.2.2⟩
     obtain⟨gv,vc,ev⟩:=zJ HR7.out (by omega)
     obtain⟨rfl,rfl⟩:xa=some ⟨gv,0,none⟩∧xc=vc:=by simpa using ev
     obtain⟨_,_,a1,_⟩:=q7p HR7.out
     have hgv:gv<wr.heap.size:=by
      have r8:=zo HR7.out HB2.out
      obtain⟨_,q1,_⟩:=q7p r8
      exact zd q1
     obtain⟨VI,hVI⟩:∃VI,VI=VV m:=⟨_,rfl⟩
     have HSS:Hid (∀W,Below wr.heap.size wr W→(Instr.loadAt 49 (.pointer (some ⟨gv,j*12,none⟩))).run Tryz.prog W=.ok VI W∧(Instr.loadAt 23 (.pointer (some ⟨w1.heap.size,0,none⟩))).run Tryz.prog W=.ok (.agg MA) W):=zb (fun W hW=>by
      refine⟨?_,?_⟩
      ·rw[hVI,HMJ.out]
       have hr8:=zo (zo HR7.out HB2.out) hW
       rw[HD.out]at hr8
       exact HLV.out tk X.length j W _ gv xc (by rw[←HMJ.out];exact hmn) hr8
      ·exact qC (P:=Tryz.prog) 23 23 W w1.heap.size MA (0,0) _ ((HTJ.out.below hW).made) Tryz.underlying23 rfl HAI.out)
     have HPC:Hid (∀W,Below wr.heap.size wr W→Calls Tryz.prog 17 #[VI,.int .i64 m,.slice (some ⟨gl,0,none⟩) X.length lc,.agg MA] W fun e w'=>e=.returned (.bool true)∧Below W.heap.size W w'):=zb (fun W hW=>by rw[hVI];exact HPR2.out m hmn _ _ W ((HTJ.out.below hW).row))
     have D3:=(zB wr.heap.size wr).drew
     have hb6:w1.heap.size<wr.heap.size:=zd HTJ.out.made
     have hmni:(m:Int)<(X.length:Int):=by omega
     clear hVI ev ea hlx
     go_wp2_with fail
     refine wp_region_held_drew (S:=fun w'=>(Instr.loadAt 49 (.pointer (some ⟨gv,j*12,none⟩))).run Tryz.prog w'=.ok VI w'∧(Instr.loadAt 23 (.pointer (some ⟨w1.heap.size,0,none⟩))).run Tryz.prog w'=.ok (.agg MA) w') (by kernel_rfl) (HSS.out _ D3) (fun hS0=>?_)
     simp only[rz,Nat.zero_add,Nat.reduceAdd]
     refine tq 0 174 ?_
     simp only[Act.put,pz]
     refine tq 1 175 ?_
     simp only[Act.put,pz]
     refine tq 2 176 ?_
     simp only[Act.put,pz]
     refine q0V (i:=3) (v:=VI) 177 rfl rfl (by kernel_rfl) (by kernel_rfl) (by kernel_rfl) (fun _ _ _ h=>h) (by rfl) (by assumption) ?_ ?_
     ·intro W hSw;exact q6b 49 (.tmp 176) rfl ⟨gv,j*12,none⟩ _ rfl hSw.1
     simp only[Act.put,pz]
     refine tq 4 178 ?_
     simp only[Act.put,pz]
     refine tq 5 179 ?_
     simp only[Act.put,pz]
     refine q0V (i:=6) (v:=.agg MA) 180 rfl rfl (by kernel_rfl) (by kernel_rfl) (by kernel_rfl) (fun _ _ _ h=>h) (by rfl) (by assumption) ?_ ?_
     ·intro W hSw;exact q6b 23 (.tmp 5) rfl ⟨w1.heap.size,0,none⟩ _ rfl hSw.2
     simp only[Act.put,pz]
     refine rd1 7 rfl fun K hK=>?_
     go_simp
     refine(HPC.out _ D3).mono ?_
     rintro e w9 ⟨rfl,b9⟩
     have B7:Below wr.heap.size wr w9:=D3.trans (b9.mono D3.size)
     go_simp
     refine hK.out _ _ (HSS.out _ B7) (fun hS1=>?_)
     clear hK K b9 hS0
     simp only[pz]
     refine tq 8 23 ?_
     simp only[Act.put,pz]
     refine zD (by kernel_rfl) ?_ _
     have HB8:=zb (HB2.out.trans (B7.mono HB2.out.size))
     clear hS1 B7 D3 HSS HPC
     have hwm:IntKind.i64.wrap ((m:Int)+1)=((m+1:Nat):Int):=by rw[IntKind.wrap_i64];omega
     go_wp2_with fail
     have hgp:0<gk:=by have:=HG2.out;omega
     go_roundg (gk-1)
     case measure=>omega
     case rel=>exact⟨j+1,by omega,by have:=HG2.out;omega,by go_num,by rw[←Nat.add_assoc,←HMJ.out];go_num,HB8.out⟩
    ·have hmt:m=X.length:=by omega
     rw[hmt]
     have HS2:=zb (HSE.out b gn cn ao' cap' PL' X.length true wr (HN1.out.below HB2.out))
     rw[HPL'.out]at HS2
     clear hm hmt hm13 HMJ htd
     go_wp2_with fail
     refine HS2.out.mono ?_
     rintro e w8 ⟨rfl,b8⟩
     have HB8:=zb (HTJ.out.below b8)
     clear b8 HS2
     go_wp2_with fail
     go_ret
     exact⟨rfl,HB8.out.bel⟩
end Go.Proofs.YtiamjjonoeaggaaGreatDoor
