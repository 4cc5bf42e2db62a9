import Derived.Test.YtiamjjonoeaggabGreatDoorGA
import Derived.Test.YtiamjjonoeaggabGreatDoorG30
set_option maxRecDepth 100000
set_option maxHeartbeats 16000000
namespace Go.Proofs.YtiamjjonoeaggabGreatDoor
open Go.RowKit
theorem q9k (nd:PNode)(V:Value)(hV:V=q1C nd)(I:List PInfo)(base bi ci:Nat)(w:World)(h:w.ownsRow base 88 3 (.slice (some ⟨bi,0,none⟩) I.length ci) I.length (q0y I))(hI:I.length≤1000)
  (hf:-100000≤nd.fst∧nd.fst≤100000)(hsn:-100000≤nd.snd∧nd.snd≤100000)(a b:PInfo)(ha:q1D I nd.fst=a)(hb:q1D I nd.snd=b) :
  Calls Tryz.prog 96 #[V,.slice (some ⟨bi,0,none⟩) I.length ci] w fun e w'=>e=.returned (.bool (j0i nd a b))∧Below w.heap.size w w':=by
 have HV:Hid (V=.agg (zq nd).toArray):=zb hV
 clear hV
 generalize hR:j0i nd a b=r
 have HT:=zb hR
 clear hR
 have t1:=fun w h=>q2x I nd.fst base bi ci w h hI hf
 have t2:=fun w h=>q2x I nd.snd base bi ci w h hI hsn
 rw[ha]at t1
 rw[hb]at t2
 have H:=zb h
 clear h ha hb
 have hlt:bi<w.heap.size:=(H.out.lt bi rfl).2
 go_enter Tryz.func96,Tryz.ntmps96
 go_wp2_with (refine qF rfl 166 (.tmp 0) rfl V _ rfl HV.out ?_;intro w1 hB hb1 hs1;have HS1:=zb hs1;have l01:w.heap.size<w1.heap.size:=(by omega);clear hs1;have N1:=NodeAt.ofB hB;have c20:=N1.cells 20 (by omega);simp only[zq,List.getElem?_cons_zero,List.getElem?_cons_succ]at c20)
 have H1:=zb N1
 clear hB N1
 refine(t1 _ (zp H.out hb1)).mono ?_
 rintro e w2 ⟨rfl,hb2⟩
 have hs2:=hb2.size
 have l02:w.heap.size<w2.heap.size:=by omega
 have N2:=H1.out.only (bl:=[]) (.of_below hb2) (by simp)
 have c21:=N2.cells 21 (by omega)
 simp only[zq,List.getElem?_cons_zero,List.getElem?_cons_succ]at c21
 have H2:=zb N2
 have B2:Below w.heap.size w w2:=hb1.trans (hb2.mono (by have:=hb1.size;omega))
 clear N2 c20 t1 hb2
 obtain⟨ax,ay,ar⟩:=a
 obtain⟨bx,bY,br⟩:=b
 go_wp2_with fail
 refine(t2 _ (zp H.out (B2.alloc B2.size _))).mono ?_
 rintro e w3 ⟨rfl,hb3⟩
 have hs3:=hb3.size
 simp at hs3
 have N3:=H2.out.only (bl:=[]) ((OnlyB.nw [] _ _).trans (.of_below hb3)) (by simp)
 have c0:=N3.cells 0 (by omega)
 have c15:=N3.cells 15 (by omega)
 simp only[zq,List.getElem?_cons_zero,List.getElem?_cons_succ]at c0 c15
 have B3:Below w.heap.size w w3:=(B2.alloc B2.size _).trans (hb3.mono (by have:=B2.size;simp;omega))
 have hg3:w3.heap[w2.heap.size]?=some (.cells #[.bool ax,.bool ay,.int .i64 ar] 88 (0,0)):=by rw[hb3.block w2.heap.size (by simp)];exact zN _ _
 have g0:=zC _ _ 0 _ _ _ hg3
 have g1:=zC _ _ 1 _ _ _ hg3
 have g2:=zC _ _ 2 _ _ _ hg3
 simp only[gz]at g0 g1 g2
 have l2:w2.heap.size<w3.heap.size:=by omega
 have l3:w.heap.size<w3.heap.size:=by omega
 have HB3:=zb B3
 clear hg3 N3 c21 t2 hb3 H2 hb1 B2 H1 HS1 hs2 hs3 l01 l02 B3
 have cva:=q8k ⟨ax,ay,ar⟩ ⟨bx,bY,br⟩
 have cvb:=q8k ⟨bx,bY,br⟩ ⟨ax,ay,ar⟩
 have HW:Hid (j0i nd ⟨ax,ay,ar⟩ ⟨bx,bY,br⟩=if nd.kind=8 then(ax != bx) || (ay != bY)else if nd.kind=7 then !j0z ⟨bx,bY,br⟩ ⟨ax,ay,ar⟩else if nd.kind=14∨nd.kind=15∨nd.kind=16∨nd.kind=17 then !j0z ⟨ax,ay,ar⟩ ⟨bx,bY,br⟩else if nd.kind=9 then !(nd.var==3&&ax)&&!(nd.var==4&&ay)else false):=zb rfl
 generalize nd.kind=kd at *
 generalize nd.var=vr at *
 generalize j0z ⟨bx,bY,br⟩ ⟨ax,ay,ar⟩=cb at *
 generalize j0z ⟨ax,ay,ar⟩ ⟨bx,bY,br⟩=ca at *
 have hB4:=fun o=>zb (HB3.out.alloc HB3.out.size o)
 by_cases k8:kd=8
 ·subst k8
  have er:r=((ax != bx) || (ay != bY)):=by rw[←HT.out,HW.out];rfl
  subst er
  cases ax<;>cases bx
  all_goals
   go_wp2_with fail
   go_ret
   exact⟨by cases ay<;>cases bY<;>rfl,(hB4 _).out⟩
 ·by_cases k7:kd=7
  ·subst k7
   have er:r=!cb:=by rw[←HT.out,HW.out];rfl
   subst er
   go_wp2_with fail
   refine(cvb _).mono ?_
   rintro e w4 ⟨rfl,b4⟩
   go_wp2_with fail
   go_ret
   exact⟨by simp,(hB4 _).out.trans (b4.mono (by have:=HB3.out.size;simp;omega))⟩
  ·by_cases k14:kd=14∨kd=15∨kd=16∨kd=17
   ·have er:r=!ca:=by rw[←HT.out,HW.out,if_neg k8,if_neg k7,if_pos k14]
    subst er
    rcases k14 with rfl|rfl|rfl|rfl
    all_goals
     go_wp2_with fail
     refine(cva _).mono ?_
     rintro e w4 ⟨rfl,b4⟩
     go_wp2_with fail
     go_ret
     exact⟨by simp,(hB4 _).out.trans (b4.mono (by have:=HB3.out.size;simp;omega))⟩
   ·by_cases k9:kd=9
    ·subst k9
     have er:r=(!(vr==3&&ax)&&!(vr==4&&ay)):=by rw[←HT.out,HW.out];rfl
     by_cases v3:vr=3
     ·subst v3
      cases ax with
      |true =>
       have er':r=false:=by rw[er];rfl
       clear er
       subst er'
       go_wp2_with fail
       go_ret
       exact⟨by simp,(hB4 _).out⟩
      |false =>
       have er':r=true:=by rw[er];rfl
       clear er
       subst er'
       go_wp2_with fail
       go_ret
       exact⟨by simp,(hB4 _).out⟩
     ·by_cases v4:vr=4
      ·subst v4
       have er':r=!ay:=by rw[er];rfl
       clear er
       subst er'
       go_wp2_with fail
       go_ret
       exact⟨by simp,(hB4 _).out⟩
      ·have er':r=true:=by rw[er];simp[v3,v4]
       clear er
       subst er'
       go_wp2_with fail
       go_ret
       exact⟨by simp,(hB4 _).out⟩
    ·have er:r=false:=by rw[←HT.out,HW.out,if_neg k8,if_neg k7,if_neg k14,if_neg k9]
     subst er
     have n14:¬kd=14:=by omega
     have n15:¬kd=15:=by omega
     have n16:¬kd=16:=by omega
     have n17:¬kd=17:=by omega
     go_wp2_with fail
     go_ret
     exact⟨by simp,(hB4 _).out⟩
theorem q9E {α:Type}(l:List α)(p:α→Bool)(k:Nat)(x:α)(h:l[k]?=some x):(l.drop k).find? p=if p x then some x else(l.drop (k+1)).find? p:=by
 obtain⟨hlt,he⟩:=List.getElem?_eq_some_iff.1 h
 rw[List.drop_eq_getElem_cons hlt,he,List.find?_cons]
 cases p x<;>rfl
def q3X (F:zg):PInfo × Int × Int:=if (q0J F).1=0 then(qk F,0,0)else(⟨false,false,0⟩,(q0J F).1,(q0J F).2)
def LRel (F:zg)(B:Nat)(bad:zg→Bool)(w0:World)(g:Nat)(vi:Value)(wr:World):Prop:=
 ∃k:Nat,k≤zv F∧zv F-k≤g∧vi=.int .i64 k∧(zw F).find? bad=((zw F).drop k).find? bad∧Below B w0 wr
theorem j4O {F G:zg}(h:(zw F).find? qz=some G):q0J F=(4,(q5m G:Int)):=by unfold q0J;rw[h]
theorem j6R {F G:zg}(h1:(zw F).find? qz=none)(h:(zw F).find? qK=some G):q0J F=(5,(q5m G:Int)):=by unfold q0J;rw[h1,h]
theorem j6P {F G:zg}(h1:(zw F).find? qz=none)(h2:(zw F).find? qK=none)(h:(zw F).find? q1i=some G):q0J F=(6,(j2X G:Int)):=by unfold q0J;rw[h1,h2,h]
theorem j6Q {F:zg}(h1:(zw F).find? qz=none)(h2:(zw F).find? qK=none)(h:(zw F).find? q1i=none):q0J F=(0,0):=by unfold q0J;rw[h1,h2,h]
structure ResAt (w:World)(rb:Nat):Prop where
 row:w.heap[rb]?=some (.cells #[.bool false,.bool false,.int .i64 0] 88 (0,0))
theorem ResAt.facts {w:World}{rb:Nat}(h:ResAt w rb):w.cell? ⟨rb,0,none⟩=some (.bool false)∧w.cell? ⟨rb,1,none⟩=some (.bool false)∧w.cell? ⟨rb,2,none⟩=some (.int .i64 0)∧(∀j,w.frozen? ⟨rb,j,none⟩=false)∧rb<w.heap.size:=
 ⟨zC _ _ 0 _ _ _ h.row,zC _ _ 1 _ _ _ h.row,zC _ _ 2 _ _ _ h.row,fun j=>zF _ _ j _ _ h.row,(Array.getElem?_eq_some_iff.1 h.row).1⟩
theorem ResAt.below {w w':World}{rb B:Nat}(h:ResAt w rb)(hb:Below B w w')(hB:rb<B):ResAt w' rb:=⟨by rw[hb.block rb hB];exact h.row⟩
theorem j9X (F:zg)(hF:q3x F)(hS:q6m F)(hN:zv F≤255)(h0:F≠.nil)(gn cn:Nat)(w:World)(h:NodesAt w gn cn (q0p F 0)) :
  Calls Tryz.prog 65 #[.slice (some ⟨gn,0,none⟩) (zv F) cn] w fun e w'=>e=.returned (.tuple #[q2g (q3X F).1,.int .i64 (q3X F).2.1,.int .i64 (q3X F).2.2])∧Below w.heap.size w w':=by
 have H:=zb h
 have hlt:=h.lt
 have HI:=zb (j6i F hF hS hN)
 have HNF:=zb (fun m hm k hk=>j1y F hF hS hN m hm k hk)
 have HLN:=zb (fun k h=>q5I F k h)
 have HZ:=zb (j0p F)
 have HSB:=zb (q0f F)
 have HR:Hid (q3X F=if (q0J F).1=0 then(qk F,0,0)else(⟨false,false,0⟩,(q0J F).1,(q0J F).2)):=zb rfl
 have H0:=zb h0
 clear h h0 hF hS
 generalize q3X F=r at *
 generalize hn:zv F=N at *
 have HSZ:=zb hn
 clear hn
 obtain⟨w0,hw0⟩:∃W:World,W=w.alloc (.cells #[.bool false,.bool false,.int .i64 0] 88):=⟨_,rfl⟩
 have HW0:Hid (Below w.heap.size w w0∧ResAt w0 w.heap.size∧w0.heap.size=w.heap.size+1):=zb ⟨by rw[hw0];exact(zB _ _).alloc (zL _) _,⟨by rw[hw0];exact zN _ _⟩,by rw[hw0];simp⟩
 have HWE:=zb hw0
 clear hw0
 go_enter Tryz.func65,Tryz.ntmps65
 go_wp2_with fail
 rw[←HWE.out]
 go_loopg [5] N (fun g vi wr=>LRel F (w.heap.size+1) qz w0 g vi wr)
 case atStart=>exact⟨0,zZ _,by have:=HSZ.out;omega,rfl,rfl,zB _ _⟩
 case round =>
  obtain⟨k,hk,hg,rfl,hfd,hbel⟩:=hrel
  rw[HSZ.out]at hk hg
  have HG:=zb hg
  have HFD:=zb hfd
  have hb1:Below w.heap.size w wr:=HW0.out.1.trans (hbel.mono (by omega))
  have hRs:=HW0.out.2.1.below hbel (by omega)
  have HB:=zb hb1
  have HBE:=zb hbel
  have HRS:=zb hRs
  have hNr:=H.out.below hb1
  have hgl:=hNr.lt
  obtain⟨s0,s1,s2,s3,s4⟩:=hRs.facts
  clear hg hfd hb1 hbel hRs
  by_cases hkn:k<N
  ·obtain⟨nd,G,a,b,g1,g2,_,_,_,_,gb,_,gs,_,_,_,_,_,_,_,_,_⟩:=HNF.out k hkn 0 (zZ _)
   have hr:=hNr.cells k nd g2
   have c16:=hr 16 _ rfl
   have c17:=hr 17 _ rfl
   have c18:=hr 18 _ rfl
   have c19:=hr 19 _ rfl
   have hback:=j1Q nd
   have HFS:=zb (q9E _ qz k G g1)
   rw[gb]at hback
   rw[gs]at c16
   have HGS:=zb gs
   clear hr g2 gb hNr g1
   obtain⟨_,_,_,_,_,_,_,_,_,sat,slo,shi,sop,_,_⟩:=nd
   simp only[]at c16 c17 c18 c19 hback
   have es:sat=q5m G:=HGS.out
   subst es
   cases hbd:qz G with
   |true =>
    have hflt:=j4O (F:=F) (G:=G) (by rw[HFD.out,HFS.out,hbd];rfl)
    have er:=HR.out
    rw[hflt]at er
    simp only[]at er
    rw[if_neg (by decide)]at er
    subst er
    have HER:=zb hflt
    clear hflt
    rw[hbd]at hback
    go_wp2_with fail
    refine(hback _).mono ?_
    rintro e w2 ⟨rfl,b2⟩
    have hR2:=(HRS.out.below b2 s4).facts
    obtain⟨t0,t1,t2,t3,t4⟩:=hR2
    have d16:w2.cell? ⟨gn,k*22+16,none⟩=some (.int .i64 (q5m G:Int)):=by rw[zK (w:=wr) (b2.block gn hgl)];exact c16
    have hgn2:gn<w2.heap.size:=zT hgl b2.size
    have hne:gn≠w.heap.size:=by omega
    have B2:Below w.heap.size w w2:=HB.out.trans (b2.mono (by have:=HB.out.size;omega))
    have HB2:=zb B2
    clear B2 b2 s0 s1 s2 s3
    go_wp2_with fail
    go_region
    all_goals
     go_wp2_with fail
     exact zP (v:=.tuple #[q2g ⟨false,false,0⟩,.int .i64 4,.int .i64 (q5m G:Int)]) (by simp[results,Tryz.results65,go_sem,t0,t1,t2]) rfl ⟨rfl,(((HB2.out.setCell (zL _) _).setCell (zL _) _).setCell (zL _) _).drew⟩
   |false =>
    rw[hbd]at hback
    go_wp2_with fail
    refine(hback _).mono ?_
    rintro e w2 ⟨rfl,b2⟩
    go_wp2_with fail
    have hg1:0<gk:=by have:=HG.out;omega
    go_roundg (gk-1)
    case measure=>omega
    case rel=>exact⟨k+1,by have:=HSZ.out;omega,by have:=HSZ.out;have:=HG.out;omega,by go_num,by rw[HFD.out,HFS.out,hbd];rfl,HBE.out.trans (b2.mono (by have:=HBE.out.size;have:=HW0.out.2.2;omega))⟩
  ·have hnone:(zw F).find? qz=none:=by rw[HFD.out,List.drop_of_length_le (by rw[HSB.out];omega)];rfl
   have HN1:=zb hnone
   have HBE1:=HBE
   clear hnone HFD HG hNr HRS HB HBE s0 s1 s2 s3 s4 hgl
   go_wp2_with fail
   go_loopg [6] N (fun g vi wr=>LRel F (w.heap.size+1) qK w0 g vi wr)
   case atStart=>exact⟨0,zZ _,by have:=HSZ.out;omega,rfl,rfl,HBE1.out⟩
   case round =>
    clear HBE1 hk hkn
    obtain⟨k,hk,hg,rfl,hfd,hbel⟩:=hrel
    rw[HSZ.out]at hk hg
    have HG:=zb hg
    have HFD:=zb hfd
    have hb1:=HW0.out.1.trans (hbel.mono (B':=w.heap.size) (by omega))
    have hRs:=HW0.out.2.1.below hbel (by omega)
    have HB:=zb hb1
    have HBE:=zb hbel
    have HRS:=zb hRs
    have hNr:=H.out.below hb1
    have hgl:=hNr.lt
    obtain⟨s0,s1,s2,s3,s4⟩:=hRs.facts
    clear hg hfd hb1 hbel hRs
    by_cases hkn:k<N
    ·obtain⟨nd,G,a,b,g1,g2,_,_,_,_,_,gb,gs,_,_,_,_,_,_,_,_,_⟩:=HNF.out k hkn 0 (zZ _)
     have hr:=hNr.cells k nd g2
     have c0:=hr 0 _ rfl
     have c16:=hr 16 _ rfl
     have c19:=hr 19 _ rfl
     have hla:=q3W nd.kind
     have HFS:=zb (q9E _ qK k G g1)
     rw[gs]at c16
     have HOP:Hid (qK G=(nd.sop&&q1X nd.kind)):=zb gb.symm
     clear hr g2 gb hNr g1 gs
     rw[Nat.add_zero]at c0
     generalize nd.kind=kd at *
     generalize nd.sop=sop at *
     have hnext:∀w2,Below wr.heap.size wr w2→qK G=false→LRel F (w.heap.size+1) qK w0 (gk-1) (.int .i64 ((k:Int)+1)) w2:=fun w2 b2 hb=>⟨k+1,by have:=HSZ.out;omega,by have:=HSZ.out;have:=HG.out;omega,by simp,by rw[HFD.out,HFS.out,hb];rfl,HBE.out.trans (b2.mono (by have:=HBE.out.size;have:=HW0.out.2.2;omega))⟩
     have HNX:=zb hnext
     clear hnext
     cases sop with
     |false =>
      have ho:qK G=false:=by rw[HOP.out];rfl
      go_wp2_with fail
      have hg1:0<gk:=by have:=HG.out;omega
      go_roundg (gk-1)
      case measure=>omega
      case rel=>exact HNX.out _ (zB _ _) ho
     |true =>
      cases hah:q1X kd with
      |false =>
       have ho:qK G=false:=by rw[HOP.out,hah];rfl
       rw[hah]at hla
       go_wp2_with fail
       refine(hla _).mono ?_
       rintro e w2 ⟨rfl,hw⟩
       rw[hw]
       clear hw w2
       go_wp2_with fail
       have hg1:0<gk:=by have:=HG.out;omega
       go_roundg (gk-1)
       case measure=>omega
       case rel=>exact HNX.out _ (zB _ _) ho
      |true =>
       have ho:qK G=true:=by rw[HOP.out,hah];rfl
       rw[hah]at hla
       have hflt:=j6R (F:=F) (G:=G) HN1.out (by rw[HFD.out,HFS.out,ho];rfl)
       have er:=HR.out
       rw[hflt]at er
       simp only[]at er
       rw[if_neg (by decide)]at er
       subst er
       clear hflt
       go_wp2_with fail
       refine(hla _).mono ?_
       rintro e w2 ⟨rfl,hw⟩
       have b2:Below wr.heap.size wr w2:=by rw[hw];exact zB _ _
       clear hw
       have hR2:=(HRS.out.below b2 s4).facts
       obtain⟨t0,t1,t2,t3,t4⟩:=hR2
       have d16:w2.cell? ⟨gn,k*22+16,none⟩=some (.int .i64 (q5m G:Int)):=by rw[zK (w:=wr) (b2.block gn hgl)];exact c16
       have hgn2:gn<w2.heap.size:=zT hgl b2.size
       have hne:gn≠w.heap.size:=by omega
       have B2:Below w.heap.size w w2:=HB.out.trans (b2.mono (by have:=HB.out.size;omega))
       have HB2:=zb B2
       clear B2 b2 s0 s1 s2 s3
       go_wp2_with fail
       go_region
       all_goals
        go_wp2_with fail
        exact zP (v:=.tuple #[q2g ⟨false,false,0⟩,.int .i64 5,.int .i64 (q5m G:Int)]) (by simp[results,Tryz.results65,go_sem,t0,t1,t2]) rfl ⟨rfl,(((HB2.out.setCell (zL _) _).setCell (zL _) _).setCell (zL _) _).drew⟩
    ·have hnone:(zw F).find? qK=none:=by rw[HFD.out,List.drop_of_length_le (by rw[HSB.out];omega)];rfl
     have HN2:=zb hnone
     clear hnone HFD HG s0 s1 s2 s3 s4 hgl
     go_wp2_with fail
     refine(HI.out gn cn _ hNr).mono ?_
     rintro e wI ⟨gi,rfl,hown,bI⟩
     have HOW:=zb hown
     have BI:Below w.heap.size w wI:=HB.out.trans (bI.mono (by have:=HB.out.size;omega))
     have hRI:=HRS.out.below bI (HRS.out.facts.2.2.2.2)
     have HBI:=zb BI
     have HRI:=zb hRI
     have hNI:=hNr.below bI
     have HNI:=zb hNI
     clear hNr HB HBE HRS hown BI hRI hNI bI
     go_wp2_with fail
     go_loopg [8] N (fun g vi wr=>LRel F wI.heap.size q1i wI g vi wr)
     case atStart=>exact⟨0,zZ _,by have:=HSZ.out;omega,rfl,rfl,zB _ _⟩
     case round =>
      clear hk hkn
      obtain⟨k,hk,hg,rfl,hfd,hbel⟩:=hrel
      rw[HSZ.out]at hk hg
      have HG:=zb hg
      have HFD:=zb hfd
      have hlI:w.heap.size<wI.heap.size:=HRI.out.facts.2.2.2.2
      have hb1:Below w.heap.size w wr:=HBI.out.trans (hbel.mono (by omega))
      have hRs:=HRI.out.below hbel hlI
      have hO:=zp HOW.out hbel
      rw[←HZ.out]at hO
      have hln:=HLN.out 0 (zZ _)
      obtain⟨base,hO'⟩:∃base,wr.ownsRow base 88 3 (.slice (some ⟨gi,0,none⟩) (q0X F 0).length N) (q0X F 0).length (q0y (q0X F 0)):=⟨_,by rw[hln];exact hO⟩
      have HB:=zb hb1
      have HBE:=zb hbel
      have HRS:=zb hRs
      have HO:=zb hO'
      have hNr:=HNI.out.below hbel
      have hgl:=hNr.lt
      obtain⟨s0,s1,s2,s3,s4⟩:=hRs.facts
      clear hg hfd hb1 hbel hRs hO hO'
      by_cases hkn:k<N
      ·obtain⟨nd,G,a,b,g1,g2,g3,g4,_,gw,_,_,_,gp,f1,f2,_,_,_,_,_,_⟩:=HNF.out k hkn 0 (zZ _)
       have hr:=hNr.cells k nd g2
       have c1:=hr 1 _ rfl
       have hL:=hNr.load g2
       obtain⟨V,hV⟩:∃V,V=q1C nd:=⟨_,rfl⟩
       rw[←hV]at hL
       have hcall:=q9k nd V hV (q0X F 0) _ gi N wr HO.out (by rw[hln];omega) f1 f2 a b g3 g4
       rw[gw,hln]at hcall
       rw[gp]at c1
       have HFS:=zb (q9E _ q1i k G g1)
       have HCL:=zb hcall
       clear hr g1 g2 g3 g4 gw gp f1 f2 hV hcall hNr
       cases hbd:q1i G with
       |true =>
        have hflt:=j6P (F:=F) (G:=G) HN1.out HN2.out (by rw[HFD.out,HFS.out,hbd];rfl)
        have er:=HR.out
        rw[hflt]at er
        simp only[]at er
        rw[if_neg (by decide)]at er
        subst er
        clear hflt
        have hcall:=HCL.out
        rw[hbd]at hcall
        have HCL:=zb hcall
        clear hcall
        go_wp2_with (refine zj rfl 166 (.tmp 65) rfl ⟨gn,k*22,none⟩ V rfl hL ?_)
        refine(HCL.out).mono ?_
        rintro e w2 ⟨rfl,b2⟩
        have hR2:=(HRS.out.below b2 s4).facts
        obtain⟨t0,t1,t2,t3,t4⟩:=hR2
        have d16:w2.cell? ⟨gn,k*22+1,none⟩=some (.int .i64 (j2X G:Int)):=by rw[zK (w:=wr) (b2.block gn hgl)];exact c1
        have hgn2:gn<w2.heap.size:=zT hgl b2.size
        have hne:gn≠w.heap.size:=by omega
        have B2:Below w.heap.size w w2:=HB.out.trans (b2.mono (by have:=HB.out.size;omega))
        have HB2:=zb B2
        clear B2 b2 s0 s1 s2 s3
        go_wp2_with fail
        go_region
        all_goals
         go_wp2_with fail
         exact zP (v:=.tuple #[q2g ⟨false,false,0⟩,.int .i64 6,.int .i64 (j2X G:Int)]) (by simp[results,Tryz.results65,go_sem,t0,t1,t2]) rfl ⟨rfl,(((HB2.out.setCell (zL _) _).setCell (zL _) _).setCell (zL _) _).drew⟩
       |false =>
        have hcall:=HCL.out
        rw[hbd]at hcall
        have HCL:=zb hcall
        clear hcall
        go_wp2_with (refine zj rfl 166 (.tmp 65) rfl ⟨gn,k*22,none⟩ V rfl hL ?_)
        refine(HCL.out).mono ?_
        rintro e w2 ⟨rfl,b2⟩
        go_wp2_with fail
        have hg1:0<gk:=by have:=HG.out;omega
        go_roundg (gk-1)
        case measure=>omega
        case rel=>exact⟨k+1,by have:=HSZ.out;omega,by have:=HSZ.out;have:=HG.out;omega,by go_num,by rw[HFD.out,HFS.out,hbd];rfl,HBE.out.trans (b2.mono HBE.out.size)⟩
      ·have hnone:(zw F).find? q1i=none:=by rw[HFD.out,List.drop_of_length_le (by rw[HSB.out];omega)];rfl
       have hflt:=j6Q (F:=F) HN1.out HN2.out hnone
       have er:=HR.out
       rw[hflt]at er
       simp only[if_true]at er
       subst er
       have hat:=q2x (q0X F 0) 0 _ gi N wr HO.out (by rw[hln];omega) (by omega)
       have h00:=q9K F 0 0 (zL _) F (q3N H0.out).1
       rw[show((0:Nat):Int)=0 from rfl]at h00
       rw[h00,hln]at hat
       obtain⟨it,hit⟩:∃i,i=qk F:=⟨_,rfl⟩
       rw[←hit]at hat
       have HIT:=zb hit
       have HAT:=zb hat
       clear hnone hflt hat h00 hNr hit
       obtain⟨ix,iy,ir⟩:=it
       go_wp2_with fail
       refine(HAT.out).mono ?_
       rintro e w2 ⟨rfl,b2⟩
       have hR2:=(HRS.out.below b2 s4).facts
       obtain⟨t0,t1,t2,t3,t4⟩:=hR2
       have B2:Below w.heap.size w w2:=HB.out.trans (b2.mono (by have:=HB.out.size;omega))
       have HB2:=zb B2
       clear B2 b2 s0 s1 s2 s3
       go_wp2_with fail
       exact zP (v:=.tuple #[q2g ⟨ix,iy,ir⟩,.int .i64 0,.int .i64 0]) (by simp[results,Tryz.results65,go_sem,t0,t1,t2]) rfl ⟨by rw[←HIT.out],((HB2.out.setCell (zL _) _).setCell (zL _) _).setCell (zL _) _⟩
end Go.Proofs.YtiamjjonoeaggabGreatDoor
