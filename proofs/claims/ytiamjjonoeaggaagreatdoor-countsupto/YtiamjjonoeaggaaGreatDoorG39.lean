import Derived.Test.YtiamjjonoeaggaaGreatDoorGA
import Derived.Test.YtiamjjonoeaggaaGreatDoorG23
import Derived.Test.YtiamjjonoeaggaaGreatDoorG38
set_option maxRecDepth 100000
set_option maxHeartbeats 16000000
namespace Go.Proofs.YtiamjjonoeaggaaGreatDoor
open Go.RowKit
theorem AnAt.next {w wr:World}{fv:Value}{r:Nat→Int}{s:Nat→Nat→Bool}{x y:Nat}(h:AnAt w wr fv r s x y)(e:q1p s x y=q1p s x (y+1)):AnAt w wr fv r s x (y+1):=⟨h.b0,h.b1,h.b2,by rw[←e];exact h.b3,h.bel⟩
theorem j5r (F:zl)(u:List Tok)(v:Value)(t:Nat→Nat→Bool)(w:World)(hR:qz F u)(h:qB w v u) :
  Calls Tryz.prog 160 #[v,zn (zf t)] w fun e w'=>e=.returned (zn (zf (q3K (zt F [120]) (zt F [121]) t)))∧Below w.heap.size w w':=by
 have HFX:=zb (fun W (q:qB W v u)=>q4q F u v W [120] hR q (by decide))
 have HFY:=zb (fun W (q:qB W v u)=>q4q F u v W [121] hR q (by decide))
 generalize zt F [120]=fx at *
 generalize zt F [121]=fy at *
 obtain⟨b,o,cap,rfl,hx1,hx2,hx3,hx4,hx5,hx6⟩:=qe h
 clear hx1 hx2 hx3 hx4 hx5 hx6
 obtain⟨s,hs⟩:∃s,s=q3K fx fy t:=⟨_,rfl⟩
 have HSXY:Hid (∀x y,s x y=(t x y&&(fx || x==0)&&(fy || y==0))):=zb (fun x y=>by rw[hs];rfl)
 rw[←hs]
 have HEND:=zb (j0E (j5H s))
 have HZ:=zb (j2R s)
 have HROW:=zb (j5I s)
 have HYES:=zb (fun x y hx hy=>j5J s x y hx hy)
 have HNO:=zb (fun x y=>acc_no s x y)
 have HHAS:=zb (fun x y hx hy=>q2a t x y hx hy)
 obtain⟨V,hV⟩:∃V,V=zn (zf s):=⟨_,rfl⟩
 rw[←hV]at HEND ⊢
 obtain⟨r,hr⟩:∃r,r=zf t:=⟨_,rfl⟩
 rw[←hr]at HHAS ⊢
 have HF:=zb h
 generalize hul:u.length=ul at *
 obtain⟨fv,hfv⟩:∃fv,fv=Value.slice (some ⟨b,o,none⟩) ul cap:=⟨_,rfl⟩
 have HFV:=zb hfv
 clear hs hV hr hul h hfv hR
 go_enter Tryz.func160,Tryz.ntmps160
 go_wp2_with fail
 obtain⟨W0,hW0⟩:∃W:World,W=(((w.alloc (.cells #[.slice (some ⟨b,o,none⟩) ul cap] 149)).alloc (.cells (zx r).toArray 47)).alloc (.cells zCs 47)).alloc (.cells zCs 47):=⟨_,rfl⟩
 rw[←hW0]
 have hz0:W0.heap.size=w.heap.size+4:=by rw[hW0];simp
 have A0:AnAt w W0 (.slice (some ⟨b,o,none⟩) ul cap) r s 0 0:=by
  refine⟨?_,?_,?_,?_,?_⟩
  ·rw[hW0,zO _ _ (by simp<;>omega),zO _ _ (by simp<;>omega),zO _ _ (by simp)];exact zN _ _
  ·rw[hW0,zO _ _ (by simp<;>omega),zO _ _ (by simp)]
   have:=zN (w.alloc (.cells #[.slice (some ⟨b,o,none⟩) ul cap] 149)) (.cells (zx r).toArray 47)
   simpa using this
  ·rw[hW0,zO _ _ (by simp)]
   have:=zN ((w.alloc (.cells #[.slice (some ⟨b,o,none⟩) ul cap] 149)).alloc (.cells (zx r).toArray 47)) (.cells zCs 47)
   simpa using this
  ·rw[HZ.out,hW0]
   have:=zN (((w.alloc (.cells #[.slice (some ⟨b,o,none⟩) ul cap] 149)).alloc (.cells (zx r).toArray 47)).alloc (.cells zCs 47)) (.cells zCs 47)
   simpa using this
  ·rw[hW0]
   exact((((zB _ _).alloc (zL _) _).alloc (by simp) _).alloc (by simp<;>omega) _).alloc (by simp<;>omega) _
 have HF0:=zb (HF.out.below A0.bel)
 have c0:=zC _ _ 0 _ _ _ A0.b0
 have HA0:=zb A0
 have hl0:=A0.lt
 clear hW0 A0 HF
 simp only[List.getElem?_toArray,List.getElem?_cons_zero]at c0
 go_wp2_with fail
 refine(HFX.out _ HF0.out).mono ?_
 rintro e w1 ⟨rfl,b1⟩
 have HA1:=zb (HA0.out.below b1)
 have HF1:=zb (HF0.out.below b1)
 have c1:=zC _ _ 0 _ _ _ HA1.out.b0
 have hl1:=HA1.out.lt
 simp only[List.getElem?_toArray,List.getElem?_cons_zero]at c1
 clear b1 HA0 HF0 c0 hl0 hz0
 go_wp2_with fail
 refine(HFY.out _ HF1.out).mono ?_
 rintro e w2 ⟨rfl,b2⟩
 have HA2:=zb (HA1.out.below b2)
 have hl2:=HA2.out.lt
 clear b2 HA1 HF1 c1 hl1 HFX HFY
 go_wp2_with fail
 go_loopg [8] 10 (fun g vi wr=>AnRelX w (.slice (some ⟨b,o,none⟩) ul cap) r s g vi wr)
 case atStart=>exact⟨0,by omega,by omega,rfl,HA2.out⟩
 case round =>
  obtain⟨x,hx,hg,rfl,hA⟩:=hrel
  have HG:=zb hg
  have HA:=zb hA
  have hlr:=hA.lt
  clear hg hA HA2 hl2
  by_cases hx10:x<10
  ·obtain⟨wo,hwo⟩:∃wo:World,wo=wr:=⟨_,rfl⟩
   obtain⟨gx,hgx⟩:∃gx:Nat,gx=gk:=⟨_,rfl⟩
   have hdx:decide ((x:Int)<10)=true:=by simp;omega
   go_wp2_with fail
   go_loopg [9] 10 (fun g vi wr=>AnRelY w (.slice (some ⟨b,o,none⟩) ul cap) r s x g vi wr)
   case atStart=>exact⟨0,by omega,by omega,rfl,HA.out⟩
   case round =>
    obtain⟨y,hy,hgy,rfl,hAy⟩:=hrel
    have HGY:=zb hgy
    have HAY:=zb hAy
    have hly:=hAy.lt
    clear hgy hAy
    by_cases hy10:y<10
    ·have L1:=(Arr.of_row (f:=r) HAY.out.b1).load
     obtain⟨V0,hV0⟩:∃V0,V0=zn r:=⟨_,rfl⟩
     have HH:=zb (HHAS.out x y hx10 hy10)
     rw[←hV0]at L1 HH
     clear hV0
     have HSY:Hid ((t x y&&(fx || x==0)&&(fy || y==0))=true→s x y=true):=zb (fun h=>by rw[HSXY.out];exact h)
     have HSN:Hid ((t x y&&(fx || x==0)&&(fy || y==0))=false→s x y=false):=zb (fun h=>by rw[HSXY.out];exact h)
     have HW:=zb (q8l (zf (q1p s x y)) x y)
     have hbx:((x:Int)==0)=(x==0):=by rw[Bool.eq_iff_iff];simp
     have hby:((y:Int)==0)=(y==0):=by rw[Bool.eq_iff_iff];simp
     generalize t x y=q at *
     generalize (x==0)=bx at *
     generalize (y==0)=by' at *
     have hg1:0<gk:=by have:=HGY.out;omega
     go_wp2_with (refine zg rfl 47 (.tmp 3) rfl ⟨w.heap.size+1,0,none⟩ V0 rfl L1 ?_)
     refine(HH.out _).mono ?_
     rintro e w3 ⟨rfl,b3⟩
     have HA3:=zb (HAY.out.below b3)
     have hl3:=HA3.out.lt
     have HQ:Hid ((q&&(fx || bx)&&(fy || by'))=(q&&(fx || bx)&&(fy || by'))):=zb rfl
     clear b3 HH L1 HAY hly
     cases q with
     |false =>
      have hsy:=HSN.out (by rfl)
      go_wp2_with fail
      go_roundg (gk-1)
      case measure=>omega
      case rel=>exact⟨y+1,by omega,by have:=HGY.out;omega,by go_num,HA3.out.next (HNO.out x y hsy)⟩
     |true =>
      cases fx with
      |true =>
       cases fy with
       |true =>
        have hsy:=HSY.out (by rfl)
        have hc:=HW.out
        rw[HYES.out x y hx10 hy10 hsy]at hc
        obtain⟨V1,hV1⟩:∃V1,V1=zn (zf (q1p s x y)):=⟨_,rfl⟩
        have L2:=(Arr.of_row (f:=zf (q1p s x y)) HA3.out.b3).load
        rw[←hV1]at L2 hc
        clear hV1
        go_wp2_with (refine zg rfl 47 (.tmp 5) rfl ⟨w.heap.size+3,0,none⟩ V1 rfl L2 ?_)
        refine(hc _).mono ?_
        rintro e w4 ⟨rfl,b4⟩
        have A4:=HA3.out.below b4
        obtain⟨W,s1,s2,s3,s4,s5,s6,s7⟩:=q2g w4 (w.heap.size+3) _ (zf (q1p s x (y+1))) A4.b3 rfl
        have HW4:Hid (AnAt w W (.slice (some ⟨b,o,none⟩) ul cap) r s x (y+1)):=zb ⟨by rw[s3 _ (by omega)];exact A4.b0,by rw[s3 _ (by omega)];exact A4.b1,by rw[s3 _ (by omega)];exact A4.b2,s2,⟨s5.trans A4.bel.os,s6.trans A4.bel.tape,s7.trans A4.bel.output,by rw[s4];exact A4.bel.size,fun q hq=>by rw[s3 q (by omega)];exact A4.bel.block q hq⟩⟩
        generalize zf (q1p s x (y+1))=h1 at *
        obtain⟨V2,hV2⟩:∃V2,V2=zn h1:=⟨_,rfl⟩
        rw[←hV2]at s1 ⊢
        clear hV2 s2 s3 s4 s5 s6 s7 A4 b4
        go_wp2_with (refine ze rfl 47 (.tmp 5) (.tmp 45) rfl ⟨w.heap.size+3,0,none⟩ V2 rfl rfl W s1 ?_)
        go_roundg (gk-1)
        case measure=>omega
        case rel=>exact⟨y+1,by omega,by have:=HGY.out;omega,by go_num,HW4.out⟩
       |false =>
        cases by' with
        |true =>
         have hsy:=HSY.out (by rfl)
         have hc:=HW.out
         rw[HYES.out x y hx10 hy10 hsy]at hc
         obtain⟨V1,hV1⟩:∃V1,V1=zn (zf (q1p s x y)):=⟨_,rfl⟩
         have L2:=(Arr.of_row (f:=zf (q1p s x y)) HA3.out.b3).load
         rw[←hV1]at L2 hc
         clear hV1
         go_wp2_with (refine zg rfl 47 (.tmp 5) rfl ⟨w.heap.size+3,0,none⟩ V1 rfl L2 ?_)
         refine(hc _).mono ?_
         rintro e w4 ⟨rfl,b4⟩
         have A4:=HA3.out.below b4
         obtain⟨W,s1,s2,s3,s4,s5,s6,s7⟩:=q2g w4 (w.heap.size+3) _ (zf (q1p s x (y+1))) A4.b3 rfl
         have HW4:Hid (AnAt w W (.slice (some ⟨b,o,none⟩) ul cap) r s x (y+1)):=zb ⟨by rw[s3 _ (by omega)];exact A4.b0,by rw[s3 _ (by omega)];exact A4.b1,by rw[s3 _ (by omega)];exact A4.b2,s2,⟨s5.trans A4.bel.os,s6.trans A4.bel.tape,s7.trans A4.bel.output,by rw[s4];exact A4.bel.size,fun q hq=>by rw[s3 q (by omega)];exact A4.bel.block q hq⟩⟩
         generalize zf (q1p s x (y+1))=h1 at *
         obtain⟨V2,hV2⟩:∃V2,V2=zn h1:=⟨_,rfl⟩
         rw[←hV2]at s1 ⊢
         clear hV2 s2 s3 s4 s5 s6 s7 A4 b4
         go_wp2_with (refine ze rfl 47 (.tmp 5) (.tmp 45) rfl ⟨w.heap.size+3,0,none⟩ V2 rfl rfl W s1 ?_)
         go_roundg (gk-1)
         case measure=>omega
         case rel=>exact⟨y+1,by omega,by have:=HGY.out;omega,by go_num,HW4.out⟩
        |false =>
         have hsy:=HSN.out (by rfl)
         go_wp2_with fail
         go_roundg (gk-1)
         case measure=>omega
         case rel=>exact⟨y+1,by omega,by have:=HGY.out;omega,by go_num,HA3.out.next (HNO.out x y hsy)⟩
      |false =>
       cases bx with
       |false =>
        have hsy:=HSN.out (by rfl)
        go_wp2_with fail
        go_roundg (gk-1)
        case measure=>omega
        case rel=>exact⟨y+1,by omega,by have:=HGY.out;omega,by go_num,HA3.out.next (HNO.out x y hsy)⟩
       |true =>
        cases fy with
        |true =>
         have hsy:=HSY.out (by rfl)
         have hc:=HW.out
         rw[HYES.out x y hx10 hy10 hsy]at hc
         obtain⟨V1,hV1⟩:∃V1,V1=zn (zf (q1p s x y)):=⟨_,rfl⟩
         have L2:=(Arr.of_row (f:=zf (q1p s x y)) HA3.out.b3).load
         rw[←hV1]at L2 hc
         clear hV1
         go_wp2_with (refine zg rfl 47 (.tmp 5) rfl ⟨w.heap.size+3,0,none⟩ V1 rfl L2 ?_)
         refine(hc _).mono ?_
         rintro e w4 ⟨rfl,b4⟩
         have A4:=HA3.out.below b4
         obtain⟨W,s1,s2,s3,s4,s5,s6,s7⟩:=q2g w4 (w.heap.size+3) _ (zf (q1p s x (y+1))) A4.b3 rfl
         have HW4:Hid (AnAt w W (.slice (some ⟨b,o,none⟩) ul cap) r s x (y+1)):=zb ⟨by rw[s3 _ (by omega)];exact A4.b0,by rw[s3 _ (by omega)];exact A4.b1,by rw[s3 _ (by omega)];exact A4.b2,s2,⟨s5.trans A4.bel.os,s6.trans A4.bel.tape,s7.trans A4.bel.output,by rw[s4];exact A4.bel.size,fun q hq=>by rw[s3 q (by omega)];exact A4.bel.block q hq⟩⟩
         generalize zf (q1p s x (y+1))=h1 at *
         obtain⟨V2,hV2⟩:∃V2,V2=zn h1:=⟨_,rfl⟩
         rw[←hV2]at s1 ⊢
         clear hV2 s2 s3 s4 s5 s6 s7 A4 b4
         go_wp2_with (refine ze rfl 47 (.tmp 5) (.tmp 45) rfl ⟨w.heap.size+3,0,none⟩ V2 rfl rfl W s1 ?_)
         go_roundg (gk-1)
         case measure=>omega
         case rel=>exact⟨y+1,by omega,by have:=HGY.out;omega,by go_num,HW4.out⟩
        |false =>
         cases by' with
         |true =>
          have hsy:=HSY.out (by rfl)
          have hc:=HW.out
          rw[HYES.out x y hx10 hy10 hsy]at hc
          obtain⟨V1,hV1⟩:∃V1,V1=zn (zf (q1p s x y)):=⟨_,rfl⟩
          have L2:=(Arr.of_row (f:=zf (q1p s x y)) HA3.out.b3).load
          rw[←hV1]at L2 hc
          clear hV1
          go_wp2_with (refine zg rfl 47 (.tmp 5) rfl ⟨w.heap.size+3,0,none⟩ V1 rfl L2 ?_)
          refine(hc _).mono ?_
          rintro e w4 ⟨rfl,b4⟩
          have A4:=HA3.out.below b4
          obtain⟨W,s1,s2,s3,s4,s5,s6,s7⟩:=q2g w4 (w.heap.size+3) _ (zf (q1p s x (y+1))) A4.b3 rfl
          have HW4:Hid (AnAt w W (.slice (some ⟨b,o,none⟩) ul cap) r s x (y+1)):=zb ⟨by rw[s3 _ (by omega)];exact A4.b0,by rw[s3 _ (by omega)];exact A4.b1,by rw[s3 _ (by omega)];exact A4.b2,s2,⟨s5.trans A4.bel.os,s6.trans A4.bel.tape,s7.trans A4.bel.output,by rw[s4];exact A4.bel.size,fun q hq=>by rw[s3 q (by omega)];exact A4.bel.block q hq⟩⟩
          generalize zf (q1p s x (y+1))=h1 at *
          obtain⟨V2,hV2⟩:∃V2,V2=zn h1:=⟨_,rfl⟩
          rw[←hV2]at s1 ⊢
          clear hV2 s2 s3 s4 s5 s6 s7 A4 b4
          go_wp2_with (refine ze rfl 47 (.tmp 5) (.tmp 45) rfl ⟨w.heap.size+3,0,none⟩ V2 rfl rfl W s1 ?_)
          go_roundg (gk-1)
          case measure=>omega
          case rel=>exact⟨y+1,by omega,by have:=HGY.out;omega,by go_num,HW4.out⟩
         |false =>
          have hsy:=HSN.out (by rfl)
          go_wp2_with fail
          go_roundg (gk-1)
          case measure=>omega
          case rel=>exact⟨y+1,by omega,by have:=HGY.out;omega,by go_num,HA3.out.next (HNO.out x y hsy)⟩
    ·have hye:y=10:=by omega
     subst hye
     have hg1:0<gx:=by have:=HG.out;omega
     have HAR:Hid (AnAt w wr (.slice (some ⟨b,o,none⟩) ul cap) r s (x+1) 0):=zb ⟨HAY.out.b0,HAY.out.b1,HAY.out.b2,by rw[←HROW.out];exact HAY.out.b3,HAY.out.bel⟩
     go_wp2_with fail
     go_roundg (gx-1)
     case measure=>omega
     case rel=>exact⟨x+1,by omega,by have:=HG.out;omega,by go_num,HAR.out⟩
  ·have hxe:x=10:=by omega
   subst hxe
   obtain⟨R1,W,R2,R3,R4,_⟩:=q6u (Arr.of_row (f:=zf (q1p s 10 0)) HA.out.b3) HA.out.b2 rfl (by omega) HA.out.bel
   rw[HEND.out]at R1 R2 R3
   rw[show w.heap.size+2=w.heap.size+1+1 from rfl]at R3
   clear HEND
   go_wp2_with (first|(refine zg rfl 47 (.tmp 5) rfl ⟨w.heap.size+3,0,none⟩ V rfl R1 ?_)|(refine ze rfl 47 (.tmp 4) (.tmp 46) rfl ⟨w.heap.size+2,0,none⟩ V rfl rfl W R2 ?_))
   exact zP (v:=V) (zr rfl _ _ _ _ rfl R3) rfl ⟨rfl,R4⟩
theorem j4Y:(Tryz.prog.info? 246).map (fun i=>(i.zero,i.size,i.bytes))=some (some (.slice none 0 0),1,24):=by kernel_rfl
theorem j6O:(Tryz.prog.info? 47).map (fun i=>(i.zero,i.size,i.bytes))=some (some (zn fun _=>0),10,20):=by kernel_rfl
theorem j3D {l r:zl}{p sp:Nat}{y:Pay}{u:List Tok}(h:qz (.node p sp y l r) u):(l=.nil∧r=.nil∧q1g (.node p sp y l r)=[])∨(l≠.nil∧r=.nil∧q1g (.node p sp y l r)=[l])∨(l≠.nil∧r≠.nil∧q1g (.node p sp y l r)=[l,r]):=by
 have hl:l=.nil→r=.nil:=by
  intro e
  subst e
  rcases h with⟨_,_,_,_,e4,_⟩|⟨_,_,_,_,e4,_⟩|⟨_,_,_,_,_,q1,q2,q3,ul,ur,hl',_⟩|⟨_,_,_,e4,_⟩|⟨_,_,_,_,_,q1,q2,q3,q4,q5,q6,q7,ul,ur,hl',_⟩|⟨_,_,_,_,_,_,e4,_⟩
  ·exact e4
  ·exact e4
  ·exact hl'.elim
  ·exact e4
  ·exact hl'.elim
  ·exact e4
 cases l with
 |nil =>
  have:=hl rfl
  subst this
  exact .inl ⟨rfl,rfl,rfl⟩
 |node a b c d e =>
  cases r with
  |nil=>exact .inr (.inl ⟨by simp,rfl,rfl⟩)
  |node a' b' c' d' e'=>exact .inr (.inr ⟨by simp,by simp,rfl⟩)
theorem part_of {w:World}{lv:Value}{l r:zl}{p sp:Nat}{y:Pay}{u:List Tok}{ks:List (zl × List Tok)}{xs:List Value}{n base:Nat}{L:List LPt}(hR:qz (.node p sp y l r) u)(hk:ks.map Prod.fst=q1g (.node p sp y l r))(hl:xs.length=ks.length)
  (hrow:w.ownsRow base 246 1 lv ks.length xs)(hT:∀j (h:j<ks.length) (h':j<xs.length),Tb w xs[j] n (qH L (ks[j]).1)):PartT w lv l r n (qH L l) (qH L r):=by
 have hrow0:=q1L (zZ base) hrow
 rcases j3D hR with⟨h1,h2,h3⟩|⟨h1,h2,h3⟩|⟨h1,h2,h3⟩
 ·exact⟨fun h=>absurd h1 h,fun h=>absurd h2 h⟩
 ·refine⟨fun _ _=>?_,fun h=>absurd h2 h⟩
  rw[h3]at hk
  match ks,xs,hl,hk with
  | [k],[x],_,hk =>
   have e:k.1=l:=by simpa using hk
   have:=hT 0 (by simp) (by simp)
   simp only[List.getElem_cons_zero]at this
   rw[e]at this
   exact⟨x,⟨[x],rfl,hrow0⟩,this,this⟩
 ·refine⟨fun _ h=>absurd h h2,fun _=>?_⟩
  rw[h3]at hk
  match ks,xs,hl,hk with
  | [k,k'],[x,x'],_,hk =>
   have e:k.1=l∧k'.1=r:=by simpa using hk
   have t0:=hT 0 (by simp) (by simp)
   have t1:=hT 1 (by simp) (by simp)
   simp only[List.getElem_cons_zero,List.getElem_cons_succ]at t0 t1
   rw[e.1]at t0
   rw[e.2]at t1
   exact⟨x,x',⟨[x,x'],rfl,hrow0⟩,t0,t1⟩
theorem wp_app1o {P:Program}{ops:Array Oper}{rest:List Oper}{o:Oper}{a:Act}{Q:Exit→Act→World→Prop}(hgd:o.guard=none)(x y:Operand)(t e:TypeId)
  (ho:o.op=.call {callee:=.builtin .append,args:=#[x,y],argTypes:=#[t,t]}){i:TypeInfo}{z:Value}{size bytes:Nat}(ht:P.underlying t=some (.slice e))(hi:P.info? e=some i)(hz:i.zero=some z)
  (hsize:i.size=size)(hby:i.bytes=bytes)(hzs:z.cells.size=size)(hsz:0<size)(base:Nat)(v:Value)(n:Nat)(xs news:List Value)(W:World)(hx:a.eval x=v)
  (hown:W.ownsRow base e size v n xs)(hy:a.eval y=.slice (some ⟨W.heap.size,0,none⟩) 1 1)(hl:news.length=size)(h1:∀u∈news,u.oneCell'=true)(hn:n≤100000)(hbb:bytes≤1000)(hbase:base≤W.heap.size)
  (h:∀v' w',w'.ownsRow base e size v' (n+1) (xs++news)→OnlyB v.ownBlock.toList W w'→wpList P ops Q rest (a.put o.dst v') w'):wpList P ops Q (o::rest) a (W.alloc (.cells news.toArray e)):=by
 refine wpList_append_own _ hgd x y t ho base e i z size bytes ht hi hz hsize hby hzs hsz v n xs hx (hown.alloc _) ⟨W.heap.size,0,none⟩ 1 1 news hy (by omega) ?_ h1 ?_ ?_ ?_ ?_
 ·intro j u hj
  rw[q2e]
  simpa using hj
 ·unfold maxLen;omega
 ·have:(n+1)*bytes≤100001*1000:=Nat.mul_le_mul (by omega) hbb
  omega
 ·simp;omega
 ·intro v' w' ho' hg _
  refine h v' w' ho' ⟨hg.os,hg.tape,hg.output,?_,fun k hk hn=>?_⟩
  ·have:=hg.size;simp at this;omega
  ·rw[hg.block k (by simp;omega) (fun e=>hn (by rw[←e];simp))]
   exact zO W _ hk
theorem Tb.only {w w':World}{v:Value}{m:Nat}{H:Nat→Nat→Nat→Bool}{bl:List Nat}(h:Tb w v m H)(ho:OnlyB bl w w')(hb:∀k∈bl,∃cs t,w.heap[k]?=some (.cells cs t (0,0))∧t≠47):Tb w' v m H:=
 ⟨by
  have hr:=h.row
  refine⟨hr.1,?_⟩
  rcases hr.2 with h'|⟨g,cap,cur,rfl,h2,h3,h4⟩
  ·exact .inl h'
  ·refine .inr ⟨g,cap,cur,rfl,h2,?_,h4⟩
   rw[ho.block g (zd h3) (fun hm=>by
    obtain⟨cs,t,e1,e2⟩:=hb g hm
    rw[h3]at e1
    simp only[Option.some.injEq,Obj.cells.injEq]at e1
    exact e2 e1.2.1.symm)]
   exact h3,h.far⟩
theorem zw {w:World}{base:Nat}{e:TypeId}{size:Nat}{v:Value}{n:Nat}{xs:List Value}(h:w.ownsRow base e size v n xs):∀k∈v.ownBlock.toList,base≤k∧∃cs,w.heap[k]?=some (.cells cs e (0,0)):=by
 intro k hk
 rcases h.2 with⟨rfl,_⟩|⟨g,cap,cur,rfl,h2,h3,h4⟩
 ·simp[Value.ownBlock]at hk
 ·have:k=g:=by simpa[Value.ownBlock]using hk
  subst this
  exact⟨h2,cur,h3⟩
def TbRel1 (w1:World)(ks:List (zl × List Tok))(L:List LPt)(n:Nat)(g:Nat)(vl vi:Value)(wr:World):Prop:=
 ∃(k:Nat) (xs:List Value),k≤ks.length∧ks.length-k≤g∧vi=.int .i64 k∧xs.length=k∧wr.ownsRow w1.heap.size 246 1 vl k xs∧(∀j (h:j<ks.length) (h':j<xs.length),Tb wr xs[j] n (qH L (ks[j]).1))∧Below w1.heap.size w1 wr
def TbRel2 (w2:World)(n:Nat)(H:Nat→Nat→Nat→Bool)(g:Nat)(vo vi:Value)(wr:World):Prop:=
 ∃k:Nat,k≤n∧n-k≤g∧vi=.int .i64 k∧wr.ownsRow w2.heap.size 47 10 vo k (q0H k H)∧Below w2.heap.size w2 wr
structure TnAt (w3 wq:World)(s:Nat→Nat→Bool)(x y:Nat):Prop where
 blk:wq.heap[w3.heap.size]?=some (.cells (zx (zf (q1p s x y))).toArray 47 (0,0))
 bel:Below w3.heap.size w3 wq
theorem TnAt.lt {w3 wq:World}{s:Nat→Nat→Bool}{x y:Nat}(h:TnAt w3 wq s x y):w3.heap.size<wq.heap.size:=zd h.blk
theorem TnAt.below {w3 wq w':World}{s:Nat→Nat→Bool}{x y:Nat}(h:TnAt w3 wq s x y)(hb:Below wq.heap.size wq w'):TnAt w3 w' s x y:=⟨(hb.block _ h.lt).trans h.blk,h.bel.trans (hb.mono h.bel.size)⟩
theorem TnAt.next {w3 wq:World}{s:Nat→Nat→Bool}{x y:Nat}(h:TnAt w3 wq s x y)(e:q1p s x y=q1p s x (y+1)):TnAt w3 wq s x (y+1):=⟨by rw[←e];exact h.blk,h.bel⟩
theorem TnAt.row {w3 wq:World}{s:Nat→Nat→Bool}{x:Nat}(h:TnAt w3 wq s x 10):TnAt w3 wq s (x+1) 0:=⟨by rw[←j5I];exact h.blk,h.bel⟩
def TnRelX (w3:World)(s:Nat→Nat→Bool)(g:Nat)(vi:Value)(wr:World):Prop:=∃x:Nat,x≤10∧10-x≤g∧vi=.int .i64 x∧TnAt w3 wr s x 0
def TnRelY (w3:World)(s:Nat→Nat→Bool)(x:Nat)(g:Nat)(vi:Value)(wr:World):Prop:=∃y:Nat,y≤10∧10-y≤g∧vi=.int .i64 y∧TnAt w3 wr s x y
theorem j7j:∀(F:zl) (u:List Tok) (v:Value) (w:World) (dv:Value) (DL:List (LPt × Value)),qz F u→q3t u→Lets u→qB w v u→DLogAt w dv DL→q5U w DL→q9H (zs DL) →
  Calls Tryz.prog 159 #[v,dv] w fun e w'=>∃v',e=.returned v'∧Tb w' v' DL.length (qH (zs DL) F)∧Below w.heap.size w w':=by
 intro F
 induction F with
 |nil=>intro u v w dv DL h;exact h.elim
 |node p sp y l r ihl ihr =>
  intro u v w dv DL hR hG hLe hF hL hH hM
  have HP:=zb (fun w1 (hb:Below w.heap.size w w1)=>q6H _ u v w1 hR (hF.below hb))
  have HI:Hid (∀k∈q1g (.node p sp y l r),∀(u':List Tok) (v':Value) (w':World),qz k u'→(∀t∈u',t∈u)→qB w' v' u'→DLogAt w' dv DL→q5U w' DL→Calls Tryz.prog 159 #[v',dv] w' fun e w''=>∃v'',e=.returned v''∧Tb w'' v'' DL.length (qH (zs DL) k)∧Below w'.heap.size w' w''):=by
   intro k hk u' v' w' h1 h2 h3 h4 h5
   rcases q7F hk with rfl|rfl
   ·exact ihl u' v' w' dv DL h1 (q0t hG h2) (hLe.sub h2) h3 h4 h5 hM
   ·exact ihr u' v' w' dv DL h1 (q0t hG h2) (hLe.sub h2) h3 h4 h5 hM
  have HPT:=zb (fun(W:World) (lv:Value) (ks:List (zl × List Tok)) (xs:List Value) (base:Nat) hk hl hrow hT=>@part_of W lv l r p sp y u ks xs DL.length base (zs DL) hR hk hl hrow hT)
  obtain⟨HN,hHN⟩:∃HN:Nat→Nat→Nat→Bool,HN=fun i x z=>qv (zz 0 p sp y l r) (zs DL) (qH (zs DL) l) (qH (zs DL) r) i x z:=⟨_,rfl⟩
  have HHO:Hid (∀(W:World) (lv:Value) (i x z:Nat),qB W v u→PartT W lv l r DL.length (qH (zs DL) l) (qH (zs DL) r)→DLogAt W dv DL→q5U W DL→i<DL.length→x<10→z<10→q5x v lv dv DL i x z W (HN i x z)):=zb (fun W lv i x z q1 q2 q3 q4 q5 q6 q7=>by rw[hHN];exact j7l p sp y l r u hR hG hLe v lv dv DL _ _ i x z q5 q6 q7 hM W q1 q2 q3 q4)
  have HEQ:Hid (∀W v',W.ownsRow 0 47 10 v' DL.length (q0H DL.length HN)→Tb W v' DL.length (qH (zs DL) (.node p sp y l r))):=zb (fun W v' h=>by
   refine⟨?_,fun i hi x z=>?_⟩
   ·rw[q4x (B:=HN) (fun i hi=>by
     funext x z
     rw[hHN]
     show(decide (i<(zs DL).length)&&_)=_
     rw[decide_eq_true (by simpa using hi),Bool.true_and])]
    exact h
   ·show(decide (i<(zs DL).length)&&_)=false
    rw[decide_eq_false (by simp;omega),Bool.false_and])
  have hkl:(q1g (.node p sp y l r)).length≤2:=by rcases j3D hR with⟨_,_,e⟩|⟨_,_,e⟩|⟨_,_,e⟩<;>(rw[e];simp)
  clear ihl ihr hHN hR hG hLe
  generalize hFF:(Go.Deep.BT.node p sp y l r:zl)=F at *
  clear hFF
  obtain⟨b,o,cap,rfl,hx1,hx2,hx3,hx4,hx5,hx6⟩:=qe hF
  clear hx1 hx2 hx3 hx4 hx5 hx6
  obtain⟨da,dc,rfl⟩:=qr hL.row
  have hsm:=hL.small
  have HF:=zb hF
  have HL:=zb hL
  have HH:=zb hH
  obtain⟨i0,hi0,hz0,hz1,hz2⟩:=info_parts j4Y
  obtain⟨i1,hi1,iz0,iz1,iz2⟩:=info_parts j6O
  clear hF hL hH hM
  generalize zs DL=L at *
  generalize hn:DL.length=n at *
  generalize u.length=ul at *
  go_enter Tryz.func159,Tryz.ntmps159
  go_wp2_with fail
  refine(HP.out _ ((zB _ _).alloc (zL _) _)).mono ?_
  rintro e w1 ⟨vk,ks,rfl,hk1,hk2,hk3,hb1⟩
  have q1:=((zB w.heap.size w).alloc (zL _) _).trans (hb1.mono (by simp))
  have cb1:w1.heap[w.heap.size]?=some (.cells #[.slice (some ⟨b,o,none⟩) ul cap] 149 (0,0)):=(hb1.block w.heap.size (by simp)).trans (zN _ _)
  have hl1:w.heap.size<w1.heap.size:=zd cb1
  have HQ1:=zb q1
  have HCB:=zb cb1
  obtain⟨av,nv,cv,rfl,hnv,hcv⟩:=q5g hk3
  have hnv':ks.length=nv:=by simpa using hnv.symm
  have hnv2:nv≤2:=by rw[←hk1,List.length_map]at hkl;omega
  have HK1:=zb hk1
  have HK2:=zb hk2
  have HK3:=zb hk3
  clear hb1 q1 cb1 hk1 hk2 hk3 hnv HP hkl
  go_wp2_with fail
  go_loopg [6,7] nv (fun g vl vi wr=>TbRel1 w1 ks L n g vl vi wr)
  case atStart=>exact⟨0,[],by omega,by omega,rfl,rfl,zW _ _ _ _,fun j h h'=>absurd h' (by simp),zB _ _⟩
  case round =>
   obtain⟨k,xs,hk,hg,rfl,hxl,hown,hTb,hbel⟩:=hrel
   have HG:=zb hg
   have HO:=zb hown
   have HT:=zb hTb
   have HB:=zb hbel
   obtain⟨la,lc,rfl⟩:=qr hown
   clear hg hown hTb hbel
   unfold maxLen at hcv
   by_cases hlt:k<nv
   ·have hlt':k<ks.length:=by omega
    obtain⟨gk',ok,xk,rfl,hxk,hfk⟩:=q7E (HK3.out.below HB.out) hlt'
    have hmem:ks[k]∈ks:=List.getElem_mem hlt'
    have HC:=zb (HI.out _ (by rw[←HK1.out];exact List.mem_map_of_mem hmem) _ _ _ (HK2.out _ hmem).1 (HK2.out _ hmem).2 hfk (HL.out.below (HQ1.out.trans (HB.out.mono HQ1.out.size))) (HH.out.below (HQ1.out.trans (HB.out.mono HQ1.out.size))))
    clear hmem hfk
    go_wp2_with fail
    refine HC.out.mono ?_
    rintro e w3 ⟨tv,rfl,hT3,b3⟩
    obtain⟨ta,tc,rfl⟩:=hT3.form
    have HB3:=zb (HB.out.trans (b3.mono HB.out.size))
    have HO3:=zb (zh HO.out b3)
    have HT3:=zb hT3
    have HTS:Hid (∀(j:Nat) (h:j<ks.length) (h':j<xs.length),Tb w3 xs[j] n (qH L ks[j].fst)):=zb (fun j h h'=>(HT.out j h h').below b3)
    clear b3 hT3 HT HO hxk HC
    go_wp2_with (at_builtin;refine wp_app1o rfl (.tmp 29) (.tmp 31) 259 246 rfl Tryz.underlying259 hi0 hz0 hz1 hz2 rfl (by decide) w1.heap.size _ _ _ [.slice ta n tc] w3 rfl HO3.out (by simp[Act.eval]) rfl (by simp[Value.oneCell']) (by omega) (by decide) HB3.out.size ?_;intro v' w' hown' honly')
    have hg1:0<gk:=by have:=HG.out;omega
    go_roundg (gk-1)
    case measure=>omega
    case rel =>
     refine⟨k+1,xs++[.slice ta n tc],by omega,by have:=HG.out;omega,by go_num,by simp[hxl],hown',fun j h h'=>?_,HB3.out.trans ?_⟩
     ·have hbl:∀q∈(Value.slice la k lc).ownBlock.toList,∃cs t,w3.heap[q]?=some (.cells cs t (0,0))∧t≠47:=fun q hq=>by obtain⟨_,cs,e⟩:=zw HO3.out q hq;exact⟨cs,_,e,by decide⟩
      rcases Nat.lt_or_ge j xs.length with gj|gj
      ·rw[List.getElem_append_left gj]
       exact(HTS.out j h gj).only honly' hbl
      ·have ej:j=k:=by simp at h';omega
       subst ej
       rw[List.getElem_append_right gj]
       simp only[hxl,Nat.sub_self,List.getElem_cons_zero]
       exact HT3.out.only honly' hbl
     ·exact honly'.below HB3.out.size (fun q hq=>(zw HO3.out q hq).1)
   ·have hke:k=nv:=by omega
    have HPW:=zb (HPT.out wr (.slice la k lc) ks xs w1.heap.size HK1.out (by omega) (by rw[hnv',←hke];exact HO.out) HT.out)
    clear hnv'
    subst hke
    obtain⟨w2,hw2⟩:∃w2:World,w2=wr:=⟨_,rfl⟩
    have HBW:=zb (HQ1.out.trans (HB.out.mono HQ1.out.size))
    have HF2:=zb (HF.out.below HBW.out)
    have HL2:=zb (HL.out.below HBW.out)
    have HH2:=zb (HH.out.below HBW.out)
    have HCF:Hid (∀wq,Below w2.heap.size w2 wq→wq.cell? ⟨w.heap.size,0,none⟩=some (.slice (some ⟨b,o,none⟩) ul cap)):=zb (fun wq hb=>by
     have e1:=(HB.out.block w.heap.size hl1).trans HCB.out
     rw[←hw2]at e1
     exact zC _ _ 0 _ _ _ ((hb.block _ (by have:=HB.out.size;rw[←hw2]at this;omega)).trans e1))
    rw[←hw2]at HPW HBW HF2 HL2 HH2 ⊢
    have hl2:w.heap.size<w2.heap.size:=by have:=HB.out.size;rw[←hw2]at this;omega
    have HHW:Hid (∀wq,Below w2.heap.size w2 wq→∀i x z,i<n→x<10→z<10→q5x (.agg #[.slice (some ⟨b,o,none⟩) ul cap]) (.slice la k lc) (.slice da n dc) DL i x z wq (HN i x z)):=zb (fun wq hb i x z h1 h2 h3=>HHO.out wq _ i x z (HF2.out.below hb) (HPW.out.below hb) (HL2.out.below hb) (HH2.out.below hb) h1 h2 h3)
    clear HI HPT HHO HK1 HK2 HK3 HO HT HB HPW HF2 HL2 HH2 HCB HQ1 HL HH HF hw2
    go_wp2_with fail
    go_loopg [9,10] n (fun g vo vi wr=>TbRel2 w2 n HN g vo vi wr)
    case atStart=>exact⟨0,by omega,by omega,rfl,zW _ _ _ _,zB _ _⟩
    case round =>
     obtain⟨i,hi,hg,rfl,hown,hbel⟩:=hrel
     have HGI:=zb hg
     have HO:=zb hown
     have HB:=zb hbel
     obtain⟨oa,oc,rfl⟩:=qr hown
     obtain⟨gi,hgi⟩:∃gi:Nat,gi=gk:=⟨_,rfl⟩
     clear hg hown hbel
     by_cases hin:i<n
     ·obtain⟨w3,hw3⟩:∃w3:World,w3=wr:=⟨_,rfl⟩
      rw[←hw3]at HO HB ⊢
      clear hw3
      have hdi:decide ((i:Int)<(n:Int))=true:=by simp;omega
      have HHI:Hid (∀wq,Below w3.heap.size w3 wq→∀x z,x<10→z<10→q5x (.agg #[.slice (some ⟨b,o,none⟩) ul cap]) (.slice la k lc) (.slice da n dc) DL i x z wq (HN i x z)):=zb (fun wq hb x z h2 h3=>HHW.out wq (HB.out.trans (hb.mono HB.out.size)) i x z hin h2 h3)
      have HCI:Hid (∀wq,Below w3.heap.size w3 wq→wq.cell? ⟨w.heap.size,0,none⟩=some (.slice (some ⟨b,o,none⟩) ul cap)):=zb (fun wq hb=>HCF.out wq (HB.out.trans (hb.mono HB.out.size)))
      have hl3:w.heap.size<w3.heap.size:=zT hl2 HB.out.size
      obtain⟨s,hs⟩:∃s,s=HN i:=⟨_,rfl⟩
      have HS:=zb hs
      rw[←hs]at HHI
      clear hs
      have HYES:=zb (fun x y hx hy=>j5J s x y hx hy)
      have HNO:=zb (fun x y=>acc_no s x y)
      go_wp2_with fail
      go_loopg [12] 10 (fun g vi wr=>TnRelX w3 s g vi wr)
      case atStart =>
       refine⟨0,by omega,by omega,rfl,⟨?_,(zB _ _).alloc (zL _) _⟩⟩
       rw[j2R]
       exact zN _ _
      case round =>
       obtain⟨x,hx,hg,rfl,hA⟩:=hrel
       have HGX:=zb hg
       have HA:=zb hA
       have hla:=hA.lt
       obtain⟨gx,hgx⟩:∃gx:Nat,gx=gk:=⟨_,rfl⟩
       have HGE:=zb hgx
       clear hg hA hgx
       by_cases hx10:x<10
       ·have hdx:decide ((x:Int)<10)=true:=by simp;omega
        go_wp2_with fail
        go_loopg [13] 10 (fun g vi wr=>TnRelY w3 s x g vi wr)
        case atStart=>exact⟨0,by omega,by omega,rfl,HA.out⟩
        case round =>
         obtain⟨y,hy,hgy,rfl,hAy⟩:=hrel
         have HGY:=zb hgy
         have HAY:=zb hAy
         have hly:=hAy.lt
         clear hgy hAy
         by_cases hy10:y<10
         ·have HC:=zb (HHI.out _ HAY.out.bel x y hx10 hy10)
          have cf:=HCI.out _ HAY.out.bel
          have HW:=zb (q8l (zf (q1p s x y)) x y)
          obtain⟨q,hq⟩:∃q,q=s x y:=⟨_,rfl⟩
          rw[←hq]at HC
          have HQ:=zb hq
          clear hq
          have hg1:0<gk:=by have:=HGY.out;omega
          go_wp2_with fail
          refine HC.out.mono ?_
          rintro e w4 ⟨rfl,b4⟩
          have HA4:=zb (HAY.out.below b4)
          have hl4:=HA4.out.lt
          clear b4 HC HAY hly cf
          cases q with
          |false =>
           go_wp2_with fail
           go_roundg (gk-1)
           case measure=>omega
           case rel=>exact⟨y+1,by omega,by have:=HGY.out;omega,by go_num,HA4.out.next (HNO.out x y HQ.out.symm)⟩
          |true =>
           have hc:=HW.out
           rw[HYES.out x y hx10 hy10 HQ.out.symm]at hc
           obtain⟨V1,hV1⟩:∃V1,V1=zn (zf (q1p s x y)):=⟨_,rfl⟩
           have L2:=(Arr.of_row (f:=zf (q1p s x y)) HA4.out.blk).load
           rw[←hV1]at L2 hc
           clear hV1
           go_wp2_with (refine zg rfl 47 (.tmp 11) rfl ⟨w3.heap.size,0,none⟩ V1 rfl L2 ?_)
           refine(hc _).mono ?_
           rintro e w5 ⟨rfl,b5⟩
           have A5:=HA4.out.below b5
           obtain⟨W,s1,s2,s3,s4,s5,s6,s7⟩:=q2g w5 w3.heap.size _ (zf (q1p s x (y+1))) A5.blk rfl
           have HW5:Hid (TnAt w3 W s x (y+1)):=zb ⟨s2,⟨s5.trans A5.bel.os,s6.trans A5.bel.tape,s7.trans A5.bel.output,by rw[s4];exact A5.bel.size,fun q hq=>by rw[s3 q (by omega)];exact A5.bel.block q hq⟩⟩
           generalize zf (q1p s x (y+1))=h1 at *
           obtain⟨V2,hV2⟩:∃V2,V2=zn h1:=⟨_,rfl⟩
           rw[←hV2]at s1 ⊢
           clear hV2 s2 s3 s4 s5 s6 s7 A5 b5
           go_wp2_with (refine ze rfl 47 (.tmp 11) (.tmp 59) rfl ⟨w3.heap.size,0,none⟩ V2 rfl rfl W s1 ?_)
           go_roundg (gk-1)
           case measure=>omega
           case rel=>exact⟨y+1,by omega,by have:=HGY.out;omega,by go_num,HW5.out⟩
         ·have hye:y=10:=by omega
          subst hye
          have HAR:=zb HAY.out.row
          have hg1:0<gx:=by have:=HGX.out;have:=HGE.out;omega
          go_wp2_with fail
          go_roundg (gx-1)
          case measure=>have:=HGE.out;omega
          case rel=>exact⟨x+1,by omega,by have:=HGX.out;have:=HGE.out;omega,by go_num,HAR.out⟩
       ·have hxe:x=10:=by omega
        subst hxe
        have L5:=(Arr.of_row (f:=zf (q1p s 10 0)) HA.out.blk).load
        rw[j0E (j5H s)]at L5
        have HO5:=zb (zh HO.out HA.out.bel)
        have HB5:=zb (HB.out.trans (HA.out.bel.mono HB.out.size))
        have HTS:Hid (q0H (i+1) HN=q0H i HN++zx (zf s)):=zb (by rw[q1E,HS.out])
        generalize zf s=h at *
        have hg1:0<gi:=by have:=HGI.out;omega
        go_wp2_with (first|(refine zg rfl 47 (.tmp 11) rfl ⟨w3.heap.size,0,none⟩ (zn h) rfl L5 ?_)|(at_builtin;refine q2c rfl (.tmp 60) (.tmp 62) 246 47 rfl Tryz.underlying246 hi1 iz0 iz1 iz2 rfl (by decide) w2 w2.heap.size _ _ _ [.int .u16 (h 0),.int .u16 (h 1),.int .u16 (h 2),.int .u16 (h 3),.int .u16 (h 4),.int .u16 (h 5),.int .u16 (h 6),.int .u16 (h 7),.int .u16 (h 8),.int .u16 (h 9)] wr rfl HO5.out (by simp[Act.eval]) rfl (by simp[Value.oneCell']) (by omega) (by decide) HB5.out HB5.out.size ?_;intro v' w' hown' hbel' hne))
        go_roundg (gi-1)
        case measure=>omega
        case rel=>exact⟨i+1,by omega,by have:=HGI.out;omega,by go_num,by rw[HTS.out];exact hown',hbel'⟩
     ·have hie:i=n:=by omega
      subst hie
      go_wp2_with fail
      go_ret
      exact⟨_,rfl,HEQ.out _ _ (q1L (zZ _) HO.out),HBW.out.trans (HB.out.mono HBW.out.size)⟩
end Go.Proofs.YtiamjjonoeaggaaGreatDoor
