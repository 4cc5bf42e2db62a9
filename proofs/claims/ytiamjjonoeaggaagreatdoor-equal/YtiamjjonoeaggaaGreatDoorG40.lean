import Derived.Test.YtiamjjonoeaggaaGreatDoorGA
import Derived.Test.YtiamjjonoeaggaaGreatDoorGB
import Derived.Test.YtiamjjonoeaggaaGreatDoorG01
import Derived.Test.YtiamjjonoeaggaaGreatDoorG10
import Derived.Test.YtiamjjonoeaggaaGreatDoorG37
import Derived.Test.YtiamjjonoeaggaaGreatDoorG38
import Derived.Test.YtiamjjonoeaggaaGreatDoorG39
set_option maxRecDepth 100000
set_option maxHeartbeats 16000000
namespace Go.Proofs.YtiamjjonoeaggaaGreatDoor
open Go.RowKit
theorem j9r {y:Pay}{l r:zh}(h:NodeOk y (q1f l) (q1f r)):NodeOk y l r:=
 ⟨h.word,h.args,h.lo,h.hi,by have:=h.shape;simp only[ne_eq,j4v]at this ⊢;exact this⟩
theorem j7e {y:Pay}{l r:zh}(h:NodeOk y l r):NodeOk y (q1f l) (q1f r):=
 ⟨h.word,h.args,h.lo,h.hi,by have:=h.shape;simp only[ne_eq,j4v]at this ⊢;exact this⟩
theorem j8j:∀F:zh,q1K (q1f F)↔q1K F:=by
 intro F
 induction F with
 |nil=>exact Iff.rfl
 |node p sp y l r ihl ihr =>
  show(NodeOk y (q1f l) (q1f r)∧q1K (q1f l)∧q1K (q1f r))↔(NodeOk y l r∧q1K l∧q1K r)
  rw[ihl,ihr]
  exact⟨fun h=>⟨j9r h.1,h.2⟩,fun h=>⟨j7e h.1,h.2⟩⟩
theorem ok_fine {F:zh}(hF:Fine F)(hh:hgt F≤8)(hl:(zy F).length≤240):q1K F:=by
 obtain⟨hc,hb⟩:=j0O hF hh hl
 have h:=(j3t (s:=zy F) (by rw[hc])).1.ok
 exact(j8j F).1 (by rw[←hb];exact(j8j _).2 h)
theorem j9X {F:zh}(hF:q1K F)(X:List LnK)(i:Nat)(h:i<(q3l F X).length)(v z:Nat):(q3l F X)[i].2.2 v z=((q3l (zV F) X)[i]'(by rw[q2S]at h ⊢;omega)).2.2 z v:=by
 rw[j0z,j0z]
 show q6M (zg F [120]) (zg F [121]) (zs (q7G X) F i) v z=q6M (zg (zV F) [120]) (zg (zV F) [121]) (zs (q7G X) (zV F) i) z v
 unfold q6M
 rw[(q3Z F).1,(q3Z F).2,j6O _ F hF,Bool.and_assoc,Bool.and_assoc,Bool.and_comm (zg F [120] || v==0)]
def SwRel (n:Nat)(w:World)(g:Nat)(vi:Value)(wr:World):Prop:=∃k:Nat,k≤n∧n-k≤g∧vi=.int .i64 k∧Below w.heap.size w wr
theorem kep_Swapped (raw lines:By)(hr:raw.length≤maxLen)(hl:lines.length≤maxLen)(w:World)(ht:q8i w) :
  Calls Tryz.prog 10 #[bs raw,bs lines] w fun e w'=>e=.returned (.bool true)∧Below w.heap.size w w':=by
 have HFM:=zb (j3r raw hr 3 (by omega) w)
 have HLG:=zb (fun W q=>j1d lines hl W q)
 have fa:=fine3 raw
 have HT:=zb ht
 clear ht hr hl
 generalize (mkF raw 3 0).1=F at *
 have HR1:=zb (fun base v W hv=>q5C F fa.fine (by have:=fa.hgt;omega) (by have:=fa.len;omega) lines 0 base v W hv)
 have HR2:=zb (fun base v W hv=>q5C (zV F) (j9T fa.fine) (by rw[swap_hgt];have:=fa.hgt;omega) (by rw[q5S];have:=fa.len;omega) lines 0 base v W hv)
 have hok:=ok_fine fa.fine (by have:=fa.hgt;omega) (by have:=fa.len;omega)
 have HSV:Hid (∀(i:Nat) (h:i<(q3l F (q0T lines 0)).length) (h':i<(q3l (zV F) (q0T lines 0)).length) (v z:Nat),(q3l F (q0T lines 0))[i].2.2 v z=(q3l (zV F) (q0T lines 0))[i].2.2 z v):=zb (fun i h h' v z=>j9X hok (q0T lines 0) i h v z)
 have hlv:(q3l (zV F) (q0T lines 0)).length=(q3l F (q0T lines 0)).length:=by rw[q2S,q2S]
 have hln:(q3l F (q0T lines 0)).length≤12:=by rw[q2S];exact q8J _ _
 have cT:(q0o F)[0]?=some (bs (zy F)):=rfl
 have cU:(q0o F)[1]?=some (bs (zy (zV F))):=rfl
 have HAO:=zb (q5G F)
 have HAI:=zb (q1y F)
 have HAZ:Hid ((q0o F).size=5):=zb rfl
 generalize q0o F=MA at *
 generalize q3l F (q0T lines 0)=VA at *
 generalize q3l (zV F) (q0T lines 0)=VB at *
 generalize (q0T lines 0).map q4I=TX at *
 generalize zy F=TF at *
 generalize zy (zV F)=TU at *
 have HLV:=zb hlv
 clear hok fa hlv
 go_enter Tryz.func10,Tryz.ntmps10
 go_wp2_with fail
 refine HFM.out.mono ?_
 rintro e w1 ⟨rfl,b1⟩
 obtain⟨W2,s1,s2,s3,s4⟩:=qI (P:=Tryz.prog) 23 w1 q4y MA HAI.out (by rw[HAZ.out];rfl) HAO.out
 have B2:Below w.heap.size w W2:=b1.trans (s3.mono b1.size)
 have hl2:w1.heap.size<W2.heap.size:=zd s2
 have c2:=(zC _ _ 0 _ _ _ s2).trans cT
 have d2:=(zC _ _ 1 _ _ _ s2).trans cU
 have HS:=zb s1
 have HB2:=zb B2
 have HC2:=zb c2
 have HD2:=zb d2
 clear b1 s1 s2 s3 s4 B2 c2 d2
 go_wp2_with (refine ze rfl 23 (.tmp 5) (.tmp 17) rfl ⟨w1.heap.size,0,none⟩ (.agg MA) rfl rfl W2 HS.out ?_)
 refine(HLG.out _ (HT.out.below HB2.out (zL _))).mono ?_
 rintro e w3 ⟨v,rfl,r3,b3⟩
 obtain⟨va,vc,rfl⟩:=ql r3
 have c3:=(zw b3 w1.heap.size 0 hl2).trans HC2.out
 have d3:=(zw b3 w1.heap.size 1 hl2).trans HD2.out
 have hl3:w1.heap.size<w3.heap.size:=zT hl2 b3.size
 have HR3:=zb r3
 have HB3:=zb (HB2.out.trans (b3.mono HB2.out.size))
 have HD3:=zb d3
 clear r3 b3 HC2 HD2 HS d3
 go_wp2_with fail
 refine(HR1.out _ _ _ HR3.out).mono ?_
 rintro e w4 ⟨u4,rfl,r4,b4⟩
 obtain⟨xa,xc,rfl⟩:=ql r4
 have d4:=(zw b4 w1.heap.size 1 hl3).trans HD3.out
 have hl4:w1.heap.size<w4.heap.size:=zT hl3 b4.size
 have HX4:=zb r4
 have HR4:=zb (zo HR3.out b4)
 have HB4:=zb (HB3.out.trans (b4.mono HB3.out.size))
 clear r4 b4 c3 HD3 HR3
 go_wp2_with fail
 refine(HR2.out _ _ _ HR4.out).mono ?_
 rintro e w5 ⟨u5,rfl,r5,b5⟩
 rw[HLV.out]at r5
 obtain⟨ya,yc,rfl⟩:=ql r5
 have HY5:=zb r5
 have HX5:=zb (zo HX4.out b5)
 have HB5:=zb (HB4.out.trans (b5.mono HB4.out.size))
 clear r5 b5 d4 HR4 HX4 HR1 HR2 HLG HFM
 go_wp2_with fail
 go_loopg [11] VA.length (fun g vi wr=>SwRel VA.length w5 g vi wr)
 case atStart=>exact⟨0,zZ _,by omega,rfl,zB _ _⟩
 case round =>
  obtain⟨k,hk,hg,rfl,hbr⟩:=hrel
  obtain⟨g1,hg1⟩:∃g1,g1=gk:=⟨_,rfl⟩
  have HG1:Hid (VA.length-k≤g1):=zb (by omega)
  have HBR1:=zb hbr
  clear hg hbr
  by_cases hkn:k<VA.length
  ·have hlv:=HLV.out
   obtain⟨ga,ca,ea⟩:=zJ HX5.out (by omega)
   obtain⟨gb,cb,eb⟩:=zJ HY5.out (by omega)
   obtain⟨rfl,rfl⟩:xa=some ⟨ga,0,none⟩∧xc=ca:=by simpa using ea
   obtain⟨rfl,rfl⟩:ya=some ⟨gb,0,none⟩∧yc=cb:=by simpa using eb
   obtain⟨_,_,a1,a2,_⟩:=q7p HX5.out
   obtain⟨_,_,b1,b2,_⟩:=q7p HY5.out
   have HY6:Hid (w5.ownsRow w4.heap.size 49 12 (.slice (some ⟨gb,0,none⟩) VB.length yc) VB.length (qn VB)):=zb (by rw[hlv];exact HY5.out)
   have hn:VA.length≤9223372036854775807:=by omega
   obtain⟨sA,hsA⟩:∃sA,sA=VA[k].2.2:=⟨_,rfl⟩
   obtain⟨sB,hsB⟩:∃sB,sB=(VB[k]'(by omega)).2.2:=⟨_,rfl⟩
   have HEQ:Hid (∀v z,sA v z=sB z v):=zb (fun v z=>by rw[hsA,hsB];exact HSV.out k hkn (by omega) v z)
   obtain⟨VA1,hVA⟩:∃V,V=zr (zm sA):=⟨_,rfl⟩
   obtain⟨VB1,hVB⟩:∃V,V=zr (zm sB):=⟨_,rfl⟩
   have HVA:=zb hVA
   have HVB:=zb hVB
   have HSS:Hid (∀w',Below w5.heap.size w5 w'→(Instr.loadAt 47 (.pointer (some ⟨ga,k*12+2,none⟩))).run Tryz.prog w'=.ok VA1 w'∧(Instr.loadAt 47 (.pointer (some ⟨gb,k*12+2,none⟩))).run Tryz.prog w'=.ok VB1 w'):=zb (fun w' hw=>by
    refine⟨?_,?_⟩
    ·rw[hVA,hsA];exact q9c (zo HX5.out hw) hkn
    ·rw[hVB,hsB];exact q9c (zo HY6.out hw) (by omega))
   have cAA:=(q9b HX5.out hkn).1
   have cBB:=(q9b HY6.out (k:=k) (by omega)).1
   have hga:ga<w5.heap.size:=World.block_lt_of_cell? w5 _ cAA
   have hgb:gb<w5.heap.size:=World.block_lt_of_cell? w5 _ cBB
   clear hlv hVA hVB hsA hsB ea eb a2 b2 cAA cBB
   go_wp2_with fail
   go_loopg [12] 10 (fun g vi wr=>SwRel 10 w5 g vi wr)
   case atStart=>exact⟨0,zZ _,by omega,rfl,HBR1.out⟩
   case round =>
    obtain⟨v,hv,hgv,rfl,hbr⟩:=hrel
    obtain⟨g2,hg2⟩:∃g2,g2=gk:=⟨_,rfl⟩
    have HG2:Hid (10-v≤g2):=zb (by omega)
    have HBR2:=zb hbr
    clear hgv hbr
    by_cases hv10:v<10
    ·have hvi:(v:Int)<10:=by omega
     go_wp2_with fail
     go_loopg [13] 10 (fun g vi wr=>SwRel 10 w5 g vi wr)
     case atStart=>exact⟨0,zZ _,by omega,rfl,HBR2.out⟩
     case round =>
      obtain⟨z,hz,hgz,rfl,hbr⟩:=hrel
      have HG3:Hid (10-z≤gk):=zb hgz
      have HBR3:=zb hbr
      have hl5:=hbr.size
      clear hgz hbr
      by_cases hz10:z<10
      ·skip
       have hzi:(z:Int)<10:=by omega
       have hga3:ga<wr.heap.size:=zT hga hl5
       have hgb3:gb<wr.heap.size:=zT hgb hl5
       have HHA:=zb (fun W=>q6d sA v z hv10 hz10 W)
       have HHB:=zb (fun W=>q6d sB z v hz10 hv10 W)
       rw[←HVA.out]at HHA
       rw[←HVB.out,←HEQ.out]at HHB
       generalize sA v z=bb at *
       have D3:=(zB wr.heap.size wr).drew
       have C3:=HSS.out _ (HBR3.out.trans (D3.mono HBR3.out.size))
       go_wp2_with fail
       refine wp_region_held_drew (S:=fun w'=>(Instr.loadAt 47 (.pointer (some ⟨ga,k*12+2,none⟩))).run Tryz.prog w'=.ok VA1 w'∧(Instr.loadAt 47 (.pointer (some ⟨gb,k*12+2,none⟩))).run Tryz.prog w'=.ok VB1 w') (by kernel_rfl) C3 (fun hS0=>?_)
       simp only[rz,Nat.zero_add,Nat.reduceAdd]
       refine tq 0 54 ?_
       simp only[Act.put,pz]
       refine tq 1 55 ?_
       simp only[Act.put,pz]
       refine tq 2 56 ?_
       simp only[Act.put,pz]
       refine tq 3 57 ?_
       simp only[Act.put,pz]
       refine q0V (i:=4) (v:=VA1) 58 rfl rfl (by kernel_rfl) (by kernel_rfl) (by kernel_rfl) (fun _ _ _ h=>h) (by rfl) (by assumption) ?_ ?_
       ·intro W hSw;exact q6b 47 (.tmp 57) rfl ⟨ga,k*12+2,none⟩ _ rfl hSw.1
       simp only[Act.put,pz]
       refine tq 5 59 ?_
       simp only[Act.put,pz]
       refine tq 6 60 ?_
       simp only[Act.put,pz]
       refine tq 8 62 ?_
       simp only[Act.put,pz]
       refine tq 9 63 ?_
       simp only[Act.put,pz]
       refine tq 10 64 ?_
       simp only[Act.put,pz]
       refine tq 11 65 ?_
       simp only[Act.put,pz]
       refine q0V (i:=12) (v:=VB1) 66 rfl rfl (by kernel_rfl) (by kernel_rfl) (by kernel_rfl) (fun _ _ _ h=>h) (by rfl) (by assumption) ?_ ?_
       ·intro W hSw;exact q6b 47 (.tmp 65) rfl ⟨gb,k*12+2,none⟩ _ rfl hSw.2
       simp only[Act.put,pz]
       refine tq 13 67 ?_
       simp only[Act.put,pz]
       refine tq 14 68 ?_
       simp only[Act.put,pz]
       refine rd1 7 rfl fun K hK=>?_
       go_simp
       refine(HHA.out _).mono ?_
       rintro e w7 ⟨rfl,b7⟩
       have B7:Below wr.heap.size wr w7:=D3.trans (b7.mono D3.size)
       go_simp
       refine hK.out _ _ (HSS.out _ (HBR3.out.trans (B7.mono HBR3.out.size))) (fun hS1=>?_)
       clear hK K b7 hS0
       simp only[pz]
       refine rd1 15 rfl fun K hK=>?_
       go_simp
       refine(HHB.out _).mono ?_
       rintro e w8 ⟨rfl,b8⟩
       have B8:Below wr.heap.size wr w8:=B7.trans (b8.mono B7.size)
       go_simp
       refine hK.out _ _ (HSS.out _ (HBR3.out.trans (B8.mono HBR3.out.size))) (fun hS2=>?_)
       clear hK K b8 hS1
       simp only[pz]
       refine tq 16 70 ?_
       simp only[Act.put,pz]
       refine zD (by kernel_rfl) ?_ _
       have HB8:=zb (HBR3.out.trans (B8.mono HBR3.out.size))
       clear hS2 B7 B8 C3 D3
       go_wp2_with fail
       have hgp:0<gk:=by have:=HG3.out;omega
       go_roundg (gk-1)
       case measure=>omega
       case rel=>exact⟨z+1,by omega,by have:=HG3.out;omega,by go_num,HB8.out⟩
      ·go_wp2_with fail
       have hgp:0<g2:=by have:=HG2.out;omega
       go_roundg (g2-1)
       case measure=>omega
       case rel=>exact⟨v+1,by omega,by have:=HG2.out;omega,by go_num,HBR3.out⟩
    ·go_wp2_with fail
     have hgp:0<g1:=by have:=HG1.out;omega
     go_roundg (g1-1)
     case measure=>omega
     case rel=>exact⟨k+1,by omega,by have:=HG1.out;omega,by go_num,HBR2.out⟩
  ·go_wp2_with fail
   go_ret
   exact⟨rfl,HB5.out.trans (HBR1.out.mono HB5.out.size)⟩
end Go.Proofs.YtiamjjonoeaggaaGreatDoor
namespace Go.Proofs.YtiamjjonoeaggaaGreatDoor
open Go
open Go.ChangeShapes Go.WideShapes Go.ChangeAt Go.WideElems Go.RowKit
theorem door_Swapped (os:Os)(args:Array Value):laidMetH Tryz.prog Rows.swappedRow.laid ((World.doorLaid Tryz.prog 400 os).forCall (fun _ _=>0) ⟨#[],args,[]⟩).memory:=
 laidMetH_of_parts3 (fuel:=8) (laidMet_of_run' 8 (by kernel_rfl) (by kernel_rfl)) (by kernel_rfl) (by kernel_rfl)
theorem tab_Swapped {W:World}(h:laidMetH Tryz.prog Rows.swappedRow.laid W):q8i W:=by
 have h2:laidMet Tryz.prog Rows.swappedRow.laid W:=h
 exact j6j h2 q8C.m17
theorem swapped_lifted (os:Os)(started:os.Started)(H:Type)(enc:TypeId × Value→H) :
  ReturnsInHanded {} Tryz.checked os 10 .any (fun w args=>(Rows.swappedSpec.pre enc Tryz.prog Tryz.f10 [] false w args∧laidMetH Tryz.prog Rows.swappedRow.laid w)∧sizedMet enc Tryz.prog Tryz.f10 (OpenSpec.ofChange Rows.swappedSpec) false w args)
   (Rows.swappedSpec.post enc Tryz.prog Tryz.f10 false true false false):=by
 refine returnsInHanded_of_change_and (C:=Tryz.checked) (X:=fun w _=>laidMetH Tryz.prog Rows.swappedRow.laid w) (fun _ _ _ hh h=>h.of_heap hh) ownK started (by kernel_rfl) Tryz.func10
  (ChangeSpec.witness_shaped (enc:=enc) (C:=Tryz.checked) (os:=os) (X:=fun w _=>laidMetH Tryz.prog Rows.swappedRow.laid w) false (World.doorLaid Tryz.prog 400 os) #[.string ⟨#[]⟩,.string ⟨#[]⟩] 8 rfl (World.shaped_of_RefB (by kernel_rfl) (by kernel_rfl)) (by kernel_rfl) (by kernel_rfl) (by kernel_rfl) (door_Swapped os _)) ?_
 intro W base args ds gs before hval0 hW _ _ hL _
 have hval:∀(j:Nat) t v,Tryz.f10.params[j]?=some t→args[j]?=some v→Value.okWide Tryz.prog W .any base t v:=hval0
 have hW':=hW
 obtain⟨p,q,hA0,hV,rfl,hfz,hnd⟩:=hW
 have hA:DataW.TrodAll enc Tryz.prog W 0 (fun _=>true) true Tryz.f10.params.toList args.toList ds p:=hA0
 rw[Tryz.params10]at hA hval
 obtain⟨v0,vs0,d0,ds0,p0,q0,e0,rfl,rfl,h0,hr0⟩:=trodAll_cons hA
 obtain⟨v1,vs1,d1,ds1,p1,q1,e1,rfl,rfl,h1,hr1⟩:=trodAll_cons hr0
 obtain⟨rfl,rfl,rfl⟩:=trodAll_nil hr1
 subst e1
 obtain rfl:args=#[v0,v1]:=by cases args;simp_all
 obtain⟨rfl,rfl⟩:=trodVars_none hV
 clear hA0 hval0
 simp only[List.append_nil]at hW'
 have hlt0:∀x∈p0,x.block<W.heap.size:=fun x hx=>by simpa using hW'.lt x (List.mem_append_left _ hx)
 have ha0:∀(W':World),Below W.heap.size W W'→DataW.Trod enc Tryz.prog W' 0 (fun b=>decide (b<W.heap.size)) true 9 v0 d0 p0:=fun W' hn=>Below.trod q6L (by kernel_rfl) (of_decide_eq_true (by kernel_rfl)) h0 hn hlt0
 have hlt1:∀x∈p1,x.block<W.heap.size:=fun x hx=>by simpa using hW'.lt x (List.mem_append_right _ (hx))
 have ha1:∀(W':World),Below W.heap.size W W'→DataW.Trod enc Tryz.prog W' 0 (fun b=>decide (b<W.heap.size)) true 9 v1 d1 p1:=fun W' hn=>Below.trod q6L (by kernel_rfl) (of_decide_eq_true (by kernel_rfl)) h1 hn hlt1
 have fin:∀W',Below W.heap.size W W'→Rows.swappedSpec.post enc Tryz.prog Tryz.f10 false true false false W #[v0,v1] (.bool true) W':=fun W' hn =>
  ⟨_,_,_,[],_,[],hW',trodAll_mk1 (shut_bool Tryz.underlying4 _),trodAll_cons_mk (ha0 _ hn) (trodAll_mk1 (ha1 _ hn)),rfl,hn.frame _,fun h=>by cases h⟩
 have key:Calls Tryz.prog 10 #[v0,v1] W fun e w'=>e=.returned (.bool true)∧Below W.heap.size W w':=by
  obtain⟨s0,rfl,l0⟩:=j3Y (hval 0 9 v0 rfl rfl) h0
  obtain⟨s1,rfl,l1⟩:=j3Y (hval 1 9 v1 rfl rfl) h1
  exact kep_Swapped s0 s1 l0 l1 W (tab_Swapped hL)
 refine key.mono fun e W' ⟨he,hw⟩=>?_
 subst he
 exact⟨_,rfl,fin W' hw⟩
theorem swapped_said:Rows.SwappedSaid:=
 OpenClaim.holds_of_wide 10 Tryz.f10 rfl rfl rfl rfl rfl rfl rfl ⟨rfl,rfl,rfl,rfl,rfl⟩ rfl rfl rfl rfl rfl (by kernel_rfl) Tryz.func10 (by kernel_rfl)
  (of_decide_eq_true (by kernel_rfl)) (by unfold Func.isWrapper;first|(rw[if_pos (by decide +kernel)];kernel_rfl)|(rw[if_neg (by decide +kernel)];exact⟨rfl,rfl⟩))
  (fun os started H enc _=>swapped_lifted os started H enc)
theorem swapped_card:Rows.SwappedCardSaid:=
 Claim7.holds_tied_plain_at .later [] [.data,.data,.data] true _ true
  swapped_said (fun _ h=>by cases h) (by kernel_rfl) (fun _ h=>by cases h) swapped_row_tie rfl ⟨rfl,rfl⟩ (by kernel_rfl) rfl
  (fun f fn hf hfn=>by
    obtain rfl:f=10:=Option.some.inj ((show Tryz.prog.funcNamed Rows.swappedRow.func=some 10 by kernel_rfl).symm.trans hf) |>.symm
    obtain rfl:fn=Tryz.f10:=(Option.some.inj (Tryz.func10.symm.trans hfn)).symm
    exact⟨by kernel_rfl,fun j t ht=>by
     rw[Tryz.params10]at ht
     have h3:t=9:=by
      rcases j with _|_|j
      ·simpa using ht.symm
      ·simpa using ht.symm
      ·simp at ht
     subst h3
     exact(show Tryz.prog.wantsStandIn 9=false by kernel_rfl)⟩)
  (by kernel_rfl)
#print axioms swapped_card
end Go.Proofs.YtiamjjonoeaggaaGreatDoor
