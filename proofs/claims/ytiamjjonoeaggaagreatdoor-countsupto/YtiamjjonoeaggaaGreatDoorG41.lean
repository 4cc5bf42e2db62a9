import Derived.Test.YtiamjjonoeaggaaGreatDoorGA
import Derived.Test.YtiamjjonoeaggaaGreatDoorGB
import Derived.Test.YtiamjjonoeaggaaGreatDoorG27
import Derived.Test.YtiamjjonoeaggaaGreatDoorG34
import Derived.Test.YtiamjjonoeaggaaGreatDoorG37
import Derived.Test.YtiamjjonoeaggaaGreatDoorG38
import Derived.Test.YtiamjjonoeaggaaGreatDoorG39
import Derived.Test.YtiamjjonoeaggaaGreatDoorG40
set_option maxRecDepth 100000
set_option maxHeartbeats 16000000
namespace Go.Proofs.YtiamjjonoeaggaaGreatDoor
open Go.RowKit
structure DMonAt (w:World)(d:Nat)(fv:Value)(u:List Tok)(F:zl)(lv:Value)(DL:List (LPt × Value))(told:Nat)(ended:Bool):Prop where
 blk:w.heap[d]?=some (.cells #[fv,lv,.int .i64 told,.bool ended] 152 (0,0))
 frm:qB w (.agg #[fv]) u
 rd:qz F u
 good:q3t u
 lets:Lets u
 ahead:q3d F=true
 log:DLogAt w lv DL
 haps:q5U w DL
 ok:LogOk (zs DL)
 few:told≤DL.length
theorem DMonAt.lt {w:World}{d:Nat}{fv:Value}{u:List Tok}{F:zl}{lv:Value}{DL:List (LPt × Value)}{told:Nat}{ended:Bool}(h:DMonAt w d fv u F lv DL told ended):d<w.heap.size:=zd h.blk
theorem DMonAt.below {w w':World}{d:Nat}{fv:Value}{u:List Tok}{F:zl}{lv:Value}{DL:List (LPt × Value)}{told:Nat}{ended:Bool}(h:DMonAt w d fv u F lv DL told ended)(hb:Below w.heap.size w w'):DMonAt w' d fv u F lv DL told ended:=
 ⟨(hb.block d h.lt).trans h.blk,h.frm.below hb,h.rd,h.good,h.lets,h.ahead,h.log.below hb,h.haps.below hb,h.ok,h.few⟩
theorem DMonAt.cells {w:World}{d:Nat}{fv:Value}{u:List Tok}{F:zl}{lv:Value}{DL:List (LPt × Value)}{told:Nat}{ended:Bool}(h:DMonAt w d fv u F lv DL told ended) :
  w.cell? ⟨d,0,none⟩=some fv∧w.cell? ⟨d,1,none⟩=some lv∧w.cell? ⟨d,2,none⟩=some (.int .i64 told)∧w.cell? ⟨d,3,none⟩=some (.bool ended):=
 ⟨zC _ _ 0 _ _ _ h.blk,zC _ _ 1 _ _ _ h.blk,zC _ _ 2 _ _ _ h.blk,zC _ _ 3 _ _ _ h.blk⟩
theorem stampD {DL:List (LPt × Value)}{i:Nat}(h:i<DL.length):j0P (zs DL) i=(DL[i]).1.stamp:=by
 unfold j0P zs
 rw[List.getElem?_map,zG h]
 rfl
theorem q4z (W:World)(xs:List Value)(t:TypeId):∀j u,xs[j]?=some u→(W.alloc (.cells xs.toArray t)).cell? ((⟨W.heap.size,0,none⟩:Addr).add j)=some u:=by
 intro j u hj
 rw[q2e]
 simpa using hj
def VdRel (F:zl)(L:List LPt)(w1:World)(told n:Nat)(g:Nat)(vo vi:Value)(wr:World):Prop:=
 ∃k:Nat,told≤k∧k≤n∧n-k≤g∧vi=.int .i64 k∧wr.ownsRow w1.heap.size 49 12 vo (k-told) (zy (q1x F L told k))∧Below w1.heap.size w1 wr
theorem q5M (d:Nat)(fv:Value)(u:List Tok)(F:zl)(lv:Value)(DL:List (LPt × Value))(told:Nat)(ended:Bool)(w:World)(h:DMonAt w d fv u F lv DL told ended) :
  Calls Tryz.prog 125 #[.pointer (some ⟨d,0,none⟩)] w fun e w'=>∃v,e=.returned v∧w'.ownsRow w.heap.size 49 12 v (DL.length-told) (zy (q1x F (zs DL) told DL.length))∧Below w.heap.size w w':=by
 obtain⟨c0,c1,c2,c3⟩:=h.cells
 obtain⟨b,o,cap,efv'⟩:∃b o cap,fv=.slice (some ⟨b,o,none⟩) u.length cap:=by
  obtain⟨b,o,cap,e,_⟩:=qe h.frm
  exact⟨b,o,cap,by simpa using e⟩
 obtain⟨la,lc,rfl⟩:=qr h.log.row
 have hsm:=h.log.small
 have hfew:=h.few
 have hlt:=h.lt
 have HD:=zb h
 have HTB:=zb (fun W (q:DMonAt W d fv u F (.slice la DL.length lc) DL told ended)=>j7j F u _ W _ DL q.rd q.good q.lets q.frm q.log q.haps q.ok.mono)
 have HAN:=zb (fun t W (q:DMonAt W d fv u F (.slice la DL.length lc) DL told ended)=>j5r F u _ t W q.rd q.frm)
 subst efv'
 generalize hul:u.length=ul at *
 clear hul h
 go_enter Tryz.func125,Tryz.ntmps125
 go_wp2_with fail
 go_region_held3 (fun w'=>w'.cell? ⟨d,0,none⟩=some (.slice (some ⟨b,o,none⟩) ul cap)∧w'.cell? ⟨d,1,none⟩=some (.slice la DL.length lc)) (first|(exact⟨(HD1.out.cells).1,(HD1.out.cells).2.1⟩)|(exact⟨c0,c1⟩)|go_keep) ((go_at_call 159;refine(HTB.out _ (HD.out.below (by exact(zB _ _).drew))).mono ?_;rintro e w1 ⟨tv,rfl,hT1,b1⟩;have B1:Below w.heap.size w w1:=(zB _ _).drew.trans b1;have HD1:=zb (HD.out.below B1)))
 have HT1:=zb hT1
 have HB1:=zb B1
 obtain⟨ta,tc,rfl⟩:=hT1.form
 have d2:=HD1.out.cells.2.2.1
 have hl1:=HD1.out.lt
 obtain⟨i1,hi1,iz0,iz1,iz2⟩:=info_parts j3z
 clear hT1 B1 b1 HTB c0 c1 c2 c3 hlt HD
 go_wp2_with fail
 go_loopg [4,5] DL.length (fun g vo vi wr=>VdRel F (zs DL) w1 told DL.length g vo vi wr)
 case atStart=>exact⟨told,zL _,hfew,by omega,rfl,by rw[q4y _ _ _ _ (zL _),Nat.sub_self];exact zW _ _ _ _,zB _ _⟩
 case round =>
  obtain⟨k,hk0,hk,hg,rfl,hown,hbel⟩:=hrel
  have HG:=zb hg
  have HO:=zb hown
  have HB:=zb hbel
  obtain⟨va,vc,rfl⟩:=qr hown
  have HDR:=zb (HD1.out.below hbel)
  obtain⟨e0,e1,_,_⟩:=HDR.out.cells
  have hlr:=HDR.out.lt
  clear hg hown hbel
  by_cases hkn:k<DL.length
  ·obtain⟨gt,rfl,hgt,t1,t2,_⟩:=HT1.out.load hkn
   obtain⟨dg,rfl,hdg,g1,g2,_⟩:=HDR.out.log.at' hkn
   have HLD:Hid (∀w',Below wr.heap.size wr w'→(Instr.loadAt 47 (.pointer (some ⟨gt,k*10,none⟩))).run Tryz.prog w'=.ok (zn (zf (qH (zs DL) F k))) w'):=zb (fun w' hb=>by
    obtain⟨g',e',_,_,_,hr⟩:=(HT1.out.below (HB.out.trans (hb.mono HB.out.size))).load hkn
    simp only[Option.some.injEq,Addr.mk.injEq,and_true]at e'
    subst e'
    exact q9D hr)
   have HC1:Hid (∀w',Below w1.heap.size w1 w'→w'.cell? ⟨d,0,none⟩=some (.slice (some ⟨b,o,none⟩) ul cap)∧w'.cell? ⟨d,1,none⟩=some (.slice (some ⟨dg,0,none⟩) DL.length lc)∧w'.cell? ⟨dg,k*3,none⟩=some (.int .u16 (DL[k]).1.stamp)):=zb (fun w' hb=>by
    have q:=HD1.out.below hb
    obtain⟨g',e',_,_,_,hst,_⟩:=q.log.at' hkn
    simp only[Option.some.injEq,Addr.mk.injEq,and_true]at e'
    subst e'
    exact⟨q.cells.1,q.cells.2.1,hst⟩)
   have HC:Hid (∀w',Below wr.heap.size wr w'→w'.cell? ⟨d,0,none⟩=some (.slice (some ⟨b,o,none⟩) ul cap)∧w'.cell? ⟨d,1,none⟩=some (.slice (some ⟨dg,0,none⟩) DL.length lc)∧w'.cell? ⟨dg,k*3,none⟩=some (.int .u16 (DL[k]).1.stamp)):=zb (fun w' hb=>HC1.out w' (HB.out.trans (hb.mono HB.out.size)))
   have HAK:=zb (fun W q=>HAN.out (qH (zs DL) F k) W q)
   have HVR:Hid (q5t (verR F (zs DL) k)=[.int .i64 k,.int .u16 (DL[k]).1.stamp,.int .u16 (zf (q3K (zt F [120]) (zt F [121]) (qH (zs DL) F k)) 0),.int .u16 (zf (q3K (zt F [120]) (zt F [121]) (qH (zs DL) F k)) 1),.int .u16 (zf (q3K (zt F [120]) (zt F [121]) (qH (zs DL) F k)) 2),.int .u16 (zf (q3K (zt F [120]) (zt F [121]) (qH (zs DL) F k)) 3),.int .u16 (zf (q3K (zt F [120]) (zt F [121]) (qH (zs DL) F k)) 4),.int .u16 (zf (q3K (zt F [120]) (zt F [121]) (qH (zs DL) F k)) 5),.int .u16 (zf (q3K (zt F [120]) (zt F [121]) (qH (zs DL) F k)) 6),.int .u16 (zf (q3K (zt F [120]) (zt F [121]) (qH (zs DL) F k)) 7),.int .u16 (zf (q3K (zt F [120]) (zt F [121]) (qH (zs DL) F k)) 8),.int .u16 (zf (q3K (zt F [120]) (zt F [121]) (qH (zs DL) F k)) 9)]):=zb (by rw[←stampD hkn];rfl)
   have HTS:=zb (j0V F (zs DL) told k hk0)
   generalize zf (q3K (zt F [120]) (zt F [121]) (qH (zs DL) F k))=hh at *
   obtain⟨V0,hV0⟩:∃V0,V0=zn (zf (qH (zs DL) F k)):=⟨_,rfl⟩
   rw[←hV0]at HLD HAK
   clear hV0
   generalize (DL[k]).1.stamp=st at *
   unfold maxLen at t2 g2
   have HST:Hid (∀W bb old,W.heap[bb]?=some (.cells old 47 (0,0))→old.size=10→∃W',(Instr.storeAt 47 (.pointer (some ⟨bb,0,none⟩)) (zn hh)).run Tryz.prog W=.ok () W'∧W'.heap[bb]?=some (.cells (zx hh).toArray 47 (0,0))∧(∀k,k≠bb→W'.heap[k]?=W.heap[k]?)∧W'.heap.size=W.heap.size∧W'.os=W.os∧W'.tape=W.tape∧W'.output=W.output):=zb (fun W bb old h1 h2=>q2g W bb old hh h1 h2)
   obtain⟨VA,hVA⟩:∃VA,VA=zn hh:=⟨_,rfl⟩
   rw[←hVA]at HAK HST
   have HVA:=zb hVA
   clear hVA
   have hg1:0<gk:=by have:=HG.out;omega
   have S6:Hid (∀w',Below wr.heap.size wr w'→w'.cell? ⟨d,0,none⟩=some (.slice (some ⟨b,o,none⟩) ul cap)∧(Instr.loadAt 47 (.pointer (some ⟨gt,k*10,none⟩))).run Tryz.prog w'=.ok V0 w'):=zb (fun w' hb=>⟨(HC.out w' hb).1,HLD.out w' hb⟩)
   have HB0:Hid (Below wr.heap.size wr wr.drew):=zb (zB _ _).drew
   have hki:(k:Int)<(DL.length:Int):=by omega
   have hk00:(0:Int)≤(k:Int):=by omega
   go_wp2_with fail
   refine wp_region_held_drew (S:=fun w'=>w'.cell? ⟨d,0,none⟩=some (.slice (some ⟨b,o,none⟩) ul cap)∧(Instr.loadAt 47 (.pointer (some ⟨gt,k*10,none⟩))).run Tryz.prog w'=.ok V0 w') (by kernel_rfl) (S6.out _ HB0.out) (fun hS0=>?_)
   simp only[rz,Nat.zero_add,Nat.reduceAdd]
   refine tq 0 29 ?_
   simp only[Act.put,pz]
   refine tq 1 30 ?_
   simp only[Act.put,pz]
   refine tq 2 31 ?_
   simp only[Act.put,pz]
   refine tq 3 32 ?_
   simp only[Act.put,pz]
   refine tq 4 33 ?_
   simp only[Act.put,pz]
   refine tq 5 34 ?_
   simp only[Act.put,pz]
   refine tq 6 35 ?_
   simp only[Act.put,pz]
   refine ql (i:=7) (v:=V0) 36 rfl rfl (by kernel_rfl) (by kernel_rfl) (by kernel_rfl) (fun _ _ _ h=>h) (qJ (by rfl) 47 (.tmp 35) rfl ⟨gt,k*10,none⟩ _ rfl (fun w h=>h.2)) (by assumption) ?_
   simp only[Act.put,pz]
   refine zY (rs:=[8,9]) (by kernel_rfl) (by simp) ?_
   refine zR rfl (fun K hK=>?_) (zR rfl (fun K hK=>?_) zE)
   ·rw[if_pos (by rfl)]
    go_simp
    refine(HAK.out _ (HDR.out.below HB0.out)).mono ?_
    rintro e w3 ⟨rfl,bw3⟩
    have Bw3:Below wr.heap.size wr w3:=(HB0.out).trans (bw3.mono (HB0.out).size)
    go_simp
    refine hK.out _ _ (S6.out _ Bw3) (fun _=>?_)
    clear hK K
    refine rd1 9 rfl fun K hK=>?_
    go_simp
    have B4:Below wr.heap.size wr (w3.alloc (.cells zCs 47)):=Bw3.alloc Bw3.size _
    have K4:=zN w3 (.cells zCs 47)
    refine hK.out _ _ (S6.out _ B4) (fun _=>?_)
    clear hK K
    have hbb:wr.heap.size≤w3.heap.size:=Bw3.size
    obtain⟨w4,hw4⟩:∃w4,w4=w3.alloc (.cells zCs 47):=⟨_,rfl⟩
    rw[←hw4]at B4 K4 ⊢
    clear hw4 Bw3 bw3
    generalize w3.heap.size=bb at *
    obtain⟨W5,s1,s2,s3,s4,s5,s6,s7⟩:=HST.out w4 bb _ K4 rfl
    have B5:Below wr.heap.size wr W5:=⟨s5.trans B4.os,s6.trans B4.tape,s7.trans B4.output,by rw[s4];exact B4.size,fun q hq=>by rw[s3 q (by omega)];exact B4.block q hq⟩
    refine rd1 10 rfl fun K hK=>?_
    refine qE 47 (.tmp 6) (.tmp 37) rfl ⟨bb,0,none⟩ VA rfl rfl W5 s1 ?_
    refine hK.out _ _ (S6.out _ B5) (fun _=>?_)
    clear hK K
    refine zD (by kernel_rfl) ?_ _
    simp only[Act.put]
    have L5:∀w',Below W5.heap.size W5 w'→(Instr.loadAt 47 (.pointer (some ⟨bb,0,none⟩))).run Tryz.prog w'=.ok (zn hh) w':=fun w' hb=>(Arr.of_row (f:=hh) ((hb.block bb (zd s2)).trans s2)).load
    have HL5:=zb L5
    have HS2:=zb s2
    have HB5:=zb B5
    have HO5:=zb (zh HO.out B5)
    clear L5 B5 s1 s2 s3 s4 s5 s6 s7 K4 B4 hbb
    have S7:Hid (∀w',Below W5.heap.size W5 w'→w'.cell? ⟨d,1,none⟩=some (.slice (some ⟨dg,0,none⟩) DL.length lc)∧w'.cell? ⟨dg,k*3,none⟩=some (.int .u16 st)∧(Instr.loadAt 47 (.pointer (some ⟨bb,0,none⟩))).run Tryz.prog w'=.ok (zn hh) w'):=zb (fun w' hb=>⟨(HC.out w' (HB5.out.trans (hb.mono HB5.out.size))).2.1,(HC.out w' (HB5.out.trans (hb.mono HB5.out.size))).2.2,HL5.out w' hb⟩)
    have HB7:Hid (Below W5.heap.size W5 W5.drew):=zb (zB _ _).drew
    have hl5:d<W5.heap.size:=zT hlr HB5.out.size
    go_wp2_with fail
    refine wp_region_held_drew (S:=fun w'=>w'.cell? ⟨d,1,none⟩=some (.slice (some ⟨dg,0,none⟩) DL.length lc)∧w'.cell? ⟨dg,k*3,none⟩=some (.int .u16 st)∧(Instr.loadAt 47 (.pointer (some ⟨bb,0,none⟩))).run Tryz.prog w'=.ok (zn hh) w') (by kernel_rfl) (S7.out _ HB7.out) (fun hS7=>?_)
    simp only[rz,Nat.zero_add,Nat.reduceAdd]
    refine tq 0 38 ?_
    simp only[Act.put,pz]
    refine tq 1 39 ?_
    simp only[Act.put,pz]
    refine tq 2 40 ?_
    simp only[Act.put,pz]
    refine tq 3 41 ?_
    simp only[Act.put,pz]
    refine tq 4 42 ?_
    simp only[Act.put,pz]
    refine tq 5 43 ?_
    simp only[Act.put,pz]
    refine tq 6 44 ?_
    simp only[Act.put,pz]
    refine tq 7 45 ?_
    simp only[Act.put,pz]
    refine tq 8 46 ?_
    simp only[Act.put,pz]
    refine tq 9 47 ?_
    simp only[Act.put,pz]
    refine ql (i:=10) (v:=zn hh) 48 rfl rfl (by kernel_rfl) (by kernel_rfl) (by kernel_rfl) (fun _ _ _ h=>h) (qJ (by rfl) 47 (.tmp 6) rfl ⟨bb,0,none⟩ _ rfl (fun w h=>h.2.2)) (by assumption) ?_
    simp only[Act.put,pz]
    refine tq 11 49 ?_
    simp only[Act.put,pz]
    refine rd1 12 rfl fun K hK=>?_
    go_simp
    have B8:Below W5.heap.size W5 (W5.drew.alloc (.cells #[.int .i64 k,.int .u16 st,.int .u16 (hh 0),.int .u16 (hh 1),.int .u16 (hh 2),.int .u16 (hh 3),.int .u16 (hh 4),.int .u16 (hh 5),.int .u16 (hh 6),.int .u16 (hh 7),.int .u16 (hh 8),.int .u16 (hh 9)] 49)):=HB7.out.alloc HB7.out.size _
    refine hK.out _ _ (S7.out _ B8) (fun _=>?_)
    clear hK K
    refine zY (rs:=[13]) (by kernel_rfl) (by simp) ?_
    refine zR rfl (fun K hK=>?_) zE
    refine qM (by rfl) (.tmp 38) (.tmp 50) 38 (by rfl) w1.heap.size 49 Tryz.underlying38 hi1 iz0 iz1 iz2 rfl (by decide) (.slice va (k-told) vc) (k-told) (zy (q1x F (zs DL) told k)) (by rfl) (HO5.out.drew.alloc _) ⟨W5.drew.heap.size,0,none⟩ 1 1 [.int .i64 k,.int .u16 st,.int .u16 (hh 0),.int .u16 (hh 1),.int .u16 (hh 2),.int .u16 (hh 3),.int .u16 (hh 4),.int .u16 (hh 5),.int .u16 (hh 6),.int .u16 (hh 7),.int .u16 (hh 8),.int .u16 (hh 9)] (by rfl) rfl (q4z W5.drew _ _) (by simp[Value.oneCell']) (by unfold maxLen;omega) (by omega) (zM HB.out.size (zM HB5.out.size B8.size)) ?_
    intro v7 w7 hown7 hgrow7
    have Bb7:Below w1.heap.size w1 w7:=(HB.out.trans ((HB5.out.trans (B8.mono HB5.out.size)).mono HB.out.size)).grown hgrow7 (zM HB.out.size (zM HB5.out.size B8.size)) (fun q hq=>(HO5.out.lt q hq).1)
    obtain⟨a7,c7,rfl⟩:=qr hown7
    have hb7:w7.heap[bb]?=W5.heap[bb]?:=by
     rw[hgrow7.block bb (by have:=zd HS2.out;have:=B8.size;exact zT (zd HS2.out) B8.size) (fun e=>by
      obtain⟨_,cs,e2⟩:=zw HO5.out bb (by rw[←e];simp)
      rw[HS2.out]at e2
      simp at e2)]
     exact B8.block bb (zd HS2.out)
    have HS7:w7.cell? ⟨d,1,none⟩=some (.slice (some ⟨dg,0,none⟩) DL.length lc)∧w7.cell? ⟨dg,k*3,none⟩=some (.int .u16 st)∧(Instr.loadAt 47 (.pointer (some ⟨bb,0,none⟩))).run Tryz.prog w7=.ok (zn hh) w7:=⟨(HC1.out w7 Bb7).2.1,(HC1.out w7 Bb7).2.2,(Arr.of_row (f:=hh) (hb7.trans HS2.out)).load⟩
    refine hK.out _ _ HS7 (fun _=>?_)
    clear hK K hgrow7 hb7
    simp only[Act.put]
    refine rd1 14 rfl fun K hK=>?_
    go_simp
    refine hK.out _ _ HS7 (fun _=>?_)
    clear hK K
    refine zD (by kernel_rfl) ?_ _
    have HO7:=zb hown7
    have HB9:=zb Bb7
    clear hown7 Bb7 B8 HS7
    go_wp2_with fail
    go_roundg (gk-1)
    case measure=>omega
    case rel=>exact⟨k+1,by omega,by omega,by have:=HG.out;omega,by go_num,by rw[HTS.out,q3X,q5P,HVR.out,show k+1-told=k-told+1 by omega];exact HO7.out,HB9.out⟩
   ·rw[if_pos (by rfl)]
    go_simp
    have B3:Below wr.heap.size wr ((wr.alloc (.cells zCs 47)).drew):=((zB _ _).alloc (zL _) _).drew
    have K3:((wr.alloc (.cells zCs 47)).drew).heap[wr.heap.size]?=some (.cells zCs 47 (0,0)):=zN wr (.cells zCs 47)
    refine hK.out _ _ (S6.out _ B3) (fun _=>?_)
    clear hK K
    obtain⟨w3,hw3⟩:∃w3,w3=(wr.alloc (.cells zCs 47)).drew:=⟨_,rfl⟩
    rw[←hw3]at B3 K3 ⊢
    have hbl:wr.heap.size<w3.heap.size:=zd K3
    clear hw3
    refine rd1 8 rfl fun K hK=>?_
    go_simp
    refine(HAK.out _ (HDR.out.below B3)).mono ?_
    rintro e w4 ⟨rfl,bw4⟩
    have Bw4:Below wr.heap.size wr w4:=(B3).trans (bw4.mono (B3).size)
    go_simp
    refine hK.out _ _ (S6.out _ Bw4) (fun _=>?_)
    clear hK K
    have K4:=(bw4.block wr.heap.size hbl).trans K3
    have B4:=Bw4
    clear Bw4 bw4 B3 K3 hbl
    obtain⟨bb,hbbe⟩:∃bb,bb=wr.heap.size:=⟨_,rfl⟩
    have hbb:wr.heap.size≤bb:=by omega
    rw[←hbbe]at K4
    simp only[←hbbe]
    clear hbbe
    obtain⟨W5,s1,s2,s3,s4,s5,s6,s7⟩:=HST.out w4 bb _ K4 rfl
    have B5:Below wr.heap.size wr W5:=⟨s5.trans B4.os,s6.trans B4.tape,s7.trans B4.output,by rw[s4];exact B4.size,fun q hq=>by rw[s3 q (by omega)];exact B4.block q hq⟩
    refine rd1 10 rfl fun K hK=>?_
    refine qE 47 (.tmp 6) (.tmp 37) rfl ⟨bb,0,none⟩ VA rfl rfl W5 s1 ?_
    refine hK.out _ _ (S6.out _ B5) (fun _=>?_)
    clear hK K
    refine zD (by kernel_rfl) ?_ _
    simp only[Act.put]
    have L5:∀w',Below W5.heap.size W5 w'→(Instr.loadAt 47 (.pointer (some ⟨bb,0,none⟩))).run Tryz.prog w'=.ok (zn hh) w':=fun w' hb=>(Arr.of_row (f:=hh) ((hb.block bb (zd s2)).trans s2)).load
    have HL5:=zb L5
    have HS2:=zb s2
    have HB5:=zb B5
    have HO5:=zb (zh HO.out B5)
    clear L5 B5 s1 s2 s3 s4 s5 s6 s7 K4 B4 hbb
    have S7:Hid (∀w',Below W5.heap.size W5 w'→w'.cell? ⟨d,1,none⟩=some (.slice (some ⟨dg,0,none⟩) DL.length lc)∧w'.cell? ⟨dg,k*3,none⟩=some (.int .u16 st)∧(Instr.loadAt 47 (.pointer (some ⟨bb,0,none⟩))).run Tryz.prog w'=.ok (zn hh) w'):=zb (fun w' hb=>⟨(HC.out w' (HB5.out.trans (hb.mono HB5.out.size))).2.1,(HC.out w' (HB5.out.trans (hb.mono HB5.out.size))).2.2,HL5.out w' hb⟩)
    have HB7:Hid (Below W5.heap.size W5 W5.drew):=zb (zB _ _).drew
    have hl5:d<W5.heap.size:=zT hlr HB5.out.size
    go_wp2_with fail
    refine wp_region_held_drew (S:=fun w'=>w'.cell? ⟨d,1,none⟩=some (.slice (some ⟨dg,0,none⟩) DL.length lc)∧w'.cell? ⟨dg,k*3,none⟩=some (.int .u16 st)∧(Instr.loadAt 47 (.pointer (some ⟨bb,0,none⟩))).run Tryz.prog w'=.ok (zn hh) w') (by kernel_rfl) (S7.out _ HB7.out) (fun hS7=>?_)
    simp only[rz,Nat.zero_add,Nat.reduceAdd]
    refine tq 0 38 ?_
    simp only[Act.put,pz]
    refine tq 1 39 ?_
    simp only[Act.put,pz]
    refine tq 2 40 ?_
    simp only[Act.put,pz]
    refine tq 3 41 ?_
    simp only[Act.put,pz]
    refine tq 4 42 ?_
    simp only[Act.put,pz]
    refine tq 5 43 ?_
    simp only[Act.put,pz]
    refine tq 6 44 ?_
    simp only[Act.put,pz]
    refine tq 7 45 ?_
    simp only[Act.put,pz]
    refine tq 8 46 ?_
    simp only[Act.put,pz]
    refine tq 9 47 ?_
    simp only[Act.put,pz]
    refine ql (i:=10) (v:=zn hh) 48 rfl rfl (by kernel_rfl) (by kernel_rfl) (by kernel_rfl) (fun _ _ _ h=>h) (qJ (by rfl) 47 (.tmp 6) rfl ⟨bb,0,none⟩ _ rfl (fun w h=>h.2.2)) (by assumption) ?_
    simp only[Act.put,pz]
    refine tq 11 49 ?_
    simp only[Act.put,pz]
    refine rd1 12 rfl fun K hK=>?_
    go_simp
    have B8:Below W5.heap.size W5 (W5.drew.alloc (.cells #[.int .i64 k,.int .u16 st,.int .u16 (hh 0),.int .u16 (hh 1),.int .u16 (hh 2),.int .u16 (hh 3),.int .u16 (hh 4),.int .u16 (hh 5),.int .u16 (hh 6),.int .u16 (hh 7),.int .u16 (hh 8),.int .u16 (hh 9)] 49)):=HB7.out.alloc HB7.out.size _
    refine hK.out _ _ (S7.out _ B8) (fun _=>?_)
    clear hK K
    refine zY (rs:=[13]) (by kernel_rfl) (by simp) ?_
    refine zR rfl (fun K hK=>?_) zE
    refine qM (by rfl) (.tmp 38) (.tmp 50) 38 (by rfl) w1.heap.size 49 Tryz.underlying38 hi1 iz0 iz1 iz2 rfl (by decide) (.slice va (k-told) vc) (k-told) (zy (q1x F (zs DL) told k)) (by rfl) (HO5.out.drew.alloc _) ⟨W5.drew.heap.size,0,none⟩ 1 1 [.int .i64 k,.int .u16 st,.int .u16 (hh 0),.int .u16 (hh 1),.int .u16 (hh 2),.int .u16 (hh 3),.int .u16 (hh 4),.int .u16 (hh 5),.int .u16 (hh 6),.int .u16 (hh 7),.int .u16 (hh 8),.int .u16 (hh 9)] (by rfl) rfl (q4z W5.drew _ _) (by simp[Value.oneCell']) (by unfold maxLen;omega) (by omega) (zM HB.out.size (zM HB5.out.size B8.size)) ?_
    intro v7 w7 hown7 hgrow7
    have Bb7:Below w1.heap.size w1 w7:=(HB.out.trans ((HB5.out.trans (B8.mono HB5.out.size)).mono HB.out.size)).grown hgrow7 (zM HB.out.size (zM HB5.out.size B8.size)) (fun q hq=>(HO5.out.lt q hq).1)
    obtain⟨a7,c7,rfl⟩:=qr hown7
    have hb7:w7.heap[bb]?=W5.heap[bb]?:=by
     rw[hgrow7.block bb (by have:=zd HS2.out;have:=B8.size;exact zT (zd HS2.out) B8.size) (fun e=>by
      obtain⟨_,cs,e2⟩:=zw HO5.out bb (by rw[←e];simp)
      rw[HS2.out]at e2
      simp at e2)]
     exact B8.block bb (zd HS2.out)
    have HS7:w7.cell? ⟨d,1,none⟩=some (.slice (some ⟨dg,0,none⟩) DL.length lc)∧w7.cell? ⟨dg,k*3,none⟩=some (.int .u16 st)∧(Instr.loadAt 47 (.pointer (some ⟨bb,0,none⟩))).run Tryz.prog w7=.ok (zn hh) w7:=⟨(HC1.out w7 Bb7).2.1,(HC1.out w7 Bb7).2.2,(Arr.of_row (f:=hh) (hb7.trans HS2.out)).load⟩
    refine hK.out _ _ HS7 (fun _=>?_)
    clear hK K hgrow7 hb7
    simp only[Act.put]
    refine rd1 14 rfl fun K hK=>?_
    go_simp
    refine hK.out _ _ HS7 (fun _=>?_)
    clear hK K
    refine zD (by kernel_rfl) ?_ _
    have HO7:=zb hown7
    have HB9:=zb Bb7
    clear hown7 Bb7 B8 HS7
    go_wp2_with fail
    go_roundg (gk-1)
    case measure=>omega
    case rel=>exact⟨k+1,by omega,by omega,by have:=HG.out;omega,by go_num,by rw[HTS.out,q3X,q5P,HVR.out,show k+1-told=k-told+1 by omega];exact HO7.out,HB9.out⟩
  ·have hke:k=DL.length:=by omega
   subst hke
   go_wp2_with fail
   go_ret
   exact⟨_,rfl,q1L HB1.out.size HO.out,HB1.out.trans (HB.out.mono HB1.out.size)⟩
def q5c (fv:Value)(DL:List (LPt × Value)):List Nat:=fv.ownBlock.toList++DL.flatMap fun p=>p.2.ownBlock.toList
def q6L (d:Nat)(fv:Value)(la:OA)(DL:List (LPt × Value)):Prop:=∀k∈q5c fv DL,k∉d::zQ la
def q4f (w w':World)(d:Nat)(fv:Value)(u:List Tok)(F:zl)(la:OA)(DL:List (LPt × Value))(L:List LPt)(told:Nat)(ended:Bool):Prop:=
 ∃la' lc' DL',DMonAt w' d fv u F (.slice la' DL'.length lc') DL' told ended∧q6L d fv la' DL'∧zs DL'=L∧OnlyB (d::zQ la) w w'∧(∀k∈zQ la',k∈zQ la∨w.heap.size≤k)∧∀k∈q5c fv DL',k∈q5c fv DL∨w.heap.size≤k
theorem q4f.same {w w':World}{d:Nat}{fv:Value}{u:List Tok}{F:zl}{la:OA}{lc:Nat}{DL:List (LPt × Value)}{told:Nat}{ended:Bool}(h:DMonAt w d fv u F (.slice la DL.length lc) DL told ended)(hs:q6L d fv la DL)(hb:Below w.heap.size w w'):q4f w w' d fv u F la DL (zs DL) told ended:=
 ⟨la,lc,DL,h.below hb,hs,rfl,.of_below hb,fun _ hk=>.inl hk,fun _ hk=>.inl hk⟩
theorem q4w {w w':World}{v:Value}{l:List (By)}{bl:List Nat}(h:q1f w v l)(ho:OnlyB bl w w')(hn:∀k∈v.ownBlock.toList,k∉bl):q1f w' v l:=by
 rcases h with h|⟨b,o,cap,rfl,hlc,hcap,hlt,hc⟩
 ·exact .inl h
 ·exact .inr ⟨b,o,cap,rfl,hlc,hcap,zT hlt ho.size,fun i hi=>by rw[ho.cell hlt (hn b (by simp[Value.ownBlock]))];exact hc i hi⟩
theorem q8v {w w':World}{fv:Value}{u:List Tok}{bl:List Nat}(h:qB w (.agg #[fv]) u)(ho:OnlyB bl w w')(hn:∀k∈fv.ownBlock.toList,k∉bl):qB w' (.agg #[fv]) u:=by
 obtain⟨b,o,cap,e,ht,h0,h1⟩:=h
 have e':fv=.slice (some ⟨b,o,none⟩) u.length cap:=by simpa using e
 subst e'
 refine⟨b,o,cap,rfl,?_,h0,h1⟩
 rcases ht with⟨h',_⟩|⟨b',o',cap',e2,hlc,hcap,hlt,hc⟩
 ·simp at h'
 ·simp only[Value.slice.injEq,Option.some.injEq,Addr.mk.injEq,and_true,true_and]at e2
  obtain⟨⟨rfl,rfl⟩,rfl⟩:=e2
  refine .inr ⟨b,o,cap,rfl,hlc,hcap,zT hlt ho.size,fun i hi=>?_⟩
  rw[ho.cell hlt (hn b (by simp[Value.ownBlock])),ho.cell hlt (hn b (by simp[Value.ownBlock]))]
  exact hc i hi
def blkD (d:Nat)(fv:Value)(la:OA)(DL:List (LPt × Value)):List Nat:=d::(zQ la++q5c fv DL)
theorem q7g {w w':World}{fv:Value}{DL:List (LPt × Value)}{bl:List Nat}(h:q5U w DL)(ho:OnlyB bl w w')(hn:∀k∈q5c fv DL,k∉bl):q5U w' DL:=fun i hi =>
 ⟨q4w (h i hi).1 ho (fun k hk=>hn k (List.mem_append_right _ (List.mem_flatMap.2 ⟨DL[i],List.getElem_mem hi,hk⟩))),(h i hi).2⟩
theorem j1o {w w':World}{la:OA}{lc:Nat}{DL:List (LPt × Value)}{bl:List Nat}(h:DLogAt w (.slice la DL.length lc) DL)(ho:OnlyB bl w w')(hn:∀k∈zQ la,k∉bl):DLogAt w' (.slice la DL.length lc) DL:=
 ⟨q5n h.row ho (fun k hk=>hn k (by cases la with|none=>simp[Value.ownBlock]at hk|some a=>simp[Value.ownBlock]at hk;simp[zQ,hk])),h.small,h.times⟩
theorem DMonAt.keep {w w':World}{d:Nat}{fv:Value}{u:List Tok}{F:zl}{la:OA}{lc:Nat}{DL:List (LPt × Value)}{told:Nat}{ended:Bool}{bl:List Nat}(h:DMonAt w d fv u F (.slice la DL.length lc) DL told ended)(ho:OnlyB bl w w')(hn:∀k∈blkD d fv la DL,k∉bl):DMonAt w' d fv u F (.slice la DL.length lc) DL told ended:=
 ⟨(ho.block d h.lt (hn d (by simp[blkD]))).trans h.blk,q8v h.frm ho (fun k hk=>hn k (by simp only[blkD,q5c,List.mem_cons,List.mem_append];exact .inr (.inr (.inl hk)))),h.rd,h.good,h.lets,h.ahead,j1o h.log ho (fun k hk=>hn k (by simp only[blkD,List.mem_cons,List.mem_append];exact .inr (.inl hk))),q7g h.haps ho (fun k hk=>hn k (by simp only[blkD,List.mem_cons,List.mem_append];exact .inr (.inr hk))),h.ok,h.few⟩
theorem q8z {w:World}{d:Nat}{cs:Array Value}{la:OA}{lc:Nat}{DL:List (LPt × Value)}(h:DLogAt w (.slice la DL.length lc) DL)(hd:w.heap[d]?=some (.cells cs 152 (0,0))):d∉zQ la:=by
 have:=q8C hd h.row (by decide)
 intro hm
 cases la with
 |none=>simp[zQ]at hm
 |some a=>simp[zQ]at hm;simp[Value.ownBlock,hm]at this
theorem OnlyB.one (w:World)(b o:Nat)(u:Value):OnlyB [b] w (w.setCell ⟨b,o,none⟩ u):=(OnlyB.refl _ _).setCell (by simp) u
theorem DMonAt.put {w:World}{d:Nat}{fv:Value}{u:List Tok}{F:zl}{la:OA}{lc:Nat}{DL:List (LPt × Value)}{told told':Nat}{ended ended':Bool}(h:DMonAt w d fv u F (.slice la DL.length lc) DL told ended)(hs:q6L d fv la DL)(o:Nat)(v:Value)(hn:told'≤DL.length)
  (he:(#[fv,.slice la DL.length lc,.int .i64 told,.bool ended]:Array Value).setIfInBounds o v=#[fv,.slice la DL.length lc,.int .i64 told',.bool ended']):DMonAt (w.setCell ⟨d,o,none⟩ v) d fv u F (.slice la DL.length lc) DL told' ended':=by
 have ho:=OnlyB.one w d o v
 refine⟨?_,q8v h.frm ho (fun k hk=>?_),h.rd,h.good,h.lets,h.ahead,j1o h.log ho (fun k hk=>?_),q7g (fv:=fv) h.haps ho (fun k hk=>?_),h.ok,hn⟩
 ·rw[zH w d o _ _ v h.blk,he]
 ·have:=hs k (List.mem_append_left _ hk);simp at this ⊢;exact this.1
 ·intro e;simp at e;subst e;exact q8z h.log h.blk hk
 ·have:=hs k hk;simp at this ⊢;exact this.1
theorem own_take {w:World}{base:Nat}{e:TypeId}{size:Nat}{a:OA}{n c:Nat}{xs:List Value}(h:w.ownsRow base e size (.slice a n c) n xs)(k:Nat)(hk:k≤n)(ha:a≠none):w.ownsRow base e size (.slice a k c) k (xs.take (k*size)):=by
 refine⟨?_,?_⟩
 ·rw[List.length_take,h.1]
  exact Nat.min_eq_left (zU _ hk)
 ·rcases h.2 with⟨h',_⟩|⟨g,cap,cur,h',h2,h3,h4,h5,h6,h7⟩
  ·simp only[Value.slice.injEq]at h'
   exact absurd h'.1 ha
  ·simp only[Value.slice.injEq,true_and]at h'
   obtain⟨rfl,rfl⟩:=h'
   refine .inr ⟨g,c,cur,rfl,h2,h3,by omega,h5,h6,?_⟩
   rw[←h7,List.take_take,Nat.min_eq_left (zU _ hk)]
def q3B (w:World)(d:Nat)(fv:Value)(u:List Tok)(F:zl)(la:OA)(DL:List (LPt × Value))(told:Nat)(ended:Bool)(s:By)(e:Ending)(w':World):Prop:=
 ∃v,e=.returned (.tuple #[v,.int .i64 (q1a (zs DL) ended s).1,.int .i64 (q1a (zs DL) ended s).2])∧w'.ownsRow w.heap.size 49 12 v (q5a F (zs DL) told ended s).length (zy (q5a F (zs DL) told ended s))∧q4f w w' d fv u F la DL (q3g (zs DL) ended s) (q7u F (zs DL) told ended s) ended
theorem q6c {w w':World}{d:Nat}{fv:Value}{u:List Tok}{F:zl}{la:OA}{lc:Nat}{DL:List (LPt × Value)}{told:Nat}{ended:Bool}{s:By}{er at':Int}(h:DMonAt w d fv u F (.slice la DL.length lc) DL told ended)(hs:q6L d fv la DL)(he:q1a (zs DL) ended s=(er,at'))(h0:er≠0)(hb:Below w.heap.size w w') :
  q3B w d fv u F la DL told ended s (.returned (.tuple #[.slice none 0 0,.int .i64 er,.int .i64 at'])) w':=by
 have hne:¬(q1a (zs DL) ended s).1=0:=by rw[he];exact h0
 refine⟨_,by rw[he],?_,?_⟩
 ·unfold q5a
  rw[if_neg hne]
  exact zW _ _ _ _
 ·unfold q3g q7u
  rw[if_neg hne,if_neg hne]
  exact q4f.same h hs hb
theorem ref_End (d:Nat)(fv:Value)(u:List Tok)(F:zl)(la:OA)(lc:Nat)(DL:List (LPt × Value))(told:Nat)(ended:Bool)(w:World)(h:DMonAt w d fv u F (.slice la DL.length lc) DL told ended)(hs:q6L d fv la DL) :
  Calls Tryz.prog 96 #[.pointer (some ⟨d,0,none⟩)] w fun e w'=>∃v,e=.returned (.tuple #[v,.int .i64 (endE ended)])∧w'.ownsRow w.heap.size 49 12 v (endV F (zs DL) told ended).length (zy (endV F (zs DL) told ended))∧q4f w w' d fv u F la DL (zs DL) (endN (zs DL) told ended) true:=by
 obtain⟨c0,c1,c2,c3⟩:=h.cells
 have hlt:=h.lt
 have hf:=zF _ _ 3 _ _ h.blk
 have hsm:=h.log.small
 have HD:=zb h
 have HS:=zb hs
 clear h hs c0 c1 c2
 cases ended with
 |true =>
  go_enter Tryz.func96,Tryz.ntmps96
  go_wp2_with fail
  go_ret2
  exact⟨_,rfl,zW _ _ _ _,q4f.same HD.out HS.out (zB _ _)⟩
 |false =>
  have HD1:=zb (HD.out.put HS.out (told':=told) (ended':=true) 3 (.bool true) HD.out.few rfl)
  have HV:=zb (q5M d fv u F _ DL told true _ HD1.out)
  obtain⟨W1,hW1⟩:∃W1,W1=w.setCell ⟨d,3,none⟩ (.bool true):=⟨_,rfl⟩
  have hO1:OnlyB [d] w W1:=by rw[hW1];exact OnlyB.one w d 3 _
  go_enter Tryz.func96,Tryz.ntmps96
  go_wp2_with fail
  rw[←hW1]at HD1 HV ⊢
  clear hW1 c3 hf
  refine HV.out.mono ?_
  rintro e w2 ⟨v,rfl,hown,b2⟩
  have HD2:=zb (HD1.out.below b2)
  have e1:=HD2.out.cells.2.1
  have e2:=HD2.out.cells.2.2.1
  have hl2:=HD2.out.lt
  have hf2:=zF _ _ 2 _ _ HD2.out.blk
  have HO:=zb hown
  have HB2:=zb b2
  have HO1:=zb hO1
  clear hown b2 hO1 HV HD1
  go_wp2_with fail
  go_ret2
  have hlen:(zs DL).length=DL.length:=by simp
  refine⟨v,rfl,?_,?_⟩
  ·show World.ownsRow _ _ _ _ _ (q1x F (zs DL) told (zs DL).length).length (zy (q1x F (zs DL) told (zs DL).length))
   rw[q1R,hlen]
   exact q0U (q1L HO1.out.size HO.out) HD2.out.blk (by decide) _
  ·refine⟨la,lc,DL,?_,HS.out,rfl,?_,fun _ hk=>.inl hk,fun _ hk=>.inl hk⟩
   ·show DMonAt _ d fv u F _ DL (zs DL).length true
    rw[hlen]
    exact HD2.out.put HS.out (told':=DL.length) (ended':=true) 2 (.int .i64 DL.length) (zL _) rfl
   ·have o2:OnlyB (d::zQ la) w w2:=⟨HB2.out.os.trans HO1.out.os,HB2.out.tape.trans HO1.out.tape,HB2.out.output.trans HO1.out.output,zM HO1.out.size HB2.out.size,fun k hk hn=>(HB2.out.block k (zT hk HO1.out.size)).trans (HO1.out.block k hk (fun e=>hn (by simp at e;simp[e])))⟩
    exact o2.setCell (by simp) _
theorem j2z (d:Nat)(fv:Value)(u:List Tok)(F:zl)(la:OA)(lc:Nat)(DL:List (LPt × Value))(told:Nat)(s:By)(hs64:s.length≤maxLen)(w:World)(h:DMonAt w d fv u F (.slice la DL.length lc) DL told true)(hs:q6L d fv la DL) :
  Calls Tryz.prog 93 #[.pointer (some ⟨d,0,none⟩),bs s] w fun e w'=>q3B w d fv u F la DL told true s e w':=by
 have HP:=zb (q3A s hs64 w)
 have HD:=zb h
 have HS:=zb hs
 clear h hs
 go_enter Tryz.func93,Tryz.ntmps93
 go_wp2_with fail
 refine HP.out.mono ?_
 rintro e w1 ⟨rfl,rfl⟩
 have HB1:=zb (zB w1.heap.size w1)
 have HD1:=zb HD.out
 obtain⟨c0,c1,c2,c3⟩:=HD1.out.cells
 have hlt:=HD1.out.lt
 clear c0 c2
 go_wp2_with fail
 go_ret3
 exact q6c HD.out HS.out rfl (by decide) HB1.out
theorem j2A (d:Nat)(fv:Value)(u:List Tok)(F:zl)(la:OA)(lc:Nat)(DL:List (LPt × Value))(told:Nat)(s:By)(hs64:s.length≤maxLen)(hl:80<s.length)(w:World)(h:DMonAt w d fv u F (.slice la DL.length lc) DL told false)(hs:q6L d fv la DL) :
  Calls Tryz.prog 93 #[.pointer (some ⟨d,0,none⟩),bs s] w fun e w'=>q3B w d fv u F la DL told false s e w':=by
 have HP:=zb (q3A s hs64 w)
 have HD:=zb h
 have HS:=zb hs
 have HE:Hid (q1a (zs DL) false s=(1,0)):=zb (by unfold q1a;rw[if_neg (by decide),if_pos hl])
 clear h hs
 go_enter Tryz.func93,Tryz.ntmps93
 go_wp2_with fail
 refine HP.out.mono ?_
 rintro e w1 ⟨rfl,rfl⟩
 have HB1:=zb (zB w1.heap.size w1)
 have HD1:=zb HD.out
 obtain⟨c0,c1,c2,c3⟩:=HD1.out.cells
 have hlt:=HD1.out.lt
 clear c0 c2
 go_wp2_with fail
 go_ret3
 exact q6c HD.out HS.out HE.out (by decide) HB1.out
theorem j2B (d:Nat)(fv:Value)(u:List Tok)(F:zl)(la:OA)(lc:Nat)(DL:List (LPt × Value))(told:Nat)(s:By)(hl:s.length≤80)(p:Nat)(hp:q2n s=.inl p)(w:World)(h:DMonAt w d fv u F (.slice la DL.length lc) DL told false)(hs:q6L d fv la DL) :
  Calls Tryz.prog 93 #[.pointer (some ⟨d,0,none⟩),bs s] w fun e w'=>q3B w d fv u F la DL told false s e w':=by
 have HP:=zb (q3A s (by unfold maxLen;omega) w)
 rw[q4p,hp]at HP
 have HD:=zb h
 have HS:=zb hs
 have HE:Hid (q1a (zs DL) false s=(3,(p:Int))):=zb (by unfold q1a;rw[if_neg (by decide),if_neg (by omega),hp])
 clear h hs
 go_enter Tryz.func93,Tryz.ntmps93
 go_wp2_with fail
 refine HP.out.mono ?_
 rintro e w1 ⟨rfl,rfl⟩
 have HB1:=zb (zB w1.heap.size w1)
 have HD1:=zb HD.out
 obtain⟨c0,c1,c2,c3⟩:=HD1.out.cells
 have hlt:=HD1.out.lt
 clear c0 c2
 go_wp2_with fail
 go_ret3
 exact q6c HD.out HS.out HE.out (by decide) HB1.out
theorem j5Q {w:World}{d:Nat}{fv:Value}{u:List Tok}{F:zl}{lv:Value}{DL:List (LPt × Value)}{told:Nat}{ended:Bool}(h:DMonAt w d fv u F lv DL told ended):∀k∈q5c fv DL,k<w.heap.size:=by
 intro k hk
 rcases List.mem_append.1 hk with hk|hk
 ·obtain⟨b,o,cap,e,_,_,hb,_⟩:=qe h.frm
  have e':fv=.slice (some ⟨b,o,none⟩) u.length cap:=by simpa using e
  subst e'
  simp[Value.ownBlock]at hk
  omega
 ·obtain⟨p,hp,hk⟩:=List.mem_flatMap.1 hk
  obtain⟨i,hi,rfl⟩:=List.getElem_of_mem hp
  rcases(h.haps i hi).1 with⟨e,_⟩|⟨b,o,cap,e,_,_,hb,_⟩
  ·rw[e]at hk;simp[Value.ownBlock]at hk
  ·rw[e]at hk;simp[Value.ownBlock]at hk;omega
theorem rowBl_lt {w:World}{la:OA}{lc:Nat}{DL:List (LPt × Value)}(h:DLogAt w (.slice la DL.length lc) DL):∀k∈zQ la,k<w.heap.size:=by
 intro k hk
 cases la with
 |none=>simp[zQ]at hk
 |some a=>simp[zQ]at hk;exact(h.row.lt k (by simp[Value.ownBlock,hk])).2
theorem DMonAt.addedD {w w':World}{d:Nat}{fv:Value}{u:List Tok}{F:zl}{la:OA}{lc:Nat}{DL:List (LPt × Value)}{told:Nat}{a9:OA}{c9 st:Nat}{l:List Hp}{vh:Value}{B:Nat}(h:DMonAt w d fv u F (.slice la DL.length lc) DL told false)(hs:q6L d fv la DL)(ho:OnlyB (d::zQ la) w w')
  (hb:w'.heap[d]?=some (.cells #[fv,.slice a9 (DL.length+1) c9,.int .i64 told,.bool false] 152 (0,0)))
  (hr:w'.ownsRow 0 222 3 (.slice a9 (DL.length+1) c9) (DL.length+1) (q0Z DL++[.int .u16 st,.int .i64 (q1B (zs DL) st),vh]))
  (hv:q1f w' vh (l.map q5D))(hok:∀q∈l,HpOk q)(hfr:∀k∈vh.ownBlock.toList,w.heap.size≤k∧k<B)(hloc:∀k∈zQ a9,k∈zQ la∨B≤k)(hB:w.heap.size≤B)(hst:st≤65535)(hT:q1B (zs DL) st≤32768*DL.length)(hn:DL.length<40) :
  DMonAt w' d fv u F (.slice a9 (DL++[((⟨st,q1B (zs DL) st,l⟩:LPt),vh)]).length c9) (DL++[((⟨st,q1B (zs DL) st,l⟩:LPt),vh)]) told false∧q6L d fv a9 (DL++[((⟨st,q1B (zs DL) st,l⟩:LPt),vh)]):=by
 have hlen:(DL++[((⟨st,q1B (zs DL) st,l⟩:LPt),vh)]).length=DL.length+1:=by simp
 have hfd:∀k∈q5c fv DL,k∉d::zQ la:=hs
 constructor
 ·rw[hlen]
  refine⟨hb,q8v h.frm ho (fun k hk=>hfd k (List.mem_append_left _ hk)),h.rd,h.good,h.lets,h.ahead,⟨?_,by rw[hlen];omega,fun i hi=>?_⟩,fun i hi=>?_,?_,by rw[hlen];have:=h.few;omega⟩
  ·rw[hlen,q8r]
   exact hr
  ·rcases Nat.lt_or_ge i DL.length with g|g
   ·rw[List.getElem_append_left g];exact h.log.times i g
   ·have ei:i=DL.length:=by rw[hlen]at hi;omega
    subst ei
    rw[List.getElem_append_right (zL _)]
    simp only[Nat.sub_self,List.getElem_cons_zero]
    exact⟨hT,hst⟩
  ·rcases Nat.lt_or_ge i DL.length with g|g
   ·rw[List.getElem_append_left g]
    exact(q7g h.haps ho (fun k hk=>hfd k hk)) i g
   ·have ei:i=DL.length:=by rw[hlen]at hi;omega
    subst ei
    rw[List.getElem_append_right (zL _)]
    simp only[Nat.sub_self,List.getElem_cons_zero]
    exact⟨hv,hok⟩
  ·have:zs (DL++[((⟨st,q1B (zs DL) st,l⟩:LPt),vh)])=zs DL++[⟨st,q1B (zs DL) st,l⟩]:=by simp[zs]
   rw[this]
   exact h.ok.add st l
 ·intro k hk
  have hdl:=h.lt
  have hrl:=rowBl_lt h.log
  have:k∈q5c fv DL∨k∈vh.ownBlock.toList:=by
   unfold q5c at hk ⊢
   simp only[List.flatMap_append,List.mem_append,List.flatMap_cons,List.flatMap_nil,List.append_nil]at hk ⊢
   rcases hk with hk|hk|hk
   ·exact .inl (.inl hk)
   ·exact .inl (.inr hk)
   ·exact .inr hk
  rcases this with hk|hk
  ·have h1:=hfd k hk
   have h2:=j5Q h k hk
   simp only[List.mem_cons,not_or]at h1 ⊢
   refine⟨h1.1,fun hm=>?_⟩
   rcases hloc k hm with h3|h3
   ·exact h1.2 h3
   ·omega
  ·have h1:=hfr k hk
   simp only[List.mem_cons,not_or]
   refine⟨by omega,fun hm=>?_⟩
   rcases hloc k hm with h3|h3
   ·have:=hrl k h3;omega
   ·omega
theorem j1l (l:List Ver):∀k,(zy l).take (k*12)=zy (l.take k):=by
 induction l with
 |nil=>intro k;simp[zy]
 |cons v r ih =>
  intro k
  cases k with
  |zero=>simp[zy]
  |succ k =>
   have e:zy (v::r)=q5t v++zy r:=rfl
   have e2:(q5t v).length=12:=rfl
   rw[e,List.take_succ_cons]
   have e3:zy (v::r.take k)=q5t v++zy (r.take k):=rfl
   rw[e3,List.take_append,e2,List.take_of_length_le (by rw[e2];omega),show(k+1)*12-12=k*12 by omega,ih k]
theorem j5A (F:zl)(L:List LPt)(a c k:Nat)(h:k≤c-a):(q1x F L a c).take k=q1x F L a (a+k):=by
 unfold q1x
 rw[←List.map_take,show a+k-a=k by omega]
 congr 1
 refine List.ext_getElem (by simp;omega) (fun i h1 h2=>?_)
 simp
def FkRel (w9:World)(told n sr:Nat)(g:Nat)(vi:Value)(wr:World):Prop:=∃k:Nat,k≤n-told∧n-told-k≤g∧vi=.int .i64 k∧(k=0∨told+k≤sr)∧Below w9.heap.size w9 wr
structure Mo where
 b:Nat
 gn:Nat
 cn:Nat
 ao:OA
 cap:Nat
 F:zl
 PL:List PPt
 told:Nat
 ended:Bool
 d:Nat
 fv:Value
 u:List Tok
 la:OA
 lc:Nat
 DL:List (LPt × Value)
structure MoAt (w:World)(m:Mo):Prop where
 good:FormGood m.F
 mon:MonAt w m.b m.gn m.cn m.ao m.cap m.F m.PL m.told m.ended
 doc:DMonAt w m.d m.fv m.u m.F (.slice m.la m.DL.length m.lc) m.DL m.told m.ended
 sep:q6L m.d m.fv m.la m.DL
 same:zA m.PL=zs m.DL
def q1d (m:Mo):List Nat:=m.b::(zQ m.ao++m.d::zQ m.la)
def q3S (m:Mo):List Nat:=q5c m.fv m.DL
def q4R (bl:List Nat)(w:World):Prop:=∀k∈bl,∃cs t,w.heap[k]?=some (.cells cs t (0,0))∧t≠168∧t≠130
theorem j1M {w w':World}{bl:List Nat}{base:Nat}{e:TypeId}{size:Nat}{v:Value}{n:Nat}{xs:List Value}(h:w.ownsRow base e size v n xs)(ho:OnlyB bl w w')(hk:q4R bl w)(he:e=168∨e=130):w'.ownsRow base e size v n xs:=by
 refine q5n h ho (fun k hv hm=>?_)
 obtain⟨cs,t,hc,h1,h2⟩:=hk k hm
 refine q8C hc h ?_ hv.symm
 rcases he with rfl|rfl
 ·exact h1
 ·exact h2
theorem MonAt.keepG {w w':World}{b gn cn:Nat}{ao:OA}{cap:Nat}{F:zl}{PL:List PPt}{told:Nat}{ended:Bool}{bl:List Nat}(h:MonAt w b gn cn ao cap F PL told ended)(ho:OnlyB bl w w')(hk:q4R bl w)(h1:b∉bl)(h2:∀k∈zQ ao,k∉bl):MonAt w' b gn cn ao cap F PL told ended:=by
 have hr:∀k,(Value.slice ao PL.length cap).ownBlock=some k→k∉bl:=fun k hv=>h2 k (by cases ao with|none=>simp[Value.ownBlock]at hv|some a=>simp[Value.ownBlock]at hv;simp[zQ,hv])
 refine⟨(ho.block b h.lt h1).trans h.blk,j1M h.nodes ho hk (.inl rfl),⟨?_,zT h.lt ho.size,q5n h.log.row ho hr,h.log.small,h.log.times⟩,fun p hp=>⟨j1M (h.haps p hp).1 ho hk (.inr rfl),(h.haps p hp).2⟩,h.few⟩
 rw[ho.cell h.lt h1]
 exact h.log.cell
theorem MoAt.keep {w w':World}{m:Mo}{bl:List Nat}(h:MoAt w m)(ho:OnlyB bl w w')(hk:q4R bl w)(h1:∀k∈q1d m,k∉bl)(h2:∀k∈q3S m,k∉bl):MoAt w' m:=
 ⟨h.good,h.mon.keepG ho hk (h1 _ (by simp[q1d])) (fun k hk=>h1 k (by simp[q1d,hk])),h.doc.keep ho (fun k hk=>by
  simp only[blkD,List.mem_cons,List.mem_append]at hk
  rcases hk with rfl|hk|hk
  ·exact h1 _ (by simp[q1d])
  ·exact h1 k (by simp[q1d,hk])
  ·exact h2 k hk),h.sep,h.same⟩
theorem MoAt.below {w w':World}{m:Mo}(h:MoAt w m)(hb:Below w.heap.size w w'):MoAt w' m:=⟨h.good,h.mon.below hb,h.doc.below hb,h.sep,h.same⟩
theorem MoAt.kinds {w:World}{m:Mo}(h:MoAt w m):(∃cs,w.heap[m.b]?=some (.cells cs 89 (0,0)))∧(∀k∈zQ m.ao,∃cs,w.heap[k]?=some (.cells cs 137 (0,0)))∧(∃cs,w.heap[m.d]?=some (.cells cs 152 (0,0)))∧(∀k∈zQ m.la,∃cs,w.heap[k]?=some (.cells cs 222 (0,0))):=by
 refine⟨⟨_,h.mon.blk⟩,fun k hk=>?_,⟨_,h.doc.blk⟩,fun k hk=>?_⟩
 ·refine(zw h.mon.log.row k ?_).2
  cases e:m.ao with
  |none=>rw[e]at hk;simp[zQ]at hk
  |some a=>rw[e]at hk;simp[zQ]at hk;simp[Value.ownBlock,hk]
 ·refine(zw h.doc.log.row k ?_).2
  cases e:m.la with
  |none=>rw[e]at hk;simp[zQ]at hk
  |some a=>rw[e]at hk;simp[zQ]at hk;simp[Value.ownBlock,hk]
theorem MoAt.mut {w:World}{m:Mo}(h:MoAt w m):∀k∈q1d m,∃cs t,w.heap[k]?=some (.cells cs t (0,0))∧(t=89∨t=137∨t=152∨t=222):=by
 obtain⟨⟨c1,k1⟩,k2,⟨c3,k3⟩,k4⟩:=h.kinds
 intro k hk
 simp only[q1d,List.mem_cons,List.mem_append]at hk
 rcases hk with rfl|hk|rfl|hk
 ·exact⟨c1,_,k1,.inl rfl⟩
 ·obtain⟨c2,k2⟩:=k2 k hk;exact⟨c2,_,k2,.inr (.inl rfl)⟩
 ·exact⟨c3,_,k3,.inr (.inr (.inl rfl))⟩
 ·obtain⟨c2,k2⟩:=k4 k hk;exact⟨c2,_,k2,.inr (.inr (.inr rfl))⟩
theorem MoAt.mutLt {w:World}{m:Mo}(h:MoAt w m):∀k∈q1d m,k<w.heap.size:=fun k hk=>by obtain⟨cs,t,e,_⟩:=h.mut k hk;exact zd e
theorem MoAt.froLt {w:World}{m:Mo}(h:MoAt w m):∀k∈q3S m,k<w.heap.size:=j5Q h.doc
theorem MoAt.mutKinds {w:World}{m:Mo}(h:MoAt w m){bl:List Nat}(hs:∀k∈bl,k∈q1d m):q4R bl w:=fun k hk=>by
 obtain⟨cs,t,e,ht⟩:=h.mut k (hs k hk)
 refine⟨cs,t,e,?_⟩
 rcases ht with rfl|rfl|rfl|rfl<;>exact⟨by decide,by decide⟩
structure MoTo (w w':World)(m m':Mo):Prop where
 mo:MoAt w' m'
 only:OnlyB (q1d m) w w'
 muts:∀k∈q1d m',k∈q1d m∨w.heap.size≤k
 fros:∀k∈q3S m',k∈q3S m∨w.heap.size≤k
 b:m'.b=m.b
 d:m'.d=m.d
 sep:∀k∈q3S m',k∉q1d m'
end Go.Proofs.YtiamjjonoeaggaaGreatDoor
