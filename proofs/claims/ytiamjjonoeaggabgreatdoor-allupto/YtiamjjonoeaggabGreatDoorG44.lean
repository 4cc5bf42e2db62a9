import Derived.Test.YtiamjjonoeaggabGreatDoorGA
import Derived.Test.YtiamjjonoeaggabGreatDoorGB
import Derived.Test.YtiamjjonoeaggabGreatDoorG35
import Derived.Test.YtiamjjonoeaggabGreatDoorG43
import Derived.Test.YtiamjjonoeaggabGreatDoorRows
import Derived.Test.YtiamjjonoeaggabGreatDoorCards
import Derived.Test.YtiamjjonoeaggabGreatDoorTie
import Derived.SevenTiedAt
import Derived.SizedLaws
import Derived.ProofKit
import Derived.LaidMore
import Derived.OpenShut
import Derived.Stop.Joined
import Derived.Deep.DeepHandedRow
set_option maxRecDepth 100000
set_option maxHeartbeats 16000000
namespace Go.Proofs.YtiamjjonoeaggabGreatDoor
open Go.RowKit
theorem j6P (bw:Nat)(s:St)(i:Nat)(hi:i<s.MS.length)(w:World)(h:Wld w bw s)(hg:Grp s.LS)(hL:s.LS.length≤10000000)(hmk:s.mc≤10000000) :
  Calls Tryz.prog 43 #[.pointer (some ⟨bw,0,none⟩),.int .i64 i] w fun e w'=>e=.returned (.bool true)∧q1M w w' bw s:=by
 obtain⟨m,gx,kx,gy,ky,hm,ex,ey,cx,cy,lx,ly,x1,x2,y1,y2⟩:=h.mon hi
 have hmem:m∈s.MS:=zI hm
 have hmo:=h.mons m hmem
 have hsep:=fun k hk hh=>h.sep m hmem m hmem k hh hk
 have c0:w.cell? ⟨bw,0,none⟩=some s.vx:=zC _ _ 0 _ _ _ h.blk
 have c1:w.cell? ⟨bw,1,none⟩=some s.vy:=zC _ _ 1 _ _ _ h.blk
 rw[ex]at c0
 rw[ey]at c1
 obtain⟨fe,hfe⟩:∃fe,fe=endE m.ended:=⟨_,rfl⟩
 obtain⟨VV,hVV⟩:∃VV,VV=endV m.F (zA m.PL) m.told m.ended:=⟨_,rfl⟩
 obtain⟨FL,hFL⟩:∃FL,FL=zA m.PL:=⟨_,rfl⟩
 obtain⟨FN,hFN⟩:∃FN,FN=endN (zA m.PL) m.told m.ended:=⟨_,rfl⟩
 have HF1:Hid (Calls Tryz.prog 17 #[.pointer (some ⟨m.b,0,none⟩)] w fun e w'=>∃v,e=.returned (.tuple #[v,.int .i64 fe])∧w'.ownsRow w.heap.size 45 12 v VV.length (zy VV)∧q4E w w' m.b m.gn m.cn m.ao m.F FL FN true):=zb (by subst hfe hVV hFL hFN;exact vig_End m.b m.gn m.cn m.ao m.cap m.F hmo.good m.PL m.told m.ended w hmo.mon)
 have HF2:Hid (∀w1,OnlyB (m.b::zQ m.ao) w w1→Calls Tryz.prog 61 #[.pointer (some ⟨m.d,0,none⟩)] w1 fun e w'=>∃v,e=.returned (.tuple #[v,.int .i64 fe])∧w'.ownsRow w1.heap.size 45 12 v VV.length (zy VV)∧q4f w1 w' m.d m.fv m.u m.F m.la m.DL FL FN true):=zb (fun w1 ho=>by rw[hmo.same]at hVV hFL hFN;subst hfe hVV hFL hFN;exact ref_End m.d m.fv m.u m.F m.la m.lc m.DL m.told m.ended w1 (hmo.doc1 hsep ho) hmo.sep)
 have HLN:Hid (∀w',q4E w w' m.b m.gn m.cn m.ao m.F FL FN true→VV.length≤1000):=zb (fun w' ht=>by subst hVV hFL;exact endV_len ht)
 have hin:∀k∈m.b::zQ m.ao,k∈q1d m:=fun k hk=>by
  rcases List.mem_cons.1 hk with rfl|hk
  ·simp[q1d]
  ·simp[q1d,hk]
 have nb:bw∉m.b::zQ m.ao:=fun hh=>(h.mut m hmem bw (hin _ hh)).1 (by simp[q1D])
 have ngy:gy∉m.b::zQ m.ao:=fun hh=>(h.mut m hmem gy (hin _ hh)).1 (h.all.2.1 gy (by rw[ey];simp[obl,Value.ownBlock]))
 have hlt:=h.lt
 have hbw:=q3U x1 x2
 have hby:=q3U y1 y2
 have H:=zb h
 have HG:=zb hg
 have HM:=zb hm
 have HNB:=zb nb
 have HNG:=zb ngy
 have HLL:=zb hL
 have HMK:=zb hmk
 have hiz:i<s.MS.length:=hi
 generalize hml:s.MS.length=ml at *
 have HML:=zb hml
 clear h hg hm hmo hsep hin nb ngy hL hmk ex ey x2 y2 hfe hVV hFL hFN hml hmem hi
 go_enter Tryz.func43,Tryz.ntmps43
 go_wp2_with fail
 refine HF1.out.mono ?_
 rintro e w1 ⟨v,rfl,hown,hto⟩
 have ho:OnlyB (m.b::zQ m.ao) w w1:=by obtain⟨_,_,_,_,_,q,_⟩:=hto;exact q
 have d1:=(ho.cell hlt HNB.out).trans c1
 have dy:=(ho.cell ly HNG.out).trans cy
 have hs1:=ho.size
 obtain⟨va,vc,rfl⟩:=qv hown
 have HR2:=zb (HF2.out _ ho)
 have HO1:=zb hown
 have HT1:=zb hto
 clear ho hown hto c0 c1 cx cy HF1 HF2
 go_wp2_with fail
 refine HR2.out.mono ?_
 rintro e w2 ⟨v2,rfl,hown2,hto2⟩
 obtain⟨m',KW,hl2,hfree,hbel⟩:=j1n H.out HM.out HT1.out hto2 HO1.out
 obtain⟨va2,vc2,rfl⟩:=qv hown2
 have hlen:=HLN.out _ HT1.out
 have SV:=zb (q9Y _ _ VV.length _ _ (zy VV) (ver_vc VV) w2 hl2 hown2)
 have HKW:=zb KW
 have HL2:=zb hl2
 have HFR:=zb hfree
 have HBE:=zb hbel
 clear KW hl2 hfree hbel hown2 hto2 d1 dy HR2 HLN
 generalize hvl:VV.length=vl at *
 go_wp2_with fail
 refine SV.out.mono ?_
 rintro e w3 ⟨rfl,b3⟩
 have KP:=zb (j3E bw _ _ vl (zy VV) w3 (HKW.out.below b3) HG.out (zh HL2.out b3) HFR.out hlen HLL.out HMK.out)
 have HB3:=zb b3
 clear b3 SV
 go_wp2_with fail
 refine KP.out.mono ?_
 rintro e w4 ⟨rfl,s',k1,k2,k3,k4,k5,k6⟩
 have HK1:=zb k1
 clear k1 KP
 go_wp2_with fail
 go_ret
 have hs2:=HKW.out.lt
 refine⟨rfl,s',HK1.out,k2,?_,?_,by rw[k4];exact zL _,by rw[k5];exact zL _,HBE.out.trans ((HB3.out.mono (by omega)).trans k6)⟩
 ·rw[k3];simp
 ·rw[k3];simp
theorem law_seen (bw:Nat)(s:St)(i:Nat)(hi:i<s.MS.length)(w:World)(h:Wld w bw s) :
  Calls Tryz.prog 20 #[.pointer (some ⟨bw,0,none⟩),.int .i64 i] w fun e w'=>e=.returned (.bool true)∧Below w.heap.size w w':=by
 obtain⟨m,gx,kx,gy,ky,hm,ex,ey,cx,cy,lx,ly,x1,x2,y1,y2⟩:=h.mon hi
 have hmem:m∈s.MS:=zI hm
 have hmo:=h.mons m hmem
 have c0:w.cell? ⟨bw,0,none⟩=some s.vx:=zC _ _ 0 _ _ _ h.blk
 have c1:w.cell? ⟨bw,1,none⟩=some s.vy:=zC _ _ 1 _ _ _ h.blk
 rw[ex]at c0
 rw[ey]at c1
 have hlen:m.PL.length=m.DL.length:=by have:=congrArg List.length hmo.same;simpa using this
 have HS:=zb (vig_Seen m.b m.gn m.cn m.ao m.cap m.F m.PL m.told m.ended w hmo.mon)
 rw[hlen]at HS
 obtain⟨_,d1,d2,_⟩:=hmo.doc.cells
 have hdl:=hmo.doc.lt
 have hlt:=h.lt
 have hbw:=q3U x1 x2
 have hby:=q3U y1 y2
 have HCS:Hid (∀w',Below w.heap.size w w'→w'.cell? ⟨bw,1,none⟩=some (.slice (some ⟨gy,0,none⟩) s.MS.length ky)∧w'.cell? ⟨gy,i,none⟩=some (.pointer (some ⟨m.d,0,none⟩))∧w'.cell? ⟨m.d,1,none⟩=some (.slice m.la m.DL.length m.lc)∧w'.cell? ⟨m.d,2,none⟩=some (.int .i64 m.told)):=zb (fun w' hb=>⟨(zo hb _ _ hlt).trans c1,(zo hb _ _ ly).trans cy,(zo hb _ _ hdl).trans d1,(zo hb _ _ hdl).trans d2⟩)
 have hiz:i<s.MS.length:=hi
 generalize s.MS.length=ml at *
 clear h hm hmo hmem ex ey x2 y2 hlen c1 cy d1 d2 hi
 go_enter Tryz.func20,Tryz.ntmps20
 go_wp2_with fail
 refine HS.out.mono ?_
 rintro e w1 ⟨rfl,b1⟩
 obtain⟨e1,e2,e3,e4⟩:=HCS.out _ b1
 have HB1:=zb b1
 have hs1:=b1.size
 clear b1 c0 cx
 go_wp2_with fail
 go_ret
 exact⟨rfl,HB1.out⟩
end Go.Proofs.YtiamjjonoeaggabGreatDoor
namespace Go.Proofs.YtiamjjonoeaggabGreatDoor
open Go.RowKit
def WrRel (bw q i mB:Nat)(z:Int)(s:St)(w:World)(g:Nat)(vn:Value)(wr:World):Prop:=
 ∃(j:Nat) (gs:List Nat),j≤4∧4-j≤g∧vn=.int .i64 ((q*4+j:Nat):Int)∧Wld wr bw {s with LS:=q2M s.LS gs i z}∧(∀t,t<j→(∃k∈gs,(lg s.LS (q*4+t)).v.ownBlock=some k)∧∃k∈gs,(lg s.LS (q*4+t)).cv.ownBlock=some k) ∧
  (∀g∈gs,∃t,t<4∧(g∈obl (lg s.LS (q*4+t)).v∨g∈obl (lg s.LS (q*4+t)).cv))∧wr.heap[mB]?=some (.cells (mkA z) 45 (0,0))∧w.heap.size≤mB∧Below bw w wr
theorem Wld.write1 {w:World}{bw:Nat}{s:St}{e:Lst}{g c i:Nat}{z:Int}{v:Value}{f:Nat→Int}(h:Wld w bw s)(hv:v=.slice (some ⟨g,0,none⟩) e.n c)(hr:w.ownsRow (bw+1) 45 12 v e.n (flR f e.n))(hin:g∈q3h s)(hi:i<e.n) :
  ∃W',(Instr.storeAt 45 (.pointer (some ⟨g,i*12,none⟩)) (.agg (mkA z))).run Tryz.prog w=.ok () W'∧Wld W' bw {s with LS:=q2M s.LS [g] i z}∧OnlyB [g] w W':=by
 subst hv
 obtain⟨cs,q1,q2,q3,q4,q5,q6⟩:=q1O hr
 obtain⟨W',S4,⟨cs',r1,r2,r3⟩,r4,r5⟩:=j0Q (P:=Tryz.prog) 45 45 w g (i*12) cs (mkA z) q1 (by kernel_rfl) (by rw[q4];show i*12+12≤c*12;omega) (q9A z)
 exact⟨W',S4,h.put hin r4 q1 r1 r2 (fun p hp=>by rw[r3 p hp];exact mk_if),r4⟩
theorem Wld.list {w:World}{bw:Nat}{s:St}(h:Wld w bw s){t i:Nat}(ht:t<s.LS.length)(hi:i<(lg s.LS t).n):∃gl kl gw kw ge ce gc cc,s.vl=.slice (some ⟨gl,0,none⟩) s.LS.length kl∧s.vw=.slice (some ⟨gw,0,none⟩) s.LS.length kw∧(lg s.LS t).v=.slice (some ⟨ge,0,none⟩) (lg s.LS t).n ce∧(lg s.LS t).cv=.slice (some ⟨gc,0,none⟩) (lg s.LS t).n cc ∧
  w.cell? ⟨gl,t,none⟩=some (lg s.LS t).v∧w.cell? ⟨gw,t,none⟩=some (lg s.LS t).cv∧gl<w.heap.size∧gw<w.heap.size∧ge<w.heap.size∧gc<w.heap.size∧s.LS.length≤kl∧kl≤maxLen∧s.LS.length≤kw∧kw≤maxLen∧(lg s.LS t).n≤ce∧ce≤maxLen∧(lg s.LS t).n≤cc∧cc≤maxLen∧ge∈q3h s∧gc∈q3h s:=by
 have hm:=q8y ht
 have hrow:=h.row _ hm
 have hcop:=h.cop _ hm
 obtain⟨gl,kl,el⟩:=zJ h.ls (by omega)
 obtain⟨gw,kw,ew⟩:=zJ h.lw (by omega)
 obtain⟨ge,ce,ee⟩:=zJ hrow (by omega)
 obtain⟨gc,cc,ec⟩:=zJ hcop (by omega)
 have hl:=h.ls
 have hw:=h.lw
 rw[el]at hl
 rw[ew]at hw
 have hrow':=hrow
 have hcop':=hcop
 rw[ee]at hrow'
 rw[ec]at hcop'
 obtain⟨_,al,bl,cl,_⟩:=q1O hl
 obtain⟨_,aw,bw',cw,_⟩:=q1O hw
 obtain⟨_,ae,be,ce',_⟩:=q1O hrow'
 obtain⟨_,ac,bc,cc',_⟩:=q1O hcop'
 obtain⟨_,_,_,_,a5,a6⟩:=h.all
 refine⟨gl,kl,gw,kw,ge,ce,gc,cc,el,ew,ee,ec,?_,?_,zd al,zd aw,zd ae,zd ac,bl,cl,bw',cw,be,ce',bc,cc',a5 _ hm ge (by rw[ee];exact q1w.2 rfl),a6 _ hm gc (by rw[ec];exact q1w.2 rfl)⟩
 ·rw[hl.cellAt t (by omega),List.getElem?_map,j2q ht]
  rfl
 ·rw[hw.cellAt t (by omega),List.getElem?_map,j2q ht]
  rfl
theorem j1q {P:Program}{oi:Oper}{a:Act}{w:World}(ty:TypeId)(x:Operand)(ho:oi.op=.load ty x)(ad:Addr)(v:Value)(hx:a.eval x=.pointer (some ad))(hr:(Instr.loadAt ty (.pointer (some ad))).run P w=.ok v w):(execOp a.eval oi).run P w=.ok (.value v) w:=by
 unfold execOp
 simp only[ho,hx,hr,Sem.run_bind,Sem.run_pure,Result.andThen_ok]
theorem Wld.lists {w:World}{bw:Nat}{s:St}(h:Wld w bw s)(h0:0<s.LS.length):∃gl kl gw kw,s.vl=.slice (some ⟨gl,0,none⟩) s.LS.length kl∧s.vw=.slice (some ⟨gw,0,none⟩) s.LS.length kw∧(∀t,t<s.LS.length→w.cell? ⟨gl,t,none⟩=some (lg s.LS t).v)∧(∀t,t<s.LS.length→w.cell? ⟨gw,t,none⟩=some (lg s.LS t).cv)∧gl<w.heap.size∧gw<w.heap.size∧s.LS.length≤kl∧kl≤maxLen∧s.LS.length≤kw∧kw≤maxLen∧gl∈q1D bw s∧gw∈q1D bw s:=by
 obtain⟨gl,kl,el⟩:=zJ h.ls (by omega)
 obtain⟨gw,kw,ew⟩:=zJ h.lw (by omega)
 have hl:=h.ls
 have hw:=h.lw
 rw[el]at hl
 rw[ew]at hw
 obtain⟨_,al,bl,cl,_⟩:=q1O hl
 obtain⟨_,aw,bw',cw,_⟩:=q1O hw
 obtain⟨_,_,a3,a4,_,_⟩:=h.all
 refine⟨gl,kl,gw,kw,el,ew,fun t ht=>?_,fun t ht=>?_,zd al,zd aw,bl,cl,bw',cw,a3 gl (by rw[el];exact q1w.2 rfl),a4 gw (by rw[ew];exact q1w.2 rfl)⟩
 ·rw[hl.cellAt t (by omega),List.getElem?_map,j2q ht]
  rfl
 ·rw[hw.cellAt t (by omega),List.getElem?_map,j2q ht]
  rfl
theorem j6T (bw:Nat)(s:St)(kd ka kb:Int)(ss:By)(hA:-9223372036854775808≤ka∧ka≤9223372036854775807)(hB:-9223372036854775808≤kb∧kb≤9223372036854775807)(w:World)(h:Wld w bw s)(hg:Grp s.LS)(hL:s.LS.length≤10000000)(hmk:s.mc≤10000000) :
  Calls Tryz.prog 40 #[.pointer (some ⟨bw,0,none⟩),.agg #[.int .i64 kd,.int .i64 ka,.int .i64 kb,bs ss]] w fun e w'=>e=.returned (.tuple #[])∧q1M w w' bw s:=by
 obtain⟨la,lc,el⟩:=qv h.ls
 have c2:w.cell? ⟨bw,2,none⟩=some s.vl:=zC _ _ 2 _ _ _ h.blk
 rw[el]at c2
 have hlt:=h.lt
 have B0:Below w.heap.size w (w.alloc (.cells #[.int .i64 kd,.int .i64 ka,.int .i64 kb,bs ss] 68)):=(zB _ _).alloc (zL _) _
 by_cases h0:s.LS.length=0
 ·have HF:Hid (∀w',Below w.heap.size w w'→q1M w w' bw s):=zb (fun w' hb=>q1M.same h hg hb)
  have HB0:=zb B0
  rw[h0]at c2
  clear h hg hL hmk el h0 B0
  go_enter Tryz.func40,Tryz.ntmps40
  go_wp2_with fail
  exact zP (results_none rfl _ _ _) rfl ⟨rfl,HF.out _ HB0.out⟩
 ·obtain⟨q1,hq1⟩:∃q1,s.LS.length=q1*4:=⟨s.LS.length / 4,by have:=hg.four;omega⟩
  have hq0:0<q1:=by omega
  obtain⟨gl,kl,gw,kw,el',ew,cl,cw,ll,lw,bl,ml,bw',mw,ol,ow⟩:=h.lists (by omega)
  obtain⟨rfl,rfl⟩:la=some ⟨gl,0,none⟩∧lc=kl:=by rw[el]at el';simpa using el'
  have HPK:=zb (fun W=>q9X ka hA q1 hq0 W)
  generalize hqd:q7R ka q1=qd at *
  have hqd1:qd<q1:=by rw[←hqd];exact j0n ka hq0
  obtain⟨ea,ec,ee⟩:=qv (h.row _ (q8y (i:=qd*4) (LS:=s.LS) (by omega)))
  have cq:=cl (qd*4) (by omega)
  rw[ee]at cq
  rw[hq1]at c2
  have hll:q1≤2500000:=by omega
  have hne:((q1*4:Nat):Int)≠0:=by omega
  have hdv:Int.tdiv ((q1*4:Nat):Int) 4=(q1:Int):=by rw[Int.tdiv_eq_ediv_of_nonneg (by omega)];omega
  have hwq:IntKind.i64.wrap (q1:Int)=(q1:Int):=by rw[IntKind.wrap_i64];omega
  have hwm:IntKind.i64.wrap ((qd:Int)*4)=((qd*4:Nat):Int):=by rw[IntKind.wrap_i64];omega
  have hkl:=q3U bl ml
  have H:=zb h
  have HG:=zb hg
  have HQ:=zb hq1
  have HMK:=zb hmk
  have HC2:=zb c2
  have HCQ:=zb cq
  have HEE:=zb ee
  have HCL:=zb cl
  have HOL:=zb ol
  have HVV:=zb (And.intro el' ew)
  rw[hq1]at HVV
  have hbl:q1*4≤lc:=by omega
  obtain⟨L4,hL4⟩:∃L4:Nat,L4=q1*4:=⟨_,rfl⟩
  obtain⟨qk,hqk⟩:∃qk:Nat,qk=qd*4:=⟨_,rfl⟩
  have hqk1:qk<L4:=by omega
  rw[←hL4]at HC2 hne hdv hbl HVV
  rw[←hqk]at HCQ hwm HEE
  have HL4:=zb hL4
  have HQK:=zb hqk
  obtain⟨n0,hn0⟩:∃n0,n0=(lg s.LS qk).n:=⟨_,rfl⟩
  rw[←hn0]at HCQ HEE
  have HN0:=zb hn0
  have hmw:=q3U bw' mw
  clear h hg B0 hL hmk el h0 hq1 c2 hqd cl cq ee ew cw ol ow el' hL4 hqk hn0 ml bl bw' mw
  go_enter Tryz.func40,Tryz.ntmps40
  go_wp2_with (refine qo rfl 68 (.tmp 1) rfl _ #[.int .i64 kd,.int .i64 ka,.int .i64 kb,bs ss] rfl rfl ?_;intro W0 g0 B0 hz0;have f1:=zC _ _ 1 _ _ _ g0;have f2:=zC _ _ 2 _ _ _ g0;simp only[gz]at f1 f2;have e2:=(zo B0 bw 2 hlt).trans HC2.out;have H1:=zb (H.out.below B0);have hlt0:=H1.out.lt;have e3:=(zo B0 gl qk ll).trans HCQ.out;have hgl0:gl<W0.heap.size:=(by have:=B0.size;omega);have HB0:=zb B0;have HG0:=zb g0;clear g0 B0)
  refine wp_region_held_drew (S:=fun w'=>w'.cell? ⟨w.heap.size,1,none⟩=some (.int .i64 ka)∧w'.cell? ⟨bw,2,none⟩=some (.slice (some ⟨gl,0,none⟩) L4 lc)) (by kernel_rfl) ⟨by simpa using f1,by simpa using e2⟩ (fun _=>?_)
  simp only[rz,Nat.zero_add,Nat.reduceAdd]
  refine tq 0 14 ?_
  simp only[Act.put,pz]
  refine tq 1 15 ?_
  simp only[Act.put,pz]
  refine tq 2 16 ?_
  simp only[Act.put,pz]
  refine tq 3 17 ?_
  simp only[Act.put,pz]
  refine tq 4 18 ?_
  simp only[Act.put,pz]
  refine tq 5 19 ?_
  simp only[Act.put,pz]
  refine tq 6 20 ?_
  simp only[Act.put,pz]
  refine tq 7 21 ?_
  simp only[Act.put,pz]
  refine rd1 8 rfl fun K hK=>?_
  go_simp
  refine(HPK.out _).mono ?_
  rintro e w5 ⟨rfl,rfl⟩
  go_simp
  refine hK.out _ _ ⟨by simpa using f1,by simpa using e2⟩ (fun _=>?_)
  clear hK K
  refine tq 9 23 ?_
  simp only[Act.put,pz]
  refine tq 10 4 ?_
  simp only[Act.put,pz]
  refine zD (by kernel_rfl) ?_ _
  by_cases hn0:n0=0
  ·go_wp2_with fail
   exact zP (results_none rfl _ _ _) rfl ⟨rfl,q1M.same H.out HG.out HB0.out.drew⟩
  ·have HPK2:=zb (fun W=>q9X kb hB n0 (by omega) W)
   generalize hir:q7R kb n0=ir at *
   have hir1:ir<n0:=by rw[←hir];exact j0n kb (by omega)
   clear hir
   go_wp2_with fail
   refine wp_region_held_drew (S:=fun w'=>w'.cell? ⟨w.heap.size,2,none⟩=some (.int .i64 kb)∧w'.cell? ⟨bw,2,none⟩=some (.slice (some ⟨gl,0,none⟩) L4 lc)∧w'.cell? ⟨gl,qk,none⟩=some (.slice ea n0 ec)) (by kernel_rfl) ⟨by simpa using f2,by simpa using e2,by simpa using e3⟩ (fun _=>?_)
   simp only[rz,Nat.zero_add,Nat.reduceAdd]
   refine tq 0 33 ?_
   simp only[Act.put,pz]
   refine tq 1 34 ?_
   simp only[Act.put,pz]
   refine tq 2 35 ?_
   simp only[Act.put,pz]
   refine tq 3 36 ?_
   simp only[Act.put,pz]
   refine tq 4 37 ?_
   simp only[Act.put,pz]
   refine tq 5 38 ?_
   simp only[Act.put,pz]
   refine tq 6 39 ?_
   simp only[Act.put,pz]
   refine tq 7 40 ?_
   simp only[Act.put,pz]
   refine tq 8 41 ?_
   simp only[Act.put,pz]
   refine tq 9 42 ?_
   simp only[Act.put,pz]
   refine rd1 10 rfl fun K hK=>?_
   go_simp
   refine(HPK2.out _).mono ?_
   rintro e w5 ⟨rfl,rfl⟩
   go_simp
   refine hK.out _ _ ⟨by simpa using f2,by simpa using e2,by simpa using e3⟩ (fun _=>?_)
   clear hK K
   refine tq 11 5 ?_
   simp only[Act.put,pz]
   refine zD (by kernel_rfl) ?_ _
   have HD:=zb (H1.out.below ((zB _ W0).drew.trans (zB _ W0.drew).drew))
   have HBD:Hid (Below w.heap.size w W0.drew.drew):=zb HB0.out.drew.drew
   obtain⟨Wd,hWd⟩:∃Wd,Wd=W0.drew.drew:=⟨_,rfl⟩
   rw[←hWd]at HD HBD ⊢
   clear hWd e2 e3 f1 f2 HPK HPK2 H1 HG0
   have c4:Wd.cell? ⟨bw,4,none⟩=some (.int .i64 s.mc):=zC _ _ 4 _ _ _ HD.out.blk
   have z4:=zF _ _ 4 _ _ HD.out.blk
   have hltd:=HD.out.lt
   have HM1:=HD.out.mark
   obtain⟨mz,hmz⟩:∃mz:Int,mz=(s.mc:Int):=⟨_,rfl⟩
   have hm0:0≤mz∧mz≤10000000:=by have:=HMK.out;omega
   rw[←hmz]at c4 HM1
   obtain⟨z,hz⟩:∃z:Int,z=mz+1:=⟨_,rfl⟩
   have hwr:IntKind.i64.wrap (mz+1)=z:=by rw[IntKind.wrap_i64];omega
   rw[←hz]at HM1
   obtain⟨VM,hVM⟩:∃VM,VM=Value.agg (mkA z):=⟨_,rfl⟩
   have HVM:=zb hVM
   have HMA:Hid (∀W,Calls Tryz.prog 58 #[.int .i64 z] W fun e w'=>e=.returned VM∧Below W.heap.size W w'):=zb (fun W=>by rw[hVM];exact j3F z W)
   have HW1:=zb HM1
   have HB1:Hid (Below bw w (Wd.setCell ⟨bw,4,none⟩ (.int .i64 z))):=zb ((HBD.out.mono (by omega)).trans ((OnlyB.one Wd bw 4 (.int .i64 z)).below (by omega) (by simp)))
   obtain⟨W1,hW1⟩:∃W1,W1=Wd.setCell ⟨bw,4,none⟩ (.int .i64 z):=⟨_,rfl⟩
   have hs1:W1.heap.size=Wd.heap.size:=by rw[hW1];simp
   have d4:W1.cell? ⟨bw,4,none⟩=some (.int .i64 z):=by rw[hW1];exact zS Wd _ _ c4
   have hsd:=HBD.out.size
   clear HM1 hVM hmz hz
   go_wp2_with fail
   rw[←hW1]at HW1 HB1 ⊢
   clear hW1 c4
   refine(HMA.out _).mono ?_
   rintro e w2 ⟨rfl,b2⟩
   have hs2:=b2.size
   obtain⟨W3,S3,g3,b3,hs3⟩:=qI (P:=Tryz.prog) 45 w2 (q7j 0 0) (mkA z) (by kernel_rfl) rfl (q9A z)
   rw[←HVM.out]at S3
   have B3:Below W1.heap.size W1 W3:=b2.trans (b3.mono b2.size)
   have HW3:=zb (HW1.out.below B3)
   have HB3:Hid (Below bw w W3):=zb (HB1.out.trans (B3.mono (by omega)))
   have HM3:=zb g3
   obtain⟨mB,hmB⟩:∃mB,mB=w2.heap.size:=⟨_,rfl⟩
   have hmb:w.heap.size≤mB:=by omega
   clear b2 b3 g3 B3 HMA d4 z4
   rw[←hmB]at HM3
   have HMB:=zb hmB
   go_wp2_with (refine ze rfl 45 (.tmp 6) (.tmp 55) rfl ⟨w2.heap.size,0,none⟩ VM rfl rfl W3 S3 ?_)
   clear S3
   rw[←hmB]
   clear hmB
   have CW:Hid (∀(W:World) (gs:List Nat),Wld W bw {s with mc:=s.mc+1,LS:=q2M s.LS gs ir z}→W.cell? ⟨bw,2,none⟩=some (.slice (some ⟨gl,0,none⟩) L4 lc)∧W.cell? ⟨bw,3,none⟩=some (.slice (some ⟨gw,0,none⟩) L4 kw)∧∀t,t<L4→W.cell? ⟨gl,t,none⟩=some (lg s.LS t).v∧W.cell? ⟨gw,t,none⟩=some (lg s.LS t).cv):=zb (fun W gs hW=>by
    obtain⟨gl',kl',gw',kw',e1,e2,e3,e4,_⟩:=hW.lists (by simp only[q2p];have:=HQ.out;have:=HL4.out;omega)
    simp only[q2p]at e1 e2 e3 e4
    obtain⟨q1',q2'⟩:=HVV.out
    rw[q1']at e1
    rw[q2']at e2
    have hll4:s.LS.length=L4:=by rw[HQ.out,HL4.out]
    rw[hll4]at e1 e2 e3 e4
    simp only[Value.slice.injEq,Option.some.injEq,Addr.mk.injEq,and_true,true_and]at e1 e2
    obtain⟨rfl,rfl⟩:=e1
    obtain⟨rfl,rfl⟩:=e2
    refine⟨?_,?_,fun t ht=>⟨?_,?_⟩⟩
    ·have:=zC _ _ 2 _ _ _ hW.blk
     simp only[List.getElem?_toArray,List.getElem?_cons_zero,List.getElem?_cons_succ,q1']at this
     exact this
    ·have:=zC _ _ 3 _ _ _ hW.blk
     simp only[List.getElem?_toArray,List.getElem?_cons_zero,List.getElem?_cons_succ,q2']at this
     exact this
    ·rw[e3 t ht,q2b _ _ _ _ (by omega)]
    ·rw[e4 t ht,q2b _ _ _ _ (by omega)])
   have HLVM:Hid (∀W:World,W.heap[mB]?=some (.cells (mkA z) 45 (0,0))→(Instr.loadAt 45 (.pointer (some ⟨mB,0,none⟩))).run Tryz.prog W=.ok VM W):=zb (fun W hW=>by
    rw[HVM.out]
    exact q1s 45 45 W mB (mkA z) (0,0) _ hW Tryz.underlying45 rfl (by kernel_rfl))
   have hqb:qk≤10000000:=by have:=HL4.out;omega
   have hw4:IntKind.i64.wrap ((qk:Int)+4)=(qk:Int)+4:=by rw[IntKind.wrap_i64];omega
   go_loopg [7] 4 (fun g vn wr=>WrRel bw qd ir mB z {s with mc:=s.mc+1} w g vn wr)
   case atStart=>exact⟨0,[],by omega,by omega,by rw[HQK.out];rfl,by simp only[putL_nil];exact HW3.out,fun t ht=>by omega,fun g hg=>by simp at hg,HM3.out,hmb,HB3.out⟩
   case round =>
    obtain⟨j,gs,hj,hgk,rfl,KW,h1,h2,hmm,hmb2,hb⟩:=hrel
    obtain⟨tt,htt⟩:∃tt:Nat,tt=qd*4+j:=⟨_,rfl⟩
    rw[←htt]
    have HTT:=zb htt
    have HGK:=zb hgk
    have HK:=zb KW
    have H1:=zb h1
    have H2:=zb h2
    have HMM:=zb hmm
    have HBW:=zb hb
    have hqk2:=HQK.out
    have hL42:=HL4.out
    have htb:tt<L4+4:=by omega
    by_cases hj4:j<4
    ·have htl:tt<L4:=by omega
     have hc4:(tt:Int)<(qk:Int)+4:=by omega
     have hlen:(lg s.LS tt).n=n0+j:=by
      have:=HG.out.lens tt (by rw[HQ.out];omega)
      rw[this,show tt / 4*4=qk by omega,←HN0.out]
      omega
     obtain⟨_,_,_,_,ge,ce,gc,cc,_,_,ve,vc,_,_,_,_,lge,lgc,_,_,_,_,be,me,bc,mc',ine,inc⟩:=H.out.list (t:=tt) (i:=ir) (by rw[HQ.out];omega) (by omega)
     have hce:=q3U be me
     have hcc:=q3U bc mc'
     have htm:tt<(q2M s.LS gs ir z).length:=by rw[q2p,HQ.out];omega
     have hp1:=q2b s.LS gs ir z (t:=tt) (by rw[HQ.out];omega)
     have hlS:∀gs k,k∈q3h s→k∈q3h {s with mc:=s.mc+1,LS:=q2M s.LS gs ir z}:=fun gs k hk=>by
      simp only[q3h,q2M,List.mem_flatMap,List.mem_map,List.mem_append]at hk ⊢
      obtain⟨e,he,hk⟩:=hk
      exact⟨_,⟨e,he,rfl⟩,hk⟩
     have KWd:=KW.below ((zB _ wr).drew)
     have hmmd:wr.drew.heap[mB]?=some (.cells (mkA z) 45 (0,0)):=hmm
     have hrow:=KWd.row _ (q8y htm)
     simp only[hp1,ve]at hrow
     obtain⟨W4,S4,K4,O4⟩:=KWd.write1 (e:=lg s.LS tt) (z:=z) rfl hrow (hlS gs ge ine) (i:=ir) (by omega)
     simp only[j3T]at K4
     have htm2:tt<(q2M s.LS (gs++[ge]) ir z).length:=by rw[q2p,HQ.out];omega
     have hp2:=q2b s.LS (gs++[ge]) ir z (t:=tt) (by rw[HQ.out];omega)
     have K4d:=K4.below ((zB _ W4).drew)
     have hcop:=K4d.cop _ (q8y htm2)
     simp only[hp2,vc]at hcop
     have M4:=(O4.block mB (zd hmmd) (by simp;omega)).trans hmmd
     have M4d:W4.drew.heap[mB]?=some (.cells (mkA z) 45 (0,0)):=M4
     obtain⟨W5,S5,K5,O5⟩:=K4d.write1 (e:=lg s.LS tt) (z:=z) rfl hcop (hlS (gs++[ge]) gc inc) (i:=ir) (by omega)
     simp only[j3T]at K5
     have M5:=(O5.block mB (zd M4d) (by simp;omega)).trans M4d
     have B5:Below bw wr W5:=by
      have q1':=(zB wr.heap.size wr).drew
      have q2':Below bw wr wr.drew:=q1'.mono (by have:=KW.lt;omega)
      have q3':Below bw W4 W4.drew:=((zB W4.heap.size W4).drew).mono (by have:=K4.lt;omega)
      exact q2'.trans ((O4.below (by have:=KWd.lt;omega) (fun k hk=>by have:k=ge:=(by simpa using hk);subst this;exact(H.out.kinds k (.inr ine)).1)).trans (q3'.trans (O5.below (by have:=K4d.lt;omega) (fun k hk=>by have:k=gc:=(by simpa using hk);subst this;exact(H.out.kinds k (.inr inc)).1))))
     have C0:=CW.out _ _ KWd
     have C1:=CW.out _ _ K4
     have C2:=CW.out _ _ K4d
     have C3:=CW.out _ _ K5
     have SS0:=zb (And.intro C0.1 (And.intro (C0.2.2 tt htl).1 (HLVM.out _ hmmd)))
     have SS1:=zb (And.intro C1.1 (And.intro (C1.2.2 tt htl).1 (HLVM.out _ M4)))
     have SS2:=zb (And.intro C2.2.1 (And.intro (C2.2.2 tt htl).2 (HLVM.out _ M4d)))
     have SS3:=zb (And.intro C3.2.1 (And.intro (C3.2.2 tt htl).2 (HLVM.out _ M5)))
     obtain⟨nj,hnj⟩:∃nj,nj=n0+j:=⟨_,rfl⟩
     have hirj:ir<nj:=by omega
     have hge:nj≤ce:=by omega
     have hgc:nj≤cc:=by omega
     rw[ve,hlen,←hnj]at SS0 SS1
     rw[vc,hlen,←hnj]at SS2 SS3
     rw[←HVM.out]at S4 S5
     have HK5:=zb K5
     have HM5:=zb M5
     have HB5:=zb B5
     have HVE:=zb ve
     have HVC:=zb vc
     clear KW KWd K4 K4d K5 hrow hcop C0 C1 C2 C3 M4 M4d M5 O4 O5 B5 hmm hmmd h1 h2 hb hp1 hp2 htm htm2 hlS be me bc mc' ine inc ve vc hlen hgk htt hqk2 hL42 hmb2 hnj
     go_wp2_with fail
     refine wp_region_held_drew (S:=fun w'=>w'.cell? ⟨bw,2,none⟩=some (.slice (some ⟨gl,0,none⟩) L4 lc)∧w'.cell? ⟨gl,tt,none⟩=some (.slice (some ⟨ge,0,none⟩) nj ce)∧(Instr.loadAt 45 (.pointer (some ⟨mB,0,none⟩))).run Tryz.prog w'=.ok VM w') (by kernel_rfl) SS0.out (fun hS0=>?_)
     simp only[rz,Nat.zero_add,Nat.reduceAdd]
     refine tq 0 63 ?_
     simp only[Act.put,pz]
     refine tq 1 64 ?_
     simp only[Act.put,pz]
     refine tq 2 65 ?_
     simp only[Act.put,pz]
     refine tq 3 66 ?_
     simp only[Act.put,pz]
     refine tq 4 67 ?_
     simp only[Act.put,pz]
     refine tq 5 68 ?_
     simp only[Act.put,pz]
     refine tq 6 69 ?_
     simp only[Act.put,pz]
     refine tq 7 70 ?_
     simp only[Act.put,pz]
     refine q4Y (i:=8) (v:=VM) 71 rfl rfl (by kernel_rfl) (by kernel_rfl) (by kernel_rfl) (fun _ _ _ h=>h) (by rfl) (by assumption) ?_ ?_
     ·(intro w hSw;exact j1q 45 (.tmp 6) rfl ⟨mB,0,none⟩ VM rfl hSw.2.2)
     simp only[Act.put,pz]
     refine tq 9 72 ?_
     simp only[Act.put,pz]
     refine rd1 10 rfl fun K hK=>?_
     refine qE 45 (.tmp 72) (.tmp 71) rfl ⟨ge,ir*12,none⟩ VM rfl rfl W4 S4 ?_
     refine hK.out _ _ SS1.out (fun hS1=>?_)
     clear hK K
     refine zD (by kernel_rfl) ?_ _
     clear hS0 hS1 S4
     simp only[Act.put,List.setIfInBounds_toArray]
     go_wp2_with fail
     refine wp_region_held_drew (S:=fun w'=>w'.cell? ⟨bw,3,none⟩=some (.slice (some ⟨gw,0,none⟩) L4 kw)∧w'.cell? ⟨gw,tt,none⟩=some (.slice (some ⟨gc,0,none⟩) nj cc)∧(Instr.loadAt 45 (.pointer (some ⟨mB,0,none⟩))).run Tryz.prog w'=.ok VM w') (by kernel_rfl) SS2.out (fun hS0=>?_)
     simp only[rz,Nat.zero_add,Nat.reduceAdd]
     refine tq 0 73 ?_
     simp only[Act.put,pz]
     refine tq 1 74 ?_
     simp only[Act.put,pz]
     refine tq 2 75 ?_
     simp only[Act.put,pz]
     refine tq 3 76 ?_
     simp only[Act.put,pz]
     refine tq 4 77 ?_
     simp only[Act.put,pz]
     refine tq 5 78 ?_
     simp only[Act.put,pz]
     refine tq 6 79 ?_
     simp only[Act.put,pz]
     refine tq 7 80 ?_
     simp only[Act.put,pz]
     refine q4Y (i:=8) (v:=VM) 81 rfl rfl (by kernel_rfl) (by kernel_rfl) (by kernel_rfl) (fun _ _ _ h=>h) (by rfl) (by assumption) ?_ ?_
     ·(intro w hSw;exact j1q 45 (.tmp 6) rfl ⟨mB,0,none⟩ VM rfl hSw.2.2)
     simp only[Act.put,pz]
     refine tq 9 82 ?_
     simp only[Act.put,pz]
     refine rd1 10 rfl fun K hK=>?_
     refine qE 45 (.tmp 82) (.tmp 81) rfl ⟨gc,ir*12,none⟩ VM rfl rfl W5 S5 ?_
     refine hK.out _ _ SS3.out (fun hS1=>?_)
     clear hK K
     refine zD (by kernel_rfl) ?_ _
     clear hS0 hS1 S5
     simp only[Act.put,List.setIfInBounds_toArray]
     go_wp2_with fail
     have hg1:0<gk:=by have:=HGK.out;omega
     go_roundg (gk-1)
     case measure=>omega
     case rel =>
      refine⟨j+1,(gs++[ge])++[gc],by omega,by have:=HGK.out;omega,?_,HK5.out,fun t ht=>?_,fun k hk=>?_,HM5.out,hmb,HBW.out.trans HB5.out⟩
      ·have e1:IntKind.i64.wrap ((tt:Int)+1)=((qd*4+(j+1):Nat):Int):=by rw[IntKind.wrap_i64];have:=HTT.out;omega
       first|rw[e1]|(have e2:((qd*4+(j+1):Nat):Int)=(tt:Int)+1:=(by have:=HTT.out;omega);rw[e2])
      ·rcases(by omega:t<j∨t=j)with h|rfl
       ·obtain⟨⟨k1,m1,e1⟩,⟨k2,m2,e2⟩⟩:=H1.out t h
        exact⟨⟨k1,by simp[m1],e1⟩,⟨k2,by simp[m2],e2⟩⟩
       ·have ht':=HTT.out
        exact⟨⟨ge,by simp,by show(lg s.LS (qd*4+t)).v.ownBlock=_;rw[←ht',HVE.out];rfl⟩,⟨gc,by simp,by show(lg s.LS (qd*4+t)).cv.ownBlock=_;rw[←ht',HVC.out];rfl⟩⟩
      ·simp only[List.mem_append,List.mem_singleton]at hk
       have ht':=HTT.out
       rcases hk with(hk|rfl)|rfl
       ·exact H2.out k hk
       ·exact⟨j,hj4,.inl (by show _∈obl (lg s.LS (qd*4+j)).v;rw[←ht',HVE.out];exact q1w.2 rfl)⟩
       ·exact⟨j,hj4,.inr (by show _∈obl (lg s.LS (qd*4+j)).cv;rw[←ht',HVC.out];exact q1w.2 rfl)⟩
    ·have hj':j=4:=by omega
     subst hj'
     have hc4:¬(tt:Int)<(qk:Int)+4:=by omega
     clear KW h1 h2 hmm hb hgk htt hqk2 hL42 hmb2
     go_wp2_with fail
     have GP:=HG.out.put (q:=qd) (i:=ir) (z:=z) (gs:=gs) (by rw[HQ.out];omega) H1.out H2.out
     go_end0
     exact⟨rfl,_,HK.out,GP,Nat.le_succ _,zL _,by simp only[q2p];omega,zL _,HBW.out⟩
end Go.Proofs.YtiamjjonoeaggabGreatDoor
namespace Go.Proofs.YtiamjjonoeaggabGreatDoor
open Go.RowKit
theorem j6Q (s:By)(hs64:s.length≤maxLen)(bw:Nat)(t:St)(w:World)(h:Wld w bw t)(hg:Grp t.LS)(hn:t.MS.length≤10000000) :
  Calls Tryz.prog 18 #[.pointer (some ⟨bw,0,none⟩),bs s] w fun e w'=>e=.returned (.bool true)∧q1M w w' bw t:=by
 have h1:=j4B s hs64
 have h2:=j6a s hs64
 have HMO:Hid (∀(w w1 w2:World) (b d:Nat) (nv:Value) (a:OA) (n c:Nat),(qh s).1=0→Below w.heap.size w w1→Below w1.heap.size w1 w2→w.heap.size≤b →
   w1.heap[b]?=some (.cells (j0b nv (q2G s).x (q2G s).y (q2G s).reach (.slice none 0 0) 0 false) 93 (0,0))→w1.ownsRow w.heap.size 166 22 nv (zq (q0a s)) (qw (qK (q0a s) 0)) →
   w1.heap.size≤d→w2.heap[d]?=some (.cells #[.slice a n c,.slice none 0 0,.int .i64 0,.bool false] 115 (0,0))→qB w2 (.agg #[.slice a n c]) (q0u s).1→(∀k∈(Value.slice a n c).ownBlock.toList,w1.heap.size≤k∧k≠d) →
   ∃m:Mo,MoAt w2 m∧m.b=b∧m.d=d∧(∀k∈q1d m,w.heap.size≤k∧k<w2.heap.size)∧(∀k∈q3S m,w.heap.size≤k∧k<w2.heap.size)∧∀k∈q1d m,k∉q3S m):=zb (fun _ _ _ _ _ _ _ _ _ a1 a2 a3 a4 a5 a6 a7 a8 a9 a10=>mo_new a1 a2 a3 a4 a5 a6 a7 a8 a9 a10)
 generalize q2G s=ic at *
 generalize zq (q0a s)=sz at *
 generalize qw (qK (q0a s) 0)=nds at *
 generalize (q0u s).1=toks at *
 generalize qh s=c at *
 obtain⟨ce,cp⟩:=c
 simp only[]at h1 h2
 have H:=zb h
 have HG:=zb hg
 have hlt:bw<w.heap.size:=h.lt
 clear h hg
 obtain⟨i0,hi0,hz0,hz1,hz2⟩:=info_parts j3t
 obtain⟨i1,hi1,hy0,hy1,hy2⟩:=info_parts j3u
 go_enter Tryz.func18,Tryz.ntmps18
 go_wp2_with fail
 refine(h1 _).mono ?_
 rintro e w1 ⟨p,rfl,hp,hp2,b1⟩
 have HP:=zb hp
 have HP2:=zb hp2
 have HB1:=zb b1
 clear hp b1 hp2
 go_wp2_with fail
 refine(h2 _).mono ?_
 rintro e w2 ⟨q,rfl,hq,hq2,b2⟩
 have HQ:=zb hq
 have HQ2:=zb hq2
 have HB21:=zb b2
 have B2:Below w.heap.size w w2:=HB1.out.trans (b2.mono HB1.out.size)
 have HB2:=zb B2
 clear hq b2 B2 h1 h2 hq2
 by_cases hc:ce=0
 ·obtain⟨bb,nv,rfl,g1,g2,g3⟩:=HP2.out hc
  obtain⟨dd,fa,fn,fc,rfl,k1,k2,k3,k4⟩:=HQ2.out hc
  obtain⟨m,mm,rfl,rfl,m1,m2,m3⟩:=HMO.out w w1 w2 bb dd nv fa fn fc hc HB1.out HB21.out g1 g2 g3 k1 k2 k3 k4
  have HMM:=zb mm
  have HM1:=zb m1
  have HM2:=zb m2
  have HM3:=zb m3
  clear mm m1 m2 m3 g1 g2 g3 k1 k2 k3 k4 HMO HP HP2 HQ HQ2
  have HW2:=zb (H.out.below HB2.out)
  obtain⟨vx,vy,vl,vw,MS,LS,mk⟩:=t
  have ox:w2.ownsRow (bw+1) 28 1 vx MS.length (MS.map fun m=>.pointer (some ⟨m.b,0,none⟩)):=HW2.out.xs
  have oy:w2.ownsRow (bw+1) 105 1 vy MS.length (MS.map fun m=>.pointer (some ⟨m.d,0,none⟩)):=HW2.out.ys
  obtain⟨ax,kx,rfl⟩:=qv ox
  obtain⟨ay,ky,rfl⟩:=qv oy
  have c0:=zC _ _ 0 _ _ _ HW2.out.blk
  have c1:=zC _ _ 1 _ _ _ HW2.out.blk
  simp only[gz]at c0 c1
  have f0:=zF _ _ 0 _ _ HW2.out.blk
  have f1:=zF _ _ 1 _ _ HW2.out.blk
  have hl:=HW2.out.lt
  have hlen:MS.length+1≤1000000000:=by have:MS.length≤10000000:=hn;omega
  have HX:=zb ox
  have HY:=zb oy
  have HA:=zb (q5N ox oy (by decide))
  clear ox oy hn
  go_wp2_with (first
   |(at_builtin;refine q4Q rfl (.tmp 44) (.tmp 46) 60 28 rfl Tryz.underlying60 hi0 hz0 hz1 hz2 rfl (by decide) (bw+1) (.slice ax MS.length kx) MS.length (MS.map fun m=>.pointer (some ⟨m.b,0,none⟩)) (w2.alloc (.cells #[.pointer (some ⟨m.b,0,none⟩)] 28)) rfl (HX.out.alloc _) ⟨w2.heap.size,0,none⟩ 1 1 [.pointer (some ⟨m.b,0,none⟩)] (by simp[Act.eval]) rfl q7P (by simp[Value.oneCell']) hlen (by decide) (by simp;omega) (by decide) ?_;intro v3 w3 own3 gr3 at3;obtain⟨g3,k3,rfl⟩:=zJ own3 (by omega);have e3:=q3v gr3 HX.out (show bw<bw+1 by omega) hl;have d0:=zK (a:=⟨bw,0,none⟩) e3;have d1:=zK (a:=⟨bw,1,none⟩) e3;have z0:=World.frozen?_of_block (a:=⟨bw,0,none⟩) e3;have z1:=World.frozen?_of_block (a:=⟨bw,1,none⟩) e3;rw[c0]at d0;rw[c1]at d1;rw[f0]at z0;rw[f1]at z1;have hl3:bw<w3.heap.size:=(by have:=gr3.size;simp at this;omega);have OY3:=zb (ownsRow_setCell_below (a:=⟨bw,0,none⟩) ((HY.out.alloc _).kept gr3 HA.out) (by simp) (.slice (some ⟨g3,0,none⟩) (MS.length+1) k3));have G3:=zb gr3;have O3:=zb own3;have A3:=zb at3.blk;clear gr3 own3 e3 at3)
   |(at_builtin;refine q4Q rfl (.tmp 54) (.tmp 56) 61 105 rfl Tryz.underlying61 hi1 hy0 hy1 hy2 rfl (by decide) (bw+1) (.slice ay MS.length ky) MS.length (MS.map fun m=>.pointer (some ⟨m.d,0,none⟩)) ((w3.setCell ⟨bw,0,none⟩ (.slice (some ⟨g3,0,none⟩) (MS.length+1) k3)).alloc (.cells #[.pointer (some ⟨m.d,0,none⟩)] 105)) rfl (OY3.out.alloc _) ⟨(w3.setCell ⟨bw,0,none⟩ (.slice (some ⟨g3,0,none⟩) (MS.length+1) k3)).heap.size,0,none⟩ 1 1 [.pointer (some ⟨m.d,0,none⟩)] (by simp[Act.eval]) rfl q7P (by simp[Value.oneCell']) hlen (by decide) (by simp;omega) (by decide) ?_;intro v4 w4 own4 gr4 at4;obtain⟨g4,k4,rfl⟩:=zJ own4 (by omega);obtain⟨T1,T2,T3,T4⟩:=j5b H.out HB2.out HMM.out HM1.out HM2.out HM3.out O3.out G3.out A3.out own4 gr4 at4.blk;have hl4:bw<w4.heap.size:=(by have:=gr4.size;simp at this;omega);have HT1:=zb T1;have HT2:=zb T2;clear own4 gr4 at4 T1 T2))
  go_ret
  exact⟨rfl,_,HT1.out,HG.out,by simp,by simp,Nat.le_add_right _ _,Nat.le_add_right _ _,(HB2.out.mono (by omega)).trans HT2.out⟩
 ·have ep:p=none:=HP.out.2 hc
  have eq:q=none:=HQ.out.2 hc
  subst ep eq
  clear HMO HP2 HQ2
  go_wp2_with fail
  go_ret
  exact⟨rfl,q1M.same H.out HG.out HB2.out⟩
end Go.Proofs.YtiamjjonoeaggabGreatDoor
namespace Go.Proofs.YtiamjjonoeaggabGreatDoor
open Go.RowKit
theorem q1M.trans {w w1 w':World}{bw:Nat}{s:St}(h:q1M w1 w' bw s)(hb:Below bw w w1):q1M w w' bw s:=by
 obtain⟨s',h1,h2,h3,h4,h5,h6,h7⟩:=h
 exact⟨s',h1,h2,h3,h4,h5,h6,hb.trans h7⟩
theorem j6S (bw:Nat)(s:St)(kd ka kb:Int)(ss:By)(hss:ss.length≤maxLen)(hA:-9223372036854775808≤ka∧ka≤9223372036854775807)(w:World)(h:Wld w bw s)(hg:Grp s.LS)(ml:Nat)(hml:s.MS.length=ml)(hM:ml≤10000000)(hL:s.LS.length≤10000000)(hmk:s.mc≤10000000)(ax:OA)(kx:Nat)(c0:w.cell? ⟨bw,0,none⟩=some (.slice ax ml kx))(hm0:¬ml=0)(e1:(kd==1)=false)(e2:(kd==2)=false)(e6:(kd==6)=false) :
 Calls Tryz.prog 19 #[.pointer (some ⟨bw,0,none⟩),.agg #[.int .i64 kd,.int .i64 ka,.int .i64 kb,bs ss]] w fun e w'=>e=.returned (.bool true)∧q1M w w' bw s:=by
  have hlt:=h.lt
  have H:=zb h
  have HG:=zb hg
  have HC0:=zb c0
  have HLL:=zb hL
  have HMK:=zb hmk
  have HML:=zb hml
  have HPK:=zb (fun W=>q9X ka hA ml (by omega) W)
  generalize hkp:q7R ka ml=kz at *
  have hkz:kz<ml:=by rw[←hkp];exact j0n ka (by omega)
  clear h hg c0 hL hmk hml hkp
  go_enter Tryz.func19,Tryz.ntmps19
  go_wp2_with (first|(refine qo rfl 68 (.tmp 1) rfl _ #[.int .i64 kd,.int .i64 ka,.int .i64 kb,bs ss] rfl rfl ?_;intro W0 g0 B0 hz0;have f0:=zC _ _ 0 _ _ _ g0;have f1:=zC _ _ 1 _ _ _ g0;have f3:=zC _ _ 3 _ _ _ g0;simp only[gz]at f0 f1 f3;have e0:=(zo B0 bw 0 hlt).trans HC0.out;have H1:=zb (H.out.below B0);have hlt0:=H1.out.lt;have HBB:Hid (Below bw w W0):=zb (B0.mono (by omega));have HG0:=zb g0;have LW:=zb (q1s (P:=Tryz.prog) 68 68 W0 w.heap.size #[.int .i64 kd,.int .i64 ka,.int .i64 kb,bs ss] (0,0) _ g0 Tryz.underlying68 rfl (by kernel_rfl));clear g0 B0))
  refine wp_region_held_drew (S:=fun w'=>w'.cell? ⟨w.heap.size,1,none⟩=some (.int .i64 ka)∧w'.cell? ⟨bw,0,none⟩=some (.slice ax ml kx)) (by kernel_rfl) ⟨by simpa using f1,by simpa using e0⟩ (fun hS0=>?_)
  simp only[rz,Nat.zero_add,Nat.reduceAdd]
  refine tq 0 30 ?_
  simp only[Act.put,pz]
  refine tq 1 31 ?_
  simp only[Act.put,pz]
  refine tq 2 32 ?_
  simp only[Act.put,pz]
  refine tq 3 33 ?_
  simp only[Act.put,pz]
  refine tq 4 34 ?_
  simp only[Act.put,pz]
  refine tq 5 35 ?_
  simp only[Act.put,pz]
  refine tq 6 36 ?_
  simp only[Act.put,pz]
  refine rd1 7 rfl fun K hK=>?_
  go_simp
  refine(HPK.out _).mono ?_
  rintro e w5 ⟨rfl,rfl⟩
  go_simp
  refine hK.out _ _ ⟨by simpa using f1,by simpa using e0⟩ (fun hS1=>?_)
  clear hK K
  refine tq 8 5 ?_
  simp only[Act.put,pz]
  refine zD (by kernel_rfl) ?_ _
  clear hS0 hS1
  have HD:=zb (H1.out.below ((zB _ W0).drew))
  have HBD:Hid (Below bw w W0.drew):=zb (HBB.out.trans ((zB bw W0).drew))
  have f0d:W0.drew.cell? ⟨w.heap.size,0,none⟩=some (.int .i64 kd):=by simpa using f0
  have f3d:W0.drew.cell? ⟨w.heap.size,3,none⟩=some (bs ss):=by simpa using f3
  have hltd:w.heap.size<W0.drew.heap.size:=zd (show W0.drew.heap[w.heap.size]?=_ from HG0.out)
  obtain⟨Wd,hWd⟩:∃Wd,Wd=W0.drew:=⟨_,rfl⟩
  rw[←hWd]at HD HBD f0d f3d hltd ⊢
  have hkm:kz<s.MS.length:=by rw[HML.out];exact hkz
  clear hWd f0 f1 f3 e0 HPK H1 HG0 HBB LW
  by_cases k3:kd=3
  ·subst k3
   go_wp2_with fail
   refine(law_fed bw s kz hkm ss hss Wd HD.out HG.out HLL.out HMK.out).mono ?_
   rintro e w6 ⟨rfl,T⟩
   have HT:=zb (T.trans HBD.out)
   clear T
   go_wp2_with fail
   go_ret
   exact⟨rfl,HT.out⟩
  ·by_cases k4:kd=4
   ·subst k4
    go_wp2_with fail
    refine(j6P bw s kz hkm Wd HD.out HG.out HLL.out HMK.out).mono ?_
    rintro e w6 ⟨rfl,T⟩
    have HT:=zb (T.trans HBD.out)
    clear T
    go_wp2_with fail
    go_ret
    exact⟨rfl,HT.out⟩
   ·by_cases k5:kd=5
    ·subst k5
     go_wp2_with fail
     refine(law_seen bw s kz hkm Wd HD.out).mono ?_
     rintro e w6 ⟨rfl,T⟩
     have HT:=zb ((q1M.same HD.out HG.out T).trans HBD.out)
     clear T
     go_wp2_with fail
     go_ret
     exact⟨rfl,HT.out⟩
    ·have e3':(kd==3)=false:=by simpa using k3
     have e4':(kd==4)=false:=by simpa using k4
     have e5':(kd==5)=false:=by simpa using k5
     go_wp2_with fail
     go_ret
     exact⟨rfl,(q1M.same HD.out HG.out (zB _ _)).trans HBD.out⟩
theorem law_step (bw:Nat)(s:St)(kd ka kb:Int)(ss:By)(hss:ss.length≤maxLen)(hA:-9223372036854775808≤ka∧ka≤9223372036854775807)(hB:-9223372036854775808≤kb∧kb≤9223372036854775807)(w:World)(h:Wld w bw s)(hg:Grp s.LS)(hM:s.MS.length≤10000000)(hL:s.LS.length≤10000000)(hmk:s.mc≤10000000) :
  Calls Tryz.prog 19 #[.pointer (some ⟨bw,0,none⟩),.agg #[.int .i64 kd,.int .i64 ka,.int .i64 kb,bs ss]] w fun e w'=>e=.returned (.bool true)∧q1M w w' bw s:=by
 obtain⟨ax,kx,ex⟩:=qv h.xs
 have c0:w.cell? ⟨bw,0,none⟩=some s.vx:=zC _ _ 0 _ _ _ h.blk
 rw[ex]at c0
 have hlt:=h.lt
 have H:=zb h
 have HG:=zb hg
 have HC0:=zb c0
 have HLL:=zb hL
 have HMK:=zb hmk
 generalize hml:s.MS.length=ml at *
 have HML:=zb hml
 clear h hg c0 hL hmk ex
 by_cases k1:kd=1
 ·subst k1
  clear hml
  go_enter Tryz.func19,Tryz.ntmps19
  go_wp2_with (first|(refine qo rfl 68 (.tmp 1) rfl _ #[.int .i64 1,.int .i64 ka,.int .i64 kb,bs ss] rfl rfl ?_;intro W0 g0 B0 hz0;have f0:=zC _ _ 0 _ _ _ g0;have f1:=zC _ _ 1 _ _ _ g0;have f3:=zC _ _ 3 _ _ _ g0;simp only[gz]at f0 f1 f3;have e0:=(zo B0 bw 0 hlt).trans HC0.out;have H1:=zb (H.out.below B0);have hlt0:=H1.out.lt;have HBB:Hid (Below bw w W0):=zb (B0.mono (by omega));have HG0:=zb g0;have LW:=zb (q1s (P:=Tryz.prog) 68 68 W0 w.heap.size #[.int .i64 1,.int .i64 ka,.int .i64 kb,bs ss] (0,0) _ g0 Tryz.underlying68 rfl (by kernel_rfl));clear g0 B0))
  refine(j3D ss hss _).mono ?_
  rintro e w6 ⟨rfl,b6⟩
  have HT:=zb ((q1M.same H1.out HG.out b6).trans HBB.out)
  clear b6
  go_wp2_with fail
  go_ret
  exact⟨rfl,HT.out⟩
 ·by_cases k2:kd=2
  ·subst k2
   go_enter Tryz.func19,Tryz.ntmps19
   go_wp2_with (first|(refine qo rfl 68 (.tmp 1) rfl _ #[.int .i64 2,.int .i64 ka,.int .i64 kb,bs ss] rfl rfl ?_;intro W0 g0 B0 hz0;have f0:=zC _ _ 0 _ _ _ g0;have f1:=zC _ _ 1 _ _ _ g0;have f3:=zC _ _ 3 _ _ _ g0;simp only[gz]at f0 f1 f3;have e0:=(zo B0 bw 0 hlt).trans HC0.out;have H1:=zb (H.out.below B0);have hlt0:=H1.out.lt;have HBB:Hid (Below bw w W0):=zb (B0.mono (by omega));have HG0:=zb g0;have LW:=zb (q1s (P:=Tryz.prog) 68 68 W0 w.heap.size #[.int .i64 2,.int .i64 ka,.int .i64 kb,bs ss] (0,0) _ g0 Tryz.underlying68 rfl (by kernel_rfl));clear g0 B0))
   refine(j6Q ss hss bw s W0 H1.out HG.out (by rw[HML.out];exact hM)).mono ?_
   rintro e w6 ⟨rfl,T⟩
   have HT:=zb (T.trans HBB.out)
   clear T
   go_wp2_with fail
   go_ret
   exact⟨rfl,HT.out⟩
  ·by_cases k6:kd=6
   ·subst k6
    clear hml
    go_enter Tryz.func19,Tryz.ntmps19
    go_wp2_with (first|(refine qo rfl 68 (.tmp 1) rfl _ #[.int .i64 6,.int .i64 ka,.int .i64 kb,bs ss] rfl rfl ?_;intro W0 g0 B0 hz0;have f0:=zC _ _ 0 _ _ _ g0;have f1:=zC _ _ 1 _ _ _ g0;have f3:=zC _ _ 3 _ _ _ g0;simp only[gz]at f0 f1 f3;have e0:=(zo B0 bw 0 hlt).trans HC0.out;have H1:=zb (H.out.below B0);have hlt0:=H1.out.lt;have HBB:Hid (Below bw w W0):=zb (B0.mono (by omega));have HG0:=zb g0;have LW:=zb (q1s (P:=Tryz.prog) 68 68 W0 w.heap.size #[.int .i64 6,.int .i64 ka,.int .i64 kb,bs ss] (0,0) _ g0 Tryz.underlying68 rfl (by kernel_rfl));clear g0 B0)|(refine zg rfl 68 (.tmp 3) rfl ⟨w.heap.size,0,none⟩ _ rfl LW.out ?_))
    refine(j6T bw s 6 ka kb ss hA hB W0 H1.out HG.out HLL.out HMK.out).mono ?_
    rintro e w6 ⟨rfl,T⟩
    have HT:=zb (T.trans HBB.out)
    clear T
    go_wp2_with fail
    go_ret
    exact⟨rfl,HT.out⟩
   ·have e1:(kd==1)=false:=by simpa using k1
    have e2:(kd==2)=false:=by simpa using k2
    have e6:(kd==6)=false:=by simpa using k6
    by_cases hm0:ml=0
    ·subst hm0
     clear hml
     go_enter Tryz.func19,Tryz.ntmps19
     go_wp2_with (first|(refine qo rfl 68 (.tmp 1) rfl _ #[.int .i64 kd,.int .i64 ka,.int .i64 kb,bs ss] rfl rfl ?_;intro W0 g0 B0 hz0;have f0:=zC _ _ 0 _ _ _ g0;have f1:=zC _ _ 1 _ _ _ g0;have f3:=zC _ _ 3 _ _ _ g0;simp only[gz]at f0 f1 f3;have e0:=(zo B0 bw 0 hlt).trans HC0.out;have H1:=zb (H.out.below B0);have hlt0:=H1.out.lt;have HBB:Hid (Below bw w W0):=zb (B0.mono (by omega));have HG0:=zb g0;have LW:=zb (q1s (P:=Tryz.prog) 68 68 W0 w.heap.size #[.int .i64 kd,.int .i64 ka,.int .i64 kb,bs ss] (0,0) _ g0 Tryz.underlying68 rfl (by kernel_rfl));clear g0 B0))
     go_ret
     exact⟨rfl,(q1M.same H1.out HG.out (zB _ _)).trans HBB.out⟩
    ·exact j6S bw s kd ka kb ss hss hA w H.out HG.out ml HML.out hM HLL.out HMK.out ax kx HC0.out hm0 e1 e2 e6
end Go.Proofs.YtiamjjonoeaggabGreatDoor
namespace Go.Proofs.YtiamjjonoeaggabGreatDoor
open Go.RowKit
structure Scr4 (w:World)(b off len:Nat)(K A B:Nat→Int)(S:Nat→By):Prop where
 cells:∀i,i<len→w.rangeAt b (off+i*4) [.int .i64 (K i),.int .i64 (A i),.int .i64 (B i),bs (S i)]
 small:∀i,i<len→(-9223372036854775808≤A i∧A i≤9223372036854775807)∧(-9223372036854775808≤B i∧B i≤9223372036854775807)∧(S i).length≤maxLen
 lt:b<w.heap.size
theorem Scr4.below {w w':World}{b off len:Nat}{K A B:Nat→Int}{S:Nat→By}(h:Scr4 w b off len K A B S)(hb:Below w.heap.size w w'):Scr4 w' b off len K A B S:=
 ⟨fun i hi j v hv=>by rw[zK (w:=w) (hb.block b h.lt)];exact h.cells i hi j v hv,h.small,zT h.lt hb.size⟩
def st0:St:=⟨.slice none 0 0,.slice none 0 0,.slice none 0 0,.slice none 0 0,[],[],0⟩
theorem wld_new (w:World):Wld (w.alloc (.cells #[.slice none 0 0,.slice none 0 0,.slice none 0 0,.slice none 0 0,.int .i64 0] 64)) w.heap.size st0:=
 ⟨zN w _,zW _ _ _ _,zW _ _ _ _,zW _ _ _ _,zW _ _ _ _,fun k hk=>by simp[st0,obl,Value.ownBlock]at hk,fun m hm=>by simp[st0]at hm,fun e he=>by simp[st0]at he,fun e he=>by simp[st0]at he,fun m hm=>by simp[st0]at hm,fun m hm=>by simp[st0]at hm,fun m hm=>by simp[st0]at hm,fun i j m m' hm=>by simp[st0]at hm⟩
def PlRel (len:Nat)(w:World)(g:Nat)(vok vi:Value)(wr:World):Prop:=∃(k:Nat) (s:St),k≤len∧len-k≤g∧vok=.bool true∧vi=.int .i64 k∧Wld wr w.heap.size s∧Grp s.LS∧s.MS.length≤k+1∧s.LS.length≤4*k+4∧s.mc≤k+1∧Below w.heap.size w wr
def SnRel (w:World)(s:St)(g:Nat)(vok vi:Value)(wr:World):Prop:=∃k:Nat,k≤s.MS.length∧s.MS.length-k≤g∧vok=.bool true∧vi=.int .i64 k∧Wld wr w.heap.size s∧Below w.heap.size w wr
end Go.Proofs.YtiamjjonoeaggabGreatDoor
namespace Go.Proofs.YtiamjjonoeaggabGreatDoor
open Go.ChangeShapes Go.WideShapes Go.ChangeAt Go.WideElems Go.RowKit
theorem ownT:ownKnob Tryz.prog.godebug=none:=by kernel_rfl
theorem laidOutT:laidOutB Tryz.prog=true:=by kernel_rfl
theorem bs_dataT (s:ByteArray):bs s.data.toList=.string s:=by
 cases s
 simp[bs]
theorem wf_i64 {n:Int}(h:(Lit.int .i64 n).wf=true):-9223372036854775808≤n∧n≤9223372036854775807:=by
 simp only[Lit.wf,Bool.and_eq_true,decide_eq_true_eq]at h
 exact⟨h.1,h.2⟩
theorem bulk_one {H:Type}(d:DataW H):1≤Rows.uptoBulk d:=by
 cases d with
 |lit l=>cases l<;>simp[Rows.uptoBulk]
 |nil=>simp[Rows.uptoBulk]
 |ptr d=>simp[Rows.uptoBulk]
 |slice a b=>simp[Rows.uptoBulk]
 |agg a=>simp[Rows.uptoBulk]
 |iface t d=>simp[Rows.uptoBulk]
 |map a=>simp[Rows.uptoBulk]
 |held h=>simp[Rows.uptoBulk]
theorem j6s {H:Type}(l:List (DataW H)):l.length≤Rows.uptoBulkAll l:=by
 induction l with
 |nil=>simp[Rows.uptoBulkAll]
 |cons x r ih =>
  have:=bulk_one x
  simp only[Rows.uptoBulkAll,List.length_cons]
  omega
theorem bulk_slice {H:Type}{es sp:List (DataW H)}(h:Rows.uptoSmall H ([DataW.slice es sp]++[])=true):es.length≤1048576:=by
 have h2:=of_decide_eq_true h
 simp only[List.append_nil,Rows.uptoBulkAll,Rows.uptoBulk]at h2
 have:=j6s es
 omega
theorem open_script4 {H:Type}{enc:TypeId × Value→H}{W:World}{base:Nat}{spare:Nat→Bool}{held:Bool}{fuel:Nat}{cs:List Value}{x:DataW H × List MemPlace}(h:DataW.trod enc Tryz.prog W base spare held fuel 58 cs=some x) :
  (cs=[.slice none 0 0])∨∃(a:Addr) (len cap:Nat),cs=[.slice (some a) len cap]∧(∃es sp,x.1=.slice es sp∧es.length=len)∧∀i,i<len→∃(k ka kb:Int) (s:ByteArray),W.cell? (a.add (i*4))=some (.int .i64 k)∧W.cell? (a.add (i*4+1))=some (.int .i64 ka)∧W.cell? (a.add (i*4+2))=some (.int .i64 kb)∧W.cell? (a.add (i*4+3))=some (.string s)∧s.size≤maxLen∧(-9223372036854775808≤ka∧ka≤9223372036854775807)∧(-9223372036854775808≤kb∧kb≤9223372036854775807):=by
 have ce:Tryz.prog.cellsOf 68=4:=by kernel_rfl
 rcases Go.Deep.open_slice Tryz.underlying58 h with⟨h0,_⟩|⟨a,len,cap,m,n,D,Pl,rfl,hb,hl,hm,hmm,rfl,hx⟩
 ·exact .inl h0
 ·have hlm:len≤m:=by rw[hmm];split<;>omega
  refine .inr ⟨a,len,cap,rfl,⟨_,_,rfl,by simp⟩,fun i hi=>?_⟩
  obtain⟨cs',h1,h2⟩:=hx i (by omega)
  rw[ce]at h1
  obtain⟨_,hlen,hcell⟩:=World.cells?_some h1
  obtain⟨xs,k,hk,hxy,_,hxl,hf⟩:=DataW.trod_struct Tryz.underlying68 h2
  match xs,hxl,cs',hlen with
  | [y0,y1,y2,y3],_,[v0,v1,v2,v3],_ =>
   have g0:=hf 0 _ rfl
   have g1:=hf 1 _ rfl
   have g2:=hf 2 _ rfl
   have g3:=hf 3 _ rfl
   have c3:Tryz.prog.cellsOf 3=1:=by kernel_rfl
   have c9:Tryz.prog.cellsOf 9=1:=by kernel_rfl
   simp[c3]at g0
   simp[c3]at g1
   simp[c3]at g2
   simp[c9]at g3
   obtain⟨kk,e0,_⟩:=DataW.trod_int Tryz.underlying3 g0
   obtain⟨ka,e1,_,w1⟩:=DataW.trod_int Tryz.underlying3 g1
   obtain⟨kb,e2,_,w2⟩:=DataW.trod_int Tryz.underlying3 g2
   obtain⟨ss,e3,_,e4⟩:=DataW.trod_string Tryz.underlying9 g3
   have d0:=hcell 0 (by omega)
   have d1:=hcell 1 (by omega)
   have d2:=hcell 2 (by omega)
   have d3:=hcell 3 (by omega)
   rw[Go.Deep.add_add]at d0 d1 d2 d3
   simp at e0 e1 e2 e3
   subst e0 e1 e2 e3
   exact⟨kk,ka,kb,ss,by simpa using d0,by simpa using d1,by simpa using d2,by simpa using d3,e4,wf_i64 w1,wf_i64 w2⟩
theorem scr_of {W:World}{a:Addr}{len:Nat}(h0:0<len)(h:∀i,i<len→∃(k ka kb:Int) (s:ByteArray),W.cell? (a.add (i*4))=some (.int .i64 k)∧W.cell? (a.add (i*4+1))=some (.int .i64 ka)∧W.cell? (a.add (i*4+2))=some (.int .i64 kb)∧W.cell? (a.add (i*4+3))=some (.string s)∧s.size≤maxLen∧(-9223372036854775808≤ka∧ka≤9223372036854775807)∧(-9223372036854775808≤kb∧kb≤9223372036854775807)) :
  ∃b off K A B S,a=⟨b,off,none⟩∧Scr4 W b off len K A B S:=by
 obtain⟨b,off,spot⟩:=a
 obtain⟨_,_,_,_,c0,_⟩:=h 0 h0
 have hspot:spot=none:=by simpa[Addr.add]using World.cell?_spot c0
 subst hspot
 have hb:b<W.heap.size:=by have:=World.block_lt_of_cell? W _ c0;simpa[Addr.add]using this
 have h7:∀i,i<len→∃z:Int × Int × Int × By,W.rangeAt b (off+i*4) [.int .i64 z.1,.int .i64 z.2.1,.int .i64 z.2.2.1,bs z.2.2.2]∧((-9223372036854775808≤z.2.1∧z.2.1≤9223372036854775807)∧(-9223372036854775808≤z.2.2.1∧z.2.2.1≤9223372036854775807)∧z.2.2.2.length≤maxLen):=by
  intro i hi
  obtain⟨k,ka,kb,s,d0,d1,d2,d3,d4,d5,d6⟩:=h i hi
  rw[q2e]at d0 d1 d2 d3
  refine⟨(k,ka,kb,s.data.toList),fun j v hv=>?_,d5,d6,by show s.data.toList.length≤maxLen;rw[Array.length_toList];exact d4⟩
  have hj:j<4:=(List.getElem?_eq_some_iff.1 hv).1
  rcases(by omega:j=0∨j=1∨j=2∨j=3)with rfl|rfl|rfl|rfl
  ·rw[Nat.add_zero];simp at hv;rw[←hv];exact d0
  ·simp at hv;rw[←hv,Nat.add_assoc];exact d1
  ·simp at hv;rw[←hv,Nat.add_assoc];exact d2
  ·simp only[bs_dataT]at hv;simp at hv;rw[←hv,Nat.add_assoc];exact d3
 obtain⟨z,hz⟩:=Go.Deep.choose_lt h7
 exact⟨b,off,fun i=>(z i).1,fun i=>(z i).2.1,fun i=>(z i).2.2.1,fun i=>(z i).2.2.2,rfl,fun i hi=>(hz i hi).1,fun i hi=>(hz i hi).2,hb⟩
end Go.Proofs.YtiamjjonoeaggabGreatDoor
