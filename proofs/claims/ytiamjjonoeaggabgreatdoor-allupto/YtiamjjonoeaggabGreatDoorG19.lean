import Derived.Test.YtiamjjonoeaggabGreatDoorGA
import Derived.Test.YtiamjjonoeaggabGreatDoorGB
import Derived.Test.YtiamjjonoeaggabGreatDoorG11
import Derived.Test.YtiamjjonoeaggabGreatDoorG14
import Derived.Test.YtiamjjonoeaggabGreatDoorG18
set_option maxRecDepth 100000
set_option maxHeartbeats 16000000
namespace Go.Proofs.YtiamjjonoeaggabGreatDoor
open Go.RowKit
structure TabsAt (w:World)(lv:Value)(two:Bool)(vF vL:Value)(n:Nat)(HF HL:Nat→Nat→Nat→Bool):Prop where
 row:∃xs,xs=(if two=true then [vF,vL]else [vL])∧w.ownsRow 0 216 1 lv xs.length xs
 fst:Tb w vF n HF
 lst:Tb w vL n HL
theorem TabsAt.below {w w':World}{lv:Value}{two:Bool}{vF vL:Value}{n:Nat}{HF HL:Nat→Nat→Nat→Bool}(h:TabsAt w lv two vF vL n HF HL)(hb:Below w.heap.size w w'):TabsAt w' lv two vF vL n HF HL:=
 ⟨by obtain⟨xs,h1,h2⟩:=h.row;exact⟨xs,h1,zh h2 hb⟩,h.fst.below hb,h.lst.below hb⟩
theorem TabsAt.one {w:World}{lv:Value}{vF vL:Value}{n:Nat}{HF HL:Nat→Nat→Nat→Bool}(h:TabsAt w lv false vF vL n HF HL):∃g cap,lv=.slice (some ⟨g,0,none⟩) 1 cap∧g<w.heap.size∧1≤cap∧cap≤maxLen∧w.cell? ⟨g,0,none⟩=some vL:=by
 obtain⟨xs,rfl,h2⟩:=h.row
 simp only[Bool.false_eq_true,if_false,List.length_cons,List.length_nil]at h2
 obtain⟨g,cap,e⟩:=zJ h2 (by omega)
 subst e
 have c0:=h2.cellAt 0 (by omega)
 rcases h2.2 with⟨h',_⟩|⟨g',cap',cur,h',_,_,p1,p2,_⟩
 ·simp at h'
 ·simp only[Value.slice.injEq,Option.some.injEq,Addr.mk.injEq,and_true,true_and]at h'
  obtain⟨rfl,rfl⟩:=h'
  exact⟨g,cap,rfl,(h2.lt g rfl).2,p1,p2,c0⟩
theorem TabsAt.two {w:World}{lv:Value}{vF vL:Value}{n:Nat}{HF HL:Nat→Nat→Nat→Bool}(h:TabsAt w lv true vF vL n HF HL):∃g cap,lv=.slice (some ⟨g,0,none⟩) 2 cap∧g<w.heap.size∧2≤cap∧cap≤maxLen∧w.cell? ⟨g,0,none⟩=some vF∧w.cell? ⟨g,1,none⟩=some vL:=by
 obtain⟨xs,rfl,h2⟩:=h.row
 simp only[if_true,List.length_cons,List.length_nil]at h2
 obtain⟨g,cap,e⟩:=zJ h2 (by omega)
 subst e
 have c0:=h2.cellAt 0 (by omega)
 have c1:=h2.cellAt 1 (by omega)
 rcases h2.2 with⟨h',_⟩|⟨g',cap',cur,h',_,_,p1,p2,_⟩
 ·simp at h'
 ·simp only[Value.slice.injEq,Option.some.injEq,Addr.mk.injEq,and_true,true_and]at h'
  obtain⟨rfl,rfl⟩:=h'
  exact⟨g,cap,rfl,(h2.lt g rfl).2,p1,p2,c0,c1⟩
def q0i (DL:List (LPt × Value))(i:Nat):Int:=match DL[i]? with
 |some p=>(p.1.time:Int)
 |none=>0
theorem q1i {DL:List (LPt × Value)}{i:Nat}(h:i<DL.length):q0i DL i=((DL[i]).1.time:Int):=by
 unfold q0i
 rw[zG h]
def PaRel (P:Nat→Bool)(W0:World)(a n':Nat)(g:Nat)(vi:Value)(wr:World):Prop:=∃k:Nat,a≤k∧k≤n'∧n'-k≤g∧vi=.int .i64 k∧(∀j,a≤j→j<k→P j=false)∧Below W0.heap.size W0 wr
def q3L (DL:List (LPt × Value))(lo hi:By)(two:Bool)(HF HL:Nat→Nat→Nat→Bool)(i x y:Nat)(uns:Bool)(j:Nat):Bool:=q2I lo hi (q0i DL i-q0i DL j)&&HL j x y&&(!two || q4S HF (j+1) (i:Int) x y uns)
def q6d (DL:List (LPt × Value))(lo hi:By)(two:Bool)(HF HL:Nat→Nat→Nat→Bool)(i x y:Nat)(uns:Bool)(j:Nat):Bool:=q2I lo hi (q0i DL j-q0i DL i)&&HL j x y&&(!two || q4S HF i ((j:Int)-1) x y uns)
def q4M (DL:List (LPt × Value))(lo hi:By)(two:Bool)(HF HL:Nat→Nat→Nat→Bool)(i x y:Nat)(uns:Bool):Bool:=(List.range' 0 (i+1)).any (q3L DL lo hi two HF HL i x y uns)
def q7x (DL:List (LPt × Value))(lo hi:By)(two:Bool)(HF HL:Nat→Nat→Nat→Bool)(i x y:Nat)(uns:Bool):Bool:=(List.range' i (DL.length-i)).any (q6d DL lo hi two HF HL i x y uns)
theorem q6t {P:Nat→Bool}{a n:Nat}:(∀j,a≤j→j<a+n→P j=false)→(List.range' a n).any P=false:=by
 intro h
 rw[List.any_eq_false]
 intro j hj
 have:=List.mem_range'_1.1 hj
 rw[h j this.1 (by omega)]
 decide
theorem q3C {P:Nat→Bool}{a n:Nat}(j:Nat)(h1:a≤j)(h2:j<a+n)(h:P j=true):(List.range' a n).any P=true:=by
 rw[List.any_eq_true]
 exact⟨j,List.mem_range'_1.2 ⟨h1,h2⟩,h⟩
theorem j7l (v:Value)(u:List Tok)(lo hi:By)(hS:SpanIn u lo hi)(lv dv:Value)(DL:List (LPt × Value))(vF vL:Value)(HF HL:Nat→Nat→Nat→Bool)(i x y:Nat)(hi':i<DL.length)(hx:x<10)(hy:y<10)(w:World)(h:qB w v u)(hT:TabsAt w lv false vF vL DL.length HF HL)(hL:DLogAt w dv DL) :
  Calls Tryz.prog 176 #[v,lv,dv,.int .i64 i,.agg #[.int .i64 x,.int .i64 y]] w fun e w'=>e=.returned (.bool (q4M DL lo hi false HF HL i x y (hd u==[117,110,115,105,110,99,101])))∧Below w.heap.size w w':=by
 obtain⟨b,o,cap,rfl,h1,h2,h3,h4,h5,h6⟩:=qe h
 obtain⟨da,dc,rfl⟩:=qr hL.row
 obtain⟨gl,cl,rfl,hgl,l1,l2,lc1⟩:=hT.one
 obtain⟨fa,fc,rfl⟩:=hT.fst.form
 obtain⟨ta,tc,rfl⟩:=hT.lst.form
 have hsm:=hL.small
 have HT:=zb hT
 have HFR:=zb h
 have HLG:=zb hL
 obtain⟨uns,huns⟩:∃q,q=(hd u==[117,110,115,105,110,99,101]):=⟨_,rfl⟩
 rw[←huns]
 have HNO:=zb (@q6t (q3L DL lo hi false HF HL i x y uns) 0 (i+1))
 have HYES:=zb (@q3C (q3L DL lo hi false HF HL i x y uns) 0 (i+1))
 have HRD:Hid (q4M DL lo hi false HF HL i x y uns=(List.range' 0 (i+1)).any (q3L DL lo hi false HF HL i x y uns)):=zb rfl
 rw[←HRD.out]at HNO HYES
 have HHAS:=zb (fun k=>q2a (HL k) x y hx hy)
 generalize q4M DL lo hi false HF HL i x y uns=R at *
 have HWD:=zb (fun W (q:qB W (.agg #[.slice (some ⟨b,o,none⟩) u.length cap]) u)=>q0b _ u W q)
 have HUNS:=zb huns
 clear h h6 hT hL HRD huns
 unfold maxLen at h2 l2
 generalize hun:u.length=ul at *
 have HUL:=zb hun
 clear hun
 go_enter Tryz.func176,Tryz.ntmps176
 go_wp2_with fail
 obtain⟨W0,hW0⟩:∃W:World,W=(w.alloc (.cells #[.slice (some ⟨b,o,none⟩) ul cap] 112)).alloc (.cells #[.int .i64 x,.int .i64 y] 245):=⟨_,rfl⟩
 rw[←hW0]
 have hP0:W0.heap[w.heap.size+1]?=some (.cells #[.int .i64 x,.int .i64 y] 245 (0,0)):=by
  have e:w.heap.size+1=(w.alloc (.cells #[.slice (some ⟨b,o,none⟩) ul cap] 112)).heap.size:=by simp
  rw[hW0,e];exact zN _ _
 have hQ0:W0.heap[w.heap.size]?=some (.cells #[.slice (some ⟨b,o,none⟩) ul cap] 112 (0,0)):=by
  rw[hW0,zO _ _ (by simp)];exact zN _ _
 have hz0:w.heap.size+2=W0.heap.size:=by rw[hW0];simp
 have B0:Below w.heap.size w W0:=by rw[hW0];exact((zB _ _).alloc (zL _) _).alloc (by simp) _
 have HB0:=zb B0
 have HP0:=zb hP0
 have HQ0:=zb hQ0
 have HT0:=zb (HT.out.below B0)
 have HF0:=zb (HFR.out.below B0)
 have HL0:=zb (HLG.out.below B0)
 have lc1:=(zo B0 gl 0 hgl).trans lc1
 have hgl:=zT hgl B0.size
 have CELLF:Hid (∀w',Below W0.heap.size W0 w'→w'.cell? ⟨w.heap.size,0,none⟩=some (.slice (some ⟨b,o,none⟩) ul cap)∧w'.cell? ⟨w.heap.size+1,0,none⟩=some (.int .i64 x)∧w'.cell? ⟨w.heap.size+1,1,none⟩=some (.int .i64 y)):=zb (fun w' hb=>by
  have e0:=(hb.block w.heap.size (by omega)).trans HQ0.out
  have e1:=(hb.block (w.heap.size+1) (by omega)).trans HP0.out
  exact⟨zC _ _ 0 _ _ _ e0,zC _ _ 0 _ _ _ e1,zC _ _ 1 _ _ _ e1⟩)
 clear hW0 hP0 hQ0 B0 HT HFR HLG
 go_wp2_with fail
 go_loopg [12] (i+1) (fun g vi wr=>PaRel (q3L DL lo hi false HF HL i x y uns) W0 0 (i+1) g vi wr)
 case atStart=>exact⟨0,zL _,by omega,by omega,rfl,fun j h1 h2=>absurd h2 (by omega),zB _ _⟩
 case round =>
  obtain⟨k,hk0,hk,hg,rfl,hf,hbel⟩:=hrel
  have HG:=zb hg
  have HFF:=zb hf
  have HB:=zb hbel
  obtain⟨cb,cx,cy⟩:=CELLF.out _ hbel
  have hzr:w.heap.size+1<wr.heap.size:=by have:=hbel.size;omega
  clear hg hf hbel
  by_cases hkn:k<i+1
  ·have hkd:k<DL.length:=by omega
   have HSP:=zb (q4d _ u lo hi hS _ DL k i (by omega) (by omega) wr (HF0.out.below HB.out) (HL0.out.below HB.out))
   rw[←q1i (show i<DL.length by omega),←q1i (show k<DL.length by omega)]at HSP
   obtain⟨gt,rfl,hgt,t1,t2,_⟩:=(HT0.out.lst.below HB.out).load hkd
   have CELL:Hid (∀w',Below W0.heap.size W0 w'→w'.rangeAt gt (k*10) (zx (zf (HL k)))∧w'.cell? ⟨w.heap.size+1,0,none⟩=some (.int .i64 x)∧w'.cell? ⟨w.heap.size+1,1,none⟩=some (.int .i64 y)):=zb (fun w' hb=>by
    obtain⟨g',e',_,_,_,hr⟩:=(HT0.out.lst.below hb).load hkd
    simp only[Option.some.injEq,Addr.mk.injEq,and_true]at e'
    subst e'
    exact q6q hr ((hb.block _ (by omega)).trans HP0.out))
   have HHK:=zb (HHAS.out k)
   obtain⟨cs,hcs⟩:∃cs,cs=zx (zf (HL k)):=⟨_,rfl⟩
   have hcl:(Tryz.prog.info? 43).map (·.size)=some cs.length:=by rw[hcs];kernel_rfl
   have hcu:=Tryz.underlying43
   rw[show zn (zf (HL k))=.agg cs.toArray by rw[hcs]]at HHK
   rw[←hcs]at CELL
   clear hcs
   unfold maxLen at t2
   have HPD:Hid (q3L DL lo hi false HF HL i x y uns k=(q2I lo hi (q0i DL i-q0i DL k)&&HL k x y&&(!false || q4S HF (k+1) (i:Int) x y uns))):=zb rfl
   have HY:=zb (HYES.out k hk0 (by omega))
   have HNX:Hid (q3L DL lo hi false HF HL i x y uns k=false→∀j,0≤j→j<k+1→q3L DL lo hi false HF HL i x y uns j=false):=zb (fun h j h1 h2=>by by_cases e:j=k;(rw[e];exact h);exact HFF.out j h1 (by omega))
   generalize q2I lo hi (q0i DL i-q0i DL k)=sp at *
   generalize HL k x y=q at *
   go_wp2_with fail
   refine(HSP.out).mono ?_
   rintro e w3 ⟨rfl,b3⟩
   have HB3:=zb (HB.out.trans (b3.mono HB.out.size))
   have C0:=CELL.out _ HB3.out.drew
   have hz3:w.heap.size+1<w3.heap.size:=by have:=b3.size;omega
   clear b3 cb cx cy
   go_wp2_with fail
   go_region_held3 (fun w'=>w'.rangeAt gt (k*10) cs∧w'.cell? ⟨w.heap.size+1,0,none⟩=some (.int .i64 x)∧w'.cell? ⟨w.heap.size+1,1,none⟩=some (.int .i64 y)) (first|go_keep|(exact C0)|(exact CELL.out _ B4)) ((go_at_call 150;refine(HHK.out _).mono ?_;rintro e w4 ⟨rfl,b4⟩;have B4:Below W0.heap.size W0 w4:=HB3.out.drew.trans (b4.mono HB3.out.drew.size)))
   have HB4:=zb B4
   clear C0 CELL HHK b4 B4 hcl hcu
   have hg1:0<gk:=by have:=HG.out;omega
   cases sp with
   |false =>
    go_wp2_with fail
    go_roundg (gk-1)
    case measure=>omega
    case rel=>exact⟨k+1,by omega,by omega,by have:=HG.out;omega,by go_num,HNX.out (by rw[HPD.out];simp only[Bool.false_and]),HB4.out⟩
   |true =>
    cases q with
    |false =>
     go_wp2_with fail
     go_roundg (gk-1)
     case measure=>omega
     case rel=>exact⟨k+1,by omega,by omega,by have:=HG.out;omega,by go_num,HNX.out (by rw[HPD.out];simp only[Bool.and_false,Bool.false_and]),HB4.out⟩
    |true =>
     have hR:=HY.out (by rw[HPD.out];rfl)
     subst hR
     go_wp2_with fail
     go_ret
     exact⟨rfl,HB0.out.trans (HB4.out.mono HB0.out.size)⟩
  ·have hR:=HNO.out (fun j h1 h2=>HFF.out j h1 (by omega))
   subst hR
   go_wp2_with fail
   go_ret
   exact⟨rfl,HB0.out.trans (HB.out.mono HB0.out.size)⟩
theorem j1K (v:Value)(u:List Tok)(lo hi:By)(hS:SpanIn u lo hi)(lv dv:Value)(DL:List (LPt × Value))(vF vL:Value)(HF HL:Nat→Nat→Nat→Bool)(i x y:Nat)(hi':i<DL.length)(hx:x<10)(hy:y<10)(w:World)(h:qB w v u)(hT:TabsAt w lv true vF vL DL.length HF HL)(hL:DLogAt w dv DL) :
  Calls Tryz.prog 176 #[v,lv,dv,.int .i64 i,.agg #[.int .i64 x,.int .i64 y]] w fun e w'=>e=.returned (.bool (q4M DL lo hi true HF HL i x y (hd u==[117,110,115,105,110,99,101])))∧Below w.heap.size w w':=by
 obtain⟨b,o,cap,rfl,h1,h2,h3,h4,h5,h6⟩:=qe h
 obtain⟨da,dc,rfl⟩:=qr hL.row
 obtain⟨gl,cl,rfl,hgl,l1,l2,lc0,lc1⟩:=hT.two
 obtain⟨fa,fc,rfl⟩:=hT.fst.form
 obtain⟨ta,tc,rfl⟩:=hT.lst.form
 have hsm:=hL.small
 have HT:=zb hT
 have HFR:=zb h
 have HLG:=zb hL
 obtain⟨uns,huns⟩:∃q,q=(hd u==[117,110,115,105,110,99,101]):=⟨_,rfl⟩
 rw[←huns]
 have HNO:=zb (@q6t (q3L DL lo hi true HF HL i x y uns) 0 (i+1))
 have HYES:=zb (@q3C (q3L DL lo hi true HF HL i x y uns) 0 (i+1))
 have HRD:Hid (q4M DL lo hi true HF HL i x y uns=(List.range' 0 (i+1)).any (q3L DL lo hi true HF HL i x y uns)):=zb rfl
 rw[←HRD.out]at HNO HYES
 have HHAS:=zb (fun k=>q2a (HL k) x y hx hy)
 generalize q4M DL lo hi true HF HL i x y uns=R at *
 have HWD:=zb (fun W (q:qB W (.agg #[.slice (some ⟨b,o,none⟩) u.length cap]) u)=>q0b _ u W q)
 have HUNS:=zb huns
 clear h h6 hT hL HRD huns
 unfold maxLen at h2 l2
 generalize hun:u.length=ul at *
 have HUL:=zb hun
 clear hun
 go_enter Tryz.func176,Tryz.ntmps176
 go_wp2_with fail
 obtain⟨W0,hW0⟩:∃W:World,W=(w.alloc (.cells #[.slice (some ⟨b,o,none⟩) ul cap] 112)).alloc (.cells #[.int .i64 x,.int .i64 y] 245):=⟨_,rfl⟩
 rw[←hW0]
 have hP0:W0.heap[w.heap.size+1]?=some (.cells #[.int .i64 x,.int .i64 y] 245 (0,0)):=by
  have e:w.heap.size+1=(w.alloc (.cells #[.slice (some ⟨b,o,none⟩) ul cap] 112)).heap.size:=by simp
  rw[hW0,e];exact zN _ _
 have hQ0:W0.heap[w.heap.size]?=some (.cells #[.slice (some ⟨b,o,none⟩) ul cap] 112 (0,0)):=by
  rw[hW0,zO _ _ (by simp)];exact zN _ _
 have hz0:w.heap.size+2=W0.heap.size:=by rw[hW0];simp
 have B0:Below w.heap.size w W0:=by rw[hW0];exact((zB _ _).alloc (zL _) _).alloc (by simp) _
 have HB0:=zb B0
 have HP0:=zb hP0
 have HQ0:=zb hQ0
 have HT0:=zb (HT.out.below B0)
 have HF0:=zb (HFR.out.below B0)
 have HL0:=zb (HLG.out.below B0)
 have lc1:=(zo B0 gl 1 hgl).trans lc1
 have lc0:=(zo B0 gl 0 hgl).trans lc0
 have hgl:=zT hgl B0.size
 have CELLF:Hid (∀w',Below W0.heap.size W0 w'→w'.cell? ⟨w.heap.size,0,none⟩=some (.slice (some ⟨b,o,none⟩) ul cap)∧w'.cell? ⟨w.heap.size+1,0,none⟩=some (.int .i64 x)∧w'.cell? ⟨w.heap.size+1,1,none⟩=some (.int .i64 y)∧w'.cell? ⟨gl,0,none⟩=some (.slice fa DL.length fc)):=zb (fun w' hb=>by
  have e0:=(hb.block w.heap.size (by omega)).trans HQ0.out
  have e1:=(hb.block (w.heap.size+1) (by omega)).trans HP0.out
  exact⟨zC _ _ 0 _ _ _ e0,zC _ _ 0 _ _ _ e1,zC _ _ 1 _ _ _ e1,(zo hb gl 0 hgl).trans lc0⟩)
 clear hW0 hP0 hQ0 B0 HT HFR HLG
 go_wp2_with fail
 go_loopg [12] (i+1) (fun g vi wr=>PaRel (q3L DL lo hi true HF HL i x y uns) W0 0 (i+1) g vi wr)
 case atStart=>exact⟨0,zL _,by omega,by omega,rfl,fun j h1 h2=>absurd h2 (by omega),zB _ _⟩
 case round =>
  obtain⟨k,hk0,hk,hg,rfl,hf,hbel⟩:=hrel
  have HG:=zb hg
  have HFF:=zb hf
  have HB:=zb hbel
  obtain⟨cb,cx,cy,cf⟩:=CELLF.out _ hbel
  have hzr:w.heap.size+1<wr.heap.size:=by have:=hbel.size;omega
  clear hg hf hbel
  by_cases hkn:k<i+1
  ·have hkd:k<DL.length:=by omega
   have HSP:=zb (q4d _ u lo hi hS _ DL k i (by omega) (by omega) wr (HF0.out.below HB.out) (HL0.out.below HB.out))
   rw[←q1i (show i<DL.length by omega),←q1i (show k<DL.length by omega)]at HSP
   obtain⟨gt,rfl,hgt,t1,t2,_⟩:=(HT0.out.lst.below HB.out).load hkd
   have CELL:Hid (∀w',Below W0.heap.size W0 w'→w'.rangeAt gt (k*10) (zx (zf (HL k)))∧w'.cell? ⟨w.heap.size+1,0,none⟩=some (.int .i64 x)∧w'.cell? ⟨w.heap.size+1,1,none⟩=some (.int .i64 y)):=zb (fun w' hb=>by
    obtain⟨g',e',_,_,_,hr⟩:=(HT0.out.lst.below hb).load hkd
    simp only[Option.some.injEq,Addr.mk.injEq,and_true]at e'
    subst e'
    exact q6q hr ((hb.block _ (by omega)).trans HP0.out))
   have HHK:=zb (HHAS.out k)
   obtain⟨cs,hcs⟩:∃cs,cs=zx (zf (HL k)):=⟨_,rfl⟩
   have hcl:(Tryz.prog.info? 43).map (·.size)=some cs.length:=by rw[hcs];kernel_rfl
   have hcu:=Tryz.underlying43
   rw[show zn (zf (HL k))=.agg cs.toArray by rw[hcs]]at HHK
   rw[←hcs]at CELL
   clear hcs
   unfold maxLen at t2
   have HPD:Hid (q3L DL lo hi true HF HL i x y uns k=(q2I lo hi (q0i DL i-q0i DL k)&&HL k x y&&(!true || q4S HF (k+1) (i:Int) x y uns))):=zb rfl
   have HY:=zb (HYES.out k hk0 (by omega))
   have HNX:Hid (q3L DL lo hi true HF HL i x y uns k=false→∀j,0≤j→j<k+1→q3L DL lo hi true HF HL i x y uns j=false):=zb (fun h j h1 h2=>by by_cases e:j=k;(rw[e];exact h);exact HFF.out j h1 (by omega))
   generalize q2I lo hi (q0i DL i-q0i DL k)=sp at *
   generalize HL k x y=q at *
   have HAL:Hid (∀W,TabsAt W (.slice (some ⟨gl,0,none⟩) 2 cl) true (.slice fa DL.length fc) (.slice (some ⟨gt,0,none⟩) DL.length tc) DL.length HF HL→Calls Tryz.prog 185 #[.slice fa DL.length fc,.int .i64 ((k:Int)+1),.int .i64 (i:Int),.agg #[.int .i64 x,.int .i64 y],.bool uns] W fun e w'=>e=.returned (.bool (q4S HF (k+1) (i:Int) x y uns))∧Below W.heap.size W w'):=zb (fun W q'=>j0B _ DL.length HF (k+1) (i:Int) x y hx hy uns W q'.fst (by omega) (by omega) (by omega))
   generalize q4S HF (k+1) (i:Int) x y uns=al at *
   go_wp2_with fail
   refine(HSP.out).mono ?_
   rintro e w3 ⟨rfl,b3⟩
   have HB3:=zb (HB.out.trans (b3.mono HB.out.size))
   have C0:=CELL.out _ HB3.out.drew
   have hz3:w.heap.size+1<w3.heap.size:=by have:=b3.size;omega
   clear b3 cb cx cy cf
   go_wp2_with fail
   go_region_held3 (fun w'=>w'.rangeAt gt (k*10) cs∧w'.cell? ⟨w.heap.size+1,0,none⟩=some (.int .i64 x)∧w'.cell? ⟨w.heap.size+1,1,none⟩=some (.int .i64 y)) (first|go_keep|(exact C0)|(exact CELL.out _ B4)) ((go_at_call 150;refine(HHK.out _).mono ?_;rintro e w4 ⟨rfl,b4⟩;have B4:Below W0.heap.size W0 w4:=HB3.out.drew.trans (b4.mono HB3.out.drew.size)))
   have HB4:=zb B4
   clear C0 CELL HHK b4 B4 hcl hcu
   have hg1:0<gk:=by have:=HG.out;omega
   cases sp with
   |false =>
    go_wp2_with fail
    go_roundg (gk-1)
    case measure=>omega
    case rel=>exact⟨k+1,by omega,by omega,by have:=HG.out;omega,by go_num,HNX.out (by rw[HPD.out];simp only[Bool.false_and]),HB4.out⟩
   |true =>
    cases q with
    |false =>
     go_wp2_with fail
     go_roundg (gk-1)
     case measure=>omega
     case rel=>exact⟨k+1,by omega,by omega,by have:=HG.out;omega,by go_num,HNX.out (by rw[HPD.out];simp only[Bool.and_false,Bool.false_and]),HB4.out⟩
    |true =>
     obtain⟨cb,cx,cy,cf⟩:=CELLF.out _ HB4.out.drew
     have huns:=HUNS.out
     have hwr:IntKind.i64.wrap (((k:Int)+1))=((k:Int)+1):=by rw[IntKind.wrap_i64];omega
     generalize hd u=wd at *
     go_wp2_with fail
     go_region_held3 (fun w'=>w'.cell? ⟨w.heap.size,0,none⟩=some (.slice (some ⟨b,o,none⟩) ul cap)∧w'.cell? ⟨w.heap.size+1,0,none⟩=some (.int .i64 x)∧w'.cell? ⟨w.heap.size+1,1,none⟩=some (.int .i64 y)∧w'.cell? ⟨gl,0,none⟩=some (.slice fa DL.length fc)) (first|go_keep|(exact⟨cb,cx,cy,cf⟩)|(exact CELLF.out _ B5)|(exact CELLF.out _ B6)) ((first|(go_at_call 109;refine(HWD.out _ (HF0.out.below HB4.out.drew)).mono ?_;rintro e w5 ⟨rfl,b5⟩;have B5:Below W0.heap.size W0 w5:=HB4.out.drew.trans (b5.mono HB4.out.drew.size))|(rw[←huns];go_at_call 185;refine(HAL.out _ (HT0.out.below B5)).mono ?_;rintro e w6 ⟨rfl,b6⟩;have B6:Below W0.heap.size W0 w6:=B5.trans (b6.mono B5.size))))
     have HB6:=zb B6
     clear b5 b6 B5 B6 HAL HWD
     cases al with
     |false =>
      go_wp2_with fail
      go_roundg (gk-1)
      case measure=>omega
      case rel=>exact⟨k+1,by omega,by omega,by have:=HG.out;omega,by go_num,HNX.out (by rw[HPD.out];rfl),HB6.out⟩
     |true =>
      have hR:=HY.out (by rw[HPD.out];rfl)
      subst hR
      go_wp2_with fail
      go_ret
      exact⟨rfl,HB0.out.trans (HB6.out.mono HB0.out.size)⟩
  ·have hR:=HNO.out (fun j h1 h2=>HFF.out j h1 (by omega))
   subst hR
   go_wp2_with fail
   go_ret
   exact⟨rfl,HB0.out.trans (HB.out.mono HB0.out.size)⟩
theorem j4a (v:Value)(u:List Tok)(lo hi:By)(hS:SpanIn u lo hi)(lv dv:Value)(DL:List (LPt × Value))(vF vL:Value)(HF HL:Nat→Nat→Nat→Bool)(i x y:Nat)(hi':i<DL.length)(hx:x<10)(hy:y<10)(w:World)(h:qB w v u)(hT:TabsAt w lv false vF vL DL.length HF HL)(hL:DLogAt w dv DL) :
  Calls Tryz.prog 177 #[v,lv,dv,.int .i64 i,.agg #[.int .i64 x,.int .i64 y]] w fun e w'=>e=.returned (.bool (q7x DL lo hi false HF HL i x y (hd u==[117,110,117,110,116,105,108])))∧Below w.heap.size w w':=by
 obtain⟨b,o,cap,rfl,h1,h2,h3,h4,h5,h6⟩:=qe h
 obtain⟨da,dc,rfl⟩:=qr hL.row
 obtain⟨gl,cl,rfl,hgl,l1,l2,lc1⟩:=hT.one
 obtain⟨fa,fc,rfl⟩:=hT.fst.form
 obtain⟨ta,tc,rfl⟩:=hT.lst.form
 have hsm:=hL.small
 have HT:=zb hT
 have HFR:=zb h
 have HLG:=zb hL
 obtain⟨uns,huns⟩:∃q,q=(hd u==[117,110,117,110,116,105,108]):=⟨_,rfl⟩
 rw[←huns]
 have HNO:=zb (@q6t (q6d DL lo hi false HF HL i x y uns) i (DL.length-i))
 have HYES:=zb (@q3C (q6d DL lo hi false HF HL i x y uns) i (DL.length-i))
 have HRD:Hid (q7x DL lo hi false HF HL i x y uns=(List.range' i (DL.length-i)).any (q6d DL lo hi false HF HL i x y uns)):=zb rfl
 rw[←HRD.out]at HNO HYES
 have HHAS:=zb (fun k=>q2a (HL k) x y hx hy)
 generalize q7x DL lo hi false HF HL i x y uns=R at *
 have HWD:=zb (fun W (q:qB W (.agg #[.slice (some ⟨b,o,none⟩) u.length cap]) u)=>q0b _ u W q)
 have HUNS:=zb huns
 clear h h6 hT hL HRD huns
 unfold maxLen at h2 l2
 generalize hun:u.length=ul at *
 have HUL:=zb hun
 clear hun
 go_enter Tryz.func177,Tryz.ntmps177
 go_wp2_with fail
 obtain⟨W0,hW0⟩:∃W:World,W=(w.alloc (.cells #[.slice (some ⟨b,o,none⟩) ul cap] 112)).alloc (.cells #[.int .i64 x,.int .i64 y] 245):=⟨_,rfl⟩
 rw[←hW0]
 have hP0:W0.heap[w.heap.size+1]?=some (.cells #[.int .i64 x,.int .i64 y] 245 (0,0)):=by
  have e:w.heap.size+1=(w.alloc (.cells #[.slice (some ⟨b,o,none⟩) ul cap] 112)).heap.size:=by simp
  rw[hW0,e];exact zN _ _
 have hQ0:W0.heap[w.heap.size]?=some (.cells #[.slice (some ⟨b,o,none⟩) ul cap] 112 (0,0)):=by
  rw[hW0,zO _ _ (by simp)];exact zN _ _
 have hz0:w.heap.size+2=W0.heap.size:=by rw[hW0];simp
 have B0:Below w.heap.size w W0:=by rw[hW0];exact((zB _ _).alloc (zL _) _).alloc (by simp) _
 have HB0:=zb B0
 have HP0:=zb hP0
 have HQ0:=zb hQ0
 have HT0:=zb (HT.out.below B0)
 have HF0:=zb (HFR.out.below B0)
 have HL0:=zb (HLG.out.below B0)
 have lc1:=(zo B0 gl 0 hgl).trans lc1
 have hgl:=zT hgl B0.size
 have CELLF:Hid (∀w',Below W0.heap.size W0 w'→w'.cell? ⟨w.heap.size,0,none⟩=some (.slice (some ⟨b,o,none⟩) ul cap)∧w'.cell? ⟨w.heap.size+1,0,none⟩=some (.int .i64 x)∧w'.cell? ⟨w.heap.size+1,1,none⟩=some (.int .i64 y)):=zb (fun w' hb=>by
  have e0:=(hb.block w.heap.size (by omega)).trans HQ0.out
  have e1:=(hb.block (w.heap.size+1) (by omega)).trans HP0.out
  exact⟨zC _ _ 0 _ _ _ e0,zC _ _ 0 _ _ _ e1,zC _ _ 1 _ _ _ e1⟩)
 clear hW0 hP0 hQ0 B0 HT HFR HLG
 go_wp2_with fail
 go_loopg [12] (DL.length) (fun g vi wr=>PaRel (q6d DL lo hi false HF HL i x y uns) W0 i (DL.length) g vi wr)
 case atStart=>exact⟨i,zL _,by omega,by omega,rfl,fun j h1 h2=>absurd h2 (by omega),zB _ _⟩
 case round =>
  obtain⟨k,hk0,hk,hg,rfl,hf,hbel⟩:=hrel
  have HG:=zb hg
  have HFF:=zb hf
  have HB:=zb hbel
  obtain⟨cb,cx,cy⟩:=CELLF.out _ hbel
  have hzr:w.heap.size+1<wr.heap.size:=by have:=hbel.size;omega
  clear hg hf hbel
  by_cases hkn:k<DL.length
  ·have hkd:k<DL.length:=by omega
   have HSP:=zb (q4d _ u lo hi hS _ DL i k (by omega) (by omega) wr (HF0.out.below HB.out) (HL0.out.below HB.out))
   rw[←q1i (show k<DL.length by omega),←q1i (show i<DL.length by omega)]at HSP
   obtain⟨gt,rfl,hgt,t1,t2,_⟩:=(HT0.out.lst.below HB.out).load hkd
   have CELL:Hid (∀w',Below W0.heap.size W0 w'→w'.rangeAt gt (k*10) (zx (zf (HL k)))∧w'.cell? ⟨w.heap.size+1,0,none⟩=some (.int .i64 x)∧w'.cell? ⟨w.heap.size+1,1,none⟩=some (.int .i64 y)):=zb (fun w' hb=>by
    obtain⟨g',e',_,_,_,hr⟩:=(HT0.out.lst.below hb).load hkd
    simp only[Option.some.injEq,Addr.mk.injEq,and_true]at e'
    subst e'
    exact q6q hr ((hb.block _ (by omega)).trans HP0.out))
   have HHK:=zb (HHAS.out k)
   obtain⟨cs,hcs⟩:∃cs,cs=zx (zf (HL k)):=⟨_,rfl⟩
   have hcl:(Tryz.prog.info? 43).map (·.size)=some cs.length:=by rw[hcs];kernel_rfl
   have hcu:=Tryz.underlying43
   rw[show zn (zf (HL k))=.agg cs.toArray by rw[hcs]]at HHK
   rw[←hcs]at CELL
   clear hcs
   unfold maxLen at t2
   have HPD:Hid (q6d DL lo hi false HF HL i x y uns k=(q2I lo hi (q0i DL k-q0i DL i)&&HL k x y&&(!false || q4S HF i ((k:Int)-1) x y uns))):=zb rfl
   have HY:=zb (HYES.out k hk0 (by omega))
   have HNX:Hid (q6d DL lo hi false HF HL i x y uns k=false→∀j,i≤j→j<k+1→q6d DL lo hi false HF HL i x y uns j=false):=zb (fun h j h1 h2=>by by_cases e:j=k;(rw[e];exact h);exact HFF.out j h1 (by omega))
   generalize q2I lo hi (q0i DL k-q0i DL i)=sp at *
   generalize HL k x y=q at *
   go_wp2_with fail
   refine(HSP.out).mono ?_
   rintro e w3 ⟨rfl,b3⟩
   have HB3:=zb (HB.out.trans (b3.mono HB.out.size))
   have C0:=CELL.out _ HB3.out.drew
   have hz3:w.heap.size+1<w3.heap.size:=by have:=b3.size;omega
   clear b3 cb cx cy
   go_wp2_with fail
   go_region_held3 (fun w'=>w'.rangeAt gt (k*10) cs∧w'.cell? ⟨w.heap.size+1,0,none⟩=some (.int .i64 x)∧w'.cell? ⟨w.heap.size+1,1,none⟩=some (.int .i64 y)) (first|go_keep|(exact C0)|(exact CELL.out _ B4)) ((go_at_call 150;refine(HHK.out _).mono ?_;rintro e w4 ⟨rfl,b4⟩;have B4:Below W0.heap.size W0 w4:=HB3.out.drew.trans (b4.mono HB3.out.drew.size)))
   have HB4:=zb B4
   clear C0 CELL HHK b4 B4 hcl hcu
   have hg1:0<gk:=by have:=HG.out;omega
   cases sp with
   |false =>
    go_wp2_with fail
    go_roundg (gk-1)
    case measure=>omega
    case rel=>exact⟨k+1,by omega,by omega,by have:=HG.out;omega,by go_num,HNX.out (by rw[HPD.out];simp only[Bool.false_and]),HB4.out⟩
   |true =>
    cases q with
    |false =>
     go_wp2_with fail
     go_roundg (gk-1)
     case measure=>omega
     case rel=>exact⟨k+1,by omega,by omega,by have:=HG.out;omega,by go_num,HNX.out (by rw[HPD.out];simp only[Bool.and_false,Bool.false_and]),HB4.out⟩
    |true =>
     have hR:=HY.out (by rw[HPD.out];rfl)
     subst hR
     go_wp2_with fail
     go_ret
     exact⟨rfl,HB0.out.trans (HB4.out.mono HB0.out.size)⟩
  ·have hR:=HNO.out (fun j h1 h2=>HFF.out j h1 (by omega))
   subst hR
   go_wp2_with fail
   go_ret
   exact⟨rfl,HB0.out.trans (HB.out.mono HB0.out.size)⟩
theorem q9h (v:Value)(u:List Tok)(lo hi:By)(hS:SpanIn u lo hi)(lv dv:Value)(DL:List (LPt × Value))(vF vL:Value)(HF HL:Nat→Nat→Nat→Bool)(i x y:Nat)(hi':i<DL.length)(hx:x<10)(hy:y<10)(w:World)(h:qB w v u)(hT:TabsAt w lv true vF vL DL.length HF HL)(hL:DLogAt w dv DL) :
  Calls Tryz.prog 177 #[v,lv,dv,.int .i64 i,.agg #[.int .i64 x,.int .i64 y]] w fun e w'=>e=.returned (.bool (q7x DL lo hi true HF HL i x y (hd u==[117,110,117,110,116,105,108])))∧Below w.heap.size w w':=by
 obtain⟨b,o,cap,rfl,h1,h2,h3,h4,h5,h6⟩:=qe h
 obtain⟨da,dc,rfl⟩:=qr hL.row
 obtain⟨gl,cl,rfl,hgl,l1,l2,lc0,lc1⟩:=hT.two
 obtain⟨fa,fc,rfl⟩:=hT.fst.form
 obtain⟨ta,tc,rfl⟩:=hT.lst.form
 have hsm:=hL.small
 have HT:=zb hT
 have HFR:=zb h
 have HLG:=zb hL
 obtain⟨uns,huns⟩:∃q,q=(hd u==[117,110,117,110,116,105,108]):=⟨_,rfl⟩
 rw[←huns]
 have HNO:=zb (@q6t (q6d DL lo hi true HF HL i x y uns) i (DL.length-i))
 have HYES:=zb (@q3C (q6d DL lo hi true HF HL i x y uns) i (DL.length-i))
 have HRD:Hid (q7x DL lo hi true HF HL i x y uns=(List.range' i (DL.length-i)).any (q6d DL lo hi true HF HL i x y uns)):=zb rfl
 rw[←HRD.out]at HNO HYES
 have HHAS:=zb (fun k=>q2a (HL k) x y hx hy)
 generalize q7x DL lo hi true HF HL i x y uns=R at *
 have HWD:=zb (fun W (q:qB W (.agg #[.slice (some ⟨b,o,none⟩) u.length cap]) u)=>q0b _ u W q)
 have HUNS:=zb huns
 clear h h6 hT hL HRD huns
 unfold maxLen at h2 l2
 generalize hun:u.length=ul at *
 have HUL:=zb hun
 clear hun
 go_enter Tryz.func177,Tryz.ntmps177
 go_wp2_with fail
 obtain⟨W0,hW0⟩:∃W:World,W=(w.alloc (.cells #[.slice (some ⟨b,o,none⟩) ul cap] 112)).alloc (.cells #[.int .i64 x,.int .i64 y] 245):=⟨_,rfl⟩
 rw[←hW0]
 have hP0:W0.heap[w.heap.size+1]?=some (.cells #[.int .i64 x,.int .i64 y] 245 (0,0)):=by
  have e:w.heap.size+1=(w.alloc (.cells #[.slice (some ⟨b,o,none⟩) ul cap] 112)).heap.size:=by simp
  rw[hW0,e];exact zN _ _
 have hQ0:W0.heap[w.heap.size]?=some (.cells #[.slice (some ⟨b,o,none⟩) ul cap] 112 (0,0)):=by
  rw[hW0,zO _ _ (by simp)];exact zN _ _
 have hz0:w.heap.size+2=W0.heap.size:=by rw[hW0];simp
 have B0:Below w.heap.size w W0:=by rw[hW0];exact((zB _ _).alloc (zL _) _).alloc (by simp) _
 have HB0:=zb B0
 have HP0:=zb hP0
 have HQ0:=zb hQ0
 have HT0:=zb (HT.out.below B0)
 have HF0:=zb (HFR.out.below B0)
 have HL0:=zb (HLG.out.below B0)
 have lc1:=(zo B0 gl 1 hgl).trans lc1
 have lc0:=(zo B0 gl 0 hgl).trans lc0
 have hgl:=zT hgl B0.size
 have CELLF:Hid (∀w',Below W0.heap.size W0 w'→w'.cell? ⟨w.heap.size,0,none⟩=some (.slice (some ⟨b,o,none⟩) ul cap)∧w'.cell? ⟨w.heap.size+1,0,none⟩=some (.int .i64 x)∧w'.cell? ⟨w.heap.size+1,1,none⟩=some (.int .i64 y)∧w'.cell? ⟨gl,0,none⟩=some (.slice fa DL.length fc)):=zb (fun w' hb=>by
  have e0:=(hb.block w.heap.size (by omega)).trans HQ0.out
  have e1:=(hb.block (w.heap.size+1) (by omega)).trans HP0.out
  exact⟨zC _ _ 0 _ _ _ e0,zC _ _ 0 _ _ _ e1,zC _ _ 1 _ _ _ e1,(zo hb gl 0 hgl).trans lc0⟩)
 clear hW0 hP0 hQ0 B0 HT HFR HLG
 go_wp2_with fail
 go_loopg [12] (DL.length) (fun g vi wr=>PaRel (q6d DL lo hi true HF HL i x y uns) W0 i (DL.length) g vi wr)
 case atStart=>exact⟨i,zL _,by omega,by omega,rfl,fun j h1 h2=>absurd h2 (by omega),zB _ _⟩
 case round =>
  obtain⟨k,hk0,hk,hg,rfl,hf,hbel⟩:=hrel
  have HG:=zb hg
  have HFF:=zb hf
  have HB:=zb hbel
  obtain⟨cb,cx,cy,cf⟩:=CELLF.out _ hbel
  have hzr:w.heap.size+1<wr.heap.size:=by have:=hbel.size;omega
  clear hg hf hbel
  by_cases hkn:k<DL.length
  ·have hkd:k<DL.length:=by omega
   have HSP:=zb (q4d _ u lo hi hS _ DL i k (by omega) (by omega) wr (HF0.out.below HB.out) (HL0.out.below HB.out))
   rw[←q1i (show k<DL.length by omega),←q1i (show i<DL.length by omega)]at HSP
   obtain⟨gt,rfl,hgt,t1,t2,_⟩:=(HT0.out.lst.below HB.out).load hkd
   have CELL:Hid (∀w',Below W0.heap.size W0 w'→w'.rangeAt gt (k*10) (zx (zf (HL k)))∧w'.cell? ⟨w.heap.size+1,0,none⟩=some (.int .i64 x)∧w'.cell? ⟨w.heap.size+1,1,none⟩=some (.int .i64 y)):=zb (fun w' hb=>by
    obtain⟨g',e',_,_,_,hr⟩:=(HT0.out.lst.below hb).load hkd
    simp only[Option.some.injEq,Addr.mk.injEq,and_true]at e'
    subst e'
    exact q6q hr ((hb.block _ (by omega)).trans HP0.out))
   have HHK:=zb (HHAS.out k)
   obtain⟨cs,hcs⟩:∃cs,cs=zx (zf (HL k)):=⟨_,rfl⟩
   have hcl:(Tryz.prog.info? 43).map (·.size)=some cs.length:=by rw[hcs];kernel_rfl
   have hcu:=Tryz.underlying43
   rw[show zn (zf (HL k))=.agg cs.toArray by rw[hcs]]at HHK
   rw[←hcs]at CELL
   clear hcs
   unfold maxLen at t2
   have HPD:Hid (q6d DL lo hi true HF HL i x y uns k=(q2I lo hi (q0i DL k-q0i DL i)&&HL k x y&&(!true || q4S HF i ((k:Int)-1) x y uns))):=zb rfl
   have HY:=zb (HYES.out k hk0 (by omega))
   have HNX:Hid (q6d DL lo hi true HF HL i x y uns k=false→∀j,i≤j→j<k+1→q6d DL lo hi true HF HL i x y uns j=false):=zb (fun h j h1 h2=>by by_cases e:j=k;(rw[e];exact h);exact HFF.out j h1 (by omega))
   generalize q2I lo hi (q0i DL k-q0i DL i)=sp at *
   generalize HL k x y=q at *
   have HAL:Hid (∀W,TabsAt W (.slice (some ⟨gl,0,none⟩) 2 cl) true (.slice fa DL.length fc) (.slice (some ⟨gt,0,none⟩) DL.length tc) DL.length HF HL→Calls Tryz.prog 185 #[.slice fa DL.length fc,.int .i64 (i:Int),.int .i64 ((k:Int)-1),.agg #[.int .i64 x,.int .i64 y],.bool uns] W fun e w'=>e=.returned (.bool (q4S HF i ((k:Int)-1) x y uns))∧Below W.heap.size W w'):=zb (fun W q'=>j0B _ DL.length HF i ((k:Int)-1) x y hx hy uns W q'.fst (by omega) (by omega) (by omega))
   generalize q4S HF i ((k:Int)-1) x y uns=al at *
   go_wp2_with fail
   refine(HSP.out).mono ?_
   rintro e w3 ⟨rfl,b3⟩
   have HB3:=zb (HB.out.trans (b3.mono HB.out.size))
   have C0:=CELL.out _ HB3.out.drew
   have hz3:w.heap.size+1<w3.heap.size:=by have:=b3.size;omega
   clear b3 cb cx cy cf
   go_wp2_with fail
   go_region_held3 (fun w'=>w'.rangeAt gt (k*10) cs∧w'.cell? ⟨w.heap.size+1,0,none⟩=some (.int .i64 x)∧w'.cell? ⟨w.heap.size+1,1,none⟩=some (.int .i64 y)) (first|go_keep|(exact C0)|(exact CELL.out _ B4)) ((go_at_call 150;refine(HHK.out _).mono ?_;rintro e w4 ⟨rfl,b4⟩;have B4:Below W0.heap.size W0 w4:=HB3.out.drew.trans (b4.mono HB3.out.drew.size)))
   have HB4:=zb B4
   clear C0 CELL HHK b4 B4 hcl hcu
   have hg1:0<gk:=by have:=HG.out;omega
   cases sp with
   |false =>
    go_wp2_with fail
    go_roundg (gk-1)
    case measure=>omega
    case rel=>exact⟨k+1,by omega,by omega,by have:=HG.out;omega,by go_num,HNX.out (by rw[HPD.out];simp only[Bool.false_and]),HB4.out⟩
   |true =>
    cases q with
    |false =>
     go_wp2_with fail
     go_roundg (gk-1)
     case measure=>omega
     case rel=>exact⟨k+1,by omega,by omega,by have:=HG.out;omega,by go_num,HNX.out (by rw[HPD.out];simp only[Bool.and_false,Bool.false_and]),HB4.out⟩
    |true =>
     obtain⟨cb,cx,cy,cf⟩:=CELLF.out _ HB4.out.drew
     have huns:=HUNS.out
     have hwr:IntKind.i64.wrap (((k:Int)-1))=((k:Int)-1):=by rw[IntKind.wrap_i64];omega
     generalize hd u=wd at *
     go_wp2_with fail
     go_region_held3 (fun w'=>w'.cell? ⟨w.heap.size,0,none⟩=some (.slice (some ⟨b,o,none⟩) ul cap)∧w'.cell? ⟨w.heap.size+1,0,none⟩=some (.int .i64 x)∧w'.cell? ⟨w.heap.size+1,1,none⟩=some (.int .i64 y)∧w'.cell? ⟨gl,0,none⟩=some (.slice fa DL.length fc)) (first|go_keep|(exact⟨cb,cx,cy,cf⟩)|(exact CELLF.out _ B5)|(exact CELLF.out _ B6)) ((first|(go_at_call 109;refine(HWD.out _ (HF0.out.below HB4.out.drew)).mono ?_;rintro e w5 ⟨rfl,b5⟩;have B5:Below W0.heap.size W0 w5:=HB4.out.drew.trans (b5.mono HB4.out.drew.size))|(rw[←huns];go_at_call 185;refine(HAL.out _ (HT0.out.below B5)).mono ?_;rintro e w6 ⟨rfl,b6⟩;have B6:Below W0.heap.size W0 w6:=B5.trans (b6.mono B5.size))))
     have HB6:=zb B6
     clear b5 b6 B5 B6 HAL HWD
     cases al with
     |false =>
      go_wp2_with fail
      go_roundg (gk-1)
      case measure=>omega
      case rel=>exact⟨k+1,by omega,by omega,by have:=HG.out;omega,by go_num,HNX.out (by rw[HPD.out];rfl),HB6.out⟩
     |true =>
      have hR:=HY.out (by rw[HPD.out];rfl)
      subst hR
      go_wp2_with fail
      go_ret
      exact⟨rfl,HB0.out.trans (HB6.out.mono HB0.out.size)⟩
  ·have hR:=HNO.out (fun j h1 h2=>HFF.out j h1 (by omega))
   subst hR
   go_wp2_with fail
   go_ret
   exact⟨rfl,HB0.out.trans (HB.out.mono HB0.out.size)⟩
abbrev zs (DL:List (LPt × Value)):List LPt:=DL.map Prod.fst
theorem q5s (DL:List (LPt × Value))(i:Nat):q0i DL i=(tmL (zs DL) i:Int):=by
 unfold q0i tmL zs
 rw[List.getElem?_map]
 cases DL[i]?<;>rfl
theorem j1R {y:Pay}{l r:zl}(h:NodeOk y l r)(base p sp t:Nat):q2I y.lo y.hi (t:Int)=q0L (zz base p sp y l r) t:=by
 unfold q2I q0L
 show _=(decide (q2F y.lo≤(t:Int))&&(y.hi==[42] || decide ((t:Int)≤q2F y.hi)))
 rw[h.lo,h.hi]
theorem q8N {y:Pay}{l r:zl}(h:NodeOk y l r)(base p sp:Nat){DL:List (LPt × Value)}(hM:q9H (zs DL)){i j:Nat}(hij:j≤i)(hi:i<DL.length):q2I y.lo y.hi (q0i DL i-q0i DL j)=q0L (zz base p sp y l r) (q0l (zs DL) i j):=by
 have hm:=hM j i hij (by simpa using hi)
 rw[q5s,q5s,←j1R h,show((tmL (zs DL) i:Int)-(tmL (zs DL) j:Int))=((q0l (zs DL) i j:Nat):Int)by unfold q0l;omega]
theorem q8O {y:Pay}{l r:zl}(h:NodeOk y l r)(base p sp:Nat){DL:List (LPt × Value)}(hM:q9H (zs DL)){i j:Nat}(hij:i≤j)(hj:j<DL.length):q2I y.lo y.hi (q0i DL j-q0i DL i)=q0L (zz base p sp y l r) (q0l (zs DL) i j):=by
 have hm:=hM i j hij (by simpa using hj)
 rw[q5s,q5s,←j1R h,show((tmL (zs DL) j:Int)-(tmL (zs DL) i:Int))=((q0l (zs DL) i j:Nat):Int)by unfold q0l;omega]
theorem q7p {H:Nat→Nat→Nat→Bool}{a:Nat}{b:Int}{x y:Nat}{no:Bool}:q4S H a b x y no=true↔∀k:Nat,a≤k→(k:Int)≤b→(H k x y != no)=true:=by
 constructor
 ·intro h k h1 h2
  by_cases e:H k x y=no
  ·rw[j5I h1 h2 e]at h;simp at h
  ·simpa using e
 ·intro h
  refine j2R (fun k h1 h2=>?_)
  have:=h k h1 h2
  revert this
  cases H k x y<;>cases no<;>decide
theorem j0m {y:Pay}{l r:zl}(hN:NodeOk y l r)(base p sp:Nat){DL:List (LPt × Value)}(hM:q9H (zs DL))(two:Bool)(HF HL:Nat→Nat→Nat→Bool)(i x z:Nat)(hi:i<DL.length)(uns:Bool)(G W:Nat→Bool)(hG:∀j,G j=HL j x z)(hW:∀j,W j=(!two || (HF j x z != uns))) :
  q4M DL y.lo y.hi two HF HL i x z uns=q5b (fun j=>q0L (zz base p sp y l r) (q0l (zs DL) i j)) G W (fun m=>i-m) (i+1):=by
 unfold q4M q5b
 rw[Bool.eq_iff_iff,List.any_eq_true,List.any_eq_true]
 constructor
 ·rintro⟨j,hj,hv⟩
  have hj:=List.mem_range'_1.1 hj
  refine⟨i-j,List.mem_range.2 (by omega),?_⟩
  have e:i-(i-j)=j:=by omega
  simp only[e]
  unfold q3L at hv
  rw[Bool.and_eq_true,Bool.and_eq_true]at hv
  obtain⟨⟨h1,h2⟩,h3⟩:=hv
  rw[q8N hN base p sp hM (by omega) hi]at h1
  rw[Bool.and_eq_true,Bool.and_eq_true]
  refine⟨h1,?_,by rw[hG];exact h2⟩
  unfold q4J
  rw[List.all_eq_true]
  intro q hq
  have hq:=List.mem_range.1 hq
  show W (i-q)=true
  rw[hW]
  cases two with
  |false=>rfl
  |true =>
   have h3:q4S HF (j+1) (i:Int) x z uns=true:=by simpa using h3
   have:=q7p.1 h3 (i-q) (by omega) (by omega)
   rw[this];rfl
 ·rintro⟨m,hm,hv⟩
  have hm:=List.mem_range.1 hm
  rw[Bool.and_eq_true,Bool.and_eq_true]at hv
  obtain⟨h1,h2,h3⟩:=hv
  refine⟨i-m,List.mem_range'_1.2 (by omega),?_⟩
  unfold q3L
  rw[Bool.and_eq_true,Bool.and_eq_true]
  rw[q8N hN base p sp hM (by omega) hi]
  refine⟨⟨h1,by rw[hG]at h3;exact h3⟩,?_⟩
  cases two with
  |false=>rfl
  |true =>
   show q4S HF (i-m+1) (i:Int) x z uns=true
   refine q7p.2 (fun k k1 k2=>?_)
   unfold q4J at h2
   rw[List.all_eq_true]at h2
   have:=h2 (i-k) (List.mem_range.2 (by omega))
   have e:i-(i-k)=k:=by omega
   simp only[e]at this
   rw[hW]at this
   exact this
theorem j2g {y:Pay}{l r:zl}(hN:NodeOk y l r)(base p sp:Nat){DL:List (LPt × Value)}(hM:q9H (zs DL))(two:Bool)(HF HL:Nat→Nat→Nat→Bool)(i x z:Nat)(hi:i<DL.length)(uns:Bool)(G W:Nat→Bool)(hG:∀j,G j=HL j x z)(hW:∀j,W j=(!two || (HF j x z != uns))) :
  q7x DL y.lo y.hi two HF HL i x z uns=q5b (fun j=>q0L (zz base p sp y l r) (q0l (zs DL) i j)) G W (fun m=>i+m) ((zs DL).length-i):=by
 have hlen:(zs DL).length=DL.length:=by simp
 rw[hlen]
 unfold q7x q5b
 rw[Bool.eq_iff_iff,List.any_eq_true,List.any_eq_true]
 constructor
 ·rintro⟨j,hj,hv⟩
  have hj:=List.mem_range'_1.1 hj
  refine⟨j-i,List.mem_range.2 (by omega),?_⟩
  have e:i+(j-i)=j:=by omega
  simp only[e]
  unfold q6d at hv
  rw[Bool.and_eq_true,Bool.and_eq_true]at hv
  obtain⟨⟨h1,h2⟩,h3⟩:=hv
  rw[q8O hN base p sp hM (by omega) (by omega)]at h1
  rw[Bool.and_eq_true,Bool.and_eq_true]
  refine⟨h1,?_,by rw[hG];exact h2⟩
  unfold q4J
  rw[List.all_eq_true]
  intro q hq
  have hq:=List.mem_range.1 hq
  show W (i+q)=true
  rw[hW]
  cases two with
  |false=>rfl
  |true =>
   have h3:q4S HF i ((j:Int)-1) x z uns=true:=by simpa using h3
   have:=q7p.1 h3 (i+q) (by omega) (by omega)
   rw[this];rfl
 ·rintro⟨m,hm,hv⟩
  have hm:=List.mem_range.1 hm
  rw[Bool.and_eq_true,Bool.and_eq_true]at hv
  obtain⟨h1,h2,h3⟩:=hv
  refine⟨i+m,List.mem_range'_1.2 (by omega),?_⟩
  unfold q6d
  rw[Bool.and_eq_true,Bool.and_eq_true]
  rw[q8O hN base p sp hM (by omega) (by omega)]
  refine⟨⟨h1,by rw[hG]at h3;exact h3⟩,?_⟩
  cases two with
  |false=>rfl
  |true =>
   show q4S HF i (((i+m:Nat):Int)-1) x z uns=true
   refine q7p.2 (fun k k1 k2=>?_)
   unfold q4J at h2
   rw[List.all_eq_true]at h2
   have:=h2 (k-i) (List.mem_range.2 (by omega))
   have e:i+(k-i)=k:=by omega
   simp only[e]at this
   rw[hW]at this
   exact this
def argD (a:By)(x y:Nat):Nat:=if a==[120]then x else if a==[121]then y else((a.getD 0 0).toNat-48)
theorem q7b {a:By}(h:q3Q a=true):a=[120]∨a=[121]∨∃c:UInt8,a=[c]∧48≤c.toNat∧c.toNat≤57:=by
 unfold q3Q at h
 rw[Bool.or_eq_true]at h
 rcases h with h|h
 ·exact .inr (.inr (q6C h))
 ·rcases j2J h with h|h
  ·exact .inl h
  ·exact .inr (.inl h)
theorem j4G {a:By}(h:q3Q a=true)(x y:Nat):q9J a x y=[UInt8.ofNat (48+argD a x y)]:=by
 rcases q7b h with rfl|rfl|⟨c,rfl,h1,h2⟩
 ·rfl
 ·rfl
 ·have e1:([c]==[(120:UInt8)])=false:=by
   rw[beq_eq_false_iff_ne];intro e;injection e with e;rw[e]at h2;exact absurd h2 (by decide)
  have e2:([c]==[(121:UInt8)])=false:=by
   rw[beq_eq_false_iff_ne];intro e;injection e with e;rw[e]at h2;exact absurd h2 (by decide)
  unfold q9J argD
  rw[e1,e2]
  simp only[Bool.false_eq_true,if_false,List.getD_cons_zero]
  rw[show 48+(c.toNat-48)=c.toNat by omega,UInt8.ofNat_toNat]
theorem argD_le {a:By}(h:q3Q a=true)(x y:Nat)(hx:x<10)(hy:y<10):argD a x y≤9:=by
 unfold argD
 rcases q7b h with rfl|rfl|⟨c,rfl,h1,h2⟩
 ·simp;omega
 ·simp;omega
 ·split
  ·omega
  ·split
   ·omega
   ·simp;omega
theorem j4F {a:By}(h:q3Q a=true)(d x y:Nat):q4T (zk a) (q2F a) d x y=(argD a x y==d):=by
 rcases q7b h with rfl|rfl|⟨c,rfl,h1,h2⟩
 ·rfl
 ·rfl
 ·have hdg:qp (c.toNat:Int)=true:=by unfold qp;simp;omega
  have e1:([c]==[(120:UInt8)])=false:=by
   rw[beq_eq_false_iff_ne];intro e;injection e with e;rw[e]at h2;exact absurd h2 (by decide)
  have e2:([c]==[(121:UInt8)])=false:=by
   rw[beq_eq_false_iff_ne];intro e;injection e with e;rw[e]at h2;exact absurd h2 (by decide)
  have k1:zk [c]=1:=by simp only[zk];rw[if_pos hdg]
  have v1:q2F [c]=((c.toNat-48:Nat):Int):=by simp only[q2F];rw[if_pos hdg];simp[q0n]
  unfold q4T argD
  rw[k1,v1,e1,e2]
  simp only[Bool.false_eq_true,if_false,List.getD_cons_zero]
  rw[if_neg (by decide),if_neg (by decide),Bool.eq_iff_iff]
  simp
  omega
def q8P (nm:By)(args:List (By))(x y:Nat):By:=q5D ⟨nm,args.map fun a=>argD a x y⟩
theorem split_at {a c:By}{r s:By}(ha:∀q∈a,q≠40)(hc:∀q∈c,q≠40)(h:a++40::r=c++40::s):a=c∧r=s:=by
 induction a generalizing c with
 |nil =>
  cases c with
  |nil=>simpa using h
  |cons q c=>simp at h;exact absurd h.1.symm (hc q (by simp))
 |cons q a ih =>
  cases c with
  |nil=>simp at h;exact absurd h.1 (ha q (by simp))
  |cons q' c =>
   simp at h
   obtain⟨rfl,h⟩:=h
   have:=ih (fun q hq=>ha q (by simp[hq])) (fun q hq=>hc q (by simp[hq])) h
   exact⟨by rw[this.1],this.2⟩
theorem j4Z {c:UInt8}(h:q0e (c.toNat:Int)=true):c≠40∧c.toNat≠0:=by
 unfold q0e at h
 simp at h
 constructor
 ·intro e;rw[e]at h;exact absurd h.1 (by decide)
 ·omega
theorem j2e {a b:Nat}(ha:a≤9)(hb:b≤9)(h:UInt8.ofNat (48+a)=UInt8.ofNat (48+b)):a=b:=by
 have:=congrArg UInt8.toNat h
 rw[UInt8.toNat_ofNat_of_lt' (by show 48+a<256;omega),UInt8.toNat_ofNat_of_lt' (by show 48+b<256;omega)]at this
 omega
theorem hapS_inj {g h:Hp}(hg:HpOk g)(hh:HpOk h)(e:q5D g=q5D h):g=h:=by
 obtain⟨gn,gd⟩:=g
 obtain⟨hn,hd⟩:=h
 have:=split_at (fun q hq=>(j4Z (hg.nm.2.2 q hq)).1) (fun q hq=>(j4Z (hh.nm.2.2 q hq)).1) e
 obtain⟨e1,e2⟩:=this
 simp only[]at e1 e2
 subst e1
 have g1:=hg.ds
 have h1:=hh.ds
 simp only[]at g1 h1
 match gd,hd with
 | [a],[b] =>
  simp only[List.cons.injEq,and_true]at e2
  rw[j2e (g1.2 a (by simp)) (h1.2 b (by simp)) e2]
 | [a],[b,b']=>simp at e2
 | [a,a'],[b]=>simp at e2
 | [a,a'],[b,b'] =>
  simp only[List.cons.injEq,and_true,true_and]at e2
  rw[j2e (g1.2 a (by simp)) (h1.2 b (by simp)) e2.1,j2e (g1.2 a' (by simp)) (h1.2 b' (by simp)) e2.2]
 | [],_=>simp at g1
 |_::_::_::_,_=>simp at g1
 | [a],[]=>simp at h1
 | [a,a'],[]=>simp at h1
 | [a],_::_::_::_=>simp at h1
 | [a,a'],_::_::_::_=>simp at h1
theorem pad_inj {a c:By}(ha:a.length≤8∧∀q∈a,q0e (q.toNat:Int)=true)(hc:c.length≤8∧∀q∈c,q0e (q.toNat:Int)=true):q7L a c=(a==c):=by
 rw[Bool.eq_iff_iff]
 constructor
 ·intro h
  unfold q7L at h
  rw[List.all_eq_true]at h
  have hj:∀j,j<8→(a.getD j 0).toNat=(c.getD j 0).toNat:=fun j hj=>by
   have:=h j (List.mem_range.2 hj)
   simp only[beq_iff_eq]at this
   unfold zj at this
   omega
  have hz:∀(l:By),(∀q∈l,q0e (q.toNat:Int)=true)→∀j,((l.getD j 0).toNat=0↔l.length≤j):=fun l hl j=>by
   rcases Nat.lt_or_ge j l.length with g|g
   ·have e:l.getD j 0=l[j]:=by simp[List.getD,g]
    rw[e]
    have:=(j4Z (hl l[j] (List.getElem_mem g))).2
    constructor
    ·intro h;exact absurd h this
    ·intro h;omega
   ·have e:l.getD j 0=0:=by simp[List.getD,List.getElem?_eq_none g]
    rw[e]
    exact⟨fun _=>g,fun _=>rfl⟩
  have hlen:a.length=c.length:=by
   have hza:=hz a ha.2
   have hzc:=hz c hc.2
   rcases Nat.lt_trichotomy a.length c.length with g|g|g
   ·have:=(hza a.length).2 (zL _)
    rw[hj a.length (by omega)]at this
    have:=(hzc a.length).1 this
    omega
   ·exact g
   ·have:=(hzc c.length).2 (zL _)
    rw[←hj c.length (by omega)]at this
    have:=(hza c.length).1 this
    omega
  rw[beq_iff_eq]
  refine List.ext_getElem hlen (fun j h1 h2=>?_)
  have:=hj j (by omega)
  rw[show a.getD j 0=a[j]by simp[List.getD,h1],show c.getD j 0=c[j]by simp[List.getD,h2]]at this
  exact UInt8.toNat_inj.1 this
 ·intro h
  rw[beq_iff_eq]at h
  subst h
  unfold q7L
  rw[List.all_eq_true]
  intro j _
  simp
theorem j5L {y:Pay}(base p sp:Nat)(hn:zv y.word=true)(hk:zk y.word=2)(hw:y.word.length≤8∧∀q∈y.word,q0e (q.toNat:Int)=true)(ha:∀a∈y.args,q3Q a=true)(hl:y.args.length=1∨y.args.length=2)(x z:Nat)(hx:x<10)(hz:z<10){h:Hp}(hh:HpOk h) :
  evP (zz base p sp y .nil .nil) x z h=(q5D h==q8P y.word y.args x z):=by
 have hnm:(zz base p sp y .nil .nil).name=y.word:=by
  show q9o y.word=y.word
  cases e:y.word with
  |nil=>rfl
  |cons c r =>
   have hc:=hw.2 c (by rw[e];simp)
   rw[e]at hk
   have hd:qp (c.toNat:Int)=false:=by unfold q0e at hc;unfold qp;simp at hc ⊢;omega
   simp only[zk,hd,hc,Bool.false_eq_true,if_false,if_true]at hk
   simp only[q9o,hd,hc,Bool.false_eq_true,if_false,Bool.true_and,hk]
   rfl
 have hok:HpOk ⟨y.word,y.args.map fun a=>argD a x z⟩:=⟨⟨by
   cases e:y.word with
   |nil=>rw[e]at hn;simp[zv]at hn
   |cons c r=>simp,hw.1,hw.2⟩,by simpa using hl,fun d hd=>by
   obtain⟨a,h1,rfl⟩:=List.mem_map.1 hd
   exact argD_le (ha a h1) x z hx hz⟩
 have e1:(q5D h==q8P y.word y.args x z)=(h.nm==y.word&&h.ds==y.args.map fun a=>argD a x z):=by
  rw[Bool.eq_iff_iff,Bool.and_eq_true,beq_iff_eq,beq_iff_eq,beq_iff_eq]
  constructor
  ·intro e
   have:=hapS_inj hh hok e
   rw[this]
   exact⟨rfl,rfl⟩
  ·rintro⟨h1,h2⟩
   unfold q8P
   rw[←h1,←h2]
 rw[e1]
 unfold evP
 rw[hnm,pad_inj ⟨hh.nm.2.1,hh.nm.2.2⟩ hw,Bool.and_assoc,Bool.and_assoc]
 congr 1
 show(decide ((h.ds.length:Int)=(if zv y.word then(y.args.length:Int)else 0))&&((!decide (0<(if zv y.word then(y.args.length:Int)else 0)) || q4T (if zv y.word then zk (y.args.getD 0 [])else 0) (if zv y.word then q2F (y.args.getD 0 [])else 0) (h.ds.getD 0 0) x z)&&(!decide (1<(if zv y.word then(y.args.length:Int)else 0)) || q4T (if zv y.word then zk (y.args.getD 1 [])else 0) (if zv y.word then q2F (y.args.getD 1 [])else 0) (h.ds.getD 1 0) x z)))=_
 rw[hn]
 simp only[if_true]
 have hd:=hh.ds.1
 clear e1 hok
 generalize h.ds=ds at *
 generalize y.args=gs at *
 match gs,ds with
 | [a],[d] =>
  simp only[List.getD_cons_zero,List.length_cons,List.length_nil]
  rw[j4F (ha a (by simp))]
  rw[Bool.eq_iff_iff]
  simp
  exact eq_comm
 | [a],[d,d']=>simp
 | [a,a'],[d]=>simp
 | [a,a'],[d,d'] =>
  simp only[List.getD_cons_zero,List.getD_cons_succ,List.length_cons,List.length_nil]
  rw[j4F (ha a (by simp)),j4F (ha a' (by simp))]
  rw[Bool.eq_iff_iff]
  simp
  constructor<;>(rintro⟨h1,h2⟩;exact⟨h1.symm,h2.symm⟩)
 | [],_=>simp at hl
 |_::_::_::_,_=>simp at hl
 | [a],[]=>simp at hd
 | [a,a'],[]=>simp at hd
 | [a],_::_::_::_=>simp at hd
 | [a,a'],_::_::_::_=>simp at hd
end Go.Proofs.YtiamjjonoeaggabGreatDoor
