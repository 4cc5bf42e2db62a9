import Derived.Test.YtiamjjonoeaggaaGreatDoorGA
import Derived.Test.YtiamjjonoeaggaaGreatDoorGB
import Derived.Test.YtiamjjonoeaggaaGreatDoorG14
import Derived.Deep.MidRow
set_option maxRecDepth 100000
set_option maxHeartbeats 16000000
namespace Go.Proofs.YtiamjjonoeaggaaGreatDoor
open Go.RowKit
def q4S (H:Nat→Nat→Nat→Bool)(a:Nat)(b:Int)(x y:Nat)(no:Bool):Bool:=(List.range (b+1).toNat).all fun k=>!decide (a≤k) || (H k x y != no)
theorem j5K {H:Nat→Nat→Nat→Bool}{a:Nat}{b:Int}{x y:Nat}{no:Bool}{k:Nat}(h1:a≤k)(h2:(k:Int)≤b)(h3:H k x y=no):q4S H a b x y no=false:=by
 unfold q4S
 rw[List.all_eq_false]
 refine⟨k,by simp;omega,?_⟩
 rw[h3,decide_eq_true h1]
 cases no<;>decide
theorem j2S {H:Nat→Nat→Nat→Bool}{a:Nat}{b:Int}{x y:Nat}{no:Bool}(h:∀k:Nat,a≤k→(k:Int)≤b→H k x y=!no):q4S H a b x y no=true:=by
 unfold q4S
 rw[List.all_eq_true]
 intro k hk
 have hk':(k:Int)≤b:=by have:=List.mem_range.1 hk;omega
 by_cases hc:a≤k
 ·rw[h k hc hk']
  cases no<;>simp
 ·rw[decide_eq_false hc];rfl
theorem q6q {w':World}{gt m bp:Nat}{r:Nat→Int}{x y:Int}{t:TypeId}(h:w'.rangeAt gt (m*10) (zx r))(hp:w'.heap[bp]?=some (.cells #[.int .i64 x,.int .i64 y] t (0,0))):w'.rangeAt gt (m*10) (zx r)∧w'.cell? ⟨bp,0,none⟩=some (.int .i64 x)∧w'.cell? ⟨bp,1,none⟩=some (.int .i64 y):=
 ⟨h,zC _ _ 0 _ _ _ hp,zC _ _ 1 _ _ _ hp⟩
theorem q2a (s:Nat→Nat→Bool)(x y:Nat)(hx:x<10)(hy:y<10)(w:World):Calls Tryz.prog 26 #[zn (zf s),.int .i64 x,.int .i64 y] w fun e w'=>e=.returned (.bool (s x y))∧Below w.heap.size w w':=by
 have h:=j2k (zf s) x y w
 rw[j0D s x y hx hy]at h
 exact h
def AlRel (H:Nat→Nat→Nat→Bool)(a:Nat)(b:Int)(x y:Nat)(no:Bool)(W0:World)(g:Nat)(vi:Value)(wr:World):Prop:=∃k:Nat,a≤k∧(b+1-k).toNat≤g∧((k:Int)≤b+1∨k=a)∧vi=.int .i64 k∧(∀j:Nat,a≤j→j<k→H j x y=!no)∧Below W0.heap.size W0 wr
theorem j0B (v:Value)(n:Nat)(H:Nat→Nat→Nat→Bool)(a:Nat)(b:Int)(x y:Nat)(hx:x<10)(hy:y<10)(no:Bool)(w:World)(h:Tb w v n H)(_ha:a≤1000)(hb:-1≤b∧b<n)(hn:n≤1000) :
  Calls Tryz.prog 194 #[v,.int .i64 a,.int .i64 b,.agg #[.int .i64 x,.int .i64 y],.bool no] w fun e w'=>e=.returned (.bool (q4S H a b x y no))∧Below w.heap.size w w':=by
 obtain⟨ta,tc,rfl⟩:=h.form
 have HT:=zb h
 clear h
 have HNO:=zb (fun k h1 h2 h3=>@j5K H a b x y no k h1 h2 h3)
 have HYES:=zb (@j2S H a b x y no)
 have HHAS:=zb (fun k=>q2a (H k) x y hx hy)
 generalize q4S H a b x y no=R at *
 go_enter Tryz.func194,Tryz.ntmps194
 go_wp2_with fail
 obtain⟨W0,hW0⟩:∃W:World,W=w.alloc (.cells #[.int .i64 x,.int .i64 y] 262):=⟨_,rfl⟩
 rw[←hW0]
 have hP0:W0.heap[w.heap.size]?=some (.cells #[.int .i64 x,.int .i64 y] 262 (0,0)):=by rw[hW0];exact zN _ _
 have hz0:w.heap.size<W0.heap.size:=by rw[hW0];simp
 have B0:Below w.heap.size w W0:=by rw[hW0];exact(zB _ _).alloc (zL _) _
 have HB0:=zb B0
 have HP0:=zb hP0
 have HT0:=zb (HT.out.below B0)
 clear hW0 hP0 B0 HT
 go_loopg [11] (b+1-a).toNat (fun g vi wr=>AlRel H a b x y no W0 g vi wr)
 case atStart=>exact⟨a,zL _,zL _,.inr rfl,rfl,fun j h1 h2=>absurd h2 (by omega),zB _ _⟩
 case round =>
  obtain⟨k,hk,hg,hka,rfl,hf,hbel⟩:=hrel
  have HG:=zb hg
  have HF:=zb hf
  have HB:=zb hbel
  clear hg hf hbel
  by_cases hkb:(k:Int)≤b
  ·have hkn:k<n:=by omega
   obtain⟨gt,rfl,hgt,t1,t2,_⟩:=(HT0.out.below HB.out).load hkn
   have CELL:Hid (∀w',Below W0.heap.size W0 w'→w'.rangeAt gt (k*10) (zx (zf (H k)))∧w'.cell? ⟨w.heap.size,0,none⟩=some (.int .i64 x)∧w'.cell? ⟨w.heap.size,1,none⟩=some (.int .i64 y)):=zb (fun w' hb=>by
    obtain⟨g',e',_,_,_,hr⟩:=(HT0.out.below hb).load hkn
    simp only[Option.some.injEq,Addr.mk.injEq,and_true]at e'
    subst e'
    exact q6q hr ((hb.block _ hz0).trans HP0.out))
   have HHK:=zb (HHAS.out k)
   obtain⟨cs,hcs⟩:∃cs,cs=zx (zf (H k)):=⟨_,rfl⟩
   have hcl:(Tryz.prog.info? 47).map (·.size)=some cs.length:=by rw[hcs];kernel_rfl
   have hcu:=Tryz.underlying47
   rw[show zn (zf (H k))=.agg cs.toArray by rw[hcs]]at HHK
   rw[←hcs]at CELL
   clear hcs
   unfold maxLen at t2
   have HHQ:Hid (∀q,H k x y=q→((q=no→R=false)∧(q=(!no)→∀j:Nat,a≤j→j<k+1→H j x y=!no))):=zb (fun q hq=>⟨fun h=>HNO.out k hk hkb (hq.trans h),fun h j h1 h2=>by by_cases e:j=k;(rw[e,hq,h]);exact HF.out j h1 (by omega)⟩)
   generalize H k x y=q at *
   have HHQ':=zb (HHQ.out q rfl)
   have hzr:w.heap.size<wr.heap.size:=zT hz0 HB.out.size
   have C0:=CELL.out _ HB.out.drew
   go_wp2_with fail
   go_region_held3 (fun w'=>w'.rangeAt gt (k*10) cs∧w'.cell? ⟨w.heap.size,0,none⟩=some (.int .i64 x)∧w'.cell? ⟨w.heap.size,1,none⟩=some (.int .i64 y)) (first|go_keep|(exact C0)|(exact CELL.out _ B3)) ((go_at_call 26;refine(HHK.out _).mono ?_;rintro e w3 ⟨rfl,b3⟩;have B3:Below W0.heap.size W0 w3:=HB.out.drew.trans (b3.mono HB.out.drew.size)))
   clear C0 CELL HHK
   by_cases hq:q=no
   ·have hR:=HHQ'.out.1 hq
    subst hq
    go_wp2_with fail
    go_ret
    exact⟨qm rfl,HB0.out.trans (B3.mono HB0.out.size)⟩
   ·have hq2:q=!no:=by revert hq;cases q<;>cases no<;>decide
    have HN2:=zb (HHQ'.out.2 hq2)
    have hqn:(q==no)=false:=by revert hq;cases q<;>cases no<;>decide
    have HB3:=zb B3
    clear HHQ HHQ' b3 B3
    go_wp2_with fail
    have hg1:0<gk:=by have:=HG.out;omega
    go_roundg (gk-1)
    case measure=>omega
    case rel=>exact⟨k+1,by omega,by have:=HG.out;omega,by omega,by go_num,HN2.out,HB3.out⟩
  ·have hR:=HYES.out (fun j h1 h2=>HF.out j h1 (by omega))
   subst hR
   go_wp2_with fail
   go_ret
   exact⟨rfl,HB0.out.trans (HB.out.mono HB0.out.size)⟩
structure TabsAt (w:World)(lv:Value)(two:Bool)(vF vL:Value)(n:Nat)(HF HL:Nat→Nat→Nat→Bool):Prop where
 row:∃xs,xs=(if two=true then [vF,vL]else [vL])∧w.ownsRow 0 246 1 lv xs.length xs
 fst:Tb w vF n HF
 lst:Tb w vL n HL
theorem TabsAt.below {w w':World}{lv:Value}{two:Bool}{vF vL:Value}{n:Nat}{HF HL:Nat→Nat→Nat→Bool}(h:TabsAt w lv two vF vL n HF HL)(hb:Below w.heap.size w w'):TabsAt w' lv two vF vL n HF HL:=
 ⟨by obtain⟨xs,h1,h2⟩:=h.row;exact⟨xs,h1,zh h2 hb⟩,h.fst.below hb,h.lst.below hb⟩
theorem TabsAt.one {w:World}{lv:Value}{vF vL:Value}{n:Nat}{HF HL:Nat→Nat→Nat→Bool}(h:TabsAt w lv false vF vL n HF HL):∃g cap,lv=.slice (some ⟨g,0,none⟩) 1 cap∧g<w.heap.size∧1≤cap∧cap≤maxLen∧w.cell? ⟨g,0,none⟩=some vL:=by
 obtain⟨xs,rfl,h2⟩:=h.row
 simp only[Bool.false_eq_true,if_false,List.length_cons,List.length_nil]at h2
 obtain⟨g,cap,e⟩:=zJ h2 (by omega)
 subst e
 have c0:=h2.cellAt 0 (by omega)
 rcases h2.2 with⟨h',_⟩|⟨g',cap',cur,h',_,_,p1,p2,_⟩
 ·simp at h'
 ·simp only[Value.slice.injEq,Option.some.injEq,Addr.mk.injEq,and_true,true_and]at h'
  obtain⟨rfl,rfl⟩:=h'
  exact⟨g,cap,rfl,(h2.lt g rfl).2,p1,p2,c0⟩
theorem TabsAt.two {w:World}{lv:Value}{vF vL:Value}{n:Nat}{HF HL:Nat→Nat→Nat→Bool}(h:TabsAt w lv true vF vL n HF HL):∃g cap,lv=.slice (some ⟨g,0,none⟩) 2 cap∧g<w.heap.size∧2≤cap∧cap≤maxLen∧w.cell? ⟨g,0,none⟩=some vF∧w.cell? ⟨g,1,none⟩=some vL:=by
 obtain⟨xs,rfl,h2⟩:=h.row
 simp only[if_true,List.length_cons,List.length_nil]at h2
 obtain⟨g,cap,e⟩:=zJ h2 (by omega)
 subst e
 have c0:=h2.cellAt 0 (by omega)
 have c1:=h2.cellAt 1 (by omega)
 rcases h2.2 with⟨h',_⟩|⟨g',cap',cur,h',_,_,p1,p2,_⟩
 ·simp at h'
 ·simp only[Value.slice.injEq,Option.some.injEq,Addr.mk.injEq,and_true,true_and]at h'
  obtain⟨rfl,rfl⟩:=h'
  exact⟨g,cap,rfl,(h2.lt g rfl).2,p1,p2,c0,c1⟩
def q0i (DL:List (LPt × Value))(i:Nat):Int:=match DL[i]? with
 |some p=>(p.1.time:Int)
 |none=>0
theorem q1i {DL:List (LPt × Value)}{i:Nat}(h:i<DL.length):q0i DL i=((DL[i]).1.time:Int):=by
 unfold q0i
 rw[zG h]
def PaRel (P:Nat→Bool)(W0:World)(a n':Nat)(g:Nat)(vi:Value)(wr:World):Prop:=∃k:Nat,a≤k∧k≤n'∧n'-k≤g∧vi=.int .i64 k∧(∀j,a≤j→j<k→P j=false)∧Below W0.heap.size W0 wr
def q3L (DL:List (LPt × Value))(lo hi:By)(two:Bool)(HF HL:Nat→Nat→Nat→Bool)(i x y:Nat)(uns:Bool)(j:Nat):Bool:=q2I lo hi (q0i DL i-q0i DL j)&&HL j x y&&(!two || q4S HF (j+1) (i:Int) x y uns)
def q6d (DL:List (LPt × Value))(lo hi:By)(two:Bool)(HF HL:Nat→Nat→Nat→Bool)(i x y:Nat)(uns:Bool)(j:Nat):Bool:=q2I lo hi (q0i DL j-q0i DL i)&&HL j x y&&(!two || q4S HF i ((j:Int)-1) x y uns)
def q4M (DL:List (LPt × Value))(lo hi:By)(two:Bool)(HF HL:Nat→Nat→Nat→Bool)(i x y:Nat)(uns:Bool):Bool:=(List.range' 0 (i+1)).any (q3L DL lo hi two HF HL i x y uns)
def q7x (DL:List (LPt × Value))(lo hi:By)(two:Bool)(HF HL:Nat→Nat→Nat→Bool)(i x y:Nat)(uns:Bool):Bool:=(List.range' i (DL.length-i)).any (q6d DL lo hi two HF HL i x y uns)
theorem q6t {P:Nat→Bool}{a n:Nat}:(∀j,a≤j→j<a+n→P j=false)→(List.range' a n).any P=false:=by
 intro h
 rw[List.any_eq_false]
 intro j hj
 have:=List.mem_range'_1.1 hj
 rw[h j this.1 (by omega)]
 decide
theorem q3C {P:Nat→Bool}{a n:Nat}(j:Nat)(h1:a≤j)(h2:j<a+n)(h:P j=true):(List.range' a n).any P=true:=by
 rw[List.any_eq_true]
 exact⟨j,List.mem_range'_1.2 ⟨h1,h2⟩,h⟩
theorem j7m (v:Value)(u:List Tok)(lo hi:By)(hS:SpanIn u lo hi)(lv dv:Value)(DL:List (LPt × Value))(vF vL:Value)(HF HL:Nat→Nat→Nat→Bool)(i x y:Nat)(hi':i<DL.length)(hx:x<10)(hy:y<10)(w:World)(h:qB w v u)(hT:TabsAt w lv false vF vL DL.length HF HL)(hL:DLogAt w dv DL) :
  Calls Tryz.prog 187 #[v,lv,dv,.int .i64 i,.agg #[.int .i64 x,.int .i64 y]] w fun e w'=>e=.returned (.bool (q4M DL lo hi false HF HL i x y (hd u==[117,110,115,105,110,99,101])))∧Below w.heap.size w w':=by
 obtain⟨b,o,cap,rfl,h1,h2,h3,h4,h5,h6⟩:=qe h
 obtain⟨da,dc,rfl⟩:=qr hL.row
 obtain⟨gl,cl,rfl,hgl,l1,l2,lc1⟩:=hT.one
 obtain⟨fa,fc,rfl⟩:=hT.fst.form
 obtain⟨ta,tc,rfl⟩:=hT.lst.form
 have hsm:=hL.small
 have HT:=zb hT
 have HFR:=zb h
 have HLG:=zb hL
 obtain⟨uns,huns⟩:∃q,q=(hd u==[117,110,115,105,110,99,101]):=⟨_,rfl⟩
 rw[←huns]
 have HNO:=zb (@q6t (q3L DL lo hi false HF HL i x y uns) 0 (i+1))
 have HYES:=zb (@q3C (q3L DL lo hi false HF HL i x y uns) 0 (i+1))
 have HRD:Hid (q4M DL lo hi false HF HL i x y uns=(List.range' 0 (i+1)).any (q3L DL lo hi false HF HL i x y uns)):=zb rfl
 rw[←HRD.out]at HNO HYES
 have HHAS:=zb (fun k=>q2a (HL k) x y hx hy)
 generalize q4M DL lo hi false HF HL i x y uns=R at *
 have HWD:=zb (fun W (q:qB W (.agg #[.slice (some ⟨b,o,none⟩) u.length cap]) u)=>q0b _ u W q)
 have HUNS:=zb huns
 clear h h6 hT hL HRD huns
 unfold maxLen at h2 l2
 generalize hun:u.length=ul at *
 have HUL:=zb hun
 clear hun
 go_enter Tryz.func187,Tryz.ntmps187
 go_wp2_with fail
 obtain⟨W0,hW0⟩:∃W:World,W=(w.alloc (.cells #[.slice (some ⟨b,o,none⟩) ul cap] 149)).alloc (.cells #[.int .i64 x,.int .i64 y] 262):=⟨_,rfl⟩
 rw[←hW0]
 have hP0:W0.heap[w.heap.size+1]?=some (.cells #[.int .i64 x,.int .i64 y] 262 (0,0)):=by
  have e:w.heap.size+1=(w.alloc (.cells #[.slice (some ⟨b,o,none⟩) ul cap] 149)).heap.size:=by simp
  rw[hW0,e];exact zN _ _
 have hQ0:W0.heap[w.heap.size]?=some (.cells #[.slice (some ⟨b,o,none⟩) ul cap] 149 (0,0)):=by
  rw[hW0,zO _ _ (by simp)];exact zN _ _
 have hz0:w.heap.size+2=W0.heap.size:=by rw[hW0];simp
 have B0:Below w.heap.size w W0:=by rw[hW0];exact((zB _ _).alloc (zL _) _).alloc (by simp) _
 have HB0:=zb B0
 have HP0:=zb hP0
 have HQ0:=zb hQ0
 have HT0:=zb (HT.out.below B0)
 have HF0:=zb (HFR.out.below B0)
 have HL0:=zb (HLG.out.below B0)
 have lc1:=(zo B0 gl 0 hgl).trans lc1
 have hgl:=zT hgl B0.size
 have CELLF:Hid (∀w',Below W0.heap.size W0 w'→w'.cell? ⟨w.heap.size,0,none⟩=some (.slice (some ⟨b,o,none⟩) ul cap)∧w'.cell? ⟨w.heap.size+1,0,none⟩=some (.int .i64 x)∧w'.cell? ⟨w.heap.size+1,1,none⟩=some (.int .i64 y)):=zb (fun w' hb=>by
  have e0:=(hb.block w.heap.size (by omega)).trans HQ0.out
  have e1:=(hb.block (w.heap.size+1) (by omega)).trans HP0.out
  exact⟨zC _ _ 0 _ _ _ e0,zC _ _ 0 _ _ _ e1,zC _ _ 1 _ _ _ e1⟩)
 clear hW0 hP0 hQ0 B0 HT HFR HLG
 go_wp2_with fail
 go_loopg [12] (i+1) (fun g vi wr=>PaRel (q3L DL lo hi false HF HL i x y uns) W0 0 (i+1) g vi wr)
 case atStart=>exact⟨0,zL _,by omega,by omega,rfl,fun j h1 h2=>absurd h2 (by omega),zB _ _⟩
 case round =>
  obtain⟨k,hk0,hk,hg,rfl,hf,hbel⟩:=hrel
  have HG:=zb hg
  have HFF:=zb hf
  have HB:=zb hbel
  obtain⟨cb,cx,cy⟩:=CELLF.out _ hbel
  have hzr:w.heap.size+1<wr.heap.size:=by have:=hbel.size;omega
  clear hg hf hbel
  by_cases hkn:k<i+1
  ·have hkd:k<DL.length:=by omega
   have HSP:=zb (q4d _ u lo hi hS _ DL k i (by omega) (by omega) wr (HF0.out.below HB.out) (HL0.out.below HB.out))
   rw[←q1i (show i<DL.length by omega),←q1i (show k<DL.length by omega)]at HSP
   obtain⟨gt,rfl,hgt,t1,t2,_⟩:=(HT0.out.lst.below HB.out).load hkd
   have CELL:Hid (∀w',Below W0.heap.size W0 w'→w'.rangeAt gt (k*10) (zx (zf (HL k)))∧w'.cell? ⟨w.heap.size+1,0,none⟩=some (.int .i64 x)∧w'.cell? ⟨w.heap.size+1,1,none⟩=some (.int .i64 y)):=zb (fun w' hb=>by
    obtain⟨g',e',_,_,_,hr⟩:=(HT0.out.lst.below hb).load hkd
    simp only[Option.some.injEq,Addr.mk.injEq,and_true]at e'
    subst e'
    exact q6q hr ((hb.block _ (by omega)).trans HP0.out))
   have HHK:=zb (HHAS.out k)
   obtain⟨cs,hcs⟩:∃cs,cs=zx (zf (HL k)):=⟨_,rfl⟩
   have hcl:(Tryz.prog.info? 47).map (·.size)=some cs.length:=by rw[hcs];kernel_rfl
   have hcu:=Tryz.underlying47
   rw[show zn (zf (HL k))=.agg cs.toArray by rw[hcs]]at HHK
   rw[←hcs]at CELL
   clear hcs
   unfold maxLen at t2
   have HPD:Hid (q3L DL lo hi false HF HL i x y uns k=(q2I lo hi (q0i DL i-q0i DL k)&&HL k x y&&(!false || q4S HF (k+1) (i:Int) x y uns))):=zb rfl
   have HY:=zb (HYES.out k hk0 (by omega))
   have HNX:Hid (q3L DL lo hi false HF HL i x y uns k=false→∀j,0≤j→j<k+1→q3L DL lo hi false HF HL i x y uns j=false):=zb (fun h j h1 h2=>by by_cases e:j=k;(rw[e];exact h);exact HFF.out j h1 (by omega))
   generalize q2I lo hi (q0i DL i-q0i DL k)=sp at *
   generalize HL k x y=q at *
   go_wp2_with fail
   refine(HSP.out).mono ?_
   rintro e w3 ⟨rfl,b3⟩
   have HB3:=zb (HB.out.trans (b3.mono HB.out.size))
   have C0:=CELL.out _ HB3.out.drew
   have hz3:w.heap.size+1<w3.heap.size:=by have:=b3.size;omega
   clear b3 cb cx cy
   go_wp2_with fail
   go_region_held3 (fun w'=>w'.rangeAt gt (k*10) cs∧w'.cell? ⟨w.heap.size+1,0,none⟩=some (.int .i64 x)∧w'.cell? ⟨w.heap.size+1,1,none⟩=some (.int .i64 y)) (first|go_keep|(exact C0)|(exact CELL.out _ B4)) ((go_at_call 26;refine(HHK.out _).mono ?_;rintro e w4 ⟨rfl,b4⟩;have B4:Below W0.heap.size W0 w4:=HB3.out.drew.trans (b4.mono HB3.out.drew.size)))
   have HB4:=zb B4
   clear C0 CELL HHK b4 B4 hcl hcu
   have hg1:0<gk:=by have:=HG.out;omega
   cases sp with
   |false =>
    go_wp2_with fail
    go_roundg (gk-1)
    case measure=>omega
    case rel=>exact⟨k+1,by omega,by omega,by have:=HG.out;omega,by go_num,HNX.out (by rw[HPD.out];simp only[Bool.false_and]),HB4.out⟩
   |true =>
    cases q with
    |false =>
     go_wp2_with fail
     go_roundg (gk-1)
     case measure=>omega
     case rel=>exact⟨k+1,by omega,by omega,by have:=HG.out;omega,by go_num,HNX.out (by rw[HPD.out];simp only[Bool.and_false,Bool.false_and]),HB4.out⟩
    |true =>
     have hR:=HY.out (by rw[HPD.out];rfl)
     subst hR
     go_wp2_with fail
     go_ret
     exact⟨rfl,HB0.out.trans (HB4.out.mono HB0.out.size)⟩
  ·have hR:=HNO.out (fun j h1 h2=>HFF.out j h1 (by omega))
   subst hR
   go_wp2_with fail
   go_ret
   exact⟨rfl,HB0.out.trans (HB.out.mono HB0.out.size)⟩
theorem j1L (v:Value)(u:List Tok)(lo hi:By)(hS:SpanIn u lo hi)(lv dv:Value)(DL:List (LPt × Value))(vF vL:Value)(HF HL:Nat→Nat→Nat→Bool)(i x y:Nat)(hi':i<DL.length)(hx:x<10)(hy:y<10)(w:World)(h:qB w v u)(hT:TabsAt w lv true vF vL DL.length HF HL)(hL:DLogAt w dv DL) :
  Calls Tryz.prog 187 #[v,lv,dv,.int .i64 i,.agg #[.int .i64 x,.int .i64 y]] w fun e w'=>e=.returned (.bool (q4M DL lo hi true HF HL i x y (hd u==[117,110,115,105,110,99,101])))∧Below w.heap.size w w':=by
 obtain⟨b,o,cap,rfl,h1,h2,h3,h4,h5,h6⟩:=qe h
 obtain⟨da,dc,rfl⟩:=qr hL.row
 obtain⟨gl,cl,rfl,hgl,l1,l2,lc0,lc1⟩:=hT.two
 obtain⟨fa,fc,rfl⟩:=hT.fst.form
 obtain⟨ta,tc,rfl⟩:=hT.lst.form
 have hsm:=hL.small
 have HT:=zb hT
 have HFR:=zb h
 have HLG:=zb hL
 obtain⟨uns,huns⟩:∃q,q=(hd u==[117,110,115,105,110,99,101]):=⟨_,rfl⟩
 rw[←huns]
 have HNO:=zb (@q6t (q3L DL lo hi true HF HL i x y uns) 0 (i+1))
 have HYES:=zb (@q3C (q3L DL lo hi true HF HL i x y uns) 0 (i+1))
 have HRD:Hid (q4M DL lo hi true HF HL i x y uns=(List.range' 0 (i+1)).any (q3L DL lo hi true HF HL i x y uns)):=zb rfl
 rw[←HRD.out]at HNO HYES
 have HHAS:=zb (fun k=>q2a (HL k) x y hx hy)
 generalize q4M DL lo hi true HF HL i x y uns=R at *
 have HWD:=zb (fun W (q:qB W (.agg #[.slice (some ⟨b,o,none⟩) u.length cap]) u)=>q0b _ u W q)
 have HUNS:=zb huns
 clear h h6 hT hL HRD huns
 unfold maxLen at h2 l2
 generalize hun:u.length=ul at *
 have HUL:=zb hun
 clear hun
 go_enter Tryz.func187,Tryz.ntmps187
 go_wp2_with fail
 obtain⟨W0,hW0⟩:∃W:World,W=(w.alloc (.cells #[.slice (some ⟨b,o,none⟩) ul cap] 149)).alloc (.cells #[.int .i64 x,.int .i64 y] 262):=⟨_,rfl⟩
 rw[←hW0]
 have hP0:W0.heap[w.heap.size+1]?=some (.cells #[.int .i64 x,.int .i64 y] 262 (0,0)):=by
  have e:w.heap.size+1=(w.alloc (.cells #[.slice (some ⟨b,o,none⟩) ul cap] 149)).heap.size:=by simp
  rw[hW0,e];exact zN _ _
 have hQ0:W0.heap[w.heap.size]?=some (.cells #[.slice (some ⟨b,o,none⟩) ul cap] 149 (0,0)):=by
  rw[hW0,zO _ _ (by simp)];exact zN _ _
 have hz0:w.heap.size+2=W0.heap.size:=by rw[hW0];simp
 have B0:Below w.heap.size w W0:=by rw[hW0];exact((zB _ _).alloc (zL _) _).alloc (by simp) _
 have HB0:=zb B0
 have HP0:=zb hP0
 have HQ0:=zb hQ0
 have HT0:=zb (HT.out.below B0)
 have HF0:=zb (HFR.out.below B0)
 have HL0:=zb (HLG.out.below B0)
 have lc1:=(zo B0 gl 1 hgl).trans lc1
 have lc0:=(zo B0 gl 0 hgl).trans lc0
 have hgl:=zT hgl B0.size
 have CELLF:Hid (∀w',Below W0.heap.size W0 w'→w'.cell? ⟨w.heap.size,0,none⟩=some (.slice (some ⟨b,o,none⟩) ul cap)∧w'.cell? ⟨w.heap.size+1,0,none⟩=some (.int .i64 x)∧w'.cell? ⟨w.heap.size+1,1,none⟩=some (.int .i64 y)∧w'.cell? ⟨gl,0,none⟩=some (.slice fa DL.length fc)):=zb (fun w' hb=>by
  have e0:=(hb.block w.heap.size (by omega)).trans HQ0.out
  have e1:=(hb.block (w.heap.size+1) (by omega)).trans HP0.out
  exact⟨zC _ _ 0 _ _ _ e0,zC _ _ 0 _ _ _ e1,zC _ _ 1 _ _ _ e1,(zo hb gl 0 hgl).trans lc0⟩)
 clear hW0 hP0 hQ0 B0 HT HFR HLG
 go_wp2_with fail
 go_loopg [12] (i+1) (fun g vi wr=>PaRel (q3L DL lo hi true HF HL i x y uns) W0 0 (i+1) g vi wr)
 case atStart=>exact⟨0,zL _,by omega,by omega,rfl,fun j h1 h2=>absurd h2 (by omega),zB _ _⟩
 case round =>
  obtain⟨k,hk0,hk,hg,rfl,hf,hbel⟩:=hrel
  have HG:=zb hg
  have HFF:=zb hf
  have HB:=zb hbel
  obtain⟨cb,cx,cy,cf⟩:=CELLF.out _ hbel
  have hzr:w.heap.size+1<wr.heap.size:=by have:=hbel.size;omega
  clear hg hf hbel
  by_cases hkn:k<i+1
  ·have hkd:k<DL.length:=by omega
   have HSP:=zb (q4d _ u lo hi hS _ DL k i (by omega) (by omega) wr (HF0.out.below HB.out) (HL0.out.below HB.out))
   rw[←q1i (show i<DL.length by omega),←q1i (show k<DL.length by omega)]at HSP
   obtain⟨gt,rfl,hgt,t1,t2,_⟩:=(HT0.out.lst.below HB.out).load hkd
   have CELL:Hid (∀w',Below W0.heap.size W0 w'→w'.rangeAt gt (k*10) (zx (zf (HL k)))∧w'.cell? ⟨w.heap.size+1,0,none⟩=some (.int .i64 x)∧w'.cell? ⟨w.heap.size+1,1,none⟩=some (.int .i64 y)):=zb (fun w' hb=>by
    obtain⟨g',e',_,_,_,hr⟩:=(HT0.out.lst.below hb).load hkd
    simp only[Option.some.injEq,Addr.mk.injEq,and_true]at e'
    subst e'
    exact q6q hr ((hb.block _ (by omega)).trans HP0.out))
   have HHK:=zb (HHAS.out k)
   obtain⟨cs,hcs⟩:∃cs,cs=zx (zf (HL k)):=⟨_,rfl⟩
   have hcl:(Tryz.prog.info? 47).map (·.size)=some cs.length:=by rw[hcs];kernel_rfl
   have hcu:=Tryz.underlying47
   rw[show zn (zf (HL k))=.agg cs.toArray by rw[hcs]]at HHK
   rw[←hcs]at CELL
   clear hcs
   unfold maxLen at t2
   have HPD:Hid (q3L DL lo hi true HF HL i x y uns k=(q2I lo hi (q0i DL i-q0i DL k)&&HL k x y&&(!true || q4S HF (k+1) (i:Int) x y uns))):=zb rfl
   have HY:=zb (HYES.out k hk0 (by omega))
   have HNX:Hid (q3L DL lo hi true HF HL i x y uns k=false→∀j,0≤j→j<k+1→q3L DL lo hi true HF HL i x y uns j=false):=zb (fun h j h1 h2=>by by_cases e:j=k;(rw[e];exact h);exact HFF.out j h1 (by omega))
   generalize q2I lo hi (q0i DL i-q0i DL k)=sp at *
   generalize HL k x y=q at *
   have HAL:Hid (∀W,TabsAt W (.slice (some ⟨gl,0,none⟩) 2 cl) true (.slice fa DL.length fc) (.slice (some ⟨gt,0,none⟩) DL.length tc) DL.length HF HL→Calls Tryz.prog 194 #[.slice fa DL.length fc,.int .i64 ((k:Int)+1),.int .i64 (i:Int),.agg #[.int .i64 x,.int .i64 y],.bool uns] W fun e w'=>e=.returned (.bool (q4S HF (k+1) (i:Int) x y uns))∧Below W.heap.size W w'):=zb (fun W q'=>j0B _ DL.length HF (k+1) (i:Int) x y hx hy uns W q'.fst (by omega) (by omega) (by omega))
   generalize q4S HF (k+1) (i:Int) x y uns=al at *
   go_wp2_with fail
   refine(HSP.out).mono ?_
   rintro e w3 ⟨rfl,b3⟩
   have HB3:=zb (HB.out.trans (b3.mono HB.out.size))
   have C0:=CELL.out _ HB3.out.drew
   have hz3:w.heap.size+1<w3.heap.size:=by have:=b3.size;omega
   clear b3 cb cx cy cf
   go_wp2_with fail
   go_region_held3 (fun w'=>w'.rangeAt gt (k*10) cs∧w'.cell? ⟨w.heap.size+1,0,none⟩=some (.int .i64 x)∧w'.cell? ⟨w.heap.size+1,1,none⟩=some (.int .i64 y)) (first|go_keep|(exact C0)|(exact CELL.out _ B4)) ((go_at_call 26;refine(HHK.out _).mono ?_;rintro e w4 ⟨rfl,b4⟩;have B4:Below W0.heap.size W0 w4:=HB3.out.drew.trans (b4.mono HB3.out.drew.size)))
   have HB4:=zb B4
   clear C0 CELL HHK b4 B4 hcl hcu
   have hg1:0<gk:=by have:=HG.out;omega
   cases sp with
   |false =>
    go_wp2_with fail
    go_roundg (gk-1)
    case measure=>omega
    case rel=>exact⟨k+1,by omega,by omega,by have:=HG.out;omega,by go_num,HNX.out (by rw[HPD.out];simp only[Bool.false_and]),HB4.out⟩
   |true =>
    cases q with
    |false =>
     go_wp2_with fail
     go_roundg (gk-1)
     case measure=>omega
     case rel=>exact⟨k+1,by omega,by omega,by have:=HG.out;omega,by go_num,HNX.out (by rw[HPD.out];simp only[Bool.and_false,Bool.false_and]),HB4.out⟩
    |true =>
     obtain⟨cb,cx,cy,cf⟩:=CELLF.out _ HB4.out.drew
     have huns:=HUNS.out
     have hwr:IntKind.i64.wrap (((k:Int)+1))=((k:Int)+1):=by rw[IntKind.wrap_i64];omega
     generalize hd u=wd at *
     go_wp2_with fail
     go_region_held3 (fun w'=>w'.cell? ⟨w.heap.size,0,none⟩=some (.slice (some ⟨b,o,none⟩) ul cap)∧w'.cell? ⟨w.heap.size+1,0,none⟩=some (.int .i64 x)∧w'.cell? ⟨w.heap.size+1,1,none⟩=some (.int .i64 y)∧w'.cell? ⟨gl,0,none⟩=some (.slice fa DL.length fc)) (first|go_keep|(exact⟨cb,cx,cy,cf⟩)|(exact CELLF.out _ B5)|(exact CELLF.out _ B6)) ((first|(go_at_call 153;refine(HWD.out _ (HF0.out.below HB4.out.drew)).mono ?_;rintro e w5 ⟨rfl,b5⟩;have B5:Below W0.heap.size W0 w5:=HB4.out.drew.trans (b5.mono HB4.out.drew.size))|(rw[←huns];go_at_call 194;refine(HAL.out _ (HT0.out.below B5)).mono ?_;rintro e w6 ⟨rfl,b6⟩;have B6:Below W0.heap.size W0 w6:=B5.trans (b6.mono B5.size))))
     have HB6:=zb B6
     clear b5 b6 B5 B6 HAL HWD
     cases al with
     |false =>
      go_wp2_with fail
      go_roundg (gk-1)
      case measure=>omega
      case rel=>exact⟨k+1,by omega,by omega,by have:=HG.out;omega,by go_num,HNX.out (by rw[HPD.out];rfl),HB6.out⟩
     |true =>
      have hR:=HY.out (by rw[HPD.out];rfl)
      subst hR
      go_wp2_with fail
      go_ret
      exact⟨rfl,HB0.out.trans (HB6.out.mono HB0.out.size)⟩
  ·have hR:=HNO.out (fun j h1 h2=>HFF.out j h1 (by omega))
   subst hR
   go_wp2_with fail
   go_ret
   exact⟨rfl,HB0.out.trans (HB.out.mono HB0.out.size)⟩
theorem j4c (v:Value)(u:List Tok)(lo hi:By)(hS:SpanIn u lo hi)(lv dv:Value)(DL:List (LPt × Value))(vF vL:Value)(HF HL:Nat→Nat→Nat→Bool)(i x y:Nat)(hi':i<DL.length)(hx:x<10)(hy:y<10)(w:World)(h:qB w v u)(hT:TabsAt w lv false vF vL DL.length HF HL)(hL:DLogAt w dv DL) :
  Calls Tryz.prog 188 #[v,lv,dv,.int .i64 i,.agg #[.int .i64 x,.int .i64 y]] w fun e w'=>e=.returned (.bool (q7x DL lo hi false HF HL i x y (hd u==[117,110,117,110,116,105,108])))∧Below w.heap.size w w':=by
 obtain⟨b,o,cap,rfl,h1,h2,h3,h4,h5,h6⟩:=qe h
 obtain⟨da,dc,rfl⟩:=qr hL.row
 obtain⟨gl,cl,rfl,hgl,l1,l2,lc1⟩:=hT.one
 obtain⟨fa,fc,rfl⟩:=hT.fst.form
 obtain⟨ta,tc,rfl⟩:=hT.lst.form
 have hsm:=hL.small
 have HT:=zb hT
 have HFR:=zb h
 have HLG:=zb hL
 obtain⟨uns,huns⟩:∃q,q=(hd u==[117,110,117,110,116,105,108]):=⟨_,rfl⟩
 rw[←huns]
 have HNO:=zb (@q6t (q6d DL lo hi false HF HL i x y uns) i (DL.length-i))
 have HYES:=zb (@q3C (q6d DL lo hi false HF HL i x y uns) i (DL.length-i))
 have HRD:Hid (q7x DL lo hi false HF HL i x y uns=(List.range' i (DL.length-i)).any (q6d DL lo hi false HF HL i x y uns)):=zb rfl
 rw[←HRD.out]at HNO HYES
 have HHAS:=zb (fun k=>q2a (HL k) x y hx hy)
 generalize q7x DL lo hi false HF HL i x y uns=R at *
 have HWD:=zb (fun W (q:qB W (.agg #[.slice (some ⟨b,o,none⟩) u.length cap]) u)=>q0b _ u W q)
 have HUNS:=zb huns
 clear h h6 hT hL HRD huns
 unfold maxLen at h2 l2
 generalize hun:u.length=ul at *
 have HUL:=zb hun
 clear hun
 go_enter Tryz.func188,Tryz.ntmps188
 go_wp2_with fail
 obtain⟨W0,hW0⟩:∃W:World,W=(w.alloc (.cells #[.slice (some ⟨b,o,none⟩) ul cap] 149)).alloc (.cells #[.int .i64 x,.int .i64 y] 262):=⟨_,rfl⟩
 rw[←hW0]
 have hP0:W0.heap[w.heap.size+1]?=some (.cells #[.int .i64 x,.int .i64 y] 262 (0,0)):=by
  have e:w.heap.size+1=(w.alloc (.cells #[.slice (some ⟨b,o,none⟩) ul cap] 149)).heap.size:=by simp
  rw[hW0,e];exact zN _ _
 have hQ0:W0.heap[w.heap.size]?=some (.cells #[.slice (some ⟨b,o,none⟩) ul cap] 149 (0,0)):=by
  rw[hW0,zO _ _ (by simp)];exact zN _ _
 have hz0:w.heap.size+2=W0.heap.size:=by rw[hW0];simp
 have B0:Below w.heap.size w W0:=by rw[hW0];exact((zB _ _).alloc (zL _) _).alloc (by simp) _
 have HB0:=zb B0
 have HP0:=zb hP0
 have HQ0:=zb hQ0
 have HT0:=zb (HT.out.below B0)
 have HF0:=zb (HFR.out.below B0)
 have HL0:=zb (HLG.out.below B0)
 have lc1:=(zo B0 gl 0 hgl).trans lc1
 have hgl:=zT hgl B0.size
 have CELLF:Hid (∀w',Below W0.heap.size W0 w'→w'.cell? ⟨w.heap.size,0,none⟩=some (.slice (some ⟨b,o,none⟩) ul cap)∧w'.cell? ⟨w.heap.size+1,0,none⟩=some (.int .i64 x)∧w'.cell? ⟨w.heap.size+1,1,none⟩=some (.int .i64 y)):=zb (fun w' hb=>by
  have e0:=(hb.block w.heap.size (by omega)).trans HQ0.out
  have e1:=(hb.block (w.heap.size+1) (by omega)).trans HP0.out
  exact⟨zC _ _ 0 _ _ _ e0,zC _ _ 0 _ _ _ e1,zC _ _ 1 _ _ _ e1⟩)
 clear hW0 hP0 hQ0 B0 HT HFR HLG
 go_wp2_with fail
 go_loopg [12] (DL.length) (fun g vi wr=>PaRel (q6d DL lo hi false HF HL i x y uns) W0 i (DL.length) g vi wr)
 case atStart=>exact⟨i,zL _,by omega,by omega,rfl,fun j h1 h2=>absurd h2 (by omega),zB _ _⟩
 case round =>
  obtain⟨k,hk0,hk,hg,rfl,hf,hbel⟩:=hrel
  have HG:=zb hg
  have HFF:=zb hf
  have HB:=zb hbel
  obtain⟨cb,cx,cy⟩:=CELLF.out _ hbel
  have hzr:w.heap.size+1<wr.heap.size:=by have:=hbel.size;omega
  clear hg hf hbel
  by_cases hkn:k<DL.length
  ·have hkd:k<DL.length:=by omega
   have HSP:=zb (q4d _ u lo hi hS _ DL i k (by omega) (by omega) wr (HF0.out.below HB.out) (HL0.out.below HB.out))
   rw[←q1i (show k<DL.length by omega),←q1i (show i<DL.length by omega)]at HSP
   obtain⟨gt,rfl,hgt,t1,t2,_⟩:=(HT0.out.lst.below HB.out).load hkd
   have CELL:Hid (∀w',Below W0.heap.size W0 w'→w'.rangeAt gt (k*10) (zx (zf (HL k)))∧w'.cell? ⟨w.heap.size+1,0,none⟩=some (.int .i64 x)∧w'.cell? ⟨w.heap.size+1,1,none⟩=some (.int .i64 y)):=zb (fun w' hb=>by
    obtain⟨g',e',_,_,_,hr⟩:=(HT0.out.lst.below hb).load hkd
    simp only[Option.some.injEq,Addr.mk.injEq,and_true]at e'
    subst e'
    exact q6q hr ((hb.block _ (by omega)).trans HP0.out))
   have HHK:=zb (HHAS.out k)
   obtain⟨cs,hcs⟩:∃cs,cs=zx (zf (HL k)):=⟨_,rfl⟩
   have hcl:(Tryz.prog.info? 47).map (·.size)=some cs.length:=by rw[hcs];kernel_rfl
   have hcu:=Tryz.underlying47
   rw[show zn (zf (HL k))=.agg cs.toArray by rw[hcs]]at HHK
   rw[←hcs]at CELL
   clear hcs
   unfold maxLen at t2
   have HPD:Hid (q6d DL lo hi false HF HL i x y uns k=(q2I lo hi (q0i DL k-q0i DL i)&&HL k x y&&(!false || q4S HF i ((k:Int)-1) x y uns))):=zb rfl
   have HY:=zb (HYES.out k hk0 (by omega))
   have HNX:Hid (q6d DL lo hi false HF HL i x y uns k=false→∀j,i≤j→j<k+1→q6d DL lo hi false HF HL i x y uns j=false):=zb (fun h j h1 h2=>by by_cases e:j=k;(rw[e];exact h);exact HFF.out j h1 (by omega))
   generalize q2I lo hi (q0i DL k-q0i DL i)=sp at *
   generalize HL k x y=q at *
   go_wp2_with fail
   refine(HSP.out).mono ?_
   rintro e w3 ⟨rfl,b3⟩
   have HB3:=zb (HB.out.trans (b3.mono HB.out.size))
   have C0:=CELL.out _ HB3.out.drew
   have hz3:w.heap.size+1<w3.heap.size:=by have:=b3.size;omega
   clear b3 cb cx cy
   go_wp2_with fail
   go_region_held3 (fun w'=>w'.rangeAt gt (k*10) cs∧w'.cell? ⟨w.heap.size+1,0,none⟩=some (.int .i64 x)∧w'.cell? ⟨w.heap.size+1,1,none⟩=some (.int .i64 y)) (first|go_keep|(exact C0)|(exact CELL.out _ B4)) ((go_at_call 26;refine(HHK.out _).mono ?_;rintro e w4 ⟨rfl,b4⟩;have B4:Below W0.heap.size W0 w4:=HB3.out.drew.trans (b4.mono HB3.out.drew.size)))
   have HB4:=zb B4
   clear C0 CELL HHK b4 B4 hcl hcu
   have hg1:0<gk:=by have:=HG.out;omega
   cases sp with
   |false =>
    go_wp2_with fail
    go_roundg (gk-1)
    case measure=>omega
    case rel=>exact⟨k+1,by omega,by omega,by have:=HG.out;omega,by go_num,HNX.out (by rw[HPD.out];simp only[Bool.false_and]),HB4.out⟩
   |true =>
    cases q with
    |false =>
     go_wp2_with fail
     go_roundg (gk-1)
     case measure=>omega
     case rel=>exact⟨k+1,by omega,by omega,by have:=HG.out;omega,by go_num,HNX.out (by rw[HPD.out];simp only[Bool.and_false,Bool.false_and]),HB4.out⟩
    |true =>
     have hR:=HY.out (by rw[HPD.out];rfl)
     subst hR
     go_wp2_with fail
     go_ret
     exact⟨rfl,HB0.out.trans (HB4.out.mono HB0.out.size)⟩
  ·have hR:=HNO.out (fun j h1 h2=>HFF.out j h1 (by omega))
   subst hR
   go_wp2_with fail
   go_ret
   exact⟨rfl,HB0.out.trans (HB.out.mono HB0.out.size)⟩
theorem q9h (v:Value)(u:List Tok)(lo hi:By)(hS:SpanIn u lo hi)(lv dv:Value)(DL:List (LPt × Value))(vF vL:Value)(HF HL:Nat→Nat→Nat→Bool)(i x y:Nat)(hi':i<DL.length)(hx:x<10)(hy:y<10)(w:World)(h:qB w v u)(hT:TabsAt w lv true vF vL DL.length HF HL)(hL:DLogAt w dv DL) :
  Calls Tryz.prog 188 #[v,lv,dv,.int .i64 i,.agg #[.int .i64 x,.int .i64 y]] w fun e w'=>e=.returned (.bool (q7x DL lo hi true HF HL i x y (hd u==[117,110,117,110,116,105,108])))∧Below w.heap.size w w':=by
 obtain⟨b,o,cap,rfl,h1,h2,h3,h4,h5,h6⟩:=qe h
 obtain⟨da,dc,rfl⟩:=qr hL.row
 obtain⟨gl,cl,rfl,hgl,l1,l2,lc0,lc1⟩:=hT.two
 obtain⟨fa,fc,rfl⟩:=hT.fst.form
 obtain⟨ta,tc,rfl⟩:=hT.lst.form
 have hsm:=hL.small
 have HT:=zb hT
 have HFR:=zb h
 have HLG:=zb hL
 obtain⟨uns,huns⟩:∃q,q=(hd u==[117,110,117,110,116,105,108]):=⟨_,rfl⟩
 rw[←huns]
 have HNO:=zb (@q6t (q6d DL lo hi true HF HL i x y uns) i (DL.length-i))
 have HYES:=zb (@q3C (q6d DL lo hi true HF HL i x y uns) i (DL.length-i))
 have HRD:Hid (q7x DL lo hi true HF HL i x y uns=(List.range' i (DL.length-i)).any (q6d DL lo hi true HF HL i x y uns)):=zb rfl
 rw[←HRD.out]at HNO HYES
 have HHAS:=zb (fun k=>q2a (HL k) x y hx hy)
 generalize q7x DL lo hi true HF HL i x y uns=R at *
 have HWD:=zb (fun W (q:qB W (.agg #[.slice (some ⟨b,o,none⟩) u.length cap]) u)=>q0b _ u W q)
 have HUNS:=zb huns
 clear h h6 hT hL HRD huns
 unfold maxLen at h2 l2
 generalize hun:u.length=ul at *
 have HUL:=zb hun
 clear hun
 go_enter Tryz.func188,Tryz.ntmps188
 go_wp2_with fail
 obtain⟨W0,hW0⟩:∃W:World,W=(w.alloc (.cells #[.slice (some ⟨b,o,none⟩) ul cap] 149)).alloc (.cells #[.int .i64 x,.int .i64 y] 262):=⟨_,rfl⟩
 rw[←hW0]
 have hP0:W0.heap[w.heap.size+1]?=some (.cells #[.int .i64 x,.int .i64 y] 262 (0,0)):=by
  have e:w.heap.size+1=(w.alloc (.cells #[.slice (some ⟨b,o,none⟩) ul cap] 149)).heap.size:=by simp
  rw[hW0,e];exact zN _ _
 have hQ0:W0.heap[w.heap.size]?=some (.cells #[.slice (some ⟨b,o,none⟩) ul cap] 149 (0,0)):=by
  rw[hW0,zO _ _ (by simp)];exact zN _ _
 have hz0:w.heap.size+2=W0.heap.size:=by rw[hW0];simp
 have B0:Below w.heap.size w W0:=by rw[hW0];exact((zB _ _).alloc (zL _) _).alloc (by simp) _
 have HB0:=zb B0
 have HP0:=zb hP0
 have HQ0:=zb hQ0
 have HT0:=zb (HT.out.below B0)
 have HF0:=zb (HFR.out.below B0)
 have HL0:=zb (HLG.out.below B0)
 have lc1:=(zo B0 gl 1 hgl).trans lc1
 have lc0:=(zo B0 gl 0 hgl).trans lc0
 have hgl:=zT hgl B0.size
 have CELLF:Hid (∀w',Below W0.heap.size W0 w'→w'.cell? ⟨w.heap.size,0,none⟩=some (.slice (some ⟨b,o,none⟩) ul cap)∧w'.cell? ⟨w.heap.size+1,0,none⟩=some (.int .i64 x)∧w'.cell? ⟨w.heap.size+1,1,none⟩=some (.int .i64 y)∧w'.cell? ⟨gl,0,none⟩=some (.slice fa DL.length fc)):=zb (fun w' hb=>by
  have e0:=(hb.block w.heap.size (by omega)).trans HQ0.out
  have e1:=(hb.block (w.heap.size+1) (by omega)).trans HP0.out
  exact⟨zC _ _ 0 _ _ _ e0,zC _ _ 0 _ _ _ e1,zC _ _ 1 _ _ _ e1,(zo hb gl 0 hgl).trans lc0⟩)
 clear hW0 hP0 hQ0 B0 HT HFR HLG
 go_wp2_with fail
 go_loopg [12] (DL.length) (fun g vi wr=>PaRel (q6d DL lo hi true HF HL i x y uns) W0 i (DL.length) g vi wr)
 case atStart=>exact⟨i,zL _,by omega,by omega,rfl,fun j h1 h2=>absurd h2 (by omega),zB _ _⟩
 case round =>
  obtain⟨k,hk0,hk,hg,rfl,hf,hbel⟩:=hrel
  have HG:=zb hg
  have HFF:=zb hf
  have HB:=zb hbel
  obtain⟨cb,cx,cy,cf⟩:=CELLF.out _ hbel
  have hzr:w.heap.size+1<wr.heap.size:=by have:=hbel.size;omega
  clear hg hf hbel
  by_cases hkn:k<DL.length
  ·have hkd:k<DL.length:=by omega
   have HSP:=zb (q4d _ u lo hi hS _ DL i k (by omega) (by omega) wr (HF0.out.below HB.out) (HL0.out.below HB.out))
   rw[←q1i (show k<DL.length by omega),←q1i (show i<DL.length by omega)]at HSP
   obtain⟨gt,rfl,hgt,t1,t2,_⟩:=(HT0.out.lst.below HB.out).load hkd
   have CELL:Hid (∀w',Below W0.heap.size W0 w'→w'.rangeAt gt (k*10) (zx (zf (HL k)))∧w'.cell? ⟨w.heap.size+1,0,none⟩=some (.int .i64 x)∧w'.cell? ⟨w.heap.size+1,1,none⟩=some (.int .i64 y)):=zb (fun w' hb=>by
    obtain⟨g',e',_,_,_,hr⟩:=(HT0.out.lst.below hb).load hkd
    simp only[Option.some.injEq,Addr.mk.injEq,and_true]at e'
    subst e'
    exact q6q hr ((hb.block _ (by omega)).trans HP0.out))
   have HHK:=zb (HHAS.out k)
   obtain⟨cs,hcs⟩:∃cs,cs=zx (zf (HL k)):=⟨_,rfl⟩
   have hcl:(Tryz.prog.info? 47).map (·.size)=some cs.length:=by rw[hcs];kernel_rfl
   have hcu:=Tryz.underlying47
   rw[show zn (zf (HL k))=.agg cs.toArray by rw[hcs]]at HHK
   rw[←hcs]at CELL
   clear hcs
   unfold maxLen at t2
   have HPD:Hid (q6d DL lo hi true HF HL i x y uns k=(q2I lo hi (q0i DL k-q0i DL i)&&HL k x y&&(!true || q4S HF i ((k:Int)-1) x y uns))):=zb rfl
   have HY:=zb (HYES.out k hk0 (by omega))
   have HNX:Hid (q6d DL lo hi true HF HL i x y uns k=false→∀j,i≤j→j<k+1→q6d DL lo hi true HF HL i x y uns j=false):=zb (fun h j h1 h2=>by by_cases e:j=k;(rw[e];exact h);exact HFF.out j h1 (by omega))
   generalize q2I lo hi (q0i DL k-q0i DL i)=sp at *
   generalize HL k x y=q at *
   have HAL:Hid (∀W,TabsAt W (.slice (some ⟨gl,0,none⟩) 2 cl) true (.slice fa DL.length fc) (.slice (some ⟨gt,0,none⟩) DL.length tc) DL.length HF HL→Calls Tryz.prog 194 #[.slice fa DL.length fc,.int .i64 (i:Int),.int .i64 ((k:Int)-1),.agg #[.int .i64 x,.int .i64 y],.bool uns] W fun e w'=>e=.returned (.bool (q4S HF i ((k:Int)-1) x y uns))∧Below W.heap.size W w'):=zb (fun W q'=>j0B _ DL.length HF i ((k:Int)-1) x y hx hy uns W q'.fst (by omega) (by omega) (by omega))
   generalize q4S HF i ((k:Int)-1) x y uns=al at *
   go_wp2_with fail
   refine(HSP.out).mono ?_
   rintro e w3 ⟨rfl,b3⟩
   have HB3:=zb (HB.out.trans (b3.mono HB.out.size))
   have C0:=CELL.out _ HB3.out.drew
   have hz3:w.heap.size+1<w3.heap.size:=by have:=b3.size;omega
   clear b3 cb cx cy cf
   go_wp2_with fail
   go_region_held3 (fun w'=>w'.rangeAt gt (k*10) cs∧w'.cell? ⟨w.heap.size+1,0,none⟩=some (.int .i64 x)∧w'.cell? ⟨w.heap.size+1,1,none⟩=some (.int .i64 y)) (first|go_keep|(exact C0)|(exact CELL.out _ B4)) ((go_at_call 26;refine(HHK.out _).mono ?_;rintro e w4 ⟨rfl,b4⟩;have B4:Below W0.heap.size W0 w4:=HB3.out.drew.trans (b4.mono HB3.out.drew.size)))
   have HB4:=zb B4
   clear C0 CELL HHK b4 B4 hcl hcu
   have hg1:0<gk:=by have:=HG.out;omega
   cases sp with
   |false =>
    go_wp2_with fail
    go_roundg (gk-1)
    case measure=>omega
    case rel=>exact⟨k+1,by omega,by omega,by have:=HG.out;omega,by go_num,HNX.out (by rw[HPD.out];simp only[Bool.false_and]),HB4.out⟩
   |true =>
    cases q with
    |false =>
     go_wp2_with fail
     go_roundg (gk-1)
     case measure=>omega
     case rel=>exact⟨k+1,by omega,by omega,by have:=HG.out;omega,by go_num,HNX.out (by rw[HPD.out];simp only[Bool.and_false,Bool.false_and]),HB4.out⟩
    |true =>
     obtain⟨cb,cx,cy,cf⟩:=CELLF.out _ HB4.out.drew
     have huns:=HUNS.out
     have hwr:IntKind.i64.wrap (((k:Int)-1))=((k:Int)-1):=by rw[IntKind.wrap_i64];omega
     generalize hd u=wd at *
     go_wp2_with fail
     go_region_held3 (fun w'=>w'.cell? ⟨w.heap.size,0,none⟩=some (.slice (some ⟨b,o,none⟩) ul cap)∧w'.cell? ⟨w.heap.size+1,0,none⟩=some (.int .i64 x)∧w'.cell? ⟨w.heap.size+1,1,none⟩=some (.int .i64 y)∧w'.cell? ⟨gl,0,none⟩=some (.slice fa DL.length fc)) (first|go_keep|(exact⟨cb,cx,cy,cf⟩)|(exact CELLF.out _ B5)|(exact CELLF.out _ B6)) ((first|(go_at_call 153;refine(HWD.out _ (HF0.out.below HB4.out.drew)).mono ?_;rintro e w5 ⟨rfl,b5⟩;have B5:Below W0.heap.size W0 w5:=HB4.out.drew.trans (b5.mono HB4.out.drew.size))|(rw[←huns];go_at_call 194;refine(HAL.out _ (HT0.out.below B5)).mono ?_;rintro e w6 ⟨rfl,b6⟩;have B6:Below W0.heap.size W0 w6:=B5.trans (b6.mono B5.size))))
     have HB6:=zb B6
     clear b5 b6 B5 B6 HAL HWD
     cases al with
     |false =>
      go_wp2_with fail
      go_roundg (gk-1)
      case measure=>omega
      case rel=>exact⟨k+1,by omega,by omega,by have:=HG.out;omega,by go_num,HNX.out (by rw[HPD.out];rfl),HB6.out⟩
     |true =>
      have hR:=HY.out (by rw[HPD.out];rfl)
      subst hR
      go_wp2_with fail
      go_ret
      exact⟨rfl,HB0.out.trans (HB6.out.mono HB0.out.size)⟩
  ·have hR:=HNO.out (fun j h1 h2=>HFF.out j h1 (by omega))
   subst hR
   go_wp2_with fail
   go_ret
   exact⟨rfl,HB0.out.trans (HB.out.mono HB0.out.size)⟩
end Go.Proofs.YtiamjjonoeaggaaGreatDoor
