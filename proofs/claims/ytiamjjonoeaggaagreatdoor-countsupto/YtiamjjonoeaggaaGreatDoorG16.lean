import Derived.Test.YtiamjjonoeaggaaGreatDoorGA
import Derived.Test.YtiamjjonoeaggaaGreatDoorG05
import Derived.Test.YtiamjjonoeaggaaGreatDoorG13
import Derived.Test.YtiamjjonoeaggaaGreatDoorG15
import Derived.Lib.SmallJoins
set_option maxRecDepth 100000
set_option maxHeartbeats 16000000
namespace Go.Proofs.YtiamjjonoeaggaaGreatDoor
open Go.RowKit
def digT (x:Nat):By:=[UInt8.ofNat (48+x)]
theorem ten_nat {x:Nat}(h:x<10):x=0∨x=1∨x=2∨x=3∨x=4∨x=5∨x=6∨x=7∨x=8∨x=9:=by omega
theorem j7z (x:Nat)(hx:x<10)(w:World):Calls Tryz.prog 86 #[.int .i64 x] w fun e w'=>e=.returned (bs (digT x))∧w'=w:=by
 rcases ten_nat hx with rfl|rfl|rfl|rfl|rfl|rfl|rfl|rfl|rfl|rfl <;>
 ·go_enter Tryz.func86,Tryz.ntmps86
  go_wp2
  go_ret
  exact⟨by rfl,rfl⟩
theorem j1j (x:Nat)(hx:x<10)(w:World):Calls Tryz.prog 61 #[.int .i64 x,.int .i64 10] w fun e w'=>e=.returned (bs (digT x))∧w'=w:=by
 have H:=zb (j7z x hx)
 go_enter Tryz.func61,Tryz.ntmps61
 go_wp2_with fail
 refine(H.out _).mono ?_
 rintro e w1 ⟨rfl,rfl⟩
 go_wp2_with fail
 go_ret
 exact⟨rfl,rfl⟩
theorem j4s (x:Nat)(hx:x<10)(w:World):Calls Tryz.prog 23 #[.int .i64 x] w fun e w'=>e=.returned (bs (digT x))∧w'=w:=by
 have H:=zb (j1j x hx)
 have h2:Calls Tryz.prog 45 #[.int .i64 x] w fun e w'=>e=.returned (bs (digT x))∧w'=w:=by
  go_enter Tryz.func45,Tryz.ntmps45
  go_wp2_with fail
  refine(H.out _).mono ?_
  rintro e w1 ⟨rfl,rfl⟩
  go_wp2_with fail
  go_ret
  exact⟨rfl,rfl⟩
 have H2:=zb h2
 clear h2 H
 go_enter Tryz.func23,Tryz.ntmps23
 go_wp2_with fail
 refine H2.out.mono ?_
 rintro e w1 ⟨rfl,rfl⟩
 go_wp2_with fail
 go_ret
 exact⟨rfl,rfl⟩
theorem j5e (a c:By):ByteArray.mk a.toArray++ByteArray.mk c.toArray=ByteArray.mk (a++c).toArray:=by
 apply ByteArray.ext
 rw[ByteArray.data_append]
 simp
def q9J (a:By)(x y:Nat):By:=if a==[120]then digT x else if a==[121]then digT y else a
def q5p (u:List Tok)(x y k:Nat):By:=hd u++((u.take k).drop 1).flatMap fun t=>q9J t.text x y
theorem j7x {u:List Tok}{x y k:Nat}(h1:1≤k)(h:k<u.length):q5p u x y (k+1)=q5p u x y k++q9J (u[k]).text x y:=by
 unfold q5p
 rw[List.take_succ_eq_append_getElem h,List.drop_append_of_le_length (by simp;omega),List.flatMap_append,List.append_assoc]
 simp
theorem j5t (v:Value)(u:List Tok)(x y:Nat)(hx:x<10)(hy:y<10)(hsh:∀k,(q5p u x y k).length≤100)(w:World)(h:qB w v u) :
  Calls Tryz.prog 189 #[v,.agg #[.int .i64 x,.int .i64 y]] w fun e w'=>e=.returned (bs (q5p u x y u.length))∧Below w.heap.size w w':=by
 obtain⟨b,o,cap,rfl,h1,h2,h3,h4,h5,h6⟩:=qe h
 have HX:=zb (j4s x hx)
 have HY:=zb (j4s y hy)
 unfold maxLen at h2
 have q0:=h6 0 h4
 rw[j5V h4]at q0
 obtain⟨c0,_⟩:=q0
 have HCELL:=zb h6
 have H1:Hid (q5p u x y 1=hd u):=zb (by unfold q5p;cases u<;>simp)
 have HSH:=zb hsh
 have HSU:=zb (fun k a b=>@j7x u x y k a b)
 clear h h6 hsh
 rw[show o+0*2=o by omega]at c0
 go_enter Tryz.func189,Tryz.ntmps189
 go_wp2_with fail
 go_loop [5,6] (fun vs vi=>∃k:Nat,1≤k∧k≤u.length∧vi=.int .i64 k∧vs=bs (q5p u x y k)) (fun _ vi=>u.length-(intOf vi).toNat)
 case atStart=>exact⟨1,zL _,h4,rfl,by rw[H1.out]⟩
 case round =>
  obtain⟨k,hk1,hk,rfl,rfl⟩:=hrel
  by_cases hkn:k<u.length
  ·have hc1:=(HCELL.out k hkn).1
   have HN:=zb (HSU.out k hk1 hkn)
   have hs1:=HSH.out k
   have hs2:=HSH.out (k+1)
   obtain⟨R,hRk⟩:∃R,R=q5p u x y (k+1):=⟨_,rfl⟩
   rw[←hRk]at HN hs2
   have HRK:=zb hRk
   clear hRk
   generalize q5p u x y k=S at *
   generalize (u[k]).text=t at *
   have hdx:(digT x).length≤1:=zL _
   have hdy:(digT y).length≤1:=zL _
   by_cases ex:t=[120]
   ·subst ex
    have HR:Hid (R=S++digT x):=zb (by rw[HN.out];rfl)
    clear HN
    go_wp2_with fail
    refine(HX.out _).mono ?_
    rintro e w1 ⟨rfl,rfl⟩
    go_wp2_with fail
    go_round
    case rel=>exact⟨k+1,by omega,by omega,by go_num,by rw[←HRK.out,HR.out,j5e]⟩
    case measure=>simp[intOf];omega
   ·have ex':(t==[120])=false:=by simpa using ex
    by_cases ey:t=[121]
    ·subst ey
     have HR:Hid (R=S++digT y):=zb (by rw[HN.out];rfl)
     clear HN
     go_wp2_with fail
     refine(HY.out _).mono ?_
     rintro e w1 ⟨rfl,rfl⟩
     go_wp2_with fail
     go_round
     case rel=>exact⟨k+1,by omega,by omega,by go_num,by rw[←HRK.out,HR.out,j5e]⟩
     case measure=>simp[intOf];omega
    ·have ey':(t==[121])=false:=by simpa using ey
     have HR:Hid (R=S++t):=zb (by rw[HN.out];unfold q9J;rw[ex',ey'];rfl)
     have hlt:t.length≤100:=by rw[HR.out,List.length_append]at hs2;omega
     clear HN
     go_wp2_with fail
     go_round
     case rel=>exact⟨k+1,by omega,by omega,by go_num,by rw[←HRK.out,HR.out,j5e]⟩
     case measure=>simp[intOf];omega
  ·have hke:k=u.length:=by omega
   subst hke
   go_wp2_with fail
   go_ret
   exact⟨rfl,Joins.below_alloc2 _ _ _⟩
abbrev zs (DL:List (LPt × Value)):List LPt:=DL.map Prod.fst
theorem q5s (DL:List (LPt × Value))(i:Nat):q0i DL i=(tmL (zs DL) i:Int):=by
 unfold q0i tmL zs
 rw[List.getElem?_map]
 cases DL[i]?<;>rfl
theorem j1S {y:Pay}{l r:zl}(h:NodeOk y l r)(base p sp t:Nat):q2I y.lo y.hi (t:Int)=q0L (zz base p sp y l r) t:=by
 unfold q2I q0L
 show _=(decide (q2F y.lo≤(t:Int))&&(y.hi==[42] || decide ((t:Int)≤q2F y.hi)))
 rw[h.lo,h.hi]
theorem q8N {y:Pay}{l r:zl}(h:NodeOk y l r)(base p sp:Nat){DL:List (LPt × Value)}(hM:q9H (zs DL)){i j:Nat}(hij:j≤i)(hi:i<DL.length):q2I y.lo y.hi (q0i DL i-q0i DL j)=q0L (zz base p sp y l r) (q0l (zs DL) i j):=by
 have hm:=hM j i hij (by simpa using hi)
 rw[q5s,q5s,←j1S h,show((tmL (zs DL) i:Int)-(tmL (zs DL) j:Int))=((q0l (zs DL) i j:Nat):Int)by unfold q0l;omega]
theorem q8O {y:Pay}{l r:zl}(h:NodeOk y l r)(base p sp:Nat){DL:List (LPt × Value)}(hM:q9H (zs DL)){i j:Nat}(hij:i≤j)(hj:j<DL.length):q2I y.lo y.hi (q0i DL j-q0i DL i)=q0L (zz base p sp y l r) (q0l (zs DL) i j):=by
 have hm:=hM i j hij (by simpa using hj)
 rw[q5s,q5s,←j1S h,show((tmL (zs DL) j:Int)-(tmL (zs DL) i:Int))=((q0l (zs DL) i j:Nat):Int)by unfold q0l;omega]
theorem q7p {H:Nat→Nat→Nat→Bool}{a:Nat}{b:Int}{x y:Nat}{no:Bool}:q4S H a b x y no=true↔∀k:Nat,a≤k→(k:Int)≤b→(H k x y != no)=true:=by
 constructor
 ·intro h k h1 h2
  by_cases e:H k x y=no
  ·rw[j5K h1 h2 e]at h;simp at h
  ·simpa using e
 ·intro h
  refine j2S (fun k h1 h2=>?_)
  have:=h k h1 h2
  revert this
  cases H k x y<;>cases no<;>decide
theorem j0m {y:Pay}{l r:zl}(hN:NodeOk y l r)(base p sp:Nat){DL:List (LPt × Value)}(hM:q9H (zs DL))(two:Bool)(HF HL:Nat→Nat→Nat→Bool)(i x z:Nat)(hi:i<DL.length)(uns:Bool)(G W:Nat→Bool)(hG:∀j,G j=HL j x z)(hW:∀j,W j=(!two || (HF j x z != uns))) :
  q4M DL y.lo y.hi two HF HL i x z uns=q5b (fun j=>q0L (zz base p sp y l r) (q0l (zs DL) i j)) G W (fun m=>i-m) (i+1):=by
 unfold q4M q5b
 rw[Bool.eq_iff_iff,List.any_eq_true,List.any_eq_true]
 constructor
 ·rintro⟨j,hj,hv⟩
  have hj:=List.mem_range'_1.1 hj
  refine⟨i-j,List.mem_range.2 (by omega),?_⟩
  have e:i-(i-j)=j:=by omega
  simp only[e]
  unfold q3L at hv
  rw[Bool.and_eq_true,Bool.and_eq_true]at hv
  obtain⟨⟨h1,h2⟩,h3⟩:=hv
  rw[q8N hN base p sp hM (by omega) hi]at h1
  rw[Bool.and_eq_true,Bool.and_eq_true]
  refine⟨h1,?_,by rw[hG];exact h2⟩
  unfold q4J
  rw[List.all_eq_true]
  intro q hq
  have hq:=List.mem_range.1 hq
  show W (i-q)=true
  rw[hW]
  cases two with
  |false=>rfl
  |true =>
   have h3:q4S HF (j+1) (i:Int) x z uns=true:=by simpa using h3
   have:=q7p.1 h3 (i-q) (by omega) (by omega)
   rw[this];rfl
 ·rintro⟨m,hm,hv⟩
  have hm:=List.mem_range.1 hm
  rw[Bool.and_eq_true,Bool.and_eq_true]at hv
  obtain⟨h1,h2,h3⟩:=hv
  refine⟨i-m,List.mem_range'_1.2 (by omega),?_⟩
  unfold q3L
  rw[Bool.and_eq_true,Bool.and_eq_true]
  rw[q8N hN base p sp hM (by omega) hi]
  refine⟨⟨h1,by rw[hG]at h3;exact h3⟩,?_⟩
  cases two with
  |false=>rfl
  |true =>
   show q4S HF (i-m+1) (i:Int) x z uns=true
   refine q7p.2 (fun k k1 k2=>?_)
   unfold q4J at h2
   rw[List.all_eq_true]at h2
   have:=h2 (i-k) (List.mem_range.2 (by omega))
   have e:i-(i-k)=k:=by omega
   simp only[e]at this
   rw[hW]at this
   exact this
theorem j2h {y:Pay}{l r:zl}(hN:NodeOk y l r)(base p sp:Nat){DL:List (LPt × Value)}(hM:q9H (zs DL))(two:Bool)(HF HL:Nat→Nat→Nat→Bool)(i x z:Nat)(hi:i<DL.length)(uns:Bool)(G W:Nat→Bool)(hG:∀j,G j=HL j x z)(hW:∀j,W j=(!two || (HF j x z != uns))) :
  q7x DL y.lo y.hi two HF HL i x z uns=q5b (fun j=>q0L (zz base p sp y l r) (q0l (zs DL) i j)) G W (fun m=>i+m) ((zs DL).length-i):=by
 have hlen:(zs DL).length=DL.length:=by simp
 rw[hlen]
 unfold q7x q5b
 rw[Bool.eq_iff_iff,List.any_eq_true,List.any_eq_true]
 constructor
 ·rintro⟨j,hj,hv⟩
  have hj:=List.mem_range'_1.1 hj
  refine⟨j-i,List.mem_range.2 (by omega),?_⟩
  have e:i+(j-i)=j:=by omega
  simp only[e]
  unfold q6d at hv
  rw[Bool.and_eq_true,Bool.and_eq_true]at hv
  obtain⟨⟨h1,h2⟩,h3⟩:=hv
  rw[q8O hN base p sp hM (by omega) (by omega)]at h1
  rw[Bool.and_eq_true,Bool.and_eq_true]
  refine⟨h1,?_,by rw[hG];exact h2⟩
  unfold q4J
  rw[List.all_eq_true]
  intro q hq
  have hq:=List.mem_range.1 hq
  show W (i+q)=true
  rw[hW]
  cases two with
  |false=>rfl
  |true =>
   have h3:q4S HF i ((j:Int)-1) x z uns=true:=by simpa using h3
   have:=q7p.1 h3 (i+q) (by omega) (by omega)
   rw[this];rfl
 ·rintro⟨m,hm,hv⟩
  have hm:=List.mem_range.1 hm
  rw[Bool.and_eq_true,Bool.and_eq_true]at hv
  obtain⟨h1,h2,h3⟩:=hv
  refine⟨i+m,List.mem_range'_1.2 (by omega),?_⟩
  unfold q6d
  rw[Bool.and_eq_true,Bool.and_eq_true]
  rw[q8O hN base p sp hM (by omega) (by omega)]
  refine⟨⟨h1,by rw[hG]at h3;exact h3⟩,?_⟩
  cases two with
  |false=>rfl
  |true =>
   show q4S HF i (((i+m:Nat):Int)-1) x z uns=true
   refine q7p.2 (fun k k1 k2=>?_)
   unfold q4J at h2
   rw[List.all_eq_true]at h2
   have:=h2 (k-i) (List.mem_range.2 (by omega))
   have e:i+(k-i)=k:=by omega
   simp only[e]at this
   rw[hW]at this
   exact this
def argD (a:By)(x y:Nat):Nat:=if a==[120]then x else if a==[121]then y else((a.getD 0 0).toNat-48)
theorem q7b {a:By}(h:q3Q a=true):a=[120]∨a=[121]∨∃c:UInt8,a=[c]∧48≤c.toNat∧c.toNat≤57:=by
 unfold q3Q at h
 rw[Bool.or_eq_true]at h
 rcases h with h|h
 ·exact .inr (.inr (q6C h))
 ·rcases j2K h with h|h
  ·exact .inl h
  ·exact .inr (.inl h)
theorem j4I {a:By}(h:q3Q a=true)(x y:Nat):q9J a x y=[UInt8.ofNat (48+argD a x y)]:=by
 rcases q7b h with rfl|rfl|⟨c,rfl,h1,h2⟩
 ·rfl
 ·rfl
 ·have e1:([c]==[(120:UInt8)])=false:=by
   rw[beq_eq_false_iff_ne];intro e;injection e with e;rw[e]at h2;exact absurd h2 (by decide)
  have e2:([c]==[(121:UInt8)])=false:=by
   rw[beq_eq_false_iff_ne];intro e;injection e with e;rw[e]at h2;exact absurd h2 (by decide)
  unfold q9J argD
  rw[e1,e2]
  simp only[Bool.false_eq_true,if_false,List.getD_cons_zero]
  rw[show 48+(c.toNat-48)=c.toNat by omega,UInt8.ofNat_toNat]
theorem argD_le {a:By}(h:q3Q a=true)(x y:Nat)(hx:x<10)(hy:y<10):argD a x y≤9:=by
 unfold argD
 rcases q7b h with rfl|rfl|⟨c,rfl,h1,h2⟩
 ·simp;omega
 ·simp;omega
 ·split
  ·omega
  ·split
   ·omega
   ·simp;omega
theorem j4H {a:By}(h:q3Q a=true)(d x y:Nat):q4T (zk a) (q2F a) d x y=(argD a x y==d):=by
 rcases q7b h with rfl|rfl|⟨c,rfl,h1,h2⟩
 ·rfl
 ·rfl
 ·have hdg:qp (c.toNat:Int)=true:=by unfold qp;simp;omega
  have e1:([c]==[(120:UInt8)])=false:=by
   rw[beq_eq_false_iff_ne];intro e;injection e with e;rw[e]at h2;exact absurd h2 (by decide)
  have e2:([c]==[(121:UInt8)])=false:=by
   rw[beq_eq_false_iff_ne];intro e;injection e with e;rw[e]at h2;exact absurd h2 (by decide)
  have k1:zk [c]=1:=by simp only[zk];rw[if_pos hdg]
  have v1:q2F [c]=((c.toNat-48:Nat):Int):=by simp only[q2F];rw[if_pos hdg];simp[q0n]
  unfold q4T argD
  rw[k1,v1,e1,e2]
  simp only[Bool.false_eq_true,if_false,List.getD_cons_zero]
  rw[if_neg (by decide),if_neg (by decide),Bool.eq_iff_iff]
  simp
  omega
def q8P (nm:By)(args:List (By))(x y:Nat):By:=q5D ⟨nm,args.map fun a=>argD a x y⟩
theorem split_at {a c:By}{r s:By}(ha:∀q∈a,q≠40)(hc:∀q∈c,q≠40)(h:a++40::r=c++40::s):a=c∧r=s:=by
 induction a generalizing c with
 |nil =>
  cases c with
  |nil=>simpa using h
  |cons q c=>simp at h;exact absurd h.1.symm (hc q (by simp))
 |cons q a ih =>
  cases c with
  |nil=>simp at h;exact absurd h.1 (ha q (by simp))
  |cons q' c =>
   simp at h
   obtain⟨rfl,h⟩:=h
   have:=ih (fun q hq=>ha q (by simp[hq])) (fun q hq=>hc q (by simp[hq])) h
   exact⟨by rw[this.1],this.2⟩
theorem j5b {c:UInt8}(h:q0e (c.toNat:Int)=true):c≠40∧c.toNat≠0:=by
 unfold q0e at h
 simp at h
 constructor
 ·intro e;rw[e]at h;exact absurd h.1 (by decide)
 ·omega
theorem j2f {a b:Nat}(ha:a≤9)(hb:b≤9)(h:UInt8.ofNat (48+a)=UInt8.ofNat (48+b)):a=b:=by
 have:=congrArg UInt8.toNat h
 rw[UInt8.toNat_ofNat_of_lt' (by show 48+a<256;omega),UInt8.toNat_ofNat_of_lt' (by show 48+b<256;omega)]at this
 omega
theorem hapS_inj {g h:Hp}(hg:HpOk g)(hh:HpOk h)(e:q5D g=q5D h):g=h:=by
 obtain⟨gn,gd⟩:=g
 obtain⟨hn,hd⟩:=h
 have:=split_at (fun q hq=>(j5b (hg.nm.2.2 q hq)).1) (fun q hq=>(j5b (hh.nm.2.2 q hq)).1) e
 obtain⟨e1,e2⟩:=this
 simp only[]at e1 e2
 subst e1
 have g1:=hg.ds
 have h1:=hh.ds
 simp only[]at g1 h1
 match gd,hd with
 | [a],[b] =>
  simp only[List.cons.injEq,and_true]at e2
  rw[j2f (g1.2 a (by simp)) (h1.2 b (by simp)) e2]
 | [a],[b,b']=>simp at e2
 | [a,a'],[b]=>simp at e2
 | [a,a'],[b,b'] =>
  simp only[List.cons.injEq,and_true,true_and]at e2
  rw[j2f (g1.2 a (by simp)) (h1.2 b (by simp)) e2.1,j2f (g1.2 a' (by simp)) (h1.2 b' (by simp)) e2.2]
 | [],_=>simp at g1
 |_::_::_::_,_=>simp at g1
 | [a],[]=>simp at h1
 | [a,a'],[]=>simp at h1
 | [a],_::_::_::_=>simp at h1
 | [a,a'],_::_::_::_=>simp at h1
theorem pad_inj {a c:By}(ha:a.length≤8∧∀q∈a,q0e (q.toNat:Int)=true)(hc:c.length≤8∧∀q∈c,q0e (q.toNat:Int)=true):q7L a c=(a==c):=by
 rw[Bool.eq_iff_iff]
 constructor
 ·intro h
  unfold q7L at h
  rw[List.all_eq_true]at h
  have hj:∀j,j<8→(a.getD j 0).toNat=(c.getD j 0).toNat:=fun j hj=>by
   have:=h j (List.mem_range.2 hj)
   simp only[beq_iff_eq]at this
   unfold zj at this
   omega
  have hz:∀(l:By),(∀q∈l,q0e (q.toNat:Int)=true)→∀j,((l.getD j 0).toNat=0↔l.length≤j):=fun l hl j=>by
   rcases Nat.lt_or_ge j l.length with g|g
   ·have e:l.getD j 0=l[j]:=by simp[List.getD,g]
    rw[e]
    have:=(j5b (hl l[j] (List.getElem_mem g))).2
    constructor
    ·intro h;exact absurd h this
    ·intro h;omega
   ·have e:l.getD j 0=0:=by simp[List.getD,List.getElem?_eq_none g]
    rw[e]
    exact⟨fun _=>g,fun _=>rfl⟩
  have hlen:a.length=c.length:=by
   have hza:=hz a ha.2
   have hzc:=hz c hc.2
   rcases Nat.lt_trichotomy a.length c.length with g|g|g
   ·have:=(hza a.length).2 (zL _)
    rw[hj a.length (by omega)]at this
    have:=(hzc a.length).1 this
    omega
   ·exact g
   ·have:=(hzc c.length).2 (zL _)
    rw[←hj c.length (by omega)]at this
    have:=(hza c.length).1 this
    omega
  rw[beq_iff_eq]
  refine List.ext_getElem hlen (fun j h1 h2=>?_)
  have:=hj j (by omega)
  rw[show a.getD j 0=a[j]by simp[List.getD,h1],show c.getD j 0=c[j]by simp[List.getD,h2]]at this
  exact UInt8.toNat_inj.1 this
 ·intro h
  rw[beq_iff_eq]at h
  subst h
  unfold q7L
  rw[List.all_eq_true]
  intro j _
  simp
theorem j5N {y:Pay}(base p sp:Nat)(hn:zv y.word=true)(hk:zk y.word=2)(hw:y.word.length≤8∧∀q∈y.word,q0e (q.toNat:Int)=true)(ha:∀a∈y.args,q3Q a=true)(hl:y.args.length=1∨y.args.length=2)(x z:Nat)(hx:x<10)(hz:z<10){h:Hp}(hh:HpOk h) :
  evP (zz base p sp y .nil .nil) x z h=(q5D h==q8P y.word y.args x z):=by
 have hnm:(zz base p sp y .nil .nil).name=y.word:=by
  show q9o y.word=y.word
  cases e:y.word with
  |nil=>rfl
  |cons c r =>
   have hc:=hw.2 c (by rw[e];simp)
   rw[e]at hk
   have hd:qp (c.toNat:Int)=false:=by unfold q0e at hc;unfold qp;simp at hc ⊢;omega
   simp only[zk,hd,hc,Bool.false_eq_true,if_false,if_true]at hk
   simp only[q9o,hd,hc,Bool.false_eq_true,if_false,Bool.true_and,hk]
   rfl
 have hok:HpOk ⟨y.word,y.args.map fun a=>argD a x z⟩:=⟨⟨by
   cases e:y.word with
   |nil=>rw[e]at hn;simp[zv]at hn
   |cons c r=>simp,hw.1,hw.2⟩,by simpa using hl,fun d hd=>by
   obtain⟨a,h1,rfl⟩:=List.mem_map.1 hd
   exact argD_le (ha a h1) x z hx hz⟩
 have e1:(q5D h==q8P y.word y.args x z)=(h.nm==y.word&&h.ds==y.args.map fun a=>argD a x z):=by
  rw[Bool.eq_iff_iff,Bool.and_eq_true,beq_iff_eq,beq_iff_eq,beq_iff_eq]
  constructor
  ·intro e
   have:=hapS_inj hh hok e
   rw[this]
   exact⟨rfl,rfl⟩
  ·rintro⟨h1,h2⟩
   unfold q8P
   rw[←h1,←h2]
 rw[e1]
 unfold evP
 rw[hnm,pad_inj ⟨hh.nm.2.1,hh.nm.2.2⟩ hw,Bool.and_assoc,Bool.and_assoc]
 congr 1
 show(decide ((h.ds.length:Int)=(if zv y.word then(y.args.length:Int)else 0))&&((!decide (0<(if zv y.word then(y.args.length:Int)else 0)) || q4T (if zv y.word then zk (y.args.getD 0 [])else 0) (if zv y.word then q2F (y.args.getD 0 [])else 0) (h.ds.getD 0 0) x z)&&(!decide (1<(if zv y.word then(y.args.length:Int)else 0)) || q4T (if zv y.word then zk (y.args.getD 1 [])else 0) (if zv y.word then q2F (y.args.getD 1 [])else 0) (h.ds.getD 1 0) x z)))=_
 rw[hn]
 simp only[if_true]
 have hd:=hh.ds.1
 clear e1 hok
 generalize h.ds=ds at *
 generalize y.args=gs at *
 match gs,ds with
 | [a],[d] =>
  simp only[List.getD_cons_zero,List.length_cons,List.length_nil]
  rw[j4H (ha a (by simp))]
  rw[Bool.eq_iff_iff]
  simp
  exact eq_comm
 | [a],[d,d']=>simp
 | [a,a'],[d]=>simp
 | [a,a'],[d,d'] =>
  simp only[List.getD_cons_zero,List.getD_cons_succ,List.length_cons,List.length_nil]
  rw[j4H (ha a (by simp)),j4H (ha a' (by simp))]
  rw[Bool.eq_iff_iff]
  simp
  constructor<;>(rintro⟨h1,h2⟩;exact⟨h1.symm,h2.symm⟩)
 | [],_=>simp at hl
 |_::_::_::_,_=>simp at hl
 | [a],[]=>simp at hd
 | [a,a'],[]=>simp at hd
 | [a],_::_::_::_=>simp at hd
 | [a,a'],_::_::_::_=>simp at hd
end Go.Proofs.YtiamjjonoeaggaaGreatDoor
