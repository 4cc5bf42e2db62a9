import Derived.Test.YtiamjjonoeaggaaGreatDoorGA
import Derived.Test.YtiamjjonoeaggaaGreatDoorG33
namespace Go.Proofs.YtiamjjonoeaggaaGreatDoor
open Go.RowKit
structure SpanG (lo hi:By):Prop where
 low:q4b lo=true∧TokT lo
 high:q3Y hi=true∧TokT hi
 star:(hi==[42])=false
 le:q0e lo≤q0e hi
theorem rangeG {w lo hi:By}{l r:zh}(h:SpanG lo hi):qv (opF w lo hi l r)=false:=by
 unfold qv opF q2p q6s
 simp only[]
 have:=h.le
 rw[decide_eq_false (by omega)]
 simp
theorem openG {w lo hi:By}{l r:zh}(h:SpanG lo hi):qF (opF w lo hi l r)=false:=by
 unfold qF opF q2p q6s
 simp only[]
 rw[h.star]
 simp
theorem fineG_one {A:zh}(fa:Fine A)(w lo hi:By)(hw:qE w=true)(hs:SpanG lo hi):Fine (opF w lo hi A .nil):=by
 have k:=q0a.2.1 hw
 have k2:TokT w:=by
  unfold qE inB q9e at hw
  simp at hw
  rcases hw with hw|hw|hw|hw<;>subst hw<;>exact q1D _ (by decide) (by decide) (by decide)
 refine⟨.inr (.inr (.inr (.inl ⟨hw,rfl,rfl,hs.low.1,hs.high.1,fa.well⟩))),?_,q3p fa.nobad q3w ⟨rangeG hs,openG hs,?_⟩⟩
 ·unfold opF
  simp only[qJ,k.1,k.2.1,k.2.2,hw,Bool.false_eq_true,if_false,if_true]
  intro q hq
  simp only[List.mem_cons,List.mem_append,List.not_mem_nil,or_false]at hq
  rcases hq with rfl|rfl|rfl|rfl|rfl|rfl|rfl|hq|rfl
  ·exact k2
  ·exact sgn91
  ·exact hs.low.2
  ·exact j2S
  ·exact hs.high.2
  ·exact sgn93
  ·exact j1C
  ·exact fa.toks q hq
  ·exact j1D
 ·unfold q1e
  simp only[k.2.1,Bool.false_eq_true,if_false]
  have e:(q1t (opF w lo hi A .nil)).length<2:=by unfold opF;cases A<;>simp[q1t]
  unfold opF at e
  rw[if_pos (by simp[e])]
theorem fineG_two {A B:zh}(fa:Fine A)(fb:Fine B)(w lo hi:By)(hw:qB w=true)(hs:SpanG lo hi)(hx:(zg A [120]&&!zg B [120])=false)(hy:(zg A [121]&&!zg B [121])=false):Fine (opF w lo hi A B):=by
 have k:=q0a.2.2 hw
 have k2:TokT w∧(w==[111,114])=false∧(w==[98,117,116])=false:=by
  unfold qB inB q7X at hw
  simp at hw
  rcases hw with hw|hw|hw|hw<;>subst hw<;>exact⟨q1D _ (by decide) (by decide) (by decide),by decide,by decide⟩
 refine⟨.inr (.inr (.inr (.inr (.inl ⟨hw,rfl,hs.low.1,hs.high.1,fa.well,fb.well⟩)))),?_,q3p fa.nobad fb.nobad ⟨rangeG hs,openG hs,?_⟩⟩
 ·unfold opF
  simp only[qJ,k.1,k.2.1,k.2.2.1,k.2.2.2,hw,Bool.false_eq_true,if_false,if_true]
  intro q hq
  simp only[List.mem_cons,List.mem_append,List.not_mem_nil,or_false]at hq
  rcases hq with rfl|rfl|rfl|rfl|rfl|rfl|rfl|hq|rfl|hq|rfl
  ·exact k2.1
  ·exact sgn91
  ·exact hs.low.2
  ·exact j2S
  ·exact hs.high.2
  ·exact sgn93
  ·exact j1C
  ·exact fa.toks q hq
  ·exact j2S
  ·exact fb.toks q hq
  ·exact j1D
 ·unfold q1e
  simp only[k.2.1,Bool.false_eq_true,if_false]
  have b1:q2k w (zg A [120]) (zg B [120])=false:=by unfold q2k;rw[k2.2.1,k2.2.2,hw];simpa using hx
  have b2:q2k w (zg A [121]) (zg B [121])=false:=by unfold q2k;rw[k2.2.1,k2.2.2,hw];simpa using hy
  rw[b1,b2]
  split<;>rfl
theorem dec_small {u:Nat}(h:u≤99):(Lib.decDigits u).length≤2∧1≤(Lib.decDigits u).length:=by
 rw[Lib.decDigits_length]
 refine⟨?_,Lib.nDigits_pos u⟩
 rcases Nat.lt_or_ge u 10 with g|g
 ·rw[Lib.nDigits_small g];omega
 ·rw[Lib.nDigits_unique 1 u (by simpa using g) (by simp;omega)];omega
theorem dec_tok {u:Nat}(h:u≤99):q4b (Lib.decDigits u)=true∧TokT (Lib.decDigits u)∧(Lib.decDigits u==[42])=false:=by
 obtain⟨h2,h1⟩:=dec_small h
 have hd:=dec_digs u
 have hne:Lib.decDigits u≠[]:=fun e=>by rw[e]at h1;simp at h1
 refine⟨?_,⟨.inr (.inl ⟨hne,hd,by omega⟩)⟩,?_⟩
 ·cases e:Lib.decDigits u with
  |nil=>exact absurd e hne
  |cons c r=>exact hd c (by rw[e];simp)
 ·have:Lib.decDigits u≠[42]:=fun e=>by
   have:=hd 42 (by rw[e];simp)
   exact absurd this (by decide)
  simpa using this
theorem dec_span {l h:Nat}(hle:l≤h)(hh:h≤99):SpanG (Lib.decDigits l) (Lib.decDigits h):=by
 obtain⟨a1,a2,_⟩:=dec_tok (u:=l) (by omega)
 obtain⟨b1,b2,b3⟩:=dec_tok hh
 refine⟨⟨a1,a2⟩,⟨by unfold q3Y;rw[b1];simp,b2⟩,b3,?_⟩
 have e1:q0e (Lib.decDigits l)=l:=j7Q l
 have e2:q0e (Lib.decDigits h)=h:=j7Q h
 rw[e1,e2]
 exact hle
theorem free_one {w lo hi:By}{A:zh}(hA:A≠.nil)(hw:(w==[101,120,105,115,116,115])=false)(x:By):zg (opF w lo hi A .nil) x=zg A x:=by
 rw[q7j hA hw]
 show(zg A x || false)=_
 rw[Bool.or_false]
abbrev pF (a:By):zh:=evF [112] [a]
abbrev qF00 (a:By):zh:=evF [113] [a]
abbrev ndE (w a:By):PNode:=zz 0 0 0 ⟨w,[a],[],[]⟩ .nil .nil
def pB (l:List (Bool × Bool))(x:Nat):Bool:=(l.getD x (false,false)).1
def qB00 (l:List (Bool × Bool))(x:Nat):Bool:=(l.getD x (false,false)).2
theorem nd_facts (w:UInt8)(hw:w=112∨w=113)(a:By):(ndE [w] a).name=[w]∧(ndE [w] a).cnt=1∧(ndE [w] a).k0=zp a:=by
 have hn:zx [w]=true∧padP [w]=[w]:=by rcases hw with rfl|rfl<;>decide
 unfold ndE zz
 simp only[hn.1,hn.2,if_true]
 exact⟨trivial,rfl,rfl⟩
theorem ev_at (w:UInt8)(hw:w=112∨w=113)(a:By)(ha:a=[120]∨a=[121])(c:UInt8)(hc:c=112∨c=113)(d x z:Nat):evP (ndE [w] a) x z ⟨[c],[d]⟩=(decide (c=w)&&((if a=[120]then x else z)==d)):=by
 have hn:j2B [112] [112]=true∧j2B [113] [113]=true∧j2B [112] [113]=false∧j2B [113] [112]=false:=by decide
 have hcw:j2B [c] [w]=decide (c=w):=by
  rcases hw with rfl|rfl<;>rcases hc with rfl|rfl
  ·rw[hn.1];rfl
  ·rw[hn.2.2.2];rfl
  ·rw[hn.2.2.1];rfl
  ·rw[hn.2.1];rfl
 have hk:q4m (zp a) (ndE [w] a).v0 d x z=((if a=[120]then x else z)==d):=by
  rcases ha with rfl|rfl
  ·unfold q4m;rw[if_pos (by decide),if_pos rfl]
  ·unfold q4m;rw[if_neg (by decide),if_pos (by decide),if_neg (by decide)]
 obtain⟨f1,f2,f3⟩:=nd_facts w hw a
 unfold evP
 rw[f1,f2,f3]
 show(j2B [c] [w]&&decide (((1:Nat):Int)=1)&&(!decide ((0:Int)<1) || q4m (zp a) (ndE [w] a).v0 d x z)&&(!decide ((1:Int)<1) || _))=_
 rw[hcw,hk]
 simp
theorem any_bt (w:UInt8)(hw:w=112∨w=113)(a:By)(ha:a=[120]∨a=[121])(x z:Nat):∀(l:List (Bool × Bool)) (v:Nat),(btH v l).any (evP (ndE [w] a) x z)=(decide (v≤(if a=[120]then x else z))&&(if w=112 then pB l ((if a=[120]then x else z)-v)else qB00 l ((if a=[120]then x else z)-v))):=by
 intro l
 generalize hy:(if a=[120]then x else z)=y
 induction l with
 |nil=>intro v;simp[btH,pB,qB00]
 |cons pq r ih =>
  intro v
  obtain⟨p,q⟩:=pq
  have e1:evP (ndE [w] a) x z ⟨[112],[v]⟩=(decide ((112:UInt8)=w)&&(y==v)):=by rw[ev_at w hw a ha 112 (.inl rfl),hy]
  have e2:evP (ndE [w] a) x z ⟨[113],[v]⟩=(decide ((113:UInt8)=w)&&(y==v)):=by rw[ev_at w hw a ha 113 (.inr rfl),hy]
  have e3:(btH v ((p,q)::r)).any (evP (ndE [w] a) x z)=((p&&(decide ((112:UInt8)=w)&&(y==v))) || (q&&(decide ((113:UInt8)=w)&&(y==v))) || (btH (v+1) r).any (evP (ndE [w] a) x z)):=by
   rw[←e1,←e2]
   simp only[btH,List.any_append]
   cases p<;>cases q<;>simp
  rw[e3,ih (v+1)]
  by_cases hv:y=v
  ·subst hv
   have h1:¬y+1≤y:=by omega
   rcases hw with rfl|rfl
   ·simp[pB,h1]
   ·simp[qB00,h1]
  ·have hb:(y==v)=false:=by simpa using hv
   rw[hb]
   by_cases hl:v≤y
   ·have h1:v+1≤y:=by omega
    have h2:y-v=(y-(v+1))+1:=by omega
    rw[decide_eq_true hl,decide_eq_true h1,h2]
    simp[pB,qB00]
   ·have h1:¬v+1≤y:=by omega
    rw[decide_eq_false hl,decide_eq_false h1]
    simp
def ptsB (B:List Bt):List LPt:=q0A (B.map linB)
theorem ptsB_len (B:List Bt):(ptsB B).length=B.length:=by
 unfold ptsB
 rw[q8G,List.length_map]
def btAt (B:List Bt)(j:Nat):List (Bool × Bool):=match B[j]? with
 |some b=>b.bits
 |none=>[]
def tmB (B:List Bt)(j:Nat):Nat:=match B[j]? with
 |some b=>b.time
 |none=>0
theorem beats_log (s:By):(∀j,q5n (ptsB (beatsK s)) j=btH 0 (btAt (beatsK s) j))∧(∀i j,i<(beatsK s).length→j<(beatsK s).length→q0C (ptsB (beatsK s)) i j=(tmB (beatsK s) j-tmB (beatsK s) i)+(tmB (beatsK s) i-tmB (beatsK s) j)):=by
 have hlen:=beats_len s
 have hok:BtOk 0 (beatsK s):=bts_ok s _ _ _
 have hc:=(bt_chain (beatsK s) 0 0 (tmB (beatsK s) 0) [] hok .nil rfl (by omega) (by omega) (fun e=>absurd e (by omega)) (by omega)).2 (.inr (fun h=>by unfold tmB;rw[zG h]))
 have hb:∀j (h:j<(beatsK s).length),btAt (beatsK s) j=(beatsK s)[j].bits∧tmB (beatsK s) j=(beatsK s)[j].time:=fun j h=>by
  unfold btAt tmB
  rw[zG h]
  exact⟨rfl,rfl⟩
 constructor
 ·intro j
  by_cases h:j<(beatsK s).length
  ·have:=(hc j h).2.1
   rw[Nat.zero_add]at this
   rw[(hb j h).1]
   exact this
  ·rw[(j4c (L:=ptsB (beatsK s)) (by rw[ptsB_len];exact h)).2]
   unfold btAt
   rw[List.getElem?_eq_none (by omega)]
   rfl
 ·intro i j hi hj
  have h1:=hc i hi
  have h2:=hc j hj
  rw[Nat.zero_add]at h1 h2
  have e1:tmL (ptsB (beatsK s)) i=(beatsK s)[i].time-tmB (beatsK s) 0:=h1.1
  have e2:tmL (ptsB (beatsK s)) j=(beatsK s)[j].time-tmB (beatsK s) 0:=h2.1
  unfold q0C
  rw[e1,e2,(hb i hi).2,(hb j hj).2]
  have:=h1.2.2
  have:=h2.2.2
  omega
theorem hold_ev (s:By)(w:UInt8)(hw:w=112∨w=113)(a:By)(ha:a=[120]∨a=[121])(j x z:Nat):zs (ptsB (beatsK s)) (evF [w] [a]) j x z=(if w=112 then pB (btAt (beatsK s) j) (if a=[120]then x else z)else qB00 (btAt (beatsK s) j) (if a=[120]then x else z)):=by
 have hk:(ndE [w] a).kind=2:=by
  show zp [w]=2
  rcases hw with rfl|rfl<;>decide
 show(decide (j<(ptsB (beatsK s)).length)&&qz (ndE [w] a) _ _ _ j x z)=_
 unfold qz
 rw[hk,if_neg (by decide),if_pos rfl,(beats_log s).1,any_bt w hw a ha,Nat.sub_zero,decide_eq_true (zZ _),Bool.true_and,ptsB_len]
 by_cases h:j<(beatsK s).length
 ·rw[decide_eq_true h,Bool.true_and]
 ·rw[decide_eq_false h,Bool.false_and]
  unfold btAt
  rw[List.getElem?_eq_none (by omega)]
  simp[pB,qB00]
theorem fnd_back (S G W:Nat→Bool)(i:Nat):q4q S G W (fun m=>i-m) (i+1)=true↔∃j,j≤i∧S j=true∧G j=true∧∀k,j<k→k≤i→W k=true:=by
 unfold q4q q7P
 rw[List.any_eq_true]
 constructor
 ·rintro⟨m,hm,h⟩
  rw[List.mem_range]at hm
  simp only[Bool.and_eq_true,List.all_eq_true,List.mem_range]at h
  refine⟨i-m,by omega,h.1,h.2.2,fun k h1 h2=>?_⟩
  have:=h.2.1 (i-k) (by omega)
  rw[show i-(i-k)=k by omega]at this
  exact this
 ·rintro⟨j,hj,h1,h2,h3⟩
  refine⟨i-j,by rw[List.mem_range];omega,?_⟩
  show(S (i-(i-j))&&(((List.range (i-j)).all fun q=>W (i-q))&&G (i-(i-j))))=true
  rw[show i-(i-j)=j by omega]
  simp only[Bool.and_eq_true,List.all_eq_true,List.mem_range]
  exact⟨h1,fun q hq=>h3 _ (by omega) (by omega),h2⟩
theorem fnd_fwd (S G W:Nat→Bool)(i n:Nat):q4q S G W (fun m=>i+m) (n-i)=true↔∃j,i≤j∧j<n∧S j=true∧G j=true∧∀k,i≤k→k<j→W k=true:=by
 unfold q4q q7P
 rw[List.any_eq_true]
 constructor
 ·rintro⟨m,hm,h⟩
  rw[List.mem_range]at hm
  simp only[Bool.and_eq_true,List.all_eq_true,List.mem_range]at h
  refine⟨i+m,by omega,by omega,h.1,h.2.2,fun k h1 h2=>?_⟩
  have:=h.2.1 (k-i) (by omega)
  rw[show i+(k-i)=k by omega]at this
  exact this
 ·rintro⟨j,hj,hn,h1,h2,h3⟩
  refine⟨j-i,by rw[List.mem_range];omega,?_⟩
  show(S (i+(j-i))&&(((List.range (j-i)).all fun q=>W (i+q))&&G (i+(j-i))))=true
  rw[show i+(j-i)=j by omega]
  simp only[Bool.and_eq_true,List.all_eq_true,List.mem_range]
  exact⟨h1,fun q hq=>h3 _ (by omega) (by omega),h2⟩
def pastO (op:Nat):Bool:=op==0 || op==2 || op==4 || op==5
def metJ (op lo hi:Nat)(T:Nat→Nat)(P Q:Nat→Bool)(i j:Nat):Bool:=
 decide ((lo:Int)≤(if pastO op=true then(T i:Int)-T j else(T j:Int)-T i))&&decide ((if pastO op=true then(T i:Int)-T j else(T j:Int)-T i)≤(hi:Int))&&(if pastO op=true then decide (j≤i)else decide (i≤j))&&(if op=0 then decide (j+1=i)else if op=1 then decide (j=i+1)else true)&&(if 3<op then Q j else P j)&&(if 3<op then(List.range (i+j+1)).all (fun k=>if (if pastO op=true then decide (j<k∧k≤i)else decide (i≤k∧k<j))=true then P k==decide (op % 2=0)else true)else true)
def meetsR (op lo hi:Nat)(T:Nat→Nat)(P Q:Nat→Bool)(n i:Nat):Bool:=(List.range n).any (metJ op lo hi T P Q i)
def opW (op:Nat):By:=if op=0 then [112,114,101,118]else if op=1 then [110,101,120,116]else if op=2 then j6u else if op=3 then j0h else if op=4 then q9S else if op=5 then q9f else if op=6 then j4p else q9g
def knF (op lo hi:Nat):zh:=if op<4 then opF (opW op) (Lib.decDigits lo) (Lib.decDigits hi) (pF [120]) .nil else opF (opW op) (Lib.decDigits lo) (Lib.decDigits hi) (pF [120]) (qF00 [120])
theorem val_dec (u:Nat):q3k (Lib.decDigits u)=(u:Int):=by
 have hd:=dec_digs u
 have hv:q0e (Lib.decDigits u)=u:=j7Q u
 cases e:Lib.decDigits u with
 |nil =>
  have h1:=Lib.decDigits_length u
  have h2:=Lib.nDigits_pos u
  rw[e]at h1
  simp at h1
  omega
 |cons c r =>
  have hc:=hd c (by rw[e];simp)
  rw[e]at hv
  show(if zQ (c.toNat:Int)then(q0e (c::r):Int)else 0)=_
  rw[if_pos hc,hv]
theorem hold_prev (L:List LPt)(lo hi:By)(A B:zh)(i x z:Nat):zs L (opF [112,114,101,118] lo hi A B) i x z=(decide (i<L.length)&&(decide (0<i)&&(spX lo hi L i (i-1)&&zs L A (i-1) x z))):=by
 rw[q4G]
 unfold qz
 rw[show(zz 0 0 0 ⟨[112,114,101,118],[],lo,hi⟩ A B).kind=10 from by show zp [112,114,101,118]=10;decide]
 rfl
theorem hold_next (L:List LPt)(lo hi:By)(A B:zh)(i x z:Nat):zs L (opF [110,101,120,116] lo hi A B) i x z=(decide (i<L.length)&&(decide (i+1<L.length)&&(spX lo hi L i (i+1)&&zs L A (i+1) x z))):=by
 rw[q4G]
 unfold qz
 rw[show(zz 0 0 0 ⟨[110,101,120,116],[],lo,hi⟩ A B).kind=11 from by show zp [110,101,120,116]=11;decide]
 rfl
theorem met_iff (op lo hi:Nat)(T:Nat→Nat)(P Q:Nat→Bool)(i j:Nat):metJ op lo hi T P Q i j=true↔((lo:Int)≤(if pastO op=true then(T i:Int)-T j else(T j:Int)-T i)∧(if pastO op=true then(T i:Int)-T j else(T j:Int)-T i)≤(hi:Int))∧(if pastO op=true then j≤i else i≤j)∧(op=0→j+1=i)∧(op=1→j=i+1)∧(if 3<op then Q j=true∧∀k,(if pastO op=true then(j<k∧k≤i)else(i≤k∧k<j))→P k=decide (op % 2=0)else P j=true):=by
 unfold metJ
 simp only[Bool.and_eq_true,decide_eq_true_eq]
 constructor
 ·rintro⟨⟨⟨⟨⟨h1,h2⟩,h3⟩,h4⟩,h5⟩,h6⟩
  refine⟨⟨h1,h2⟩,?_,?_,?_,?_⟩
  ·by_cases hp:pastO op=true
   ·rw[if_pos hp]at h3 ⊢;simpa using h3
   ·rw[if_neg hp]at h3 ⊢;simpa using h3
  ·intro h0
   rw[if_pos h0]at h4
   simpa using h4
  ·intro h1
   subst h1
   simpa using h4
  ·by_cases h3o:3<op
   ·rw[if_pos h3o]at h5 h6 ⊢
    refine⟨h5,fun k hk=>?_⟩
    rw[List.all_eq_true]at h6
    have hlt:k<i+j+1:=by
     by_cases hp:pastO op=true
     ·rw[if_pos hp]at hk;omega
     ·rw[if_neg hp]at hk;omega
    have:=h6 k (List.mem_range.2 hlt)
    by_cases hp:pastO op=true
    ·simp only[hp,if_true]at hk this
     rw[if_pos (by simpa using hk)]at this
     simpa using this
    ·have hpf:pastO op=false:=by simpa using hp
     simp only[hpf,Bool.false_eq_true,if_false]at hk this
     rw[if_pos (by simpa using hk)]at this
     simpa using this
   ·rw[if_neg h3o]at h5 ⊢
    exact h5
 ·rintro⟨⟨h1,h2⟩,h3,h4,h5,h6⟩
  refine⟨⟨⟨⟨⟨h1,h2⟩,?_⟩,?_⟩,?_⟩,?_⟩
  ·by_cases hp:pastO op=true
   ·rw[if_pos hp]at h3 ⊢;simpa using h3
   ·rw[if_neg hp]at h3 ⊢;simpa using h3
  ·by_cases h0:op=0
   ·rw[if_pos h0];simpa using h4 h0
   ·rw[if_neg h0]
    by_cases h01:op=1
    ·rw[if_pos h01];simpa using h5 h01
    ·rw[if_neg h01]
  ·by_cases h3o:3<op
   ·rw[if_pos h3o]at h6 ⊢;exact h6.1
   ·rw[if_neg h3o]at h6 ⊢;exact h6
  ·by_cases h3o:3<op
   ·rw[if_pos h3o]at h6 ⊢
    rw[List.all_eq_true]
    intro k _
    by_cases hp:pastO op=true
    ·simp only[hp,if_true]at h6 ⊢
     split
     ·rename_i hk
      have:=h6.2 k (by simpa using hk)
      simpa using this
     ·rfl
    ·have hpf:pastO op=false:=by simpa using hp
     simp only[hpf,Bool.false_eq_true,if_false]at h6 ⊢
     split
     ·rename_i hk
      have:=h6.2 k (by simpa using hk)
      simpa using this
     ·rfl
   ·rw[if_neg h3o]
theorem beats_mono (s:By){i j:Nat}(hij:i≤j)(hj:j<(beatsK s).length):tmB (beatsK s) i≤tmB (beatsK s) j:=by
 have hlen:=beats_len s
 have hok:BtOk 0 (beatsK s):=bts_ok s _ _ _
 have hc:=(bt_chain (beatsK s) 0 0 (tmB (beatsK s) 0) [] hok .nil rfl (by omega) (by omega) (fun e=>absurd e (by omega)) (by omega)).2 (.inr (fun h=>by unfold tmB;rw[zG h]))
 have hb:∀j (h:j<(beatsK s).length),tmB (beatsK s) j=(beatsK s)[j].time:=fun j h=>by
  unfold tmB
  rw[zG h]
 have h1:=hc i (by omega)
 have h2:=hc j hj
 rw[Nat.zero_add]at h1 h2
 have hm:=(j3I ((beatsK s).map linB)).mono i j hij (by rw[q8G,List.length_map];exact hj)
 have e1:tmL (q0A ((beatsK s).map linB)) i=(beatsK s)[i].time-tmB (beatsK s) 0:=h1.1
 have e2:tmL (q0A ((beatsK s).map linB)) j=(beatsK s)[j].time-tmB (beatsK s) 0:=h2.1
 rw[e1,e2]at hm
 rw[hb i (by omega),hb j hj]
 have:=h1.2.2
 have:=h2.2.2
 omega
theorem sp_iff (s:By)(lo hi:Nat)(hhi:hi≤99)(i j:Nat):spX (Lib.decDigits lo) (Lib.decDigits hi) (ptsB (beatsK s)) i j=true↔((lo:Int)≤(q0C (ptsB (beatsK s)) i j:Int)∧(q0C (ptsB (beatsK s)) i j:Int)≤(hi:Int)):=by
 unfold spX
 rw[val_dec,val_dec,(dec_tok hhi).2.2]
 simp
theorem dist_past (s:By){i j:Nat}(hi:i<(beatsK s).length)(hji:j≤i):(q0C (ptsB (beatsK s)) i j:Int)=(tmB (beatsK s) i:Int)-tmB (beatsK s) j:=by
 have:=beats_mono s hji hi
 rw[(beats_log s).2 i j hi (by omega)]
 omega
theorem dist_fut (s:By){i j:Nat}(hj:j<(beatsK s).length)(hij:i≤j):(q0C (ptsB (beatsK s)) i j:Int)=(tmB (beatsK s) j:Int)-tmB (beatsK s) i:=by
 have:=beats_mono s hij hj
 rw[(beats_log s).2 i j (by omega) hj]
 omega
theorem meets_iff (op lo hi:Nat)(T:Nat→Nat)(P Q:Nat→Bool)(n i:Nat):meetsR op lo hi T P Q n i=true↔∃j,j<n∧metJ op lo hi T P Q i j=true:=by
 unfold meetsR
 rw[List.any_eq_true]
 constructor
 ·rintro⟨j,h1,h2⟩;exact⟨j,List.mem_range.1 h1,h2⟩
 ·rintro⟨j,h1,h2⟩;exact⟨j,List.mem_range.2 h1,h2⟩
theorem known_holds (s:By)(op lo hi:Nat)(hop:op<8)(hhi:hi≤99)(i x z:Nat):zs (ptsB (beatsK s)) (knF op lo hi) i x z=true↔i<(beatsK s).length∧meetsR op lo hi (tmB (beatsK s)) (fun j=>pB (btAt (beatsK s) j) x) (fun j=>qB00 (btAt (beatsK s) j) x) (beatsK s).length i=true:=by
 have hp:∀j,zs (ptsB (beatsK s)) (pF [120]) j x z=pB (btAt (beatsK s) j) x:=fun j=>by
  rw[hold_ev s 112 (.inl rfl) [120] (.inl rfl)]
  simp
 have hq:∀j,zs (ptsB (beatsK s)) (qF00 [120]) j x z=qB00 (btAt (beatsK s) j) x:=fun j=>by
  rw[hold_ev s 113 (.inr rfl) [120] (.inl rfl)]
  simp
 rw[meets_iff]
 have hn:=ptsB_len (beatsK s)
 generalize hP:(fun j=>pB (btAt (beatsK s) j) x)=P
 generalize hQ:(fun j=>qB00 (btAt (beatsK s) j) x)=Q
 have hp':∀j,zs (ptsB (beatsK s)) (pF [120]) j x z=P j:=fun j=>by rw[hp,←hP]
 have hq':∀j,zs (ptsB (beatsK s)) (qF00 [120]) j x z=Q j:=fun j=>by rw[hq,←hQ]
 have hop':op=0∨op=1∨op=2∨op=3∨op=4∨op=5∨op=6∨op=7:=by omega
 rcases hop' with rfl|rfl|rfl|rfl|rfl|rfl|rfl|rfl
 ·show zs _ (opF [112,114,101,118] _ _ (pF [120]) .nil) i x z=true↔_
  rw[hold_prev,hn,hp']
  have hs:=sp_iff s lo hi hhi i (i-1)
  generalize spX (Lib.decDigits lo) (Lib.decDigits hi) (ptsB (beatsK s)) i (i-1)=S at hs ⊢
  simp only[Bool.and_eq_true,decide_eq_true_eq]
  constructor
  ·rintro⟨h1,h2,h3,h4⟩
   refine⟨h1,i-1,by omega,(met_iff ..).2 ?_⟩
   have h5:=hs.1 h3
   rw[dist_past s h1 (by omega)]at h5
   exact⟨h5,by show i-1≤i;omega,fun _=>by omega,fun h=>absurd h (by decide),h4⟩
  ·rintro⟨h1,j,h2,h3⟩
   obtain⟨h4,h5,h6,_,h7⟩:=(met_iff ..).1 h3
   have h8:=h6 rfl
   have e:j=i-1:=by omega
   subst e
   refine⟨h1,by omega,hs.2 ?_,h7⟩
   rw[dist_past s h1 (by omega)]
   exact h4
 ·show zs _ (opF [110,101,120,116] _ _ (pF [120]) .nil) i x z=true↔_
  rw[hold_next,hn,hp']
  have hs:=sp_iff s lo hi hhi i (i+1)
  generalize spX (Lib.decDigits lo) (Lib.decDigits hi) (ptsB (beatsK s)) i (i+1)=S at hs ⊢
  simp only[Bool.and_eq_true,decide_eq_true_eq]
  constructor
  ·rintro⟨h1,h2,h3,h4⟩
   refine⟨h1,i+1,by omega,(met_iff ..).2 ?_⟩
   have h5:=hs.1 h3
   rw[dist_fut s (by omega) (by omega)]at h5
   exact⟨h5,by show i≤i+1;omega,fun h=>absurd h (by decide),fun _=>rfl,h4⟩
  ·rintro⟨h1,j,h2,h3⟩
   obtain⟨h4,h5,_,h6,h7⟩:=(met_iff ..).1 h3
   have h8:=h6 rfl
   subst h8
   refine⟨h1,by omega,hs.2 ?_,h7⟩
   rw[dist_fut s h2 (by omega)]
   exact h4
 ·show zs _ (opF j6u _ _ (pF [120]) .nil) i x z=true↔_
  rw[j2q,hn]
  simp only[hp',Bool.and_eq_true,decide_eq_true_eq]
  rw[fnd_back]
  constructor
  ·rintro⟨h1,j,h2,h3,h4,_⟩
   have h5:=(sp_iff s lo hi hhi i j).1 h3
   rw[dist_past s h1 h2]at h5
   exact⟨h1,j,by omega,(met_iff ..).2 ⟨h5,h2,fun h=>absurd h (by decide),fun h=>absurd h (by decide),h4⟩⟩
  ·rintro⟨h1,j,h2,h3⟩
   obtain⟨h4,h5,_,_,h7⟩:=(met_iff ..).1 h3
   have h5':j≤i:=h5
   refine⟨h1,j,h5',(sp_iff s lo hi hhi i j).2 ?_,h7,fun _ _ _=>rfl⟩
   rw[dist_past s h1 h5']
   exact h4
 ·show zs _ (opF j0h _ _ (pF [120]) .nil) i x z=true↔_
  rw[q9s,hn]
  simp only[hp',Bool.and_eq_true,decide_eq_true_eq]
  rw[fnd_fwd]
  constructor
  ·rintro⟨h1,j,h2,h2',h3,h4,_⟩
   have h5:=(sp_iff s lo hi hhi i j).1 h3
   rw[dist_fut s h2' h2]at h5
   exact⟨h1,j,by omega,(met_iff ..).2 ⟨h5,h2,fun h=>absurd h (by decide),fun h=>absurd h (by decide),h4⟩⟩
  ·rintro⟨h1,j,h2,h3⟩
   obtain⟨h4,h5,_,_,h7⟩:=(met_iff ..).1 h3
   have h5':i≤j:=h5
   refine⟨h1,j,h5',h2,(sp_iff s lo hi hhi i j).2 ?_,h7,fun _ _ _=>rfl⟩
   rw[dist_fut s h2 h5']
   exact h4
 ·show zs _ (opF q9S _ _ (pF [120]) (qF00 [120])) i x z=true↔_
  rw[q8d,hn]
  simp only[hp',hq',Bool.and_eq_true,decide_eq_true_eq]
  rw[fnd_back]
  constructor
  ·rintro⟨h1,j,h2,h3,h4,h6⟩
   have h5:=(sp_iff s lo hi hhi i j).1 h3
   rw[dist_past s h1 h2]at h5
   exact⟨h1,j,by omega,(met_iff ..).2 ⟨h5,h2,fun h=>absurd h (by decide),fun h=>absurd h (by decide),h4,fun k hk=>h6 k hk.1 hk.2⟩⟩
  ·rintro⟨h1,j,h2,h3⟩
   obtain⟨h4,h5,_,_,h7,h8⟩:=(met_iff ..).1 h3
   have h5':j≤i:=h5
   refine⟨h1,j,h5',(sp_iff s lo hi hhi i j).2 ?_,h7,fun k k1 k2=>h8 k ⟨k1,k2⟩⟩
   rw[dist_past s h1 h5']
   exact h4
 ·show zs _ (opF q9f _ _ (pF [120]) (qF00 [120])) i x z=true↔_
  rw[j3A,hn]
  simp only[hp',hq',Bool.and_eq_true,decide_eq_true_eq]
  rw[fnd_back]
  constructor
  ·rintro⟨h1,j,h2,h3,h4,h6⟩
   have h5:=(sp_iff s lo hi hhi i j).1 h3
   rw[dist_past s h1 h2]at h5
   exact⟨h1,j,by omega,(met_iff ..).2 ⟨h5,h2,fun h=>absurd h (by decide),fun h=>absurd h (by decide),h4,fun k hk=>by have:=h6 k hk.1 hk.2;simpa using this⟩⟩
  ·rintro⟨h1,j,h2,h3⟩
   obtain⟨h4,h5,_,_,h7,h8⟩:=(met_iff ..).1 h3
   have h5':j≤i:=h5
   refine⟨h1,j,h5',(sp_iff s lo hi hhi i j).2 ?_,h7,fun k k1 k2=>by have:=h8 k ⟨k1,k2⟩;simpa using this⟩
   rw[dist_past s h1 h5']
   exact h4
 ·show zs _ (opF j4p _ _ (pF [120]) (qF00 [120])) i x z=true↔_
  rw[j6M,hn]
  simp only[hp',hq',Bool.and_eq_true,decide_eq_true_eq]
  rw[fnd_fwd]
  constructor
  ·rintro⟨h1,j,h2,h2',h3,h4,h6⟩
   have h5:=(sp_iff s lo hi hhi i j).1 h3
   rw[dist_fut s h2' h2]at h5
   exact⟨h1,j,by omega,(met_iff ..).2 ⟨h5,h2,fun h=>absurd h (by decide),fun h=>absurd h (by decide),h4,fun k hk=>h6 k hk.1 hk.2⟩⟩
  ·rintro⟨h1,j,h2,h3⟩
   obtain⟨h4,h5,_,_,h7,h8⟩:=(met_iff ..).1 h3
   have h5':i≤j:=h5
   refine⟨h1,j,h5',h2,(sp_iff s lo hi hhi i j).2 ?_,h7,fun k k1 k2=>h8 k ⟨k1,k2⟩⟩
   rw[dist_fut s h2 h5']
   exact h4
 ·show zs _ (opF q9g _ _ (pF [120]) (qF00 [120])) i x z=true↔_
  rw[j3B,hn]
  simp only[hp',hq',Bool.and_eq_true,decide_eq_true_eq]
  rw[fnd_fwd]
  constructor
  ·rintro⟨h1,j,h2,h2',h3,h4,h6⟩
   have h5:=(sp_iff s lo hi hhi i j).1 h3
   rw[dist_fut s h2' h2]at h5
   exact⟨h1,j,by omega,(met_iff ..).2 ⟨h5,h2,fun h=>absurd h (by decide),fun h=>absurd h (by decide),h4,fun k hk=>by have:=h6 k hk.1 hk.2;simpa using this⟩⟩
  ·rintro⟨h1,j,h2,h3⟩
   obtain⟨h4,h5,_,_,h7,h8⟩:=(met_iff ..).1 h3
   have h5':i≤j:=h5
   refine⟨h1,j,h5',h2,(sp_iff s lo hi hhi i j).2 ?_,h7,fun k k1 k2=>by have:=h8 k ⟨k1,k2⟩;simpa using this⟩
   rw[dist_fut s h2 h5']
   exact h4
theorem std_ItoaS (x:Nat)(hx:x<100)(w:World):Calls Tryz.prog 23 #[.int .i64 x] w fun e w'=>e=.returned (.string ⟨(Lib.decDigits x).toArray⟩)∧w'=w:=Any.strconv_Itoa_small {q8C with} x hx w
theorem mkl7 (a b c d e f g:By):ByteArray.mk a.toArray++ByteArray.mk b.toArray++ByteArray.mk c.toArray++ByteArray.mk d.toArray++ByteArray.mk e.toArray++ByteArray.mk f.toArray++ByteArray.mk g.toArray=ByteArray.mk (a++b++c++d++e++f++g).toArray:=by rw[←qD,←qD,←qD,←qD,←qD,←qD]
def btA (t:Nat)(P Q:Nat→Bool):Array Value:=#[.int .i64 t,.bool (P 0),.bool (P 1),.bool (P 2),.bool (P 3),.bool (Q 0),.bool (Q 1),.bool (Q 2),.bool (Q 3)]
abbrev btL (t:Nat)(l:List (Bool × Bool)):Array Value:=btA t (pB l) (qB00 l)
def btCs (b:Bt):List Value:=(btL b.time b.bits).toList
def btCells (D:List Bt):List Value:=D.flatMap btCs
theorem btA_p (t:Nat)(Q:Nat→Bool)(E:List (Bool × Bool))(h:E.length<4)(p q:Bool):(btA t (pB E) Q).setIfInBounds (1+E.length) (.bool p)=btA t (pB (E++[(p,q)])) Q:=by
 match E,h with
 | [],_=>rfl
 | [a],_=>rfl
 | [a,b],_=>rfl
 | [a,b,c],_=>rfl
theorem btA_q (t:Nat)(P:Nat→Bool)(E:List (Bool × Bool))(h:E.length<4)(p q:Bool):(btA t P (qB00 E)).setIfInBounds (5+E.length) (.bool q)=btA t P (qB00 (E++[(p,q)])):=by
 match E,h with
 | [],_=>rfl
 | [a],_=>rfl
 | [a,b],_=>rfl
 | [a,b,c],_=>rfl
theorem btA_at (t:Nat)(P Q:Nat→Bool)(v:Nat)(h:v<4):(btA t P Q)[1+v]?=some (.bool (P v))∧(btA t P Q)[5+v]?=some (.bool (Q v)):=by
 have:v=0∨v=1∨v=2∨v=3:=by omega
 rcases this with rfl|rfl|rfl|rfl<;>exact⟨rfl,rfl⟩
theorem pB_snoc (E:List (Bool × Bool))(p q:Bool):pB (E++[(p,q)]) E.length=p∧qB00 (E++[(p,q)]) E.length=q:=by
 unfold pB qB00
 simp
theorem btH_snoc (E:List (Bool × Bool))(p q:Bool):∀v,btH v (E++[(p,q)])=btH v E++((if p then [⟨[112],[v+E.length]⟩]else [])++(if q then [⟨[113],[v+E.length]⟩]else [])):=by
 induction E with
 |nil=>intro v;simp[btH]
 |cons a r ih =>
  intro v
  simp only[List.cons_append,btH,ih (v+1),List.length_cons,List.append_assoc]
  rw[show v+1+r.length=v+(r.length+1)by omega]
theorem line_snoc (st:Nat)(l:List Hp)(c:UInt8)(v:Nat):q1Q st (l++[⟨[c],[v]⟩])=q1Q st l++[32,c,40]++q0d v++[41]:=by
 unfold q1Q
 rw[q3u]
 simp[q4a,q0d]
theorem info_bt:(Tryz.prog.info? 100).map (fun i=>(i.zero,i.size,i.bytes))=some (some (.agg (btA 0 (fun _=>false) (fun _=>false))),9,16):=by kernel_rfl
theorem row_grown {W W':World}{o:Option Nat}{base:Nat}{e:TypeId}{size:Nat}{v:Value}{n:Nat}{xs:List Value}(h:W.ownsRow base e size v n xs)(gr:W.grownBy W' o)(hne:∀k,v.ownBlock=some k→some k≠o):W'.ownsRow base e size v n xs:=by
 refine⟨h.1,?_⟩
 rcases h.2 with h'|⟨g,cap,cur,rfl,h2,h3,h4⟩
 ·exact .inl h'
 ·refine .inr ⟨g,cap,cur,rfl,h2,?_,h4⟩
  rw[gr.block g (zd h3) (hne g rfl)]
  exact h3
theorem rows_apart {W:World}{b1 b2 z1 z2 n1 n2:Nat}{e1 e2:TypeId}{v1 v2:Value}{x1 x2:List Value}(h1:W.ownsRow b1 e1 z1 v1 n1 x1)(h2:W.ownsRow b2 e2 z2 v2 n2 x2)(hne:e1≠e2):∀k,v1.ownBlock=some k→some k≠v2.ownBlock:=by
 intro k hk
 rcases h1.2 with⟨rfl,_⟩|⟨g,cap,cur,rfl,_,h3,_⟩
 ·simp[Value.ownBlock]at hk
 ·simp only[Value.ownBlock,Option.some.injEq]at hk
  subst hk
  exact q8f h3 h2 hne
structure BgAt (w W:World)(s:By)(i:Nat)(vb vl:Value)(D L:List Bt):Prop where
 feed:FeedAt W w.heap.size s i
 bts:W.ownsRow w.heap.size 100 9 vb D.length (btCells D)
 lns:W.ownsRow w.heap.size 44 4 vl L.length (q1U (L.map txB))
 bel:Below w.heap.size w W
theorem BgAt.keep {w W W':World}{s:By}{i j:Nat}{vb vl:Value}{D L:List Bt}(h:BgAt w W s i vb vl D L){bl:List Nat}(f:FeedAt W' w.heap.size s j)(o:OnlyB bl W W')(hbl:∀k∈bl,w.heap.size≤k∧some k≠vb.ownBlock∧some k≠vl.ownBlock):BgAt w W' s j vb vl D L:=
 ⟨f,q8T h.bts o (fun k hv hm=>(hbl k hm).2.1 hv.symm),q8T h.lns o (fun k hv hm=>(hbl k hm).2.2 hv.symm),h.bel.trans (o.below h.bel.size (fun q hq=>(hbl q hq).1))⟩
theorem BgAt.next {w W W':World}{s:By}{i j:Nat}{vb vl:Value}{D L:List Bt}(h:BgAt w W s i vb vl D L)(f:FeedAt W' w.heap.size s j)(o:OnlyB [w.heap.size] W W'):BgAt w W' s j vb vl D L:=
 h.keep f o (fun k hk=>by
  simp only[List.mem_singleton]at hk
  subst hk
  exact⟨zL _,q8f h.feed.blk h.bts (by decide),q8f h.feed.blk h.lns (by decide)⟩)
theorem BgAt.below {w W W':World}{s:By}{i:Nat}{vb vl:Value}{D L:List Bt}(h:BgAt w W s i vb vl D L)(hb:Below W.heap.size W W'):BgAt w W' s i vb vl D L:=
 ⟨h.feed.below hb,zo h.bts hb,zo h.lns hb,h.bel.trans (hb.mono h.bel.size)⟩
theorem BgAt.appB {w W W':World}{s:By}{i:Nat}{vb vl v':Value}{D L:List Bt}{b:Bt}(h:BgAt w W s i vb vl D L)(gr:W.grownBy W' vb.ownBlock)(own:W'.ownsRow w.heap.size 100 9 v' (D.length+1) (btCells D++btCs b)):BgAt w W' s i v' vl (D++[b]) L:=by
 have hne:some w.heap.size≠vb.ownBlock:=q8f h.feed.blk h.bts (by decide)
 refine⟨⟨(gr.block _ h.feed.lt hne).trans h.feed.blk,h.feed.le,h.feed.sm⟩,?_,row_grown h.lns gr (rows_apart h.lns h.bts (by decide)),h.bel.trans ⟨gr.os,gr.tape,gr.output,gr.size,fun k hk=>gr.block k (zT hk h.bel.size) (fun e=>?_)⟩⟩
 ·rw[List.length_append]
  have e:btCells (D++[b])=btCells D++btCs b:=by simp[btCells]
  rw[e]
  exact own
 ·have:=j3G h.bts k (by rw[←e];simp)
  omega
theorem BgAt.appL {w W W':World}{s:By}{i:Nat}{vb vl v':Value}{D L:List Bt}{b:Bt}(h:BgAt w W s i vb vl D L)(gr:W.grownBy W' vl.ownBlock)(own:W'.ownsRow w.heap.size 44 4 v' (L.length+1) (q1U (L.map txB)++lnCs (txB b))):BgAt w W' s i vb v' D (L++[b]):=by
 have hne:some w.heap.size≠vl.ownBlock:=q8f h.feed.blk h.lns (by decide)
 refine⟨⟨(gr.block _ h.feed.lt hne).trans h.feed.blk,h.feed.le,h.feed.sm⟩,row_grown h.bts gr (rows_apart h.bts h.lns (by decide)),?_,h.bel.trans ⟨gr.os,gr.tape,gr.output,gr.size,fun k hk=>gr.block k (zT hk h.bel.size) (fun e=>?_)⟩⟩
 ·rw[List.length_append,List.map_append]
  have e:q1U (L.map txB++[b].map txB)=q1U (L.map txB)++lnCs (txB b):=by simp[q1U]
  rw[e]
  exact own
 ·have:=j3G h.lns k (by rw[←e];simp)
  omega
structure BiAt (w W:World)(s:By)(i:Nat)(vb vl:Value)(D:List Bt)(bb:Nat)(A:Array Value):Prop where
 at_:BgAt w W s i vb vl D D
 blk:W.heap[bb]?=some (.cells A 100 (0,0))
 ne:some bb≠vb.ownBlock
 lt:w.heap.size<bb
theorem BiAt.next {w W W':World}{s:By}{i j:Nat}{vb vl:Value}{D:List Bt}{bb:Nat}{A:Array Value}(h:BiAt w W s i vb vl D bb A)(f:FeedAt W' w.heap.size s j)(o:OnlyB [w.heap.size] W W'):BiAt w W' s j vb vl D bb A:=
 ⟨h.at_.next f o,o.row h.blk (by have:=h.lt;simp;omega),h.ne,h.lt⟩
theorem BiAt.put {w W:World}{s:By}{i:Nat}{vb vl:Value}{D:List Bt}{bb:Nat}{A A':Array Value}(h:BiAt w W s i vb vl D bb A)(j:Nat)(v:Value)(he:A.setIfInBounds j v=A'):BiAt w (W.setCell ⟨bb,j,none⟩ v) s i vb vl D bb A':=by
 have hlt:=h.lt
 have hk:∀k,k≠bb→(W.setCell ⟨bb,j,none⟩ v).heap[k]?=W.heap[k]?:=fun k hk=>Below.heap_setCell W _ _ k hk
 have o:OnlyB [bb] W (W.setCell ⟨bb,j,none⟩ v):=⟨rfl,rfl,rfl,by simp,fun k _ hn=>hk k (by simpa using hn)⟩
 refine⟨h.at_.keep ⟨by rw[hk _ (by omega)];exact h.at_.feed.blk,h.at_.feed.le,h.at_.feed.sm⟩ o (fun k hm=>?_),?_,h.ne,hlt⟩
 ·simp only[List.mem_singleton]at hm
  subst hm
  exact⟨by omega,h.ne,q8f h.blk h.at_.lns (by decide)⟩
 ·rw[zH W _ j _ _ v h.blk,he]
theorem BiAt.cells {w W:World}{s:By}{i:Nat}{vb vl:Value}{D:List Bt}{bb t:Nat}{P Q:Nat→Bool}(h:BiAt w W s i vb vl D bb (btA t P Q)){v:Nat}(hv:v<4):W.cell? ⟨bb,1+v,none⟩=some (.bool (P v))∧W.cell? ⟨bb,5+v,none⟩=some (.bool (Q v)):=
 ⟨(zC _ _ _ _ _ _ h.blk).trans (btA_at t P Q v hv).1,(zC _ _ _ _ _ _ h.blk).trans (btA_at t P Q v hv).2⟩
theorem BiAt.new {w W:World}{s:By}{i:Nat}{vb vl:Value}{D:List Bt}(h:BgAt w W s i vb vl D D)(A:Array Value):BiAt w (W.alloc (.cells A 100)) s i vb vl D W.heap.size A:=
 ⟨h.below ((zB _ W).alloc (zL _) _),zN W _,fun e=>by
  have:=(h.bts.lt _ e.symm).2
  omega,h.feed.lt⟩
def BiRel (w:World)(s:By)(t:Nat)(BK:List (Bool × Bool) × Nat)(vb vl:Value)(D:List Bt)(bb:Nat)(g:Nat)(vs vv:Value)(wr:World):Prop:=
 ∃(i':Nat) (E:List (Bool × Bool)),E.length≤4∧4-E.length≤g∧vv=.int .i64 E.length∧vs=bs (q1Q t (btH 0 E))∧BK.1=E++(bitsK s (4-E.length) i').1∧BK.2=(bitsK s (4-E.length) i').2∧BiAt w wr s i' vb vl D bb (btL t E)
def BgRel (w:World)(s:By)(X:List Bt)(n:Nat)(g:Nat)(vb vl vt vi:Value)(wr:World):Prop:=
 ∃(k i t:Nat) (D:List Bt),k≤n∧n-k≤g∧vi=.int .i64 k∧vt=.int .i64 t∧t≤3*k∧D.length=k∧X=D++btsK s (n-k) i t∧BgAt w wr s i vb vl D D
end Go.Proofs.YtiamjjonoeaggaaGreatDoor
