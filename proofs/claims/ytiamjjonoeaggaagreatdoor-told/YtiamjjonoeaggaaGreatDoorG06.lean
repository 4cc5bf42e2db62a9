import Derived.Test.YtiamjjonoeaggaaGreatDoorGA
import Derived.Test.YtiamjjonoeaggaaGreatDoorG02
import Derived.Test.YtiamjjonoeaggaaGreatDoorG05
set_option maxRecDepth 100000
set_option maxHeartbeats 16000000
namespace Go.Proofs.YtiamjjonoeaggaaGreatDoor
open Go.RowKit
theorem q5T (c:UInt8)(h:inB [c] q1j=true):TokT [c]:=⟨.inl ⟨c,rfl,h⟩⟩
theorem q1D (t:By)(h0:t≠[])(h:(t.all fun c=>q0n (c.toNat:Int))=true)(hl:t.length≤8):TokT t:=⟨.inr (.inr ⟨h0,fun c hc=>List.all_eq_true.1 h c hc,hl⟩)⟩
theorem j0L {n:Nat}(h:n≤9):∀c∈q5v n,zQ (c.toNat:Int)=true:=by
 intro c hc
 have:c=UInt8.ofNat (48+n):=by simpa[q5v]using hc
 subst this
 rw[UInt8.toNat_ofNat_of_lt' (by show 48+n<256;omega)]
 unfold zQ
 simp
 omega
theorem j4e {n:Nat}(h:n≤9):TokT (q5v n):=⟨.inr (.inl ⟨by simp[q5v],j0L h,by simp[q5v]⟩)⟩
theorem j3L {n:Nat}(h:n≤9):q4b (q5v n)=true:=j0L h _ (by simp[q5v])
theorem j4h {n:Nat}(h:n≤9):q0e (q5v n)=n:=by
 unfold q0e q5v
 simp only[List.foldl_cons,List.foldl_nil]
 rw[UInt8.toNat_ofNat_of_lt' (by show 48+n<256;omega)]
 omega
theorem dig_star {n:Nat}(h:n≤9):(q5v n==[42])=false:=by
 rw[beq_eq_false_iff_ne]
 intro e
 have:=j0L h 42 (by rw[e];simp)
 exact absurd this (by decide)
theorem q3p {p sp:Nat}{y:Pay}{l r:zh}(hl:q7H l)(hr:q7H r)(h:qv (.node p sp y l r)=false∧qF (.node p sp y l r)=false∧q1e (.node p sp y l r)=false):q7H (.node p sp y l r):=by
 intro G hG
 rw[zv]at hG
 rcases List.mem_cons.1 hG with rfl|hG
 ·exact h
 ·rcases List.mem_append.1 hG with hG|hG
  ·exact hl G hG
  ·exact hr G hG
theorem q3w:q7H .nil:=fun G hG=>by simp[zv]at hG
theorem q9z (k:Nat):zx (nmK k)=true∧TokT (nmK k)∧(nmK k).length=1∧qE (nmK k)=false∧qB (nmK k)=false∧q0y (nmK k)=false∧(nmK k==[101,120,105,115,116,115])=false:=by
 unfold nmK
 split
 ·exact⟨by decide,q1D _ (by decide) (by decide) (by decide),by decide,by decide,by decide,by decide,by decide⟩
 ·split
  ·exact⟨by decide,q1D _ (by decide) (by decide) (by decide),by decide,by decide,by decide,by decide,by decide⟩
  ·exact⟨by decide,q1D _ (by decide) (by decide) (by decide),by decide,by decide,by decide,by decide,by decide⟩
theorem q8j (k:Nat):q5u (q1X k)=true∧TokT (q1X k)∧(q1X k).length=1:=by
 unfold q1X
 split
 ·exact⟨by decide,q1D _ (by decide) (by decide) (by decide),by decide⟩
 ·split
  ·exact⟨by decide,q1D _ (by decide) (by decide) (by decide),by decide⟩
  ·split
   ·exact⟨by decide,⟨.inr (.inl ⟨by decide,by decide,by decide⟩)⟩,by decide⟩
   ·exact⟨by decide,⟨.inr (.inl ⟨by decide,by decide,by decide⟩)⟩,by decide⟩
theorem j1C:TokT [40]:=q5T 40 (by decide)
theorem j1D:TokT [41]:=q5T 41 (by decide)
theorem j2S:TokT [44]:=q5T 44 (by decide)
theorem sgn91:TokT [91]:=q5T 91 (by decide)
theorem sgn93:TokT [93]:=q5T 93 (by decide)
theorem sgn42:TokT [42]:=q5T 42 (by decide)
structure FineB (F:zh)(h t:Nat):Prop where
 fine:Fine F
 hgt:hgt F≤h
 len:(zy F).length≤t
theorem FineB.mono {F:zh}{h t h' t':Nat}(f:FineB F h t)(hh:h≤h')(ht:t≤t'):FineB F h' t':=⟨f.fine,zM f.hgt hh,zM f.len ht⟩
theorem fine_ev1 (k a:Nat):FineB (evF (nmK k) [q1X a]) 1 6:=by
 obtain⟨n1,n2,n3,n4,n5,n6,n7⟩:=q9z k
 obtain⟨a1,a2,a3⟩:=q8j a
 refine⟨⟨.inl ⟨n1,rfl,rfl,rfl,rfl,q1X a,a1,.inl rfl⟩,?_,q3p q3w q3w ⟨?_,?_,?_⟩⟩,by simp[evF,hgt],?_⟩
 ·unfold evF
  simp only[qJ,n1,if_true]
  simp[n2,a2,j1C,j1D]
 ·unfold qv q2p;simp only[n4,n5];rfl
 ·unfold qF q2p;simp only[n6];rfl
 ·unfold q1e;simp only[n7];rfl
 ·unfold evF
  simp only[zy,n1,if_true]
  simp[n3,a3]
theorem fine_ev2 (k a b:Nat):FineB (evF (nmK k) [q1X a,q1X b]) 1 6:=by
 obtain⟨n1,n2,n3,n4,n5,n6,n7⟩:=q9z k
 obtain⟨a1,a2,a3⟩:=q8j a
 obtain⟨b1,b2,b3⟩:=q8j b
 refine⟨⟨.inl ⟨n1,rfl,rfl,rfl,rfl,q1X a,a1,.inr ⟨q1X b,b1,rfl⟩⟩,?_,q3p q3w q3w ⟨?_,?_,?_⟩⟩,by simp[evF,hgt],?_⟩
 ·unfold evF
  simp only[qJ,n1,if_true]
  simp[n2,a2,b2,j1C,j1D,j2S]
 ·unfold qv q2p;simp only[n4,n5];rfl
 ·unfold qF q2p;simp only[n6];rfl
 ·unfold q1e;simp only[n7];rfl
 ·unfold evF
  simp only[zy,n1,if_true]
  simp[n3,a3,b3]
theorem j8H:FineB q7c 1 6:=by
 refine⟨⟨.inr (.inr (.inr (.inr (.inr ⟨rfl,rfl,rfl,rfl,rfl,rfl⟩)))),?_,q3p q3w q3w ⟨by decide,by decide,by decide⟩⟩,by simp[q7c,hgt],by decide⟩
 intro t ht
 have:t=[116,114,117,101]:=by
  have e:qJ q7c=[[116,114,117,101]]:=by decide
  rw[e]at ht
  simpa using ht
 subst this
 exact q1D _ (by decide) (by decide) (by decide)
theorem j2m (s:By)(i:Nat):FineB (q2C s i).1 1 6:=by
 unfold q2C
 split
 ·exact j8H
 ·split
  ·exact fine_ev2 _ _ _
  ·exact fine_ev1 _ _
theorem j7S {F:zh}{h t:Nat}(f:FineB F h t)(v:By)(hv:q1h v=true)(hf:zg F v=true):FineB (exF v F) (h+1) (t+10):=by
 have hW:=f.fine.well
 have hne:F≠.nil:=by intro e;rw[e]at hW;exact hW
 have k1:zx [101,120,105,115,116,115]=false:=by decide
 have hvl:v.length=1∧TokT v:=by
  unfold q1h at hv
  simp at hv
  rcases hv with rfl|rfl
  ·exact⟨rfl,q1D _ (by decide) (by decide) (by decide)⟩
  ·exact⟨rfl,q1D _ (by decide) (by decide) (by decide)⟩
 refine⟨⟨.inr (.inl ⟨rfl,rfl,rfl,rfl,hW,v,hv,rfl⟩),?_,q3p f.fine.nobad q3w ⟨by rfl,by rfl,?_⟩⟩,?_,?_⟩
 ·unfold exF
  simp only[qJ,k1,Bool.false_eq_true,if_false,beq_self_eq_true,if_true,List.headD_cons]
  intro q hq
  simp only[List.mem_cons,List.mem_append,List.not_mem_nil,or_false]at hq
  rcases hq with rfl|rfl|rfl|hq|rfl
  ·exact q1D _ (by decide) (by decide) (by decide)
  ·exact hvl.2
  ·exact j1C
  ·exact f.fine.toks q hq
  ·exact j1D
 ·unfold q1e
  simp only[beq_self_eq_true,if_true,List.headD_cons,hf]
  rfl
 ·have:=f.hgt
  simp[exF,hgt]
  omega
 ·have:=f.len
  unfold exF
  simp only[zy,k1,Bool.false_eq_true,if_false,beq_self_eq_true,if_true,List.headD_cons]
  simp[hvl.1]
  omega
theorem j6D {F:zh}{h t:Nat}(f:FineB F h t)(y:Bool):FineB (q4Z F y) (h+1) (t+10):=by
 unfold q4Z
 split
 ·rename_i hc
  rw[Bool.and_eq_true]at hc
  exact j7S f [121] (by decide) hc.1
 ·split
  ·rename_i hc
   exact j7S f [120] (by decide) hc
  ·exact f.mono (by omega) (by omega)
theorem q6c {A B:zh}{h t:Nat}(fa:FineB A h t)(fb:FineB B h t)(w:By)(hw:qh w=true)(hb:w=[97,110,100]∨(q2k w (zg A [120]) (zg B [120])=false∧q2k w (zg A [121]) (zg B [121])=false)):FineB (opF w [] [] A B) (h+1) (t+t+6):=by
 have k:=q0a.1 hw
 have k2:qE w=false∧qB w=false∧q0y w=false∧w.length≤3∧TokT w:=by
  unfold qh inB q3O at hw
  simp at hw
  rcases hw with hw|hw|hw<;>subst hw<;>exact⟨by decide,by decide,by decide,by decide,q1D _ (by decide) (by decide) (by decide)⟩
 refine⟨⟨.inr (.inr (.inl ⟨hw,rfl,rfl,rfl,fa.fine.well,fb.fine.well⟩)),?_,q3p fa.fine.nobad fb.fine.nobad ⟨?_,?_,?_⟩⟩,?_,?_⟩
 ·unfold opF
  simp only[qJ,k.1,k.2,hw,Bool.false_eq_true,if_false,if_true]
  intro q hq
  simp only[List.mem_cons,List.mem_append,List.not_mem_nil,or_false]at hq
  rcases hq with rfl|rfl|hq|rfl|hq|rfl
  ·exact k2.2.2.2.2
  ·exact j1C
  ·exact fa.fine.toks q hq
  ·exact j2S
  ·exact fb.fine.toks q hq
  ·exact j1D
 ·unfold qv q2p;simp only[k2.1,k2.2.1];rfl
 ·unfold qF q2p;simp only[k2.2.2.1];rfl
 ·unfold q1e
  simp only[k.2,Bool.false_eq_true,if_false]
  rcases hb with rfl|⟨b1,b2⟩
  ·rw[if_pos (by simp)]
  ·rw[b1,b2]
   split<;>rfl
 ·have:=fa.hgt
  have:=fb.hgt
  simp[opF,hgt]
  omega
 ·have:=fa.len
  have:=fb.len
  have:=k2.2.2.2.1
  unfold opF
  simp only[zy,k.1,k.2,hw,Bool.false_eq_true,if_false,if_true]
  simp
  omega
structure SpanT (ahead:Bool)(lo hi:By):Prop where
 low:q4b lo=true∧TokT lo∧lo.length=1
 high:q3Y hi=true∧TokT hi∧hi.length=1
 le:(hi==[42])=false→q0e lo≤q0e hi
 open':ahead=true→(hi==[42])=false
theorem q7y (s:By)(i:Nat)(ahead:Bool):SpanT ahead (q1d s i ahead).1.1 (q1d s i ahead).1.2.1∧(ahead=true→(q0e (q1d s i ahead).1.2.1:Int)=((q1d s i ahead).1.2.2:Int)):=by
 have ha:=qj s i (n:=4) (by omega)
 have hb:=qj s (zk s i 4).2 (n:=5) (by omega)
 unfold q1d
 simp only[]
 generalize zk s i 4=ra at *
 obtain⟨a,ia⟩:=ra
 simp only[]at ha hb ⊢
 generalize zk s ia 5=rb at *
 obtain⟨b,ib⟩:=rb
 simp only[]at hb ⊢
 have hab:a+b≤9:=by omega
 have ha9:a≤9:=by omega
 have S1:∀q,SpanT q (q5v a) (q5v (a+b)):=fun q=>⟨⟨j3L ha9,j4e ha9,rfl⟩,⟨by unfold q3Y;rw[j3L hab];simp,j4e hab,rfl⟩,fun _=>by rw[j4h ha9,j4h hab];omega,fun _=>dig_star hab⟩
 cases ahead with
 |true =>
  simp only[Bool.true_eq_false,if_false]
  exact⟨S1 true,fun _=>by rw[j4h hab]⟩
 |false =>
  simp only[if_true]
  split
  ·exact⟨⟨⟨j3L ha9,j4e ha9,rfl⟩,⟨(by show q3Y [42]=true;decide),sgn42,rfl⟩,fun h=>absurd h (by show ¬(([42]:By)==[42])=false;decide),fun h=>absurd h (by decide)⟩,fun h=>absurd h (by decide)⟩
  ·exact⟨S1 false,fun h=>absurd h (by decide)⟩
theorem j5D {w lo hi:By}{l r:zh}{q:Bool}(h:SpanT q lo hi):qv (opF w lo hi l r)=false:=by
 unfold qv opF q2p q6s
 simp only[]
 cases e:(hi==[42])with
 |true=>simp
 |false =>
  have:=h.le e
  rw[decide_eq_false (by omega)]
  simp
theorem j8m {w lo hi:By}{l r:zh}{q:Bool}(h:SpanT q lo hi)(hq:q0y w=true→q=true):qF (opF w lo hi l r)=false:=by
 unfold qF opF q2p q6s
 simp only[]
 cases e:q0y w with
 |false=>rfl
 |true=>rw[h.open' (hq e)];rfl
theorem fine_one {A:zh}{h t:Nat}(fa:FineB A h t)(w lo hi:By)(q:Bool)(hw:qE w=true)(hs:SpanT q lo hi)(hq:q0y w=true→q=true):FineB (opF w lo hi A .nil) (h+1) (t+11):=by
 have k:=q0a.2.1 hw
 have k2:w.length≤4∧TokT w∧(w==[97,110,100])=false:=by
  unfold qE inB q9e at hw
  simp at hw
  rcases hw with hw|hw|hw|hw<;>subst hw<;>exact⟨by decide,q1D _ (by decide) (by decide) (by decide),by decide⟩
 refine⟨⟨.inr (.inr (.inr (.inl ⟨hw,rfl,rfl,hs.low.1,hs.high.1,fa.fine.well⟩))),?_,q3p fa.fine.nobad q3w ⟨j5D hs,j8m hs hq,?_⟩⟩,?_,?_⟩
 ·unfold opF
  simp only[qJ,k.1,k.2.1,k.2.2,hw,Bool.false_eq_true,if_false,if_true]
  intro q hq
  simp only[List.mem_cons,List.mem_append,List.not_mem_nil,or_false]at hq
  rcases hq with rfl|rfl|rfl|rfl|rfl|rfl|rfl|hq|rfl
  ·exact k2.2.1
  ·exact sgn91
  ·exact hs.low.2.1
  ·exact j2S
  ·exact hs.high.2.1
  ·exact sgn93
  ·exact j1C
  ·exact fa.fine.toks q hq
  ·exact j1D
 ·unfold q1e
  simp only[k.2.1,Bool.false_eq_true,if_false]
  have e:(q1t (opF w lo hi A .nil)).length<2:=by unfold opF;cases A<;>simp[q1t]
  unfold opF at e
  rw[if_pos (by simp[e])]
 ·have:=fa.hgt
  simp[opF,hgt]
  omega
 ·have:=fa.len
  have:=k2.1
  unfold opF
  simp only[zy,k.1,k.2.1,k.2.2,hw,Bool.false_eq_true,if_false,if_true]
  simp[hs.low.2.2,hs.high.2.2]
  omega
theorem fine_two {A B:zh}{h t:Nat}(fa:FineB A h t)(fb:FineB B h t)(w lo hi:By)(q:Bool)(hw:qB w=true)(hs:SpanT q lo hi)(hq:q0y w=true→q=true)(hx:(zg A [120]&&!zg B [120])=false)(hy:(zg A [121]&&!zg B [121])=false):FineB (opF w lo hi A B) (h+1) (t+t+15):=by
 have k:=q0a.2.2 hw
 have k2:w.length≤7∧TokT w∧(w==[97,110,100])=false∧(w==[111,114])=false∧(w==[98,117,116])=false:=by
  unfold qB inB q7X at hw
  simp at hw
  rcases hw with hw|hw|hw|hw<;>subst hw<;>exact⟨by decide,q1D _ (by decide) (by decide) (by decide),by decide,by decide,by decide⟩
 refine⟨⟨.inr (.inr (.inr (.inr (.inl ⟨hw,rfl,hs.low.1,hs.high.1,fa.fine.well,fb.fine.well⟩)))),?_,q3p fa.fine.nobad fb.fine.nobad ⟨j5D hs,j8m hs hq,?_⟩⟩,?_,?_⟩
 ·unfold opF
  simp only[qJ,k.1,k.2.1,k.2.2.1,k.2.2.2,hw,Bool.false_eq_true,if_false,if_true]
  intro q hq
  simp only[List.mem_cons,List.mem_append,List.not_mem_nil,or_false]at hq
  rcases hq with rfl|rfl|rfl|rfl|rfl|rfl|rfl|hq|rfl|hq|rfl
  ·exact k2.2.1
  ·exact sgn91
  ·exact hs.low.2.1
  ·exact j2S
  ·exact hs.high.2.1
  ·exact sgn93
  ·exact j1C
  ·exact fa.fine.toks q hq
  ·exact j2S
  ·exact fb.fine.toks q hq
  ·exact j1D
 ·unfold q1e
  simp only[k.2.1,Bool.false_eq_true,if_false]
  have b1:q2k w (zg A [120]) (zg B [120])=false:=by unfold q2k;rw[k2.2.2.2.1,k2.2.2.2.2,hw];simpa using hx
  have b2:q2k w (zg A [121]) (zg B [121])=false:=by unfold q2k;rw[k2.2.2.2.1,k2.2.2.2.2,hw];simpa using hy
  rw[b1,b2]
  split<;>rfl
 ·have:=fa.hgt
  have:=fb.hgt
  simp[opF,hgt]
  omega
 ·have:=fa.len
  have:=fb.len
  have:=k2.1
  unfold opF
  simp only[zy,k.1,k.2.1,k.2.2.1,k.2.2.2,hw,Bool.false_eq_true,if_false,if_true]
  simp[hs.low.2.2,hs.high.2.2]
  omega
theorem j6n {k:Nat}(h1:2≤k)(h2:k≤5):qB (timeW k)=true∧(q0y (timeW k)=true→decide (3<k)=true):=by
 have:k=2∨k=3∨k=4∨k=5:=by omega
 rcases this with rfl|rfl|rfl|rfl<;>decide
theorem j8k {k:Nat}(h:k≤3):qE (oneW k)=true∧(q0y (oneW k)=true→decide (k % 2=1)=true):=by
 have:k=0∨k=1∨k=2∨k=3:=by omega
 rcases this with rfl|rfl|rfl|rfl<;>decide
theorem j8F {A B:zh}{h t:Nat}(fa:FineB A h t)(fb:FineB B h t)(s:By)(i:Nat):FineB (q7U s i A B).1 (h+1) (t+t+15):=by
 have hk:=qj s i (n:=6) (by omega)
 unfold q7U
 simp only[]
 split
 ·rename_i hc
  refine(q6c fa fb [111,114] (by decide) (.inr ?_)).mono (by omega) (by omega)
  have h2:=hc.2
  rw[Bool.and_eq_true,beq_iff_eq,beq_iff_eq]at h2
  rw[h2.1,h2.2]
  cases zg B [120]<;>cases zg B [121]<;>decide
 ·split
  ·rename_i hc
   refine(q6c fa fb [98,117,116] (by decide) (.inr ?_)).mono (by omega) (by omega)
   have h2:=hc.2
   revert h2
   cases zg A [120]<;>cases zg A [121]<;>cases zg B [120]<;>cases zg B [121]<;>decide
  ·split
   ·exact(q6c fa fb [97,110,100] (by decide) (.inl rfl)).mono (by omega) (by omega)
   ·rename_i h3
    simp only[not_or,Bool.not_eq_false]at h3
    obtain⟨h3,h4⟩:=h3
    have hw:=j6n (k:=(zk s i 6).1) (by omega) (by omega)
    have hs:=q7y s (zk s i 6).2 (decide (3<(zk s i 6).1))
    refine fine_two fb fa _ _ _ _ hw.1 hs.1 hw.2 ?_ ?_
    ·revert h3
     cases zg A [120]<;>cases zg A [121]<;>cases zg B [120]<;>cases zg B [121]<;>decide
    ·revert h3
     cases zg A [120]<;>cases zg A [121]<;>cases zg B [120]<;>cases zg B [121]<;>decide
def lenK:Nat→Nat
 | 0=>6
 |n+1=>lenK n+lenK n+15
theorem lenK_ge (n:Nat):6≤lenK n:=by
 induction n with
 |zero=>exact zL _
 |succ n ih=>simp only[lenK];omega
theorem j7T (s:By):∀(n i:Nat),FineB (mkF s n i).1 (n+1) (lenK n):=by
 intro n
 induction n with
 |zero=>intro i;exact j2m s _
 |succ n ih =>
  intro i
  have hl:=lenK_ge n
  unfold mkF
  simp only[]
  split
  ·exact(j2m s _).mono (by omega) (by simp only[lenK];omega)
  ·split
   ·exact(j8F (ih _) (ih _) s _)
   ·split
    ·exact(j6D (ih _) _).mono (by omega) (by simp only[lenK];omega)
    ·have hk:=qj s (mkF s n (zk s i 10).2).2 (n:=4) (by omega)
     have hw:=j8k (k:=(zk s (mkF s n (zk s i 10).2).2 4).1) (by omega)
     have hs:=q7y s (zk s (mkF s n (zk s i 10).2).2 4).2 (decide ((zk s (mkF s n (zk s i 10).2).2 4).1 % 2=1))
     exact(fine_one (ih _) _ _ _ _ hw.1 hs.1 hw.2).mono (by omega) (by simp only[lenK];omega)
abbrev q2E (x:By × By × Nat):By:=[91]++x.1++[44]++x.2.1++[93]
theorem q6J (fb:Nat)(s:By)(i:Nat)(ahead:Bool)(w:World)(h:FeedAt w fb s i) :
  Calls Tryz.prog 33 #[.pointer (some ⟨fb,0,none⟩),.bool ahead] w fun e w'=>e=.returned (.tuple #[bs (q2E (q1d s i ahead).1),.int .i64 (q1d s i ahead).1.2.2])∧FeedAt w' fb s (q1d s i ahead).2∧OnlyB [fb] w w':=by
 have HN:=zb (fun j n hn W q=>q1v fb s j n hn W q)
 have ha:=qj s i (n:=4) (by omega)
 have hb:=qj s (zk s i 4).2 (n:=5) (by omega)
 have HF:=zb h
 have hI:=zb (fun x hx=>q2R x hx)
 clear h
 obtain⟨R,hR⟩:∃R,R=q1d s i ahead:=⟨_,rfl⟩
 rw[←hR]
 unfold q1d at hR
 simp only[]at hR
 have HRE:=zb hR
 clear hR
 have e1:∀q p:By,ByteArray.mk #[91]++ByteArray.mk q.toArray++ByteArray.mk #[44]++ByteArray.mk p.toArray++ByteArray.mk #[93]=ByteArray.mk ([91]++q++[44]++p++[93]).toArray:=fun q p=>by rw[←qD,←qD,←qD,←qD]
 have e2:∀q:By,ByteArray.mk #[91]++ByteArray.mk q.toArray++ByteArray.mk #[44,42,93]=ByteArray.mk ([91]++q++[44]++[42]++[93]).toArray:=fun q=>by rw[List.append_assoc,List.append_assoc,←qD,←qD];rfl
 have HE1:=zb e1
 have HE2:=zb e2
 clear e1 e2
 cases ahead with
 |true =>
  go_enter Tryz.func33,Tryz.ntmps33
  go_wp2_with fail
  refine(HN.out i 4 (by omega) _ HF.out).mono ?_
  rintro e w1 ⟨rfl,f1,o1⟩
  have HF1:=zb f1
  have HO1:=zb o1
  clear f1 o1
  generalize zk s i 4=ra at *
  obtain⟨a,ia⟩:=ra
  simp only[]at *
  go_wp2_with fail
  refine(HN.out ia 5 (by omega) _ HF1.out).mono ?_
  rintro e w2 ⟨rfl,f2,o2⟩
  have HF2:=zb f2
  have HO2:=zb (HO1.out.trans o2)
  clear f2 o2
  generalize zk s ia 5=rb at *
  obtain⟨b,ib⟩:=rb
  simp only[]at *
  have hw:IntKind.i64.wrap ((a:Int)+(b:Int))=((a+b:Nat):Int):=by rw[IntKind.wrap_i64];omega
  have hda:(q0d a).length≤1:=zL _
  have hdb:(q0d (a+b)).length≤1:=zL _
  have HIB:=zb (hI.out (a+b) (by omega))
  rw[Int.natCast_add]at HIB
  go_wp2_with fail
  refine(hI.out a (by omega) _).mono ?_
  rintro e w3 ⟨rfl,rfl⟩
  go_wp2_with fail
  refine(HIB.out _).mono ?_
  rintro e w4 ⟨rfl,rfl⟩
  go_wp2_with fail
  go_ret2
  have hr:=HRE.out
  rw[if_neg (by decide)]at hr
  subst hr
  refine⟨?_,HF2.out,HO2.out⟩
  show Ending.returned (.tuple #[.string _,.int .i64 ((a:Int)+(b:Int))])=_
  rw[HE1.out,←Int.natCast_add]
  rfl
 |false =>
  go_enter Tryz.func33,Tryz.ntmps33
  go_wp2_with fail
  refine(HN.out i 4 (by omega) _ HF.out).mono ?_
  rintro e w1 ⟨rfl,f1,o1⟩
  have HF1:=zb f1
  have HO1:=zb o1
  clear f1 o1
  generalize zk s i 4=ra at *
  obtain⟨a,ia⟩:=ra
  simp only[]at *
  go_wp2_with fail
  refine(HN.out ia 5 (by omega) _ HF1.out).mono ?_
  rintro e w2 ⟨rfl,f2,o2⟩
  have HF2:=zb f2
  have HO2:=zb (HO1.out.trans o2)
  clear f2 o2
  generalize zk s ia 5=rb at *
  obtain⟨b,ib⟩:=rb
  simp only[]at *
  have hw:IntKind.i64.wrap ((a:Int)+(b:Int))=((a+b:Nat):Int):=by rw[IntKind.wrap_i64];omega
  have hda:(q0d a).length≤1:=zL _
  have hdb:(q0d (a+b)).length≤1:=zL _
  have HIB:=zb (hI.out (a+b) (by omega))
  rw[Int.natCast_add]at HIB
  go_wp2_with fail
  refine(HN.out ib 3 (by omega) _ HF2.out).mono ?_
  rintro e w5 ⟨rfl,f3,o3⟩
  have HF3:=zb f3
  have HO3:=zb (HO2.out.trans o3)
  clear f3 o3
  generalize zk s ib 3=rd at *
  obtain⟨c,ic⟩:=rd
  simp only[]at *
  by_cases hc:c=1
  ·subst hc
   go_wp2_with fail
   refine(hI.out a (by omega) _).mono ?_
   rintro e w3 ⟨rfl,rfl⟩
   go_wp2_with fail
   go_ret2
   have hr:=HRE.out
   simp only[if_true]at hr
   subst hr
   refine⟨?_,HF3.out,HO3.out⟩
   show Ending.returned (.tuple #[.string _,.int .i64 0])=_
   rw[HE2.out]
   rfl
  ·have hc':((c:Int)==1)=false:=by simp;omega
   go_wp2_with fail
   refine(hI.out a (by omega) _).mono ?_
   rintro e w3 ⟨rfl,rfl⟩
   go_wp2_with fail
   refine(HIB.out _).mono ?_
   rintro e w4 ⟨rfl,rfl⟩
   go_wp2_with fail
   go_ret2
   have hr:=HRE.out
   simp only[if_true]at hr
   rw[if_neg hc]at hr
   subst hr
   refine⟨?_,HF3.out,HO3.out⟩
   show Ending.returned (.tuple #[.string _,.int .i64 ((a:Int)+(b:Int))])=_
   rw[HE1.out,←Int.natCast_add]
   rfl
end Go.Proofs.YtiamjjonoeaggaaGreatDoor
