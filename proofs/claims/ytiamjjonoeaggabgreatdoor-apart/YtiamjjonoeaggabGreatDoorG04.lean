import Derived.Test.YtiamjjonoeaggabGreatDoorGA
import Derived.Test.YtiamjjonoeaggabGreatDoorG02
namespace Go.Proofs.YtiamjjonoeaggabGreatDoor
open Go.RowKit
theorem q6f (c:UInt8)(h:inB [c] q1p=true):TokT [c]:=⟨.inl ⟨c,rfl,h⟩⟩
theorem q1J (t:By)(h0:t≠[])(h:(t.all fun c=>q0s (c.toNat:Int))=true)(hl:t.length≤8):TokT t:=⟨.inr (.inr ⟨h0,fun c hc=>List.all_eq_true.1 h c hc,hl⟩)⟩
theorem j1b {n:Nat}(h:n≤9):∀c∈q5H n,qd (c.toNat:Int)=true:=by
 intro c hc
 have:c=UInt8.ofNat (48+n):=by simpa[q5H]using hc
 subst this
 rw[UInt8.toNat_ofNat_of_lt' (by show 48+n<256;omega)]
 unfold qd
 simp
 omega
theorem j4k {n:Nat}(h:n≤9):TokT (q5H n):=⟨.inr (.inl ⟨by simp[q5H],j1b h,by simp[q5H]⟩)⟩
theorem j3V {n:Nat}(h:n≤9):q4m (q5H n)=true:=j1b h _ (by simp[q5H])
theorem j4n {n:Nat}(h:n≤9):q0h (q5H n)=n:=by
 unfold q0h q5H
 simp only[List.foldl_cons,List.foldl_nil]
 rw[UInt8.toNat_ofNat_of_lt' (by show 48+n<256;omega)]
 omega
theorem dig_star {n:Nat}(h:n≤9):(q5H n==[42])=false:=by
 rw[beq_eq_false_iff_ne]
 intro e
 have:=j1b h 42 (by rw[e];simp)
 exact absurd this (by decide)
theorem q3B {p sp:Nat}{y:Pay}{l r:zg}(hl:q7X l)(hr:q7X r)(h:qz (.node p sp y l r)=false∧qK (.node p sp y l r)=false∧q1i (.node p sp y l r)=false):q7X (.node p sp y l r):=by
 intro G hG
 rw[zw]at hG
 rcases List.mem_cons.1 hG with rfl|hG
 ·exact h
 ·rcases List.mem_append.1 hG with hG|hG
  ·exact hl G hG
  ·exact hr G hG
theorem q3J:q7X .nil:=fun G hG=>by simp[zw]at hG
theorem q9N (k:Nat):zx (nmK k)=true∧TokT (nmK k)∧(nmK k).length=1∧qJ (nmK k)=false∧qG (nmK k)=false∧q0B (nmK k)=false∧(nmK k==[101,120,105,115,116,115])=false:=by
 unfold nmK
 split
 ·exact⟨by decide,q1J _ (by decide) (by decide) (by decide),by decide,by decide,by decide,by decide,by decide⟩
 ·split
  ·exact⟨by decide,q1J _ (by decide) (by decide) (by decide),by decide,by decide,by decide,by decide,by decide⟩
  ·exact⟨by decide,q1J _ (by decide) (by decide) (by decide),by decide,by decide,by decide,by decide,by decide⟩
theorem q8y (k:Nat):q5F (q2f k)=true∧TokT (q2f k)∧(q2f k).length=1:=by
 unfold q2f
 split
 ·exact⟨by decide,q1J _ (by decide) (by decide) (by decide),by decide⟩
 ·split
  ·exact⟨by decide,q1J _ (by decide) (by decide) (by decide),by decide⟩
  ·split
   ·exact⟨by decide,⟨.inr (.inl ⟨by decide,by decide,by decide⟩)⟩,by decide⟩
   ·exact⟨by decide,⟨.inr (.inl ⟨by decide,by decide,by decide⟩)⟩,by decide⟩
theorem j1U:TokT [40]:=q6f 40 (by decide)
theorem j1V:TokT [41]:=q6f 41 (by decide)
theorem j3f:TokT [44]:=q6f 44 (by decide)
theorem sgn91:TokT [91]:=q6f 91 (by decide)
theorem sgn93:TokT [93]:=q6f 93 (by decide)
theorem sgn42:TokT [42]:=q6f 42 (by decide)
structure FineB (F:zg)(h t:Nat):Prop where
 fine:Fine F
 hgt:hgt F≤h
 len:(zs F).length≤t
theorem FineB.mono {F:zg}{h t h' t':Nat}(f:FineB F h t)(hh:h≤h')(ht:t≤t'):FineB F h' t':=⟨f.fine,zM f.hgt hh,zM f.len ht⟩
theorem fine_ev1 (k a:Nat):FineB (evF (nmK k) [q2f a]) 1 6:=by
 obtain⟨n1,n2,n3,n4,n5,n6,n7⟩:=q9N k
 obtain⟨a1,a2,a3⟩:=q8y a
 refine⟨⟨.inl ⟨n1,rfl,rfl,rfl,rfl,q2f a,a1,.inl rfl⟩,?_,q3B q3J q3J ⟨?_,?_,?_⟩⟩,by simp[evF,hgt],?_⟩
 ·unfold evF
  simp only[q0c,n1,if_true]
  simp[n2,a2,j1U,j1V]
 ·unfold qz q2y;simp only[n4,n5];rfl
 ·unfold qK q2y;simp only[n6];rfl
 ·unfold q1i;simp only[n7];rfl
 ·unfold evF
  simp only[zs,n1,if_true]
  simp[n3,a3]
theorem fine_ev2 (k a b:Nat):FineB (evF (nmK k) [q2f a,q2f b]) 1 6:=by
 obtain⟨n1,n2,n3,n4,n5,n6,n7⟩:=q9N k
 obtain⟨a1,a2,a3⟩:=q8y a
 obtain⟨b1,b2,b3⟩:=q8y b
 refine⟨⟨.inl ⟨n1,rfl,rfl,rfl,rfl,q2f a,a1,.inr ⟨q2f b,b1,rfl⟩⟩,?_,q3B q3J q3J ⟨?_,?_,?_⟩⟩,by simp[evF,hgt],?_⟩
 ·unfold evF
  simp only[q0c,n1,if_true]
  simp[n2,a2,b2,j1U,j1V,j3f]
 ·unfold qz q2y;simp only[n4,n5];rfl
 ·unfold qK q2y;simp only[n6];rfl
 ·unfold q1i;simp only[n7];rfl
 ·unfold evF
  simp only[zs,n1,if_true]
  simp[n3,a3,b3]
theorem j9c:FineB q7q 1 6:=by
 refine⟨⟨.inr (.inr (.inr (.inr (.inr ⟨rfl,rfl,rfl,rfl,rfl,rfl⟩)))),?_,q3B q3J q3J ⟨by decide,by decide,by decide⟩⟩,by simp[q7q,hgt],by decide⟩
 intro t ht
 have:t=[116,114,117,101]:=by
  have e:q0c q7q=[[116,114,117,101]]:=by decide
  rw[e]at ht
  simpa using ht
 subst this
 exact q1J _ (by decide) (by decide) (by decide)
theorem j2E (s:By)(i:Nat):FineB (q2K s i).1 1 6:=by
 unfold q2K
 split
 ·exact j9c
 ·split
  ·exact fine_ev2 _ _ _
  ·exact fine_ev1 _ _
theorem j8i {F:zg}{h t:Nat}(f:FineB F h t)(v:By)(hv:q1l v=true)(hf:zh F v=true):FineB (exF v F) (h+1) (t+10):=by
 have hW:=f.fine.well
 have hne:F≠.nil:=by intro e;rw[e]at hW;exact hW
 have k1:zx [101,120,105,115,116,115]=false:=by decide
 have hvl:v.length=1∧TokT v:=by
  unfold q1l at hv
  simp at hv
  rcases hv with rfl|rfl
  ·exact⟨rfl,q1J _ (by decide) (by decide) (by decide)⟩
  ·exact⟨rfl,q1J _ (by decide) (by decide) (by decide)⟩
 refine⟨⟨.inr (.inl ⟨rfl,rfl,rfl,rfl,hW,v,hv,rfl⟩),?_,q3B f.fine.nobad q3J ⟨by rfl,by rfl,?_⟩⟩,?_,?_⟩
 ·unfold exF
  simp only[q0c,k1,Bool.false_eq_true,if_false,beq_self_eq_true,if_true,List.headD_cons]
  intro q hq
  simp only[List.mem_cons,List.mem_append,List.not_mem_nil,or_false]at hq
  rcases hq with rfl|rfl|rfl|hq|rfl
  ·exact q1J _ (by decide) (by decide) (by decide)
  ·exact hvl.2
  ·exact j1U
  ·exact f.fine.toks q hq
  ·exact j1V
 ·unfold q1i
  simp only[beq_self_eq_true,if_true,List.headD_cons,hf]
  rfl
 ·have:=f.hgt
  simp[exF,hgt]
  omega
 ·have:=f.len
  unfold exF
  simp only[zs,k1,Bool.false_eq_true,if_false,beq_self_eq_true,if_true,List.headD_cons]
  simp[hvl.1]
  omega
theorem j6T {F:zg}{h t:Nat}(f:FineB F h t)(y:Bool):FineB (q5j F y) (h+1) (t+10):=by
 unfold q5j
 split
 ·rename_i hc
  rw[Bool.and_eq_true]at hc
  exact j8i f [121] (by decide) hc.1
 ·split
  ·rename_i hc
   exact j8i f [120] (by decide) hc
  ·exact f.mono (by omega) (by omega)
theorem q6q {A B:zg}{h t:Nat}(fa:FineB A h t)(fb:FineB B h t)(w:By)(hw:qj w=true)(hb:w=[97,110,100]∨(q2t w (zh A [120]) (zh B [120])=false∧q2t w (zh A [121]) (zh B [121])=false)):FineB (opF w [] [] A B) (h+1) (t+t+6):=by
 have k:=q0d.1 hw
 have k2:qJ w=false∧qG w=false∧q0B w=false∧w.length≤3∧TokT w:=by
  unfold qj inB q4c at hw
  simp at hw
  rcases hw with hw|hw|hw<;>subst hw<;>exact⟨by decide,by decide,by decide,by decide,q1J _ (by decide) (by decide) (by decide)⟩
 refine⟨⟨.inr (.inr (.inl ⟨hw,rfl,rfl,rfl,fa.fine.well,fb.fine.well⟩)),?_,q3B fa.fine.nobad fb.fine.nobad ⟨?_,?_,?_⟩⟩,?_,?_⟩
 ·unfold opF
  simp only[q0c,k.1,k.2,hw,Bool.false_eq_true,if_false,if_true]
  intro q hq
  simp only[List.mem_cons,List.mem_append,List.not_mem_nil,or_false]at hq
  rcases hq with rfl|rfl|hq|rfl|hq|rfl
  ·exact k2.2.2.2.2
  ·exact j1U
  ·exact fa.fine.toks q hq
  ·exact j3f
  ·exact fb.fine.toks q hq
  ·exact j1V
 ·unfold qz q2y;simp only[k2.1,k2.2.1];rfl
 ·unfold qK q2y;simp only[k2.2.2.1];rfl
 ·unfold q1i
  simp only[k.2,Bool.false_eq_true,if_false]
  rcases hb with rfl|⟨b1,b2⟩
  ·rw[if_pos (by simp)]
  ·rw[b1,b2]
   split<;>rfl
 ·have:=fa.hgt
  have:=fb.hgt
  simp[opF,hgt]
  omega
 ·have:=fa.len
  have:=fb.len
  have:=k2.2.2.2.1
  unfold opF
  simp only[zs,k.1,k.2,hw,Bool.false_eq_true,if_false,if_true]
  simp
  omega
structure SpanT (ahead:Bool)(lo hi:By):Prop where
 low:q4m lo=true∧TokT lo∧lo.length=1
 high:q4k hi=true∧TokT hi∧hi.length=1
 le:(hi==[42])=false→q0h lo≤q0h hi
 open':ahead=true→(hi==[42])=false
theorem q7O (s:By)(i:Nat)(ahead:Bool):SpanT ahead (q1h s i ahead).1.1 (q1h s i ahead).1.2.1∧(ahead=true→(q0h (q1h s i ahead).1.2.1:Int)=((q1h s i ahead).1.2.2:Int)):=by
 have ha:=ql s i (n:=4) (by omega)
 have hb:=ql s (zk s i 4).2 (n:=5) (by omega)
 unfold q1h
 simp only[]
 generalize zk s i 4=ra at *
 obtain⟨a,ia⟩:=ra
 simp only[]at ha hb ⊢
 generalize zk s ia 5=rb at *
 obtain⟨b,ib⟩:=rb
 simp only[]at hb ⊢
 have hab:a+b≤9:=by omega
 have ha9:a≤9:=by omega
 have S1:∀q,SpanT q (q5H a) (q5H (a+b)):=fun q=>⟨⟨j3V ha9,j4k ha9,rfl⟩,⟨by unfold q4k;rw[j3V hab];simp,j4k hab,rfl⟩,fun _=>by rw[j4n ha9,j4n hab];omega,fun _=>dig_star hab⟩
 cases ahead with
 |true =>
  simp only[Bool.true_eq_false,if_false]
  exact⟨S1 true,fun _=>by rw[j4n hab]⟩
 |false =>
  simp only[if_true]
  split
  ·exact⟨⟨⟨j3V ha9,j4k ha9,rfl⟩,⟨(by show q4k [42]=true;decide),sgn42,rfl⟩,fun h=>absurd h (by show ¬(([42]:By)==[42])=false;decide),fun h=>absurd h (by decide)⟩,fun h=>absurd h (by decide)⟩
  ·exact⟨S1 false,fun h=>absurd h (by decide)⟩
theorem j5O {w lo hi:By}{l r:zg}{q:Bool}(h:SpanT q lo hi):qz (opF w lo hi l r)=false:=by
 unfold qz opF q2y q6I
 simp only[]
 cases e:(hi==[42])with
 |true=>simp
 |false =>
  have:=h.le e
  rw[decide_eq_false (by omega)]
  simp
theorem j8D {w lo hi:By}{l r:zg}{q:Bool}(h:SpanT q lo hi)(hq:q0B w=true→q=true):qK (opF w lo hi l r)=false:=by
 unfold qK opF q2y q6I
 simp only[]
 cases e:q0B w with
 |false=>rfl
 |true=>rw[h.open' (hq e)];rfl
theorem fine_one {A:zg}{h t:Nat}(fa:FineB A h t)(w lo hi:By)(q:Bool)(hw:qJ w=true)(hs:SpanT q lo hi)(hq:q0B w=true→q=true):FineB (opF w lo hi A .nil) (h+1) (t+11):=by
 have k:=q0d.2.1 hw
 have k2:w.length≤4∧TokT w∧(w==[97,110,100])=false:=by
  unfold qJ inB q9u at hw
  simp at hw
  rcases hw with hw|hw|hw|hw<;>subst hw<;>exact⟨by decide,q1J _ (by decide) (by decide) (by decide),by decide⟩
 refine⟨⟨.inr (.inr (.inr (.inl ⟨hw,rfl,rfl,hs.low.1,hs.high.1,fa.fine.well⟩))),?_,q3B fa.fine.nobad q3J ⟨j5O hs,j8D hs hq,?_⟩⟩,?_,?_⟩
 ·unfold opF
  simp only[q0c,k.1,k.2.1,k.2.2,hw,Bool.false_eq_true,if_false,if_true]
  intro q hq
  simp only[List.mem_cons,List.mem_append,List.not_mem_nil,or_false]at hq
  rcases hq with rfl|rfl|rfl|rfl|rfl|rfl|rfl|hq|rfl
  ·exact k2.2.1
  ·exact sgn91
  ·exact hs.low.2.1
  ·exact j3f
  ·exact hs.high.2.1
  ·exact sgn93
  ·exact j1U
  ·exact fa.fine.toks q hq
  ·exact j1V
 ·unfold q1i
  simp only[k.2.1,Bool.false_eq_true,if_false]
  have e:(q1z (opF w lo hi A .nil)).length<2:=by unfold opF;cases A<;>simp[q1z]
  unfold opF at e
  rw[if_pos (by simp[e])]
 ·have:=fa.hgt
  simp[opF,hgt]
  omega
 ·have:=fa.len
  have:=k2.1
  unfold opF
  simp only[zs,k.1,k.2.1,k.2.2,hw,Bool.false_eq_true,if_false,if_true]
  simp[hs.low.2.2,hs.high.2.2]
  omega
theorem fine_two {A B:zg}{h t:Nat}(fa:FineB A h t)(fb:FineB B h t)(w lo hi:By)(q:Bool)(hw:qG w=true)(hs:SpanT q lo hi)(hq:q0B w=true→q=true)(hx:(zh A [120]&&!zh B [120])=false)(hy:(zh A [121]&&!zh B [121])=false):FineB (opF w lo hi A B) (h+1) (t+t+15):=by
 have k:=q0d.2.2 hw
 have k2:w.length≤7∧TokT w∧(w==[97,110,100])=false∧(w==[111,114])=false∧(w==[98,117,116])=false:=by
  unfold qG inB q8m at hw
  simp at hw
  rcases hw with hw|hw|hw|hw<;>subst hw<;>exact⟨by decide,q1J _ (by decide) (by decide) (by decide),by decide,by decide,by decide⟩
 refine⟨⟨.inr (.inr (.inr (.inr (.inl ⟨hw,rfl,hs.low.1,hs.high.1,fa.fine.well,fb.fine.well⟩)))),?_,q3B fa.fine.nobad fb.fine.nobad ⟨j5O hs,j8D hs hq,?_⟩⟩,?_,?_⟩
 ·unfold opF
  simp only[q0c,k.1,k.2.1,k.2.2.1,k.2.2.2,hw,Bool.false_eq_true,if_false,if_true]
  intro q hq
  simp only[List.mem_cons,List.mem_append,List.not_mem_nil,or_false]at hq
  rcases hq with rfl|rfl|rfl|rfl|rfl|rfl|rfl|hq|rfl|hq|rfl
  ·exact k2.2.1
  ·exact sgn91
  ·exact hs.low.2.1
  ·exact j3f
  ·exact hs.high.2.1
  ·exact sgn93
  ·exact j1U
  ·exact fa.fine.toks q hq
  ·exact j3f
  ·exact fb.fine.toks q hq
  ·exact j1V
 ·unfold q1i
  simp only[k.2.1,Bool.false_eq_true,if_false]
  have b1:q2t w (zh A [120]) (zh B [120])=false:=by unfold q2t;rw[k2.2.2.2.1,k2.2.2.2.2,hw];simpa using hx
  have b2:q2t w (zh A [121]) (zh B [121])=false:=by unfold q2t;rw[k2.2.2.2.1,k2.2.2.2.2,hw];simpa using hy
  rw[b1,b2]
  split<;>rfl
 ·have:=fa.hgt
  have:=fb.hgt
  simp[opF,hgt]
  omega
 ·have:=fa.len
  have:=fb.len
  have:=k2.1
  unfold opF
  simp only[zs,k.1,k.2.1,k.2.2.1,k.2.2.2,hw,Bool.false_eq_true,if_false,if_true]
  simp[hs.low.2.2,hs.high.2.2]
  omega
theorem j6x {k:Nat}(h1:2≤k)(h2:k≤5):qG (timeW k)=true∧(q0B (timeW k)=true→decide (3<k)=true):=by
 have:k=2∨k=3∨k=4∨k=5:=by omega
 rcases this with rfl|rfl|rfl|rfl<;>decide
theorem j8B {k:Nat}(h:k≤3):qJ (oneW k)=true∧(q0B (oneW k)=true→decide (k % 2=1)=true):=by
 have:k=0∨k=1∨k=2∨k=3:=by omega
 rcases this with rfl|rfl|rfl|rfl<;>decide
theorem j9a {A B:zg}{h t:Nat}(fa:FineB A h t)(fb:FineB B h t)(s:By)(i:Nat):FineB (q8j s i A B).1 (h+1) (t+t+15):=by
 have hk:=ql s i (n:=6) (by omega)
 unfold q8j
 simp only[]
 split
 ·rename_i hc
  refine(q6q fa fb [111,114] (by decide) (.inr ?_)).mono (by omega) (by omega)
  have h2:=hc.2
  rw[Bool.and_eq_true,beq_iff_eq,beq_iff_eq]at h2
  rw[h2.1,h2.2]
  cases zh B [120]<;>cases zh B [121]<;>decide
 ·split
  ·rename_i hc
   refine(q6q fa fb [98,117,116] (by decide) (.inr ?_)).mono (by omega) (by omega)
   have h2:=hc.2
   revert h2
   cases zh A [120]<;>cases zh A [121]<;>cases zh B [120]<;>cases zh B [121]<;>decide
  ·split
   ·exact(q6q fa fb [97,110,100] (by decide) (.inl rfl)).mono (by omega) (by omega)
   ·rename_i h3
    simp only[not_or,Bool.not_eq_false]at h3
    obtain⟨h3,h4⟩:=h3
    have hw:=j6x (k:=(zk s i 6).1) (by omega) (by omega)
    have hs:=q7O s (zk s i 6).2 (decide (3<(zk s i 6).1))
    refine fine_two fb fa _ _ _ _ hw.1 hs.1 hw.2 ?_ ?_
    ·revert h3
     cases zh A [120]<;>cases zh A [121]<;>cases zh B [120]<;>cases zh B [121]<;>decide
    ·revert h3
     cases zh A [120]<;>cases zh A [121]<;>cases zh B [120]<;>cases zh B [121]<;>decide
def lenK:Nat→Nat
 | 0=>6
 |n+1=>lenK n+lenK n+15
theorem lenK_ge (n:Nat):6≤lenK n:=by
 induction n with
 |zero=>exact zL _
 |succ n ih=>simp only[lenK];omega
theorem j8j (s:By):∀(n i:Nat),FineB (mkF s n i).1 (n+1) (lenK n):=by
 intro n
 induction n with
 |zero=>intro i;exact j2E s _
 |succ n ih =>
  intro i
  have hl:=lenK_ge n
  unfold mkF
  simp only[]
  split
  ·exact(j2E s _).mono (by omega) (by simp only[lenK];omega)
  ·split
   ·exact(j9a (ih _) (ih _) s _)
   ·split
    ·exact(j6T (ih _) _).mono (by omega) (by simp only[lenK];omega)
    ·have hk:=ql s (mkF s n (zk s i 10).2).2 (n:=4) (by omega)
     have hw:=j8B (k:=(zk s (mkF s n (zk s i 10).2).2 4).1) (by omega)
     have hs:=q7O s (zk s (mkF s n (zk s i 10).2).2 4).2 (decide ((zk s (mkF s n (zk s i 10).2).2 4).1 % 2=1))
     exact(fine_one (ih _) _ _ _ _ hw.1 hs.1 hw.2).mono (by omega) (by simp only[lenK];omega)
end Go.Proofs.YtiamjjonoeaggabGreatDoor
