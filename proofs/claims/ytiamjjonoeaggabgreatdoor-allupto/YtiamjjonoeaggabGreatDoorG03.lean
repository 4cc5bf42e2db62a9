import Derived.Test.YtiamjjonoeaggabGreatDoorGA
import Derived.Test.YtiamjjonoeaggabGreatDoorG00
import Derived.Test.YtiamjjonoeaggabGreatDoorG02
import Derived.Deep.QuietTactic
import Derived.BigQuiet
set_option maxRecDepth 100000
set_option maxHeartbeats 16000000
namespace Go.Proofs.YtiamjjonoeaggabGreatDoor
open Go.RowKit
theorem j6I (t:By)(w:World) :
  Calls Tryz.prog 112 #[bs t,.slice (some ⟨w.heap.size,0,none⟩) 6 6] (w.alloc (.cells #[bs [40],bs [41],bs [44],bs [91],bs [93],bs [42]] 9)) fun e w'=>e=.returned (.bool (inB t q1m))∧w'=w.alloc (.cells #[bs [40],bs [41],bs [44],bs [91],bs [93],bs [42]] 9):=
 q7m t _ q1m _ (qx w q1m 9 (by decide))
theorem q8W (c:UInt8):(q2z c=true∧(c=32∨c=10))∨(q2z c=false∧((c.toNat:Int)==32)=false∧((c.toNat:Int)==10)=false):=by
 by_cases h1:c=32
 ·subst h1;exact .inl ⟨rfl,.inl rfl⟩
 ·by_cases h2:c=10
  ·subst h2;exact .inl ⟨rfl,.inr rfl⟩
  ·refine .inr ⟨by simp[q2z,h1,h2],beq_eq_false_iff_ne.2 fun e=>h1 (UInt8.toNat_inj.1 (by show c.toNat=32;omega)),beq_eq_false_iff_ne.2 fun e=>h2 (UInt8.toNat_inj.1 (by show c.toNat=10;omega))⟩
theorem q5X (s:By)(i:Nat)(h:i<s.length):((ByteArray.mk s.toArray)[i]'(by exact h))=s.getD i 0:=by
 show s[i]=_
 simp[List.getD,h]
def boolN:Value→Nat
 | .bool true=>1
 |_=>0
theorem j0l {w:World}{base:Nat}{e:TypeId}{size:Nat}{v:Value}{n:Nat}{xs:List Value}(m:Nat)(h:w.ownsRow base e size v n xs):(w.drewN m).ownsRow base e size v n xs:=by
 induction m generalizing w with
 |zero=>exact h
 |succ m ih=>exact ih h.drew
theorem q2v {B:Nat}{a w:World}(m:Nat)(h:Below B a w):Below B a (w.drewN m):=below_drewN h m
theorem j2G {s:By}{R:List Tok × Int}{w w':World}{v':Value}{acc:List Tok}{t:By}{i k:Nat}{ok b:Bool}(hG:Hid (b=ok))(hT:Hid (ok=true→q2m s (s.length-k) k (acc++[⟨t,i⟩])=R))
  (hown:w'.ownsRow w.heap.size 177 2 v' (acc.length+1) (q0I acc++[bs t,.int .i64 i]))(hb:Below w.heap.size w w')(hk:k≤s.length)(hl:acc.length+1≤k)(hbt:b=true) :
  ∃(i':Nat) (acc':List Tok),i'≤s.length∧(.int .i64 (k:Int):Value)=.int .i64 i'∧acc'.length≤i'∧w'.ownsRow w.heap.size 177 2 v' acc'.length (q0I acc')∧Hid (q2m s (s.length-i') i' acc'=R)∧Below w.heap.size w w':=by
 refine⟨k,acc++[Tok.mk t i],hk,rfl,by simpa using hl,?_,hT.out (hG.out.symm.trans hbt),hb⟩
 rw[j1k]
 simpa using hown
theorem tok_done {R:List Tok × Int}{w w':World}{acc:List Tok}{v:Value}(hR:Hid (R=(acc,-1)))(hown:w'.ownsRow w.heap.size 177 2 v acc.length (q0I acc))(hb:Below w.heap.size w w') :
  ∃v',Ending.returned (.tuple #[v,.int .i64 (-1)])=.returned (.tuple #[v',.int .i64 R.2])∧w'.ownsRow w.heap.size 177 2 v' R.1.length (q0I R.1)∧Below w.heap.size w w':=by
 have:=hR.out
 subst this
 exact⟨_,rfl,hown,hb⟩
theorem l8t {n:Nat}(h:(!decide ((n:Int)≤8))=true):decide (n≤8)=false:=by simp at *;omega
theorem l8f {n:Nat}(h:(!decide ((n:Int)≤8))=false):decide (n≤8)=true:=by simp at *;omega
theorem l3t {n:Nat}(h:(!decide ((n:Int)≤3))=true):decide (n≤3)=false:=by simp at *;omega
theorem l3f {n:Nat}(h:(!decide ((n:Int)≤3))=false):decide (n≤3)=true:=by simp at *;omega
theorem q9n {n:Nat}(h:(!decide ((n:Int)≤3))=true∧(!decide ((n:Int)≤8))=true):decide (n≤3)=false∧decide (n≤8)=false:=⟨l3t h.1,l8t h.2⟩
theorem l38f {n:Nat}(h:(!decide ((n:Int)≤3))=false∨(!decide ((n:Int)≤8))=false):(decide (n≤3) || decide (n≤8))=true:=by
 rcases h with h|h
 ·rw[l3f h];rfl
 ·rw[l8f h];simp
theorem l3t' {n:Nat}(h:3<(n:Int)):decide (n≤3)=false:=by simp;omega
theorem l3f' {n:Nat}(h:(n:Int)≤3):decide (n≤3)=true:=by simp;omega
theorem l3g {n:Nat}(h:¬3<(n:Int)):decide (n≤3)=true:=by simp;omega
theorem j2F {R:List Tok × Int}{w w':World}{i:Nat}{ok b:Bool}{e:Ending}(hG:Hid (b=ok))(hB:Hid (ok=false→R=([],(i:Int))))(hb:Below w.heap.size w w')(hbf:b=false)(he:e=.returned (.tuple #[.slice none 0 0,.int .i64 (i:Int)])) :
  ∃v,e=.returned (.tuple #[v,.int .i64 R.2])∧w'.ownsRow w.heap.size 177 2 v R.1.length (q0I R.1)∧Below w.heap.size w w':=by
 have:=hB.out (hG.out.symm.trans hbf)
 subst this
 exact⟨_,he,zW _ _ _ _,hb⟩
theorem j5q (s:By)(hs:s.length≤240)(w:World) :
  Calls Tryz.prog 104 #[bs s] w fun e w'=>∃v,e=.returned (.tuple #[v,.int .i64 (q0u s).2])∧w'.ownsRow w.heap.size 177 2 v (q0u s).1.length (q0I (q0u s).1)∧Below w.heap.size w w':=by
 have hR:q2m s (s.length-0) 0 []=q0u s:=rfl
 generalize q0u s=R at *
 have HR:=zb hR
 clear hR
 have hext:=j4I s
 obtain⟨i0,hi0,hz0,hz1,hz2⟩:=info_parts info_tok
 go_enter Tryz.func104,Tryz.ntmps104
 go_wp2_with fail
 go_loopw [4,5] (fun l vi wr=>∃(i:Nat) (acc:List Tok),i≤s.length∧vi=.int .i64 i∧acc.length≤i∧wr.ownsRow w.heap.size 177 2 l acc.length (q0I acc)∧Hid (q2m s (s.length-i) i acc=R)∧Below w.heap.size w wr) (fun _ vi _=>s.length-(intOf vi).toNat)
 case atStart=>exact⟨0,[],zZ _,rfl,zL _,zW _ _ _ _,HR,zB _ _⟩
 case round =>
  obtain⟨i,acc,hi,rfl,hai,hown,HL,hbel⟩:=hrel
  clear HR
  by_cases hlt:i<s.length
  ·have hat:=q5X s i hlt
   have HBl:=zb (fun hb=>j1A HL.out hlt hb)
   have HTk:=zb (fun hb ho=>j5X HL.out hlt hb ho)
   have HBd:=zb (fun hb ho=>j5W HL.out hlt hb ho)
   have HE:Hid (qA s i=i+1+q0w (s.getD i 0) (s.drop (i+1))):=rfl
   have hte:=q8T s i hlt
   generalize hcd:s.getD i 0=c at *
   have HC:=zb hcd
   clear hcd HL
   rcases q8W c with⟨hb,hc⟩|⟨hb,hc1,hc2⟩
   ·have HB:=zb (HBl.out hb)
    clear hb HBl HTk HBd
    rcases hc with rfl|rfl
    all_goals
     go_wp2_with fail
     go_roundw
     case rel=>exact⟨i+1,acc,by omega,by go_num,by omega,hown,HB,hbel⟩
     case measure=>simp[intOf];omega
   ·have HTk:=zb (HTk.out hb)
    have HBd:=zb (HBd.out hb)
    clear hb HBl
    generalize qA s i=te at *
    go_wp2_with fail
    go_loopw [6,7] (fun vk vm wr'=>wr'.ownsRow w.heap.size 177 2 u4 acc.length (q0I acc)∧Below w.heap.size w wr'∧∃(k:Nat) (more:Bool),i+1≤k∧k≤s.length∧vk=.int .i64 k∧vm=.bool more∧Hid (k+(if more then q0w (s.getD (k-1) 0) (s.drop k)else 0)=te)) (fun vk vm _=>2*(s.length-(intOf vk).toNat)+boolN vm)
    case atStart=>exact⟨hown,hbel,i+1,true,by omega,by omega,by go_num,rfl,by unfold Hid;rw[HE.out];simp[←HC.out]⟩
    case round =>
     clear hown hbel
     obtain⟨hown,hbel,k,more,hk1,hk2,rfl,rfl,HK⟩:=hrel
     by_cases hgo:k<s.length∧more=true
     ·obtain⟨hkl,rfl⟩:=hgo
      have hr:=ref_row ((s.getD (k-1) 0).toNat:Int) ((s.getD k 0).toNat:Int)
      have hat1:=q5X s (k-1) (by omega)
      have hat2:=q5X s k hkl
      have HS:=zb (j7v s k hkl (s.getD (k-1) 0))
      generalize h1:s.getD (k-1) 0=c1 at *
      generalize h2:s.getD k 0=c2 at *
      generalize hrb:q7Y (c1.toNat:Int) (c2.toNat:Int)=rb at *
      have H2:=zb h2
      clear h1 h2 hrb
      cases rb with
      |true =>
       go_wp2_with fail
       go_quiet ((go_at_call 141;exact Calls.quiet_of_same (hr _)))
       go_wp2_with fail
       go_roundw
       case rel =>
        refine⟨j0l _ hown,q2v _ hbel,k+1,true,by omega,by omega,by go_num,rfl,?_⟩
        have h1:=HK.out
        have h2:=HS.out
        have h3:=H2.out
        simp at h1 h2
        unfold Hid
        simp only[if_true,Nat.add_sub_cancel]
        rw[h3]
        omega
       case measure=>simp[intOf,boolN];omega
      |false =>
       go_wp2_with fail
       go_quiet ((go_at_call 141;exact Calls.quiet_of_same (hr _)))
       go_wp2_with fail
       go_roundw
       case rel =>
        refine⟨j0l _ hown,q2v _ hbel,k,false,by omega,by omega,by go_num,rfl,?_⟩
        have h1:=HK.out
        have h2:=HS.out
        simp at h1 h2
        unfold Hid
        simp
        omega
       case measure=>simp[intOf,boolN]
     ·have hkt:k=te:=by
       have h1:=HK.out
       cases more with
       |true =>
        have:s.drop k=[]:=List.drop_of_length_le (by
         rcases Nat.lt_or_ge k s.length with h|h
         · exact absurd ⟨h,rfl⟩ hgo
         · exact h)
        rw[this]at h1
        simpa[q0w]using h1
       |false=>simpa using h1
      subst hkt
      clear HK HE
      have HT:=zb (j6I (cut s i k))
      have hD:=q2q (c.toNat:Int)
      have hL:=q2E (c.toNat:Int)
      have hlen:(cut s i k).length=k-i:=by unfold cut;simp;omega
      have hx:=hext i k
      clear hext
      generalize htx:cut s i k=t at *
      have hlen':t.length=k-i:=hlen
      generalize hg:q3p c t=ok at *
      unfold q3p at hg
      generalize hg1:inB t q1m=sg at *
      generalize hg2:qp (c.toNat:Int)=dg at *
      generalize hg3:q0e (c.toNat:Int)=lt at *
      have HLn:=zb hlen
      have HG:=zb hg
      clear hg1 hg2 hg3 htx hg hlen' hlen
      have htl:t.length≤240:=by rw[HLn.out];omega
      have hcs:(k<s.length∧more=false)∨(¬k<s.length∧more=true)∨(¬k<s.length∧more=false):=by
       by_cases hkl:k<s.length
       ·cases more with
        |true=>exact absurd ⟨hkl,rfl⟩ hgo
        |false=>exact .inl ⟨hkl,rfl⟩
       ·cases more with
        |true=>exact .inr (.inl ⟨hkl,rfl⟩)
        |false=>exact .inr (.inr ⟨hkl,rfl⟩)
      clear hgo
      rcases hcs with⟨hkl,rfl⟩|⟨hkl,rfl⟩|⟨hkl,rfl⟩
      ·cases sg<;>cases dg<;>cases lt
       all_goals
        go_wp2_with fail
        refine(HT.out _).mono ?_
        rintro e w1 ⟨rfl,rfl⟩
        go_wp2_with fail
        refine(hD _).mono ?_
        rintro e w1 ⟨rfl,rfl⟩
        go_wp2_with fail
        refine(hL _).mono ?_
        rintro e w1 ⟨rfl,rfl⟩
        go_wp2_with (at_builtin;refine q2c rfl _ _ 110 177 rfl Tryz.underlying110 hi0 hz0 hz1 hz2 rfl (by decide) w w.heap.size _ _ _ [bs t,.int .i64 i] (wr.alloc (.cells #[bs [40],bs [41],bs [44],bs [91],bs [93],bs [42]] 9)) rfl (hown.alloc _) (by simp[Act.eval]) rfl (by simp[Value.oneCell']) (by omega) (by decide) (hbel.alloc hbel.size _) (by have:=hbel.size;simp;omega) ?_;intro v' w' hown' hbel' hne)
       all_goals first
        |(go_ret2;refine j2F HG HBd (hbel.alloc hbel.size _) ?_ rfl;first|rfl|(rw[l8t (by assumption)];rfl)|(rw[l3t (by assumption)];rfl)|(rw[(q9n (by assumption)).1,(q9n (by assumption)).2];rfl)|(rw[l8f (by assumption)];rfl)|(rw[l8f (by assumption)];simp;done)|(rw[l3f (by assumption)];rfl)|(rw[l3f (by assumption)];simp;done)|(rw[Bool.false_or,Bool.true_and,Bool.true_and];exact l38f (by assumption))|(rw[l3t' (by assumption)];rfl)|(rw[l3f' (by assumption)];rfl)|(rw[l3g (by assumption)];rfl))
        |(go_roundw
          case rel=>refine j2G HG HTk hown' hbel' (by omega) (by omega) ?_;first|rfl|(rw[l8t (by assumption)];rfl)|(rw[l3t (by assumption)];rfl)|(rw[(q9n (by assumption)).1,(q9n (by assumption)).2];rfl)|(rw[l8f (by assumption)];rfl)|(rw[l8f (by assumption)];simp;done)|(rw[l3f (by assumption)];rfl)|(rw[l3f (by assumption)];simp;done)|(rw[Bool.false_or,Bool.true_and,Bool.true_and];exact l38f (by assumption))|(rw[l3t' (by assumption)];rfl)|(rw[l3f' (by assumption)];rfl)|(rw[l3g (by assumption)];rfl)
          case measure=>simp[intOf];omega)
      ·cases sg<;>cases dg<;>cases lt
       all_goals
        go_wp2_with fail
        refine(HT.out _).mono ?_
        rintro e w1 ⟨rfl,rfl⟩
        go_wp2_with fail
        refine(hD _).mono ?_
        rintro e w1 ⟨rfl,rfl⟩
        go_wp2_with fail
        refine(hL _).mono ?_
        rintro e w1 ⟨rfl,rfl⟩
        go_wp2_with (at_builtin;refine q2c rfl _ _ 110 177 rfl Tryz.underlying110 hi0 hz0 hz1 hz2 rfl (by decide) w w.heap.size _ _ _ [bs t,.int .i64 i] (wr.alloc (.cells #[bs [40],bs [41],bs [44],bs [91],bs [93],bs [42]] 9)) rfl (hown.alloc _) (by simp[Act.eval]) rfl (by simp[Value.oneCell']) (by omega) (by decide) (hbel.alloc hbel.size _) (by have:=hbel.size;simp;omega) ?_;intro v' w' hown' hbel' hne)
       all_goals first
        |(go_ret2;refine j2F HG HBd (hbel.alloc hbel.size _) ?_ rfl;first|rfl|(rw[l8t (by assumption)];rfl)|(rw[l3t (by assumption)];rfl)|(rw[(q9n (by assumption)).1,(q9n (by assumption)).2];rfl)|(rw[l8f (by assumption)];rfl)|(rw[l8f (by assumption)];simp;done)|(rw[l3f (by assumption)];rfl)|(rw[l3f (by assumption)];simp;done)|(rw[Bool.false_or,Bool.true_and,Bool.true_and];exact l38f (by assumption))|(rw[l3t' (by assumption)];rfl)|(rw[l3f' (by assumption)];rfl)|(rw[l3g (by assumption)];rfl))
        |(go_roundw
          case rel=>refine j2G HG HTk hown' hbel' (by omega) (by omega) ?_;first|rfl|(rw[l8t (by assumption)];rfl)|(rw[l3t (by assumption)];rfl)|(rw[(q9n (by assumption)).1,(q9n (by assumption)).2];rfl)|(rw[l8f (by assumption)];rfl)|(rw[l8f (by assumption)];simp;done)|(rw[l3f (by assumption)];rfl)|(rw[l3f (by assumption)];simp;done)|(rw[Bool.false_or,Bool.true_and,Bool.true_and];exact l38f (by assumption))|(rw[l3t' (by assumption)];rfl)|(rw[l3f' (by assumption)];rfl)|(rw[l3g (by assumption)];rfl)
          case measure=>simp[intOf];omega)
      ·cases sg<;>cases dg<;>cases lt
       all_goals
        go_wp2_with fail
        refine(HT.out _).mono ?_
        rintro e w1 ⟨rfl,rfl⟩
        go_wp2_with fail
        refine(hD _).mono ?_
        rintro e w1 ⟨rfl,rfl⟩
        go_wp2_with fail
        refine(hL _).mono ?_
        rintro e w1 ⟨rfl,rfl⟩
        go_wp2_with (at_builtin;refine q2c rfl _ _ 110 177 rfl Tryz.underlying110 hi0 hz0 hz1 hz2 rfl (by decide) w w.heap.size _ _ _ [bs t,.int .i64 i] (wr.alloc (.cells #[bs [40],bs [41],bs [44],bs [91],bs [93],bs [42]] 9)) rfl (hown.alloc _) (by simp[Act.eval]) rfl (by simp[Value.oneCell']) (by omega) (by decide) (hbel.alloc hbel.size _) (by have:=hbel.size;simp;omega) ?_;intro v' w' hown' hbel' hne)
       all_goals first
        |(go_ret2;refine j2F HG HBd (hbel.alloc hbel.size _) ?_ rfl;first|rfl|(rw[l8t (by assumption)];rfl)|(rw[l3t (by assumption)];rfl)|(rw[(q9n (by assumption)).1,(q9n (by assumption)).2];rfl)|(rw[l8f (by assumption)];rfl)|(rw[l8f (by assumption)];simp;done)|(rw[l3f (by assumption)];rfl)|(rw[l3f (by assumption)];simp;done)|(rw[Bool.false_or,Bool.true_and,Bool.true_and];exact l38f (by assumption))|(rw[l3t' (by assumption)];rfl)|(rw[l3f' (by assumption)];rfl)|(rw[l3g (by assumption)];rfl))
        |(go_roundw
          case rel=>refine j2G HG HTk hown' hbel' (by omega) (by omega) ?_;first|rfl|(rw[l8t (by assumption)];rfl)|(rw[l3t (by assumption)];rfl)|(rw[(q9n (by assumption)).1,(q9n (by assumption)).2];rfl)|(rw[l8f (by assumption)];rfl)|(rw[l8f (by assumption)];simp;done)|(rw[l3f (by assumption)];rfl)|(rw[l3f (by assumption)];simp;done)|(rw[Bool.false_or,Bool.true_and,Bool.true_and];exact l38f (by assumption))|(rw[l3t' (by assumption)];rfl)|(rw[l3f' (by assumption)];rfl)|(rw[l3g (by assumption)];rfl)
          case measure=>simp[intOf];omega)
  ·have HD:=zb (j3J HL.out (by omega))
   clear HL
   go_wp2_with fail
   go_ret2
   exact tok_done HD hown hbel
def q7r (a b:Int):Int:=if b-a<0 then b-a+65536 else b-a
theorem q6l (a b:Int)(ha:0≤a∧a<65536)(hb:0≤b∧b<65536)(w:World) :
  Calls Tryz.prog 85 #[.int .u16 a,.int .u16 b] w fun e w'=>e=.returned (.int .i64 (q7r a b))∧w'=w:=by
 unfold q7r
 by_cases h:b-a<0
 ·rw[if_pos h]
  go_enter Tryz.func85,Tryz.ntmps85
  go_wp2
  go_ret
  exact⟨q1l (by go_num),rfl⟩
 ·rw[if_neg h]
  go_enter Tryz.func85,Tryz.ntmps85
  go_wp2
  go_ret
  exact⟨q1l (by go_num),rfl⟩
def q7R (c:Int)(n:Nat):Nat:=(if c<0 then -(c+1)else c).toNat % n
theorem j0n (c:Int){n:Nat}(h:0<n):q7R c n<n:=Nat.mod_lt _ h
theorem j7e {c:Int}(h:c<0)(n:Nat):-(c+1).tmod (n:Int)=(q7R c n:Int):=by
 unfold q7R
 rw[if_pos h,←Int.neg_tmod,Int.tmod_eq_emod_of_nonneg (by omega),Int.natCast_emod,Int.toNat_of_nonneg (by omega)]
theorem j7f {c:Int}(h:¬c<0)(n:Nat):c.tmod (n:Int)=(q7R c n:Int):=by
 unfold q7R
 rw[if_neg h,Int.tmod_eq_emod_of_nonneg (by omega),Int.natCast_emod,Int.toNat_of_nonneg (by omega)]
theorem q9X (c:Int)(hc:-9223372036854775808≤c∧c≤9223372036854775807)(n:Nat)(hn:0<n)(w:World) :
  Calls Tryz.prog 41 #[.int .i64 c,.int .i64 n] w fun e w'=>e=.returned (.int .i64 (q7R c n))∧w'=w:=by
 obtain⟨hc1,hc2⟩:=hc
 have hn0:¬(n:Int)=0:=by omega
 by_cases h:c<0
 ·have h1:IntKind.i64.wrap (c+1)=c+1:=by rw[IntKind.wrap_i64];omega
  have h2:IntKind.i64.wrap (-(c+1)) = -(c+1):=by rw[IntKind.wrap_i64];omega
  go_enter Tryz.func41,Tryz.ntmps41
  go_wp2_with fail
  go_ret
  exact⟨q1l (j7e h n),rfl⟩
 ·go_enter Tryz.func41,Tryz.ntmps41
  go_wp2_with fail
  go_ret
  exact⟨q1l (by rw[←j7f (c:=c) (by omega) n,Int.tmod_eq_emod_of_nonneg (by omega)]),rfl⟩
abbrev q7j (a b:Int):Array Value:=#[.int .i64 a,.int .u16 b,.int .u16 0,.int .u16 0,.int .u16 0,.int .u16 0,.int .u16 0,.int .u16 0,.int .u16 0,.int .u16 0,.int .u16 0,.int .u16 0]
theorem j3F (n:Int)(w:World):Calls Tryz.prog 58 #[.int .i64 n] w fun e w'=>e=.returned (.agg (q7j (wrap64 (-n)) (IntKind.u16.wrap n)))∧Below w.heap.size w w':=by
 go_enter Tryz.func58,Tryz.ntmps58
 go_wp2_with fail
 exact zP (v:=.agg (q7j (wrap64 (-n)) (IntKind.u16.wrap n))) (by simp[results,Tryz.results58,go_sem]) rfl ⟨rfl,(zB _ _).alloc (zL _) _⟩
end Go.Proofs.YtiamjjonoeaggabGreatDoor
