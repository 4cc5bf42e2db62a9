import Derived.Test.YtiamjjonoeaggabGreatDoorGA
import Derived.Test.YtiamjjonoeaggabGreatDoorG03
import Derived.Test.YtiamjjonoeaggabGreatDoorG08
import Derived.Test.YtiamjjonoeaggabGreatDoorG24
import Derived.Deep.LoopGhost
set_option maxRecDepth 100000
set_option maxHeartbeats 16000000
namespace Go.Proofs.YtiamjjonoeaggabGreatDoor
open Go.RowKit
def qq (a k n c:Int):Option (Int × Int × Int):=
 if a=0 then(if c=64 then some (1,0,n)else none)
 else if a=1 then(if qp c=true∧k<5∧10*n+(c-48)≤65535 then some (1,k+1,10*n+(c-48))else if 0<k∧c=32 then some (2,0,n)else none)
 else if a=2 then(if q0e c=true∧k<8 then some (2,k+1,n)else if 0<k∧c=40 then some (3,k,n)else none)
 else if a=3 then(if qp c=true then some (4,k,n)else none)
 else if a=4 then(if c=44 then some (5,k,n)else if c=41 then some (7,k,n)else none)
 else if a=5 then(if qp c=true then some (6,k,n)else none)
 else if a=6 then(if c=41 then some (7,k,n)else none)
 else(if c=32 then some (2,0,n)else none)
def q3y (L:Nat):By→Nat→Int→Int→Int→Int
 | [],_,a,k,_=>if a=7∨(a=1∧0<k)then -1 else(L:Int)
 |c::r,i,a,k,n=>match qq a k n (c.toNat:Int)with
  |none=>(i:Int)
  |some q=>q3y L r (i+1) q.1 q.2.1 q.2.2
def j0o (s:By):Int:=q3y s.length s 0 0 0 0
def LRelP (s:By)(R:Int)(g:Nat)(va vk vn vi:Value):Prop:=
 ∃(i:Nat) (a k n:Int),i≤s.length∧s.length-i≤g∧va=.int .i64 a∧vk=.int .i64 k∧vn=.int .i64 n∧vi=.int .i64 i∧(a=0∨a=1∨a=2∨a=3∨a=4∨a=5∨a=6∨a=7)∧(0≤k∧k≤8)∧(0≤n∧n≤65535)∧q3y s.length (s.drop i) i a k n=R
theorem j0p {s:By}{i:Nat}{a k n R:Int}(h:q3y s.length (s.drop i) i a k n=R)(hi:i<s.length):(qq a k n ((s.getD i 0).toNat:Int)=none∧R=i)∨∃q,qq a k n ((s.getD i 0).toNat:Int)=some q∧q3y s.length (s.drop (i+1)) (i+1) q.1 q.2.1 q.2.2=R:=by
 rw[List.drop_eq_getElem_cons hi]at h
 have e:s.getD i 0=s[i]:=by simp[List.getD,hi]
 rw[e]
 rw[q3y]at h
 cases hq:qq a k n (s[i].toNat:Int)with
 |none=>rw[hq]at h;exact .inl ⟨rfl,h.symm⟩
 |some q=>rw[hq]at h;exact .inr ⟨q,rfl,h⟩
theorem j5w {a k n c:Int}{q:Int × Int × Int}(h:qq a k n c=some q)(hk:0≤k∧k≤8)(hn:0≤n∧n≤65535):(q.1=0∨q.1=1∨q.1=2∨q.1=3∨q.1=4∨q.1=5∨q.1=6∨q.1=7)∧(0≤q.2.1∧q.2.1≤8)∧(0≤q.2.2∧q.2.2≤65535):=by
 have hdg:qp c=true→48≤c∧c≤57:=fun hd=>by simp[qp]at hd;omega
 unfold qq at h
 repeat' split at h
 all_goals first
  |(exfalso;simp at h;done)
  |(simp only[Option.some.injEq]at h;subst h;exact⟨by simp,by simp only[];omega,by simp only[];omega⟩)
  |(rename_i hd;have h2:=hdg hd.1;simp only[Option.some.injEq]at h;subst h;exact⟨by simp,by simp only[];omega,by simp only[];omega⟩)
theorem q1v {s:By}{i gk:Nat}{a k n R a' k' n':Int}{c:UInt8}(h:q3y s.length (s.drop i) i a k n=R)(hi:i<s.length)(hk:0≤k∧k≤8)(hn:0≤n∧n≤65535)(hg:s.length-i≤gk)(hc:s.getD i 0=c)(hq:qq a k n (c.toNat:Int)=some (a',k',n')) :
  LRelP s R (gk-1) (.int .i64 a') (.int .i64 k') (.int .i64 n') (.int .i64 ((i:Int)+1)):=by
 subst hc
 have hb:=j5w hq hk hn
 rcases j0p h hi with⟨h1,_⟩|⟨q,h1,h2⟩
 ·rw[hq]at h1;simp at h1
 ·rw[hq]at h1
  simp only[Option.some.injEq]at h1
  subst h1
  exact⟨i+1,a',k',n',by omega,by omega,rfl,rfl,rfl,by simp,hb.1,hb.2.1,hb.2.2,h2⟩
theorem q0V {s:By}{i:Nat}{a k n R:Int}{c:UInt8}(h:q3y s.length (s.drop i) i a k n=R)(hi:i<s.length)(hc:s.getD i 0=c)(hq:qq a k n (c.toNat:Int)=none):R=i:=by
 subst hc
 rcases j0p h hi with⟨_,h1⟩|⟨q,h1,_⟩
 ·exact h1
 ·rw[hq]at h1;simp at h1
theorem q3A (s:By)(hs:s.length≤maxLen)(w:World) :
  Calls Tryz.prog 83 #[bs s] w fun e w'=>e=.returned (.int .i64 (j0o s))∧w'=w:=by
 unfold maxLen at hs
 have hR:q3y s.length (s.drop 0) 0 0 0 0=j0o s:=rfl
 generalize j0o s=R at *
 have HR:=zb hR
 clear hR
 go_enter Tryz.func83,Tryz.ntmps83
 go_wp2_with fail
 go_loopg [3,4,5,6] s.length (fun g va vk vn vi wr=>LRelP s R g va vk vn vi∧wr=w)
 case atStart=>exact⟨⟨0,0,0,0,zZ _,by omega,rfl,rfl,rfl,rfl,.inl rfl,by omega,by omega,HR.out⟩,rfl⟩
 case round =>
  obtain⟨⟨i,a,k,n,hi,hg,rfl,rfl,rfl,rfl,ha,hk,hn,hp⟩,rfl⟩:=hrel
  have HG:=zb hg
  have HPL:=zb hp
  clear HR hg hp
  by_cases hlt:i<s.length
  ·have hat:=q5X s i hlt
   have hD:=q2q ((s.getD i 0).toNat:Int)
   have hL:=q2E ((s.getD i 0).toNat:Int)
   have hcb:(s.getD i 0).toNat<256:=UInt8.toNat_lt _
   obtain⟨c,hce⟩:∃c,s.getD i 0=c:=⟨_,rfl⟩
   rw[hce]at hat hD hL hcb
   have HC:=zb hce
   clear hce
   rcases ha with rfl|rfl|rfl|rfl|rfl|rfl|rfl|rfl
   ·by_cases h64:(c.toNat:Int)=64
    ·have HQ:=zb (q1v (s:=s) (i:=i) (gk:=gk) (a:=0) (k:=k) (n:=n) (R:=R) (c:=c) HPL.out hlt hk hn HG.out HC.out (by unfold qq;rw[if_pos rfl,if_pos h64]))
     go_wp2_with (first|(go_at_call 113;refine(hD _).mono ?_;rintro e w9 ⟨rfl,rfl⟩)|(go_at_call 114;refine(hL _).mono ?_;rintro e w9 ⟨rfl,rfl⟩))
     have hg1:0<gk:=by have:=HG.out;omega
     go_roundg (gk-1)
     case measure=>omega
     case rel=>exact⟨HQ.out,rfl⟩
    ·have HQ:=zb (show qq 0 k n (c.toNat:Int)=none by unfold qq;rw[if_pos rfl,if_neg h64])
     go_wp2_with (first|(go_at_call 113;refine(hD _).mono ?_;rintro e w9 ⟨rfl,rfl⟩)|(go_at_call 114;refine(hL _).mono ?_;rintro e w9 ⟨rfl,rfl⟩))
     all_goals
      go_ret
      exact⟨by rw[q0V HPL.out hlt HC.out HQ.out];rfl,rfl⟩
   ·cases hd:qp (c.toNat:Int)with
    |true =>
     rw[hd]at hD
     have hdr:48≤(c.toNat:Int)∧(c.toNat:Int)≤57:=by simp[qp]at hd;omega
     have h32:¬(c.toNat:Int)=32:=by omega
     by_cases h5:k<5
     ·by_cases hb:10*n+((c.toNat:Int)-48)≤65535
      ·have HQ:=zb (q1v (s:=s) (i:=i) (gk:=gk) (a:=1) (k:=k) (n:=n) (R:=R) (c:=c) HPL.out hlt hk hn HG.out HC.out (by unfold qq;rw[if_neg (by decide),if_pos rfl,if_pos ⟨hd,h5,hb⟩]))
       go_wp2_with (first|(go_at_call 113;refine(hD _).mono ?_;rintro e w9 ⟨rfl,rfl⟩)|(go_at_call 114;refine(hL _).mono ?_;rintro e w9 ⟨rfl,rfl⟩))
       have hg1:0<gk:=by have:=HG.out;omega
       go_roundg (gk-1)
       case measure=>omega
       case rel=>exact⟨HQ.out,rfl⟩
      ·have HQ:=zb (show qq 1 k n (c.toNat:Int)=none by unfold qq;rw[if_neg (by decide),if_pos rfl,if_neg (fun h=>hb h.2.2),if_neg (fun h=>h32 h.2)])
       go_wp2_with (first|(go_at_call 113;refine(hD _).mono ?_;rintro e w9 ⟨rfl,rfl⟩)|(go_at_call 114;refine(hL _).mono ?_;rintro e w9 ⟨rfl,rfl⟩))
       all_goals
        go_ret
        exact⟨by rw[q0V HPL.out hlt HC.out HQ.out];rfl,rfl⟩
     ·have HQ:=zb (show qq 1 k n (c.toNat:Int)=none by unfold qq;rw[if_neg (by decide),if_pos rfl,if_neg (fun h=>h5 h.2.1),if_neg (fun h=>h32 h.2)])
      go_wp2_with (first|(go_at_call 113;refine(hD _).mono ?_;rintro e w9 ⟨rfl,rfl⟩)|(go_at_call 114;refine(hL _).mono ?_;rintro e w9 ⟨rfl,rfl⟩))
      all_goals
       go_ret
       exact⟨by rw[q0V HPL.out hlt HC.out HQ.out];rfl,rfl⟩
    |false =>
     rw[hd]at hD
     by_cases h0:0<k
     ·by_cases h32:(c.toNat:Int)=32
      ·have HQ:=zb (q1v (s:=s) (i:=i) (gk:=gk) (a:=1) (k:=k) (n:=n) (R:=R) (c:=c) HPL.out hlt hk hn HG.out HC.out (by unfold qq;rw[if_neg (by decide),if_pos rfl,if_neg (fun h=>by rw[hd]at h;exact absurd h.1 (by decide)),if_pos ⟨h0,h32⟩]))
       rw[h32]at hD
       go_wp2_with (first|(go_at_call 113;refine(hD _).mono ?_;rintro e w9 ⟨rfl,rfl⟩)|(go_at_call 114;refine(hL _).mono ?_;rintro e w9 ⟨rfl,rfl⟩))
       have hg1:0<gk:=by have:=HG.out;omega
       go_roundg (gk-1)
       case measure=>omega
       case rel=>exact⟨HQ.out,rfl⟩
      ·have HQ:=zb (show qq 1 k n (c.toNat:Int)=none by unfold qq;rw[if_neg (by decide),if_pos rfl,if_neg (fun h=>by rw[hd]at h;exact absurd h.1 (by decide)),if_neg (fun h=>h32 h.2)])
       go_wp2_with (first|(go_at_call 113;refine(hD _).mono ?_;rintro e w9 ⟨rfl,rfl⟩)|(go_at_call 114;refine(hL _).mono ?_;rintro e w9 ⟨rfl,rfl⟩))
       all_goals
        go_ret
        exact⟨by rw[q0V HPL.out hlt HC.out HQ.out];rfl,rfl⟩
     ·have HQ:=zb (show qq 1 k n (c.toNat:Int)=none by unfold qq;rw[if_neg (by decide),if_pos rfl,if_neg (fun h=>by rw[hd]at h;exact absurd h.1 (by decide)),if_neg (fun h=>h0 h.1)])
      go_wp2_with (first|(go_at_call 113;refine(hD _).mono ?_;rintro e w9 ⟨rfl,rfl⟩)|(go_at_call 114;refine(hL _).mono ?_;rintro e w9 ⟨rfl,rfl⟩))
      all_goals
       go_ret
       exact⟨by rw[q0V HPL.out hlt HC.out HQ.out];rfl,rfl⟩
   ·cases hd:q0e (c.toNat:Int)with
    |true =>
     rw[hd]at hL
     have hdr:97≤(c.toNat:Int)∧(c.toNat:Int)≤122:=by simp[q0e]at hd;omega
     have h40:¬(c.toNat:Int)=40:=by omega
     by_cases h8:k<8
     ·have HQ:=zb (q1v (s:=s) (i:=i) (gk:=gk) (a:=2) (k:=k) (n:=n) (R:=R) (c:=c) HPL.out hlt hk hn HG.out HC.out (by unfold qq;rw[if_neg (by decide),if_neg (by decide),if_pos rfl,if_pos ⟨hd,h8⟩]))
      go_wp2_with (first|(go_at_call 113;refine(hD _).mono ?_;rintro e w9 ⟨rfl,rfl⟩)|(go_at_call 114;refine(hL _).mono ?_;rintro e w9 ⟨rfl,rfl⟩))
      have hg1:0<gk:=by have:=HG.out;omega
      go_roundg (gk-1)
      case measure=>omega
      case rel=>exact⟨HQ.out,rfl⟩
     ·have HQ:=zb (show qq 2 k n (c.toNat:Int)=none by unfold qq;rw[if_neg (by decide),if_neg (by decide),if_pos rfl,if_neg (fun h=>h8 h.2),if_neg (fun h=>h40 h.2)])
      go_wp2_with (first|(go_at_call 113;refine(hD _).mono ?_;rintro e w9 ⟨rfl,rfl⟩)|(go_at_call 114;refine(hL _).mono ?_;rintro e w9 ⟨rfl,rfl⟩))
      all_goals
       go_ret
       exact⟨by rw[q0V HPL.out hlt HC.out HQ.out];rfl,rfl⟩
    |false =>
     rw[hd]at hL
     by_cases h0:0<k
     ·by_cases h40:(c.toNat:Int)=40
      ·have HQ:=zb (q1v (s:=s) (i:=i) (gk:=gk) (a:=2) (k:=k) (n:=n) (R:=R) (c:=c) HPL.out hlt hk hn HG.out HC.out (by unfold qq;rw[if_neg (by decide),if_neg (by decide),if_pos rfl,if_neg (fun h=>by rw[hd]at h;exact absurd h.1 (by decide)),if_pos ⟨h0,h40⟩]))
       rw[h40]at hL
       go_wp2_with (first|(go_at_call 113;refine(hD _).mono ?_;rintro e w9 ⟨rfl,rfl⟩)|(go_at_call 114;refine(hL _).mono ?_;rintro e w9 ⟨rfl,rfl⟩))
       have hg1:0<gk:=by have:=HG.out;omega
       go_roundg (gk-1)
       case measure=>omega
       case rel=>exact⟨HQ.out,rfl⟩
      ·have HQ:=zb (show qq 2 k n (c.toNat:Int)=none by unfold qq;rw[if_neg (by decide),if_neg (by decide),if_pos rfl,if_neg (fun h=>by rw[hd]at h;exact absurd h.1 (by decide)),if_neg (fun h=>h40 h.2)])
       go_wp2_with (first|(go_at_call 113;refine(hD _).mono ?_;rintro e w9 ⟨rfl,rfl⟩)|(go_at_call 114;refine(hL _).mono ?_;rintro e w9 ⟨rfl,rfl⟩))
       all_goals
        go_ret
        exact⟨by rw[q0V HPL.out hlt HC.out HQ.out];rfl,rfl⟩
     ·have HQ:=zb (show qq 2 k n (c.toNat:Int)=none by unfold qq;rw[if_neg (by decide),if_neg (by decide),if_pos rfl,if_neg (fun h=>by rw[hd]at h;exact absurd h.1 (by decide)),if_neg (fun h=>h0 h.1)])
      go_wp2_with (first|(go_at_call 113;refine(hD _).mono ?_;rintro e w9 ⟨rfl,rfl⟩)|(go_at_call 114;refine(hL _).mono ?_;rintro e w9 ⟨rfl,rfl⟩))
      all_goals
       go_ret
       exact⟨by rw[q0V HPL.out hlt HC.out HQ.out];rfl,rfl⟩
   ·cases hd:qp (c.toNat:Int)with
    |true =>
     rw[hd]at hD
     have HQ:=zb (q1v (s:=s) (i:=i) (gk:=gk) (a:=3) (k:=k) (n:=n) (R:=R) (c:=c) HPL.out hlt hk hn HG.out HC.out (by unfold qq;rw[if_neg (by decide),if_neg (by decide),if_neg (by decide),if_pos rfl,if_pos hd]))
     go_wp2_with (first|(go_at_call 113;refine(hD _).mono ?_;rintro e w9 ⟨rfl,rfl⟩)|(go_at_call 114;refine(hL _).mono ?_;rintro e w9 ⟨rfl,rfl⟩))
     have hg1:0<gk:=by have:=HG.out;omega
     go_roundg (gk-1)
     case measure=>omega
     case rel=>exact⟨HQ.out,rfl⟩
    |false =>
     rw[hd]at hD
     have HQ:=zb (show qq 3 k n (c.toNat:Int)=none by unfold qq;rw[if_neg (by decide),if_neg (by decide),if_neg (by decide),if_pos rfl,if_neg (by rw[hd];decide)])
     go_wp2_with (first|(go_at_call 113;refine(hD _).mono ?_;rintro e w9 ⟨rfl,rfl⟩)|(go_at_call 114;refine(hL _).mono ?_;rintro e w9 ⟨rfl,rfl⟩))
     all_goals
      go_ret
      exact⟨by rw[q0V HPL.out hlt HC.out HQ.out];rfl,rfl⟩
   ·by_cases h44:(c.toNat:Int)=44
    ·have HQ:=zb (q1v (s:=s) (i:=i) (gk:=gk) (a:=4) (k:=k) (n:=n) (R:=R) (c:=c) HPL.out hlt hk hn HG.out HC.out (by unfold qq;rw[if_neg (by decide),if_neg (by decide),if_neg (by decide),if_neg (by decide),if_pos rfl,if_pos h44]))
     go_wp2_with (first|(go_at_call 113;refine(hD _).mono ?_;rintro e w9 ⟨rfl,rfl⟩)|(go_at_call 114;refine(hL _).mono ?_;rintro e w9 ⟨rfl,rfl⟩))
     have hg1:0<gk:=by have:=HG.out;omega
     go_roundg (gk-1)
     case measure=>omega
     case rel=>exact⟨HQ.out,rfl⟩
    ·by_cases h41:(c.toNat:Int)=41
     ·have HQ:=zb (q1v (s:=s) (i:=i) (gk:=gk) (a:=4) (k:=k) (n:=n) (R:=R) (c:=c) HPL.out hlt hk hn HG.out HC.out (by unfold qq;rw[if_neg (by decide),if_neg (by decide),if_neg (by decide),if_neg (by decide),if_pos rfl,if_neg h44,if_pos h41]))
      go_wp2_with (first|(go_at_call 113;refine(hD _).mono ?_;rintro e w9 ⟨rfl,rfl⟩)|(go_at_call 114;refine(hL _).mono ?_;rintro e w9 ⟨rfl,rfl⟩))
      have hg1:0<gk:=by have:=HG.out;omega
      go_roundg (gk-1)
      case measure=>omega
      case rel=>exact⟨HQ.out,rfl⟩
     ·have HQ:=zb (show qq 4 k n (c.toNat:Int)=none by unfold qq;rw[if_neg (by decide),if_neg (by decide),if_neg (by decide),if_neg (by decide),if_pos rfl,if_neg h44,if_neg h41])
      go_wp2_with (first|(go_at_call 113;refine(hD _).mono ?_;rintro e w9 ⟨rfl,rfl⟩)|(go_at_call 114;refine(hL _).mono ?_;rintro e w9 ⟨rfl,rfl⟩))
      all_goals
       go_ret
       exact⟨by rw[q0V HPL.out hlt HC.out HQ.out];rfl,rfl⟩
   ·cases hd:qp (c.toNat:Int)with
    |true =>
     rw[hd]at hD
     have HQ:=zb (q1v (s:=s) (i:=i) (gk:=gk) (a:=5) (k:=k) (n:=n) (R:=R) (c:=c) HPL.out hlt hk hn HG.out HC.out (by unfold qq;rw[if_neg (by decide),if_neg (by decide),if_neg (by decide),if_neg (by decide),if_neg (by decide),if_pos rfl,if_pos hd]))
     go_wp2_with (first|(go_at_call 113;refine(hD _).mono ?_;rintro e w9 ⟨rfl,rfl⟩)|(go_at_call 114;refine(hL _).mono ?_;rintro e w9 ⟨rfl,rfl⟩))
     have hg1:0<gk:=by have:=HG.out;omega
     go_roundg (gk-1)
     case measure=>omega
     case rel=>exact⟨HQ.out,rfl⟩
    |false =>
     rw[hd]at hD
     have HQ:=zb (show qq 5 k n (c.toNat:Int)=none by unfold qq;rw[if_neg (by decide),if_neg (by decide),if_neg (by decide),if_neg (by decide),if_neg (by decide),if_pos rfl,if_neg (by rw[hd];decide)])
     go_wp2_with (first|(go_at_call 113;refine(hD _).mono ?_;rintro e w9 ⟨rfl,rfl⟩)|(go_at_call 114;refine(hL _).mono ?_;rintro e w9 ⟨rfl,rfl⟩))
     all_goals
      go_ret
      exact⟨by rw[q0V HPL.out hlt HC.out HQ.out];rfl,rfl⟩
   ·by_cases h41:(c.toNat:Int)=41
    ·have HQ:=zb (q1v (s:=s) (i:=i) (gk:=gk) (a:=6) (k:=k) (n:=n) (R:=R) (c:=c) HPL.out hlt hk hn HG.out HC.out (by unfold qq;rw[if_neg (by decide),if_neg (by decide),if_neg (by decide),if_neg (by decide),if_neg (by decide),if_neg (by decide),if_pos rfl,if_pos h41]))
     go_wp2_with (first|(go_at_call 113;refine(hD _).mono ?_;rintro e w9 ⟨rfl,rfl⟩)|(go_at_call 114;refine(hL _).mono ?_;rintro e w9 ⟨rfl,rfl⟩))
     have hg1:0<gk:=by have:=HG.out;omega
     go_roundg (gk-1)
     case measure=>omega
     case rel=>exact⟨HQ.out,rfl⟩
    ·have HQ:=zb (show qq 6 k n (c.toNat:Int)=none by unfold qq;rw[if_neg (by decide),if_neg (by decide),if_neg (by decide),if_neg (by decide),if_neg (by decide),if_neg (by decide),if_pos rfl,if_neg h41])
     go_wp2_with (first|(go_at_call 113;refine(hD _).mono ?_;rintro e w9 ⟨rfl,rfl⟩)|(go_at_call 114;refine(hL _).mono ?_;rintro e w9 ⟨rfl,rfl⟩))
     all_goals
      go_ret
      exact⟨by rw[q0V HPL.out hlt HC.out HQ.out];rfl,rfl⟩
   ·by_cases h32:(c.toNat:Int)=32
    ·have HQ:=zb (q1v (s:=s) (i:=i) (gk:=gk) (a:=7) (k:=k) (n:=n) (R:=R) (c:=c) HPL.out hlt hk hn HG.out HC.out (by unfold qq;rw[if_neg (by decide),if_neg (by decide),if_neg (by decide),if_neg (by decide),if_neg (by decide),if_neg (by decide),if_neg (by decide),if_pos h32]))
     go_wp2_with (first|(go_at_call 113;refine(hD _).mono ?_;rintro e w9 ⟨rfl,rfl⟩)|(go_at_call 114;refine(hL _).mono ?_;rintro e w9 ⟨rfl,rfl⟩))
     have hg1:0<gk:=by have:=HG.out;omega
     go_roundg (gk-1)
     case measure=>omega
     case rel=>exact⟨HQ.out,rfl⟩
    ·have HQ:=zb (show qq 7 k n (c.toNat:Int)=none by unfold qq;rw[if_neg (by decide),if_neg (by decide),if_neg (by decide),if_neg (by decide),if_neg (by decide),if_neg (by decide),if_neg (by decide),if_neg h32])
     go_wp2_with (first|(go_at_call 113;refine(hD _).mono ?_;rintro e w9 ⟨rfl,rfl⟩)|(go_at_call 114;refine(hL _).mono ?_;rintro e w9 ⟨rfl,rfl⟩))
     all_goals
      go_ret
      exact⟨by rw[q0V HPL.out hlt HC.out HQ.out];rfl,rfl⟩
  ·have he:i=s.length:=by omega
   have hpl:=HPL.out
   rw[List.drop_of_length_le (by omega)]at hpl
   rw[q3y]at hpl
   subst he
   by_cases hy:a=7∨(a=1∧0<k)
   ·rw[if_pos hy]at hpl
    subst hpl
    rcases hy with rfl|⟨rfl,h0⟩
    ·go_wp2_with fail
     go_ret
     exact⟨rfl,rfl⟩
    ·go_wp2_with fail
     go_ret
     exact⟨rfl,rfl⟩
   ·rw[if_neg hy]at hpl
    subst hpl
    have n7:¬a=7:=fun h=>hy (.inl h)
    have n7':(a==7)=false:=by simpa using n7
    by_cases h1:a=1
    ·subst h1
     have h0:¬0<k:=fun h=>hy (.inr ⟨rfl,h⟩)
     go_wp2_with fail
     go_ret
     exact⟨rfl,rfl⟩
    ·have n1':(a==1)=false:=by simpa using h1
     go_wp2_with fail
     go_ret
     exact⟨rfl,rfl⟩
abbrev Pl (s:By)(a k n:Int)(i:Nat):Int:=q3y s.length (s.drop i) i a k n
theorem j1F {s:By}{a k n:Int}{i:Nat}(h:i<s.length):Pl s a k n i=match qq a k n (cI s i)with
  |none=>(i:Int)
  |some q=>Pl s q.1 q.2.1 q.2.2 (i+1):=by
 unfold Pl
 rw[List.drop_eq_getElem_cons h,q3y]
 have e:cI s i=(s[i].toNat:Int):=by unfold cI;simp[List.getD,h]
 rw[e]<;>rfl
theorem j5l {s:By}{a k n:Int}{i:Nat}(h:s.length=i):Pl s a k n i=if a=7∨(a=1∧0<k)then -1 else(i:Int):=by
 unfold Pl
 rw[List.drop_eq_nil_of_le (by omega),q3y,h]
theorem j7z (a k n:Int):qq a k n 0=none:=by
 unfold qq qp q0e
 repeat' split
 all_goals simp_all
theorem q5J {s:By}{a k n:Int}{i:Nat}(h:i≤s.length)(ha:¬(a=7∨(a=1∧0<k))):Pl s a k n i=match qq a k n (cI s i)with
  |none=>(i:Int)
  |some q=>Pl s q.1 q.2.1 q.2.2 (i+1):=by
 rcases Nat.lt_or_ge i s.length with g|g
 ·exact j1F g
 ·rw[j5l (by omega),if_neg ha,j4H g,j7z]
def Qd (s:By)(n:Int)(i:Nat):Int:=if i<s.length then(if cI s i=32 then Pl s 2 0 n (i+1)else(i:Int))else -1
theorem j3O {s:By}{k n:Int}{i:Nat}(h:i≤s.length):Pl s 7 k n i=Qd s n i:=by
 unfold Qd
 rcases Nat.lt_or_ge i s.length with g|g
 ·rw[if_pos g,j1F g]
  by_cases hc:cI s i=32
  ·rw[if_pos hc,hc];rfl
  ·rw[if_neg hc]
   have e:qq 7 k n (cI s i)=none:=by unfold qq;simp[hc]
   rw[e]
 ·rw[j5l (by omega),if_pos (.inl rfl),if_neg (by omega)]
theorem pl_stamp (s:By):∀(f k n i:Nat),i≤s.length→k+f=5→n≤65535 →
  ((stF s f n i).1=false→Pl s 1 k n i=(stF s f n i).2.2)∧((stF s f n i).1=true→Pl s 1 k n i=if 0<k+((stF s f n i).2.2-i)then Qd s (stF s f n i).2.1 (stF s f n i).2.2 else((stF s f n i).2.2:Int)):=by
 have base:∀(k n i:Nat),i≤s.length→(qp (cI s i)=true→k=5)→Pl s 1 k n i=if 0<k then Qd s n i else(i:Int):=by
  intro k n i h hd
  have hs:qq 1 (k:Int) (n:Int) (cI s i)=if 0<k∧cI s i=32 then some (2,0,(n:Int))else none:=by
   unfold qq
   rw[if_neg (by decide),if_pos rfl,if_neg (by intro h';have:=hd h'.1;omega)]
   by_cases hk:0<k∧cI s i=32
   ·rw[if_pos hk,if_pos (by omega)]
   ·rw[if_neg hk,if_neg (by omega)]
  by_cases hk:0<k
  ·rw[if_pos hk]
   unfold Qd
   rcases Nat.lt_or_ge i s.length with g|g
   ·rw[if_pos g,j1F g,hs]
    by_cases hc:cI s i=32
    ·rw[if_pos ⟨hk,hc⟩,if_pos hc]
    ·rw[if_neg (fun h'=>hc h'.2),if_neg hc]
   ·rw[j5l (by omega),if_pos (.inr ⟨rfl,by omega⟩),if_neg (by omega)]
  ·rw[if_neg hk,q5J h (by omega),hs,if_neg (fun h'=>hk h'.1)]
 intro f
 induction f with
 |zero =>
  intro k n i h hk hn
  refine⟨fun e=>by simp[stF]at e,fun _=>?_⟩
  have:=base k n i h (fun _=>by omega)
  simpa[stF]using this
 |succ f ih =>
  intro k n i h hk hn
  rw[stF]
  by_cases hd:qp (cI s i)=true
  ·rw[if_pos hd]
   have hdi:=dI_eq hd
   have hin:=q2U hd
   by_cases hb:65535<10*n+dI s i
   ·rw[if_pos hb]
    refine⟨fun _=>?_,fun e=>by simp at e⟩
    have e:qq 1 (k:Int) (n:Int) (cI s i)=none:=by
     unfold qq
     rw[if_neg (by decide),if_pos rfl,if_neg (by omega),if_neg (by omega)]
    show Pl s 1 k n i=(i:Int)
    rw[j1F hin.1,e]
   ·rw[if_neg hb]
    have e:qq 1 (k:Int) (n:Int) (cI s i)=some (1,((k+1:Nat):Int),((10*n+dI s i:Nat):Int)):=by
     unfold qq
     rw[if_neg (by decide),if_pos rfl,if_pos ⟨hd,by omega,by omega⟩]
     simp only[Option.some.injEq,Prod.mk.injEq,true_and]
     omega
    have hp:Pl s 1 k n i=Pl s 1 ((k+1:Nat):Int) ((10*n+dI s i:Nat):Int) (i+1):=by rw[j1F hin.1,e]
    rw[hp]
    have:=ih (k+1) (10*n+dI s i) (i+1) (by omega) (by omega) (by omega)
    have hle:=(q8Q s f (10*n+dI s i) (i+1) (by omega) (by omega)).1
    refine⟨this.1,fun e=>?_⟩
    rw[this.2 e]
    rw[show k+1+((stF s f (10*n+dI s i) (i+1)).2.2-(i+1))=k+((stF s f (10*n+dI s i) (i+1)).2.2-i)by omega]
  ·rw[if_neg hd]
   refine⟨fun e=>by simp at e,fun _=>?_⟩
   have:=base k n i h (fun e=>absurd e hd)
   simpa using this
theorem pl_name (s:By)(n:Int):∀(f k i:Nat),i≤s.length→k+f=8 →
  Pl s 2 k n i=if 0<k+(nmF s f i-i)∧cI s (nmF s f i)=40 then Pl s 3 ((k+(nmF s f i-i):Nat):Int) n (nmF s f i+1)else(nmF s f i:Int):=by
 have base:∀(k i:Nat),i≤s.length→(q0e (cI s i)=true→k=8)→Pl s 2 k n i=if 0<k∧cI s i=40 then Pl s 3 k n (i+1)else(i:Int):=by
  intro k i h hd
  rw[q5J h (by omega)]
  have hs:qq 2 (k:Int) n (cI s i)=if 0<k∧cI s i=40 then some (3,(k:Int),n)else none:=by
   unfold qq
   rw[if_neg (by decide),if_neg (by decide),if_pos rfl,if_neg (by intro h';have:=hd h'.1;omega)]
   by_cases hk:0<k∧cI s i=40
   ·rw[if_pos hk,if_pos (by omega)]
   ·rw[if_neg hk,if_neg (by omega)]
  rw[hs]
  by_cases hk:0<k∧cI s i=40
  ·rw[if_pos hk,if_pos hk]
  ·rw[if_neg hk,if_neg hk]
 intro f
 induction f with
 |zero =>
  intro k i h hk
  have:=base k i h (fun _=>by omega)
  simpa[nmF]using this
 |succ f ih =>
  intro k i h hk
  rw[nmF]
  by_cases hd:q0e (cI s i)=true
  ·rw[if_pos hd]
   have hin:=q9Z hd
   have e:qq 2 (k:Int) n (cI s i)=some (2,((k+1:Nat):Int),n):=by
    unfold qq
    rw[if_neg (by decide),if_neg (by decide),if_pos rfl,if_pos ⟨hd,by omega⟩]
    simp
   have hp:Pl s 2 k n i=Pl s 2 ((k+1:Nat):Int) n (i+1):=by rw[j1F hin.1,e]
   rw[hp,ih (k+1) (i+1) (by omega) (by omega)]
   have hle:=(q8B s f (i+1) (by omega)).1
   rw[show k+1+(nmF s f (i+1)-(i+1))=k+(nmF s f (i+1)-i)by omega]
  ·rw[if_neg hd]
   have:=base k i h (fun e=>absurd e hd)
   simpa using this
theorem pl_hapT (s:By)(nm:By)(d j:Nat)(k n:Int)(h:j≤s.length):Pl s 4 k n j=if (q7z s nm d j).1=true then Qd s n (q7z s nm d j).2.1 else((q7z s nm d j).2.1:Int):=by
 rw[q5J h (by omega)]
 unfold q7z
 by_cases h1:cI s j=44
 ·rw[if_pos h1,h1]
  have h0:=q2h (s:=s) (i:=j) (by omega)
  show Pl s 5 k n (j+1)=_
  rw[q5J (by omega) (by omega)]
  by_cases h2:qp (cI s (j+1))=true
  ·rw[if_pos h2]
   have e:qq 5 k n (cI s (j+1))=some (6,k,n):=by unfold qq;simp[h2]
   rw[e]
   have h5:=(q2U h2).1
   show Pl s 6 k n (j+1+1)=_
   rw[q5J (by omega) (by omega)]
   by_cases h3:cI s (j+2)=41
   ·have h6:=q2h (s:=s) (i:=j+2) (by omega)
    rw[if_pos h3,show j+1+1=j+2 from rfl,h3]
    show Pl s 7 k n (j+2+1)=_
    rw[j3O (by omega)]
    rfl
   ·rw[if_neg h3]
    have e:qq 6 k n (cI s (j+1+1))=none:=by unfold qq;simp[h3]
    rw[e]
    rfl
  ·rw[if_neg h2]
   have e:qq 5 k n (cI s (j+1))=none:=by unfold qq;simp[h2]
   rw[e]
   rfl
 ·rw[if_neg h1]
  by_cases h2:cI s j=41
  ·rw[if_pos h2,h2]
   have h0:=q2h (s:=s) (i:=j) (by omega)
   show Pl s 7 k n (j+1)=_
   rw[j3O (by omega)]
   rfl
  ·rw[if_neg h2]
   have e:qq 4 k n (cI s j)=none:=by unfold qq;simp[h1,h2]
   rw[e]
   rfl
theorem pl_hap (s:By)(n:Int)(i:Nat)(h:i<s.length):Qd s n i=if (q2K s i).1=true then Qd s n (q2K s i).2.1 else((q2K s i).2.1:Int):=by
 have e1:Qd s n i=if cI s i=32 then Pl s 2 0 n (i+1)else(i:Int):=by
  conv=>lhs;unfold Qd
  rw[if_pos h]
 rw[e1]
 unfold q2K
 by_cases h1:cI s i=32
 ·rw[if_pos h1,if_pos h1]
  have hp:=pl_name s n 8 0 (i+1) (by omega) rfl
  rw[show((0:Nat):Int)=0 from rfl]at hp
  rw[hp]
  have hn:=q8B s 8 (i+1) (by omega)
  generalize nmF s 8 (i+1)=e at *
  by_cases h2:i+1<e
  ·rw[if_pos h2]
   by_cases h3:cI s e=40
   ·have he:=q2h (s:=s) (i:=e) (by omega)
    rw[if_pos ⟨by omega,h3⟩,if_pos h3,q5J (by omega) (by omega)]
    by_cases h4:qp (cI s (e+1))=true
    ·rw[if_pos h4]
     have q:qq 3 ((0+(e-(i+1)):Nat):Int) n (cI s (e+1))=some (4,((0+(e-(i+1)):Nat):Int),n):=by unfold qq;simp[h4]
     rw[q]
     exact pl_hapT s _ _ (e+2) _ n (by have:=(q2U h4).1;omega)
    ·rw[if_neg h4]
     have q:qq 3 ((0+(e-(i+1)):Nat):Int) n (cI s (e+1))=none:=by unfold qq;simp[h4]
     rw[q]
     rfl
   ·rw[if_neg (fun h'=>h3 h'.2),if_neg h3];rfl
  ·rw[if_neg h2,if_neg (by omega),show e=i+1 by omega];rfl
 ·rw[if_neg h1,if_neg h1];rfl
theorem pl_haps (s:By)(n:Int):∀(f i:Nat) (acc:List Hp),i≤s.length→s.length-i≤f→Qd s n i=match q2i s f i acc with
  | .inl p=>(p:Int)
  | .inr _=>-1:=by
 intro f
 induction f with
 |zero =>
  intro i acc h hf
  unfold Qd
  rw[if_neg (by omega)]
  rfl
 |succ f ih =>
  intro i acc h hf
  rw[q2i]
  by_cases g:i<s.length
  ·rw[if_pos g,pl_hap s n i g]
   have hr:=q9z s i h
   by_cases ho:(q2K s i).1=true
   ·rw[if_pos ho,if_pos ho]
    have:=hr.2.2 ho
    exact ih _ _ hr.2.1 (by omega)
   ·rw[if_neg ho,if_neg ho]
  ·rw[if_neg g]
   unfold Qd
   rw[if_neg g]
theorem q4p (s:By):j0o s=match q2n s with
  | .inl p=>(p:Int)
  | .inr _=>-1:=by
 have e:j0o s=Pl s 0 0 0 0:=rfl
 rw[e,q5J (by omega) (by omega)]
 unfold q2n
 by_cases h1:cI s 0=64
 ·rw[if_pos h1,h1]
  have h0:=q2h (s:=s) (i:=0) (by omega)
  show Pl s 1 0 0 1=_
  have hp:=pl_stamp s 5 0 0 1 (by omega) rfl (by omega)
  have hi:=q8Q s 5 0 1 (by omega) (by omega)
  rw[show((0:Nat):Int)=0 from rfl]at hp
  by_cases ho:(stF s 5 0 1).1=true
  ·by_cases h2:1<(stF s 5 0 1).2.2
   ·rw[if_pos ⟨ho,h2⟩,hp.2 ho,if_pos (by omega),pl_haps s _ s.length _ [] hi.2.1 (by omega)]
    cases q2i s s.length (stF s 5 0 1).2.2 []<;>rfl
   ·rw[if_neg (fun h'=>h2 h'.2),hp.2 ho,if_neg (by omega)]
  ·have ho':(stF s 5 0 1).1=false:=by simpa using ho
   rw[if_neg (fun h'=>ho h'.1),hp.1 ho']
 ·rw[if_neg h1]
  have e:qq 0 0 0 (cI s 0)=none:=by unfold qq;simp[h1]
  rw[e]
theorem j4p (s:By)(a:Nat)(acc:List (By)):∀(k i f:Nat),i+k≤s.length→(∀m,i≤m→m<i+k→cI s m≠32)→q8g s (f+k) i a acc=q8g s f (i+k) a acc:=by
 intro k
 induction k with
 |zero=>intro i f _ _;rfl
 |succ k ih =>
  intro i f h hm
  rw[show f+(k+1)=(f+k)+1 by omega,q8g,if_neg]
  ·rw[ih (i+1) f (by omega) (fun m h1 h2=>hm m (by omega) (by omega)),show i+1+k=i+(k+1)by omega]
  ·intro h'
   rcases h' with h'|h'
   ·omega
   ·exact hm i (by omega) (by omega) (by unfold cI;rw[h'];rfl)
theorem spl_haps (s:By):∀(f i:Nat) (hl R:List Hp),i≤s.length→s.length-i≤f→q2i s f i hl=.inr R→∃l,R=hl++l∧(∀h∈l,HpOk h)∧∀a acc,q8g s (s.length+1-i) i a acc=acc++cut s a i::l.map q5D:=by
 have last:∀(i:Nat),i=s.length→∀a acc,q8g s (s.length+1-i) i a acc=acc++[cut s a i]:=by
  intro i h a acc
  rw[show s.length+1-i=0+1 by omega,q8g,if_pos (.inl h)]
  rfl
 intro f
 induction f with
 |zero =>
  intro i hl R h hf e
  simp[q2i]at e
  exact⟨[],by simp[e],by simp,fun a acc=>last i (by omega) a acc⟩
 |succ f ih =>
  intro i hl R h hf e
  rw[q2i]at e
  by_cases g:i<s.length
  ·rw[if_pos g]at e
   by_cases ho:(q2K s i).1=true
   ·rw[if_pos ho]at e
    have hin:=q9z s i h
    have hlt:=hin.2.2 ho
    obtain⟨c1,c2,c3,c4⟩:=hapR_cut s i h ho
    generalize (q2K s i).2.1=j at *
    generalize (q2K s i).2.2=hp at *
    obtain⟨l,e1,e2,e3⟩:=ih j (hl++[hp]) R hin.2.1 (by omega) e
    refine⟨hp::l,by simp[e1],?_,fun a acc=>?_⟩
    ·intro h' hm
     rcases List.mem_cons.1 hm with rfl|hm
     ·exact c2
     ·exact e2 h' hm
    ·rw[show s.length+1-i=(s.length-i)+1 by omega,q8g,if_pos (.inr (q6v (c:=32) c1 (by omega)))]
     have sk:=j4p s (i+1) (acc++[cut s a i]) (j-(i+1)) (i+1) (s.length+1-j) (by omega) (fun m h1 h2=>c4 m h1 (by omega))
     rw[show s.length-i=s.length+1-j+(j-(i+1))by omega,sk,show i+1+(j-(i+1))=j by omega,e3,c3]
     simp
   ·rw[if_neg ho]at e;simp at e
  ·rw[if_neg g]at e
   simp at e
   exact⟨[],by simp[e],by simp,fun a acc=>last i (by omega) a acc⟩
theorem q3w {s:By}{n:Nat}{l:List Hp}(h:q2n s=.inr (n,l)):0<s.length∧(∀h∈l,HpOk h)∧n≤65535∧∃d,splR s=d::l.map q5D∧q1H d=true∧0<d.length∧d.length≤5∧q0n d=n:=by
 unfold q2n at h
 by_cases h1:cI s 0=64
 ·rw[if_pos h1]at h
  have i1:=q2h (s:=s) (i:=0) (by omega)
  have hi:=q8Q s 5 0 1 (by omega) (by omega)
  have hc:=stF_cut s 5 0 1 (by omega) (by omega)
  by_cases h2:(stF s 5 0 1).1=true∧1<(stF s 5 0 1).2.2
  ·rw[if_pos h2]at h
   have hc:=hc h2.1
   generalize (stF s 5 0 1).2.2=e at *
   generalize (stF s 5 0 1).2.1=v at *
   cases hh:q2i s s.length e []with
   |inl p=>rw[hh]at h;simp at h
   |inr R =>
    rw[hh]at h
    simp only[Sum.inr.injEq,Prod.mk.injEq]at h
    obtain⟨rfl,rfl⟩:=h
    obtain⟨l,e1,e2,e3⟩:=spl_haps s s.length e [] R hi.2.1 (by omega) hh
    simp at e1
    subst e1
    refine⟨i1,e2,hi.2.2.2,cut s 1 e,?_,hc.1,by unfold cut;simp;omega,by unfold cut;simp;omega,hc.2⟩
    unfold splR
    have hdig:∀m,1≤m→m<1+(e-1)→cI s m≠32:=by
     intro m m1 m2 hm
     have hd:=hc.1
     unfold q1H at hd
     rw[List.all_eq_true]at hd
     have hmem:s.getD m 0∈cut s 1 e:=by
      have e9:(cut s 1 e)[m-1]?=some (s.getD m 0):=by
       unfold cut
       rw[List.getElem?_take_of_lt (by omega),List.getElem?_drop,show 1+(m-1)=m by omega]
       simp[List.getD,show m<s.length by omega]
      exact zI e9
     have:=hd _ hmem
     rw[show((s.getD m 0).toNat:Int)=cI s m from rfl,hm]at this
     simp[qp]at this
    have sk:=j4p s 1 [] (e-1) 1 (s.length+1-e) (by omega) hdig
    rw[show s.length+1-e+(e-1)=s.length by omega,show 1+(e-1)=e by omega]at sk
    rw[sk,e3]
    rfl
  ·rw[if_neg h2]at h;simp at h
 ·rw[if_neg h1]at h;simp at h
end Go.Proofs.YtiamjjonoeaggabGreatDoor
