import Derived.Test.YtiamjjonoeaggaaGreatDoorGA
import Derived.Test.YtiamjjonoeaggaaGreatDoorG15
import Derived.Test.YtiamjjonoeaggaaGreatDoorG33
import Derived.Test.YtiamjjonoeaggaaGreatDoorG35
namespace Go.Proofs.YtiamjjonoeaggaaGreatDoor
open Go.RowKit
theorem j9s {L L':List LPt}(hl:L'.length=L.length)(hh:∀i,q5n L' i=q5n L i)(ht:∀i,tmL L' i=tmL L i)(nd:PNode)(A B:Nat→Nat→Nat→Bool):qz nd L' A B=qz nd L A B:=by
 have hd:q0C L'=q0C L:=by funext i j;unfold q0C;rw[ht,ht]
 funext i x y
 unfold qz
 rw[hh,hd,hl]
theorem j6N {L L':List LPt}(hl:L'.length=L.length)(hh:∀i,q5n L' i=q5n L i)(ht:∀i,tmL L' i=tmL L i):∀F:zh,zs L' F=zs L F:=by
 intro F
 induction F with
 |nil=>rfl
 |node p sp y l r ihl ihr =>
  funext i x z
  rw[zs,zs,ihl,ihr,hl,j9s hl hh ht]
theorem j0B {a:By}(h:KFacts a)(d x y:Nat):q4m (zp (q0J a)) (q3k (q0J a)) d x y=q4m (zp a) (q3k a) d y x:=by
 by_cases h1:a=[120]
 ·subst h1
  show q4m 4 _ d x y=q4m 3 _ d y x
  unfold q4m
  rw[if_neg (by decide),if_pos rfl,if_pos rfl]
 ·by_cases h2:a=[121]
  ·subst h2
   show q4m 3 _ d x y=q4m 4 _ d y x
   unfold q4m
   rw[if_pos rfl,if_neg (by decide),if_pos rfl]
  ·have e:q0J a=a:=by unfold q0J;rw[if_neg h1,if_neg h2]
   have k3:¬zp a=3:=fun hk=>h1 (by have:=h.isX;rw[hk]at this;simpa using this)
   have k4:¬zp a=4:=fun hk=>h2 (by have:=h.isY;rw[hk]at this;simpa using this)
   rw[e]
   unfold q4m
   rw[if_neg k3,if_neg k4,if_neg k3,if_neg k4]
abbrev payS (y:Pay):Pay:=⟨y.word,y.args.map q0J,y.lo,y.hi⟩
theorem ev_swapP (p sp:Nat)(y:Pay)(l r l' r':zh)(ha:∀a∈y.args,KFacts a)(hl:y.args.length≤2)(x z:Nat)(h:Hp):evP (zz 0 p sp (payS y) l' r') x z h=evP (zz 0 p sp y l r) z x h:=by
 obtain⟨wd,args,lo,hi⟩:=y
 simp only[]at ha hl
 unfold evP zz payS
 simp only[]
 cases hn:zx wd with
 |false=>simp
 |true =>
  simp only[if_true,List.length_map]
  rcases args with _|⟨a,_|⟨b,_|⟨c,rest⟩⟩⟩
  ·simp
  ·have ea:=j0B (ha a (by simp)) (h.ds[0]?.getD 0) x z
   simp[ea]
  ·have ea:=j0B (ha a (by simp)) (h.ds[0]?.getD 0) x z
   have eb:=j0B (ha b (by simp)) (h.ds[1]?.getD 0) x z
   simp[ea,eb]
  ·simp at hl
theorem j6O (L:List LPt):∀F:zh,q1K F→∀i x z,zs L (zV F) i x z=zs L F i z x:=by
 intro F
 induction F with
 |nil=>intros;rfl
 |node p sp y l r ihl ihr =>
  intro hF i x z
  obtain⟨hn,hl,hr⟩:=hF
  have eA:zs L (zV l)=fun j x z=>zs L l j z x:=by funext j x z;exact ihl hl j x z
  have eB:zs L (zV r)=fun j x z=>zs L r j z x:=by funext j x z;exact ihr hr j x z
  rw[zV,zs,zs,eA,eB]
  congr 1
  generalize zs L l=A
  generalize zs L r=B
  have hk:(zz 0 p sp (payS y) (zV l) (zV r)).kind=(zz 0 p sp y l r).kind:=rfl
  have hk':(zz 0 p sp y l r).kind=zp y.word:=rfl
  by_cases h2:zp y.word=2
  ·have hs:y.args.length≤2:=by
    rcases hn.shape with h|h|h|h|h|h
    ·exact h.2.2.2.2.2
    all_goals
     first
      |(rw[h.2.2.2.2.2];simp;done)
      |(have:=h.1;rw[h2]at this;simp[q3b,q4f]at this)
   have ev:=ev_swapP p sp y l r (zV l) (zV r) hn.args hs x z
   unfold qz
   rw[hk,hk',h2]
   simp only[show ¬(2:Int)=5 by decide,if_false,if_true]
   congr 1
   funext h
   exact ev h
  ·by_cases h9:zp y.word=9
   ·have hs:∃v,y.args=[v]∧(v=[120]∨v=[121]):=by
     rcases hn.shape with h|h|h|h|h|h
     ·exact absurd h.1 h2
     ·rw[h9]at h;exact absurd h.1 (by decide)
     ·exact h.2.2.2.2.2
     ·have:=h.1;rw[h9]at this;exact absurd this (by decide)
     ·have:=h.1;rw[h9]at this;exact absurd this (by decide)
     ·have:=h.1;rw[h9]at this;exact absurd this (by decide)
    obtain⟨v,e1,e2⟩:=hs
    have hx:exB y.word=true:=by
     have:=hn.word.ex
     rw[h9]at this
     unfold exB
     simpa using this
    have v1:(zz 0 p sp (payS y) (zV l) (zV r)).var=zp (q0J v):=by
     unfold zz payS
     simp only[hx,if_true,e1]
     rfl
    have v2:(zz 0 p sp y l r).var=zp v:=by
     unfold zz
     simp only[hx,if_true,e1]
     rfl
    unfold qz
    rw[hk,hk',h9,v1,v2]
    rcases e2 with rfl|rfl
    ·rfl
    ·rfl
   ·unfold qz
    rw[hk,hk']
    simp only[if_neg h2,if_neg h9]
    rfl
theorem j1O (a:By):(q0J a==[120])=(a==[121])∧(q0J a==[121])=(a==[120]):=by
 by_cases h1:a=[120]
 ·subst h1;decide
 ·by_cases h2:a=[121]
  ·subst h2;decide
  ·have e:q0J a=a:=by unfold q0J;rw[if_neg h1,if_neg h2]
   rw[e]
   have c1:(a==[120])=false:=by simpa using h1
   have c2:(a==[121])=false:=by simpa using h2
   rw[c1,c2]
   exact⟨rfl,rfl⟩
theorem j7y (g:List (By)):(g.map q0J==[[120]])=(g==[[121]])∧(g.map q0J==[[121]])=(g==[[120]]):=by
 rcases g with _|⟨a,_|⟨b,r⟩⟩
 ·exact⟨rfl,rfl⟩
 ·have:=j1O a
  show((q0J a==[120])&&true)=((a==[121])&&true)∧((q0J a==[121])&&true)=((a==[120])&&true)
  rw[this.1,this.2]
  exact⟨rfl,rfl⟩
 ·constructor<;>simp
theorem q3Z:∀F:zh,zg (zV F) [120]=zg F [121]∧zg (zV F) [121]=zg F [120]:=by
 intro F
 induction F with
 |nil=>exact⟨rfl,rfl⟩
 |node p sp y l r ihl ihr =>
  cases l with
  |nil =>
   show((y.args.map q0J).any fun a=>a==[120])=(y.args.any fun a=>a==[121])∧((y.args.map q0J).any fun a=>a==[121])=(y.args.any fun a=>a==[120])
   rw[List.any_map,List.any_map]
   constructor
   ·congr 1;funext a;exact(j1O a).1
   ·congr 1;funext a;exact(j1O a).2
  |node a b c d e =>
   have k:=j7y y.args
   show(!(y.word==[101,120,105,115,116,115]&&(y.args.map q0J==[[120]]))&&(zg (zV (.node a b c d e)) [120] || zg (zV r) [120]))=(!(y.word==[101,120,105,115,116,115]&&(y.args==[[121]]))&&(zg (.node a b c d e) [121] || zg r [121]))∧(!(y.word==[101,120,105,115,116,115]&&(y.args.map q0J==[[121]]))&&(zg (zV (.node a b c d e)) [121] || zg (zV r) [121]))=(!(y.word==[101,120,105,115,116,115]&&(y.args==[[120]]))&&(zg (.node a b c d e) [120] || zg r [120]))
   rw[k.1,k.2,ihl.1,ihl.2,ihr.1,ihr.2]
   exact⟨rfl,rfl⟩
theorem j9V:∀F:zh,zv (zV F)=(zv F).map zV:=by
 intro F
 induction F with
 |nil=>rfl
 |node p sp y l r ihl ihr=>simp only[zV,zv,ihl,ihr,List.map_cons,List.map_append]
theorem j9U {p sp:Nat}{y y':Pay}{l r:zh}:(q1t (.node p sp y' (zV l) (zV r))).length=(q1t (.node p sp y l r)).length:=by
 cases l with
 |nil=>rfl
 |node a b c e f=>cases r<;>rfl
theorem bad_swap (w:By)(a b c d:Bool):(q2k w a b || q2k w c d)=(q2k w c d || q2k w a b):=Bool.or_comm _ _
theorem j7A:∀F:zh,q3V F→q1e (zV F)=q1e F:=by
 intro F hW
 cases F with
 |nil=>rfl
 |node p sp y l r =>
  show(if y.word==[101,120,105,115,116,115]then !(zg (zV l) ((y.args.map q0J).headD []))else if (q1t (.node p sp (payS y) (zV l) (zV r))).length<2 || y.word==[97,110,100]then false else q2k y.word (zg (zV l) [120]) (zg (zV r) [120]) || q2k y.word (zg (zV l) [121]) (zg (zV r) [121]))=(if y.word==[101,120,105,115,116,115]then !(zg l (y.args.headD []))else if (q1t (.node p sp y l r)).length<2 || y.word==[97,110,100]then false else q2k y.word (zg l [120]) (zg r [120]) || q2k y.word (zg l [121]) (zg r [121]))
  rw[j9U (y:=y),(q3Z l).1,(q3Z l).2,(q3Z r).1,(q3Z r).2,bad_swap]
  by_cases hx:y.word=[101,120,105,115,116,115]
  ·have hv:∃v,q1h v=true∧y.args=[v]:=by
    rcases hW with h|h|h|h|h|h
    ·rw[hx]at h;exact absurd h.1 (by decide)
    ·exact h.2.2.2.2.2
    ·rw[hx]at h;exact absurd h.1 (by decide)
    ·rw[hx]at h;exact absurd h.1 (by decide)
    ·rw[hx]at h;exact absurd h.1 (by decide)
    ·rw[hx]at h;exact absurd h.1 (by decide)
   obtain⟨v,v1,v2⟩:=hv
   rw[hx,v2]
   have v3:v=[120]∨v=[121]:=by
    unfold q1h at v1
    simpa using v1
   have fs:=q3Z l
   rcases v3 with rfl|rfl
   ·show(!(zg (zV l) [121]))=(!(zg l [120]))
    rw[fs.2]
   ·show(!(zg (zV l) [120]))=(!(zg l [121]))
    rw[fs.1]
  ·have hx':(y.word==[101,120,105,115,116,115])=false:=by simpa using hx
   rw[hx']
   rfl
theorem well_sub:∀F:zh,q3V F→∀G∈zv F,q3V G:=by
 intro F
 induction F with
 |nil=>intro h;exact absurd h (by simp[q3V])
 |node p sp y l r ihl ihr =>
  intro h G hG
  simp only[zv,List.mem_cons,List.mem_append]at hG
  have hn:∀G,G∈zv .nil→False:=fun G hG=>by simp[zv]at hG
  rcases hG with rfl|hG|hG
  ·exact h
  ·rcases h with h|h|h|h|h|h
   ·rw[h.2.2.2.1]at hG;exact absurd hG (hn G)
   ·exact ihl h.2.2.2.2.1 G hG
   ·exact ihl h.2.2.2.2.1 G hG
   ·exact ihl h.2.2.2.2.2 G hG
   ·exact ihl h.2.2.2.2.1 G hG
   ·rw[h.2.2.2.2.1]at hG;exact absurd hG (hn G)
  ·rcases h with h|h|h|h|h|h
   ·rw[h.2.2.2.2.1]at hG;exact absurd hG (hn G)
   ·rw[h.2.2.2.1]at hG;exact absurd hG (hn G)
   ·exact ihr h.2.2.2.2.2 G hG
   ·rw[h.2.2.1]at hG;exact absurd hG (hn G)
   ·exact ihr h.2.2.2.2.2 G hG
   ·rw[h.2.2.2.2.2]at hG;exact absurd hG (hn G)
theorem j7z {F:zh}(hW:q3V F)(h:q7H F):q7H (zV F):=by
 intro G hG
 rw[j9V]at hG
 obtain⟨G',hG',e⟩:=List.mem_map.1 hG
 obtain⟨a,b,c⟩:=h G' hG'
 have hw:=well_sub F hW G' hG'
 rw[←e,j7A G' hw]
 refine⟨?_,?_,c⟩
 ·rw[←a];cases G'<;>rfl
 ·rw[←b];cases G'<;>rfl
theorem j2Z {a:By}(h:q5u a=true):q5u (q0J a)=true:=by
 unfold q0J
 split
 ·decide
 ·split
  ·decide
  ·exact h
theorem j9S {a:By}(h:q1h a=true):q1h (q0J a)=true:=by
 unfold q0J
 split
 ·decide
 ·split
  ·decide
  ·exact h
theorem j9Y:∀F:zh,q3V F→q3V (zV F):=by
 intro F
 induction F with
 |nil=>intro h;exact h
 |node p sp y l r ihl ihr =>
  intro h
  show q3V (.node p sp (payS y) (zV l) (zV r))
  rcases h with h|h|h|h|h|h
  ·obtain⟨h1,h2,h3,rfl,rfl,a,ha,h4⟩:=h
   refine .inl ⟨h1,h2,h3,rfl,rfl,q0J a,j2Z ha,?_⟩
   rcases h4 with h4|⟨b,hb,h4⟩
   ·left;show y.args.map q0J=_;rw[h4];rfl
   ·right;exact⟨q0J b,j2Z hb,by show y.args.map q0J=_;rw[h4];rfl⟩
  ·obtain⟨h1,h2,h3,rfl,h5,v,hv,h6⟩:=h
   exact .inr (.inl ⟨h1,h2,h3,rfl,ihl h5,q0J v,j9S hv,by show y.args.map q0J=_;rw[h6];rfl⟩)
  ·obtain⟨h1,h2,h3,h4,h5,h6⟩:=h
   exact .inr (.inr (.inl ⟨h1,by show y.args.map q0J=_;rw[h2];rfl,h3,h4,ihl h5,ihr h6⟩))
  ·obtain⟨h1,h2,rfl,h4,h5,h6⟩:=h
   exact .inr (.inr (.inr (.inl ⟨h1,by show y.args.map q0J=_;rw[h2];rfl,rfl,h4,h5,ihl h6⟩)))
  ·obtain⟨h1,h2,h3,h4,h5,h6⟩:=h
   exact .inr (.inr (.inr (.inr (.inl ⟨h1,by show y.args.map q0J=_;rw[h2];rfl,h3,h4,ihl h5,ihr h6⟩))))
  ·obtain⟨h1,h2,h3,h4,rfl,rfl⟩:=h
   exact .inr (.inr (.inr (.inr (.inr ⟨h1,by show y.args.map q0J=_;rw[h2];rfl,h3,h4,rfl,rfl⟩))))
theorem q7A {t:By}(h:TokT t):TokT (q0J t):=by
 unfold q0J
 split
 ·exact q1D _ (by decide) (by decide) (by decide)
 ·split
  ·exact q1D _ (by decide) (by decide) (by decide)
  ·exact h
theorem j9W:∀F:zh,q3V F→(∀t∈qJ F,TokT t)→∀t∈qJ (zV F),TokT t:=by
 intro F
 induction F with
 |nil=>intro h;exact absurd h (by simp[q3V])
 |node p sp y l r ihl ihr =>
  intro h hT
  obtain⟨wd,args,lo,hi⟩:=y
  simp only[zV,qJ]at hT ⊢
  rcases h with h|h|h|h|h|h
  ·obtain⟨h1,_,_,rfl,rfl,a,ha,h4⟩:=h
   simp only[]at h1 h4
   rcases h4 with rfl|⟨b,hb,rfl⟩
   ·simp only[h1,if_true,List.map_cons,List.map_nil]at hT ⊢
    intro t ht
    simp only[List.mem_cons,List.not_mem_nil,or_false]at ht
    rcases ht with rfl|rfl|rfl|rfl
    ·exact hT _ (by simp)
    ·exact hT _ (by simp)
    ·exact q7A (hT _ (by simp))
    ·exact hT _ (by simp)
   ·simp only[h1,if_true,List.map_cons,List.map_nil]at hT ⊢
    intro t ht
    simp only[List.mem_cons,List.not_mem_nil,or_false]at ht
    rcases ht with rfl|rfl|rfl|rfl|rfl|rfl
    ·exact hT _ (by simp)
    ·exact hT _ (by simp)
    ·exact q7A (hT _ (by simp))
    ·exact hT _ (by simp)
    ·exact q7A (hT _ (by simp))
    ·exact hT _ (by simp)
  ·obtain⟨h1,_,_,rfl,h5,v,hv,h6⟩:=h
   simp only[]at h1 h6
   subst h1 h6
   have k1:zx [101,120,105,115,116,115]=false:=by decide
   simp only[k1,Bool.false_eq_true,if_false,beq_self_eq_true,if_true,List.map_cons,List.map_nil,List.headD_cons]at hT ⊢
   intro t ht
   simp only[List.mem_cons,List.mem_append,List.not_mem_nil,or_false]at ht
   rcases ht with rfl|rfl|rfl|ht|rfl
   ·exact hT _ (by simp)
   ·exact q7A (hT _ (by simp))
   ·exact hT _ (by simp)
   ·exact ihl h5 (fun t ht=>hT t (by simp[ht])) t ht
   ·exact hT _ (by simp)
  ·obtain⟨h1,_,_,_,h5,h6⟩:=h
   simp only[]at h1
   have k:=q0a.1 h1
   simp only[k.1,k.2,h1,Bool.false_eq_true,if_false,if_true]at hT ⊢
   intro t ht
   simp only[List.mem_cons,List.mem_append,List.not_mem_nil,or_false]at ht
   rcases ht with rfl|rfl|ht|rfl|ht|rfl
   ·exact hT _ (by simp)
   ·exact hT _ (by simp)
   ·exact ihl h5 (fun t ht=>hT t (by simp[ht])) t ht
   ·exact hT _ (by simp)
   ·exact ihr h6 (fun t ht=>hT t (by simp[ht])) t ht
   ·exact hT _ (by simp)
  ·obtain⟨h1,_,rfl,_,_,h6⟩:=h
   simp only[]at h1
   have k:=q0a.2.1 h1
   simp only[k.1,k.2.1,k.2.2,h1,Bool.false_eq_true,if_false,if_true]at hT ⊢
   intro t ht
   simp only[List.mem_cons,List.mem_append,List.not_mem_nil,or_false]at ht
   rcases ht with rfl|rfl|rfl|rfl|rfl|rfl|rfl|ht|rfl
   all_goals first|exact ihl h6 (fun t ht=>hT t (by simp[ht])) _ ht|exact hT _ (by simp)
  ·obtain⟨h1,_,_,_,h5,h6⟩:=h
   simp only[]at h1
   have k:=q0a.2.2 h1
   simp only[k.1,k.2.1,k.2.2.1,k.2.2.2,h1,Bool.false_eq_true,if_false,if_true]at hT ⊢
   intro t ht
   simp only[List.mem_cons,List.mem_append,List.not_mem_nil,or_false]at ht
   rcases ht with rfl|rfl|rfl|rfl|rfl|rfl|rfl|ht|rfl|ht|rfl
   all_goals first|exact ihl h5 (fun t ht=>hT t (by simp[ht])) _ ht|exact ihr h6 (fun t ht=>hT t (by simp[ht])) _ ht|exact hT _ (by simp)
  ·obtain⟨h1,_,_,_,rfl,rfl⟩:=h
   simp only[]at h1
   subst h1
   have k1:zx [116,114,117,101]=false:=by decide
   have k2:(([116,114,117,101]:By)==[101,120,105,115,116,115])=false:=by decide
   have k3:qh [116,114,117,101]=false:=by decide
   have k4:qE [116,114,117,101]=false:=by decide
   have k5:qB [116,114,117,101]=false:=by decide
   simp only[k1,k2,k3,k4,k5,Bool.false_eq_true,if_false]at hT ⊢
   exact hT
theorem swap_hgt:∀F:zh,hgt (zV F)=hgt F:=by
 intro F
 induction F with
 |nil=>rfl
 |node p sp y l r ihl ihr=>simp only[zV,hgt,ihl,ihr]
theorem j9T {F:zh}(h:Fine F):Fine (zV F):=⟨j9Y F h.well,j9W F h.well h.toks,j7z h.well h.nobad⟩
def q4t (l:LnK):Lin:=(l.stamp,l.haps)
def Chain:Nat→Nat→Nat→List LnK→Prop
 |_,_,_,[]=>True
 |k,st,t,l::r=>(l.stamp≤65535∧(∀h∈l.haps,HpL h)∧l.haps.length≤4)∧(0<k→∃d,d<32768∧l.stamp=(st+d) % 65536∧l.time=t+d)∧(k=0→l.stamp=st∧l.time=t)∧Chain (k+1) l.stamp l.time r
theorem j9l (s:By):∀(n i k st t:Nat),st≤65535→Chain k st t (q8F s n i k st t):=by
 intro n
 induction n with
 |zero=>intro i k st t _;exact trivial
 |succ n ih =>
  intro i k st t hst
  rw[q8F]
  have hg:=j7W s i
  have hst':(lnK s i k st t).1.stamp≤65535:=by
   unfold lnK
   simp only[]
   split<;>omega
  have hh:=hapsK_ok s (zk s (q8b s i).2 5).1 (zk s (q8b s i).2 5).2
  have h5:=qj s (q8b s i).2 (n:=5) (by omega)
  refine⟨⟨hst',hh.1,?_⟩,fun hk=>⟨(q8b s i).1,hg,?_,?_⟩,fun hk=>⟨?_,?_⟩,ih _ _ _ _ hst'⟩
  ·show(q3f s (zk s (q8b s i).2 5).1 (zk s (q8b s i).2 5).2).1.length≤4
   rw[hh.2]
   omega
  ·show(if 0<k then(st+(q8b s i).1) % 65536 else st)=_
   rw[if_pos hk]
  ·show(if 0<k then t+(q8b s i).1 else t)=_
   rw[if_pos hk]
  ·show(if 0<k then(st+(q8b s i).1) % 65536 else st)=_
   rw[if_neg (by omega)]
  ·show(if 0<k then t+(q8b s i).1 else t)=_
   rw[if_neg (by omega)]
theorem lns_len (s:By):∀(n i k st t:Nat),(q8F s n i k st t).length=n:=by
 intro n
 induction n with
 |zero=>intros;rfl
 |succ n ih=>intro i k st t;rw[q8F,List.length_cons,ih]
theorem q8J (s:By)(sh:Nat):(q0T s sh).length≤12:=by
 unfold q0T
 simp only[]
 rw[lns_len]
 have:=qj s (zk s 0 8).2 (n:=13) (by omega)
 omega
theorem q9w (s:By)(sh:Nat):∃st,st≤65535∧Chain 0 st 0 (q0T s sh):=⟨_,by omega,j9l s _ _ _ _ _ (by omega)⟩
theorem toR_last {L:List LPt}{st a:Nat}(hn:0<L.length)(hs:q4C L (L.length-1)=st):toR L a=(a+65536-st) % 65536:=by
 have hl:L.length-1<L.length:=by omega
 unfold toR q4C at *
 rw[zG hl]at hs ⊢
 simp only[]at hs ⊢
 rw[hs]
theorem toR_nil (a:Nat):toR [] a=0:=rfl
theorem j7M (L:List LPt)(a:Lin):(q2G L a).length=L.length+1:=by simp[q2G]
theorem add_tm (L:List LPt)(a:Lin):tmL (q2G L a) L.length=q7B L a.1:=by
 unfold q2G
 rw[j4b]
theorem j2g (L:List LPt)(a:Lin):q4C (q2G L a) L.length=a.1:=by
 unfold q4C q2G
 rw[List.getElem?_append_right (zL _),Nat.sub_self]
 rfl
theorem add_haps (L:List LPt)(a:Lin):q5n (q2G L a) L.length=a.2:=by
 unfold q5n q2G
 rw[List.getElem?_append_right (zL _),Nat.sub_self]
 rfl
theorem j0H:∀(X:List LnK) (k st t:Nat) (L:List LPt),st≤65535→Chain k st t X→LogOk L→L.length=k→(0<k→q4C L (k-1)=st∧tmL L (k-1)=t)→(k=0→t=0)→k+X.length≤40 →
  (∀j (h:j<X.length),LinOk (((X.take j).map q4t).foldl q2G L) (q1Q X[j].stamp X[j].haps) (q4t X[j])) ∧
  (∀j (h:j<X.length),tmL ((X.map q4t).foldl q2G L) (k+j)=X[j].time∧q5n ((X.map q4t).foldl q2G L) (k+j)=X[j].haps∧q4C ((X.map q4t).foldl q2G L) (k+j)=X[j].stamp):=by
 intro X
 induction X with
 |nil=>intro k st t L _ _ _ _ _ _ _;exact⟨fun j h=>by simp at h,fun j h=>by simp at h⟩
 |cons x r ih =>
  intro k st t L hst hc hL hlen hlast h0 h40
  obtain⟨⟨c1,c2,c3⟩,c4,c5,c6⟩:=hc
  simp only[List.length_cons]at h40
  have hto:toR L x.stamp<32768∧q7B L x.stamp=x.time:=by
   by_cases hk:0<k
   ·obtain⟨d,d1,d2,d3⟩:=c4 hk
    obtain⟨l1,l2⟩:=hlast hk
    have e:toR L x.stamp=d:=by
     rw[toR_last (st:=st) (by omega) (by rw[hlen];exact l1),d2]
     omega
    refine⟨by omega,?_⟩
    rw[j7L hL _ (by omega),hlen,l2,e,d3]
   ·have hk0:k=0:=by omega
    have hn:L=[]:=List.length_eq_zero_iff.1 (by omega)
    subst hn
    refine⟨by rw[toR_nil];omega,?_⟩
    obtain⟨_,e⟩:=c5 hk0
    rw[e,h0 hk0]
    rfl
  have hL':LogOk (q2G L (q4t x)):=hL.add x.stamp x.haps
  obtain⟨i1,i2⟩:=ih (k+1) x.stamp x.time (q2G L (q4t x)) c1 c6 hL' (by rw[j7M,hlen]) (fun _=>by
   rw[show k+1-1=L.length by omega,j2g,add_tm]
   exact⟨rfl,hto.2⟩) (fun e=>by omega) (by omega)
  constructor
  ·intro j hj
   cases j with
   |zero=>exact⟨j9k _ _ c1 c2,line_len _ _ c1 c2 c3,hto.1,by show L.length<40;omega⟩
   |succ j=>exact i1 j (by simpa using hj)
  ·intro j hj
   cases j with
   |zero =>
    have hpre:=j0A (q2G L (q4t x)) (r.map q4t)
    obtain⟨M,e,_⟩:=hpre
    have e':((x::r).map q4t).foldl q2G L=q2G L (q4t x)++M:=e
    have hlt:k<(q2G L (q4t x)).length:=by rw[j7M];omega
    rw[e',Nat.add_zero,q3N hlt,j4O hlt,j2Y hlt,←hlen,add_tm,add_haps,j2g]
    exact⟨hto.2,rfl,rfl⟩
   |succ j =>
    have:=i2 j (by simpa using hj)
    rw[show k+(j+1)=k+1+j by omega]
    exact this
theorem j9m (s:By):∀(n i k st st' t:Nat),(q8F s n i k st t).map (fun l=>(l.time,l.haps))=(q8F s n i k st' t).map (fun l=>(l.time,l.haps)):=by
 intro n
 induction n with
 |zero=>intros;rfl
 |succ n ih =>
  intro i k st st' t
  rw[q8F,q8F,List.map_cons,List.map_cons]
  have e1:((lnK s i k st t).1.time,(lnK s i k st t).1.haps)=((lnK s i k st' t).1.time,(lnK s i k st' t).1.haps):=rfl
  have e2:(lnK s i k st t).2=(lnK s i k st' t).2:=rfl
  have e3:(lnK s i k st t).1.time=(lnK s i k st' t).1.time:=rfl
  rw[e1,e2,e3,ih _ _ (lnK s i k st t).1.stamp (lnK s i k st' t).1.stamp]
theorem j2z (s:By)(a b:Nat):(q0T s a).map (fun l=>(l.time,l.haps))=(q0T s b).map (fun l=>(l.time,l.haps)):=j9m s _ _ _ _ _ _
def q7G (X:List LnK):List LPt:=q0A (X.map q4t)
theorem q7t (X:List LnK):(q7G X).length=X.length:=by
 unfold q7G
 rw[q8G,List.length_map]
theorem j4c {L:List LPt}{i:Nat}(h:¬i<L.length):tmL L i=0∧q5n L i=[]:=by
 unfold tmL q5n
 rw[List.getElem?_eq_none (by omega)]
 exact⟨rfl,rfl⟩
theorem j9y (s:By)(a b:Nat)(F:zh):zs (q7G (q0T s a)) F=zs (q7G (q0T s b)) F:=by
 have hm:=j2z s a b
 have hl:(q0T s a).length=(q0T s b).length:=by simpa using congrArg List.length hm
 have ha:=q8J s a
 have hb:=q8J s b
 obtain⟨sa,ca0,ca⟩:=q9w s a
 obtain⟨sb,cb0,cb⟩:=q9w s b
 have ka:=(j0H (q0T s a) 0 sa 0 [] ca0 ca .nil rfl (fun e=>absurd e (by omega)) (fun _=>rfl) (by omega)).2
 have kb:=(j0H (q0T s b) 0 sb 0 [] cb0 cb .nil rfl (fun e=>absurd e (by omega)) (fun _=>rfl) (by omega)).2
 have hpt:∀j (h:j<(q0T s a).length) (h':j<(q0T s b).length),(q0T s a)[j].time=(q0T s b)[j].time∧(q0T s a)[j].haps=(q0T s b)[j].haps:=fun j h h'=>by
  have:=congrArg (fun l=>l[j]?) hm
  simp only[List.getElem?_map,zG h,zG h',Option.map_some,Option.some.injEq,Prod.mk.injEq]at this
  exact this
 refine j6N (by rw[q7t,q7t,hl]) (fun i=>?_) (fun i=>?_) F
 ·by_cases hi:i<(q0T s a).length
  ·have e1:=(ka i hi).2.1
   have e2:=(kb i (by omega)).2.1
   rw[Nat.zero_add]at e1 e2
   exact e1.trans ((hpt i hi (by omega)).2.trans e2.symm)
  ·rw[(j4c (L:=q7G (q0T s a)) (by rw[q7t];exact hi)).2,(j4c (L:=q7G (q0T s b)) (by rw[q7t];omega)).2]
 ·by_cases hi:i<(q0T s a).length
  ·have e1:=(ka i hi).1
   have e2:=(kb i (by omega)).1
   rw[Nat.zero_add]at e1 e2
   exact e1.trans ((hpt i hi (by omega)).1.trans e2.symm)
  ·rw[(j4c (L:=q7G (q0T s a)) (by rw[q7t];exact hi)).1,(j4c (L:=q7G (q0T s b)) (by rw[q7t];omega)).1]
theorem q6H {S G W G' W':Nat→Bool}{pos:Nat→Nat}:∀k:Nat,(∀m,m<k→G' (pos m)=G (pos m)∧W' (pos m)=W (pos m))→q4q S G' W' pos k=q4q S G W pos k:=by
 intro k
 induction k with
 |zero=>intro _;rfl
 |succ k ih =>
  intro h
  rw[q7h,q7h,ih (fun m hm=>h m (by omega)),(h k (by omega)).1,q6K (fun q hq=>(h q (by omega)).2)]
theorem q4G (w lo hi:By)(A B:zh)(L:List LPt)(i x z:Nat):zs L (opF w lo hi A B) i x z=(decide (i<L.length)&&qz (zz 0 0 0 ⟨w,[],lo,hi⟩ A B) L (zs L A) (zs L B) i x z):=rfl
theorem q9t (L:List LPt)(i x z:Nat):zs L q7c i x z=decide (i<L.length):=by
 show(decide (i<L.length)&&qz (zz 0 0 0 ⟨[116,114,117,101],[],[],[]⟩ .nil .nil) L _ _ i x z)=_
 unfold qz
 rw[if_pos (by show zp [116,114,117,101]=5;decide),Bool.and_true]
theorem q9A {nd:PNode}(h:q4n nd.kind=true)(h10:¬nd.kind=10)(L:List LPt)(A B:Nat→Nat→Nat→Bool)(i x z:Nat):qz nd L A B i x z=q4q (fun j=>q1H nd (q0C L i j)) (q1L nd A B x z) (q0N nd A x z) (fun m=>i-m) (i+1):=by
 have hk:nd.kind=10∨nd.kind=12∨nd.kind=14∨nd.kind=15:=by
  unfold q4n at h
  simp only[Bool.or_eq_true,beq_iff_eq]at h
  omega
 unfold qz
 rw[if_neg (by omega),if_neg (by omega),if_neg (by omega),if_neg (by omega),if_neg (by omega),if_neg (by omega),if_neg h10,if_neg (by omega),if_pos h]
theorem j1i {nd:PNode}(h:nd.kind=13∨nd.kind=16∨nd.kind=17)(L:List LPt)(A B:Nat→Nat→Nat→Bool)(i x z:Nat):qz nd L A B i x z=q4q (fun j=>q1H nd (q0C L i j)) (q1L nd A B x z) (q0N nd A x z) (fun m=>i+m) (L.length-i):=by
 unfold qz
 rw[if_neg (by omega),if_neg (by omega),if_neg (by omega),if_neg (by omega),if_neg (by omega),if_neg (by omega),if_neg (by omega),if_neg (by omega),if_neg]
 unfold q4n
 rcases h with h|h|h<;>rw[h]<;>decide
theorem q8s {nd:PNode}(h:nd.kind=12∨nd.kind=13)(A B:Nat→Nat→Nat→Bool)(x z:Nat):q1L nd A B x z=(fun j=>A j x z)∧q0N nd A x z=(fun _=>true):=by
 constructor
 ·funext j;unfold q1L;rw[if_pos h]
 ·funext j;unfold q0N;rw[if_neg (by omega),if_neg (by omega)]
theorem q8t {nd:PNode}(h:nd.kind=14∨nd.kind=16)(A B:Nat→Nat→Nat→Bool)(x z:Nat):q1L nd A B x z=(fun j=>B j x z)∧q0N nd A x z=(fun j=>A j x z):=by
 constructor
 ·funext j;unfold q1L;rw[if_neg (by omega)]
 ·funext j;unfold q0N;rw[if_pos h]
theorem j0r {nd:PNode}(h:nd.kind=15∨nd.kind=17)(A B:Nat→Nat→Nat→Bool)(x z:Nat):q1L nd A B x z=(fun j=>B j x z)∧q0N nd A x z=(fun j=>!A j x z):=by
 constructor
 ·funext j;unfold q1L;rw[if_neg (by omega)]
 ·funext j;unfold q0N;rw[if_neg (by omega),if_pos h]
abbrev j6u:By:=[111,110,99,101]
abbrev j0h:By:=[115,111,111,110]
abbrev q9S:By:=[115,105,110,99,101]
abbrev q9f:By:=[117,110,115,105,110,99,101]
abbrev j4p:By:=[117,110,116,105,108]
abbrev q9g:By:=[117,110,117,110,116,105,108]
abbrev wAnd:By:=[97,110,100]
abbrev wBut:By:=[98,117,116]
abbrev wOr:By:=[111,114]
theorem q8z (L:List LPt)(lo hi:By)(A B:zh)(i x z:Nat):zs L (opF wAnd lo hi A B) i x z=(decide (i<L.length)&&(zs L A i x z&&zs L B i x z)):=by
 rw[q4G]
 unfold qz
 rw[show(zz 0 0 0 ⟨wAnd,[],lo,hi⟩ A B).kind=6 from by show zp wAnd=6;decide]
 rfl
theorem q8A (L:List LPt)(lo hi:By)(A B:zh)(i x z:Nat):zs L (opF wBut lo hi A B) i x z=(decide (i<L.length)&&(zs L A i x z&&!zs L B i x z)):=by
 rw[q4G]
 unfold qz
 rw[show(zz 0 0 0 ⟨wBut,[],lo,hi⟩ A B).kind=7 from by show zp wBut=7;decide]
 rfl
theorem hold_or (L:List LPt)(lo hi:By)(A B:zh)(i x z:Nat):zs L (opF wOr lo hi A B) i x z=(decide (i<L.length)&&(zs L A i x z || zs L B i x z)):=by
 rw[q4G]
 unfold qz
 rw[show(zz 0 0 0 ⟨wOr,[],lo,hi⟩ A B).kind=8 from by show zp wOr=8;decide]
 rfl
abbrev spX (lo hi:By)(L:List LPt)(i:Nat):Nat→Bool:=fun j=>decide (q3k lo≤(q0C L i j:Int))&&((hi==[42]) || decide ((q0C L i j:Int)≤q3k hi))
theorem j2q (L:List LPt)(lo hi:By)(A B:zh)(i x z:Nat):zs L (opF j6u lo hi A B) i x z=(decide (i<L.length)&&q4q (spX lo hi L i) (fun j=>zs L A j x z) (fun _=>true) (fun m=>i-m) (i+1)):=by
 have hk:(zz 0 0 0 ⟨j6u,[],lo,hi⟩ A B).kind=12:=by show zp j6u=12;decide
 rw[q4G,q9A (by rw[hk];decide) (by rw[hk];decide),(q8s (.inl hk) _ _ _ _).1,(q8s (.inl hk) _ (zs L B) _ _).2]
 rfl
theorem q9s (L:List LPt)(lo hi:By)(A B:zh)(i x z:Nat):zs L (opF j0h lo hi A B) i x z=(decide (i<L.length)&&q4q (spX lo hi L i) (fun j=>zs L A j x z) (fun _=>true) (fun m=>i+m) (L.length-i)):=by
 have hk:(zz 0 0 0 ⟨j0h,[],lo,hi⟩ A B).kind=13:=by show zp j0h=13;decide
 rw[q4G,j1i (.inl hk),(q8s (.inr hk) _ _ _ _).1,(q8s (.inr hk) _ (zs L B) _ _).2]
 rfl
theorem q8d (L:List LPt)(lo hi:By)(A B:zh)(i x z:Nat):zs L (opF q9S lo hi A B) i x z=(decide (i<L.length)&&q4q (spX lo hi L i) (fun j=>zs L B j x z) (fun j=>zs L A j x z) (fun m=>i-m) (i+1)):=by
 have hk:(zz 0 0 0 ⟨q9S,[],lo,hi⟩ A B).kind=14:=by show zp q9S=14;decide
 rw[q4G,q9A (by rw[hk];decide) (by rw[hk];decide),(q8t (.inl hk) _ _ _ _).1,(q8t (.inl hk) _ (zs L B) _ _).2]
 rfl
theorem j3A (L:List LPt)(lo hi:By)(A B:zh)(i x z:Nat):zs L (opF q9f lo hi A B) i x z=(decide (i<L.length)&&q4q (spX lo hi L i) (fun j=>zs L B j x z) (fun j=>!zs L A j x z) (fun m=>i-m) (i+1)):=by
 have hk:(zz 0 0 0 ⟨q9f,[],lo,hi⟩ A B).kind=15:=by show zp q9f=15;decide
 rw[q4G,q9A (by rw[hk];decide) (by rw[hk];decide),(j0r (.inl hk) _ _ _ _).1,(j0r (.inl hk) _ (zs L B) _ _).2]
 rfl
theorem j6M (L:List LPt)(lo hi:By)(A B:zh)(i x z:Nat):zs L (opF j4p lo hi A B) i x z=(decide (i<L.length)&&q4q (spX lo hi L i) (fun j=>zs L B j x z) (fun j=>zs L A j x z) (fun m=>i+m) (L.length-i)):=by
 have hk:(zz 0 0 0 ⟨j4p,[],lo,hi⟩ A B).kind=16:=by show zp j4p=16;decide
 rw[q4G,j1i (.inr (.inl hk)),(q8t (.inr hk) _ _ _ _).1,(q8t (.inr hk) _ (zs L B) _ _).2]
 rfl
theorem j3B (L:List LPt)(lo hi:By)(A B:zh)(i x z:Nat):zs L (opF q9g lo hi A B) i x z=(decide (i<L.length)&&q4q (spX lo hi L i) (fun j=>zs L B j x z) (fun j=>!zs L A j x z) (fun m=>i+m) (L.length-i)):=by
 have hk:(zz 0 0 0 ⟨q9g,[],lo,hi⟩ A B).kind=17:=by show zp q9g=17;decide
 rw[q4G,j1i (.inr (.inr hk)),(j0r (.inr hk) _ _ _ _).1,(j0r (.inr hk) _ (zs L B) _ _).2]
 rfl
theorem q8B {L:List LPt}{F:zh}{i:Nat}(h:¬i<L.length)(x z:Nat):zs L F i x z=false:=by
 cases F with
 |nil=>rfl
 |node p sp y l r=>rw[zs,decide_eq_false h];rfl
def eqP (k:Nat)(lo hi:By)(F G:zh):zh × zh:=
 if k=0 then(opF j6u lo hi F .nil,opF q9S lo hi q7c F)
 else if k=1 then(opF j0h lo hi F .nil,opF j4p lo hi q7c F)
 else if k=2 then(opF wAnd [] [] F G,opF wAnd [] [] G F)
 else if k=3 then(opF wOr [] [] F F,F)
 else if k=4 then(opF wBut [] [] F (opF wBut [] [] F F),F)
 else if k=5 then(opF j6u lo hi F .nil,opF q9f lo hi (opF wBut [] [] F F) F)
 else if k=6 then(opF j0h lo hi F .nil,opF q9g lo hi (opF wBut [] [] F F) F)
 else(opF q9S lo hi F (opF wAnd [] [] F F),opF q9S lo hi (opF wAnd [] [] F F) F)
theorem eq_holds (k:Nat)(lo hi:By)(F G:zh)(L:List LPt)(i x z:Nat):zs L (eqP k lo hi F G).1 i x z=zs L (eqP k lo hi F G).2 i x z:=by
 by_cases hL:i<L.length
 ·unfold eqP
  split
  ·rw[j2q,q8d]
   congr 1
   refine(q6H _ (fun m hm=>⟨rfl,?_⟩)).symm
   rw[q9t]
   exact decide_eq_true (by omega)
  ·split
   ·rw[q9s,j6M]
    congr 1
    refine(q6H _ (fun m hm=>⟨rfl,?_⟩)).symm
    rw[q9t]
    exact decide_eq_true (by omega)
   ·split
    ·rw[q8z,q8z,Bool.and_comm (zs L F i x z)]
    ·split
     ·rw[hold_or,decide_eq_true hL,Bool.or_self,Bool.true_and]
     ·split
      ·rw[q8A,q8A,decide_eq_true hL]
       cases zs L F i x z<;>rfl
      ·split
       ·rw[j2q,j3A]
        congr 1
        refine(q6H _ (fun m hm=>⟨rfl,?_⟩)).symm
        rw[q8A]
        cases zs L F (i-m) x z<;>simp
       ·split
        ·rw[q9s,j3B]
         congr 1
         refine(q6H _ (fun m hm=>⟨rfl,?_⟩)).symm
         rw[q8A]
         cases zs L F (i+m) x z<;>simp
        ·rw[q8d,q8d]
         congr 1
         refine q6H _ (fun m hm=>?_)
         rw[q8z,decide_eq_true (show i-m<L.length by omega)]
         cases zs L F (i-m) x z<;>exact⟨rfl,rfl⟩
 ·rw[q8B hL,q8B hL]
theorem j6W (F:zh)(L:List LPt)(i x z:Nat):zs L (opF wAnd [] [] F (opF j0h [48] [57,57,57] q7c .nil)) i x z=zs L F i x z:=by
 by_cases hL:i<L.length
 ·rw[q8z,q9s,decide_eq_true hL]
  have hf:q4q (spX [48] [57,57,57] L i) (fun j=>zs L q7c j x z) (fun _=>true) (fun m=>i+m) (L.length-i)=true:=by
   unfold q4q
   rw[List.any_eq_true]
   refine⟨0,List.mem_range.2 (by omega),?_⟩
   have hd:q0C L i (i+0)=0:=by unfold q0C;simp
   simp only[spX,hd,q9t]
   rw[decide_eq_true (show i+0<L.length by omega)]
   rfl
  rw[hf]
  simp
 ·rw[q8B hL,q8B hL]
end Go.Proofs.YtiamjjonoeaggaaGreatDoor
