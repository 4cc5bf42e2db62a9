import Derived.Test.YtiamjjonoeaggabGreatDoorGA
import Derived.Test.YtiamjjonoeaggabGreatDoorG00
import Derived.Deep.Trees
namespace Go.Proofs.YtiamjjonoeaggabGreatDoor
open Go.RowKit
structure Pay where
 word:By
 args:List (By)
 lo:By
 hi:By
abbrev zl:=Go.Deep.BT Pay
abbrev q6M (α:Type):=Sum (List Tok) (α × List Tok)
def qC {α β:Type}(x:q6M α)(f:α→List Tok→q6M β):q6M β:=match x with
 | .inl r=>.inl r
 | .inr (a,r)=>f a r
def q0h (p:By→Bool)(ts:List Tok):q6M Tok:=match ts with
 | []=>.inl []
 |t::r=>if p t.text then .inr (t,r)else .inl (t::r)
def hd (ts:List Tok):By:=match ts with
 | []=>[]
 |t::_=>t.text
def q4o (t:By):Bool:=match t with
 | []=>false
 |c::_=>qp (c.toNat:Int)
def q1J (t:By):Bool:=t==[120] || t==[121]
def q3Q (t:By):Bool:=(t.length==1&&q1H t) || q1J t
def q4B (t:By):Bool:=t==[42] || q4o t
def qD (c:By)(t:By):Bool:=c==t
def q2B (ts:List Tok):q6M (List (By)):=
 if hd ts==[44]then qC (q0h (qD [44]) ts) fun _ r=>qC (q0h q3Q r) fun a r=>.inr ([a.text],r)else .inr ([],ts)
def q2C (ts:List Tok):q6M (Nat × By × By):=
 qC (q0h (qD [91]) ts) fun o r=>qC (q0h q4o r) fun a r=>qC (q0h (qD [44]) r) fun _ r=>qC (q0h q4B r) fun b r=>qC (q0h (qD [93]) r) fun _ r=>.inr ((o.pos,a.text,b.text),r)
def j1B (w:By):Pay:=⟨w,[],[],[]⟩
def q0R:Nat→List Tok→q6M zl
 | 0,ts=>.inl ts
 |n+1,ts =>
  if zv (hd ts)then
   qC (q0h zv ts) fun t r=>qC (q0h (qD [40]) r) fun _ r=>qC (q0h q3Q r) fun a r=>qC (q2B r) fun b r=>qC (q0h (qD [41]) r) fun _ r =>
    .inr (.node t.pos 0 ⟨t.text,a.text::b,[],[]⟩ .nil .nil,r)
  else if hd ts==[101,120,105,115,116,115]then
   qC (q0h (qD (hd ts)) ts) fun t r=>qC (q0h q1J r) fun v r=>qC (q0h (qD [40]) r) fun _ r=>qC (q0R n r) fun A r=>qC (q0h (qD [41]) r) fun _ r =>
    .inr (.node t.pos 0 ⟨t.text,[v.text],[],[]⟩ A .nil,r)
  else if q0o (hd ts)then
   qC (q0h (qD (hd ts)) ts) fun t r=>qC (q0h (qD [40]) r) fun _ r=>qC (q0R n r) fun A r=>qC (q0h (qD [44]) r) fun _ r=>qC (q0R n r) fun B r=>qC (q0h (qD [41]) r) fun _ r =>
    .inr (.node t.pos 0 (j1B t.text) A B,r)
  else if q0Q (hd ts)then
   qC (q0h (qD (hd ts)) ts) fun t r=>qC (q2C r) fun s r=>qC (q0h (qD [40]) r) fun _ r=>qC (q0R n r) fun A r=>qC (q0h (qD [41]) r) fun _ r =>
    .inr (.node t.pos s.1 ⟨t.text,[],s.2.1,s.2.2⟩ A .nil,r)
  else if q0J (hd ts)then
   qC (q0h (qD (hd ts)) ts) fun t r=>qC (q2C r) fun s r=>qC (q0h (qD [40]) r) fun _ r=>qC (q0R n r) fun A r=>qC (q0h (qD [44]) r) fun _ r=>qC (q0R n r) fun B r=>qC (q0h (qD [41]) r) fun _ r =>
    .inr (.node t.pos s.1 ⟨t.text,[],s.2.1,s.2.2⟩ A B,r)
  else qC (q0h (qD [116,114,117,101]) ts) fun t r=>.inr (.node t.pos 0 (j1B t.text) .nil .nil,r)
def plc (L:Nat)(ts:List Tok):Nat:=match ts with
 | []=>L
 |t::_=>t.pos
def q4C (L:Nat):Nat→List (By)→List Tok→Option (Option Nat)
 | 0,_,_=>none
 |_+1,[],ts=>some (match ts with|[]=>none|t::_=>some t.pos)
 |f+1,s::W,ts=>match q0d s (hd ts)with
  |some m=>q4C L f (m++W) ts
  |none=>if q4h s (hd ts)then q4C L f W ts.tail else some (some (plc L ts))
def q5y (L:Nat)(ss:List (By))(ts:List Tok)(x:Sum (List Tok) (List Tok)):Prop:=
 ∀W,∃k,∀m,q4C L (k+m) (ss++W) ts=match x with
  | .inl r=>some (some (plc L r))
  | .inr r=>q4C L m W r
def q6g {α:Type}(x:q6M α):Sum (List Tok) (List Tok):=match x with
 | .inl r=>.inl r
 | .inr (_,r)=>.inr r
theorem q3m (L:Nat)(ts:List Tok):q5y L [] ts (.inr ts):=fun W=>⟨0,fun m=>by simp⟩
theorem qg {L:Nat}{α β:Type}{ss ss':List (By)}{ts:List Tok}{x:q6M α}{f:α→List Tok→q6M β}(h1:q5y L ss ts (q6g x))(h2:∀a r,x=.inr (a,r)→q5y L ss' r (q6g (f a r))):q5y L (ss++ss') ts (q6g (qC x f)):=by
 intro W
 cases x with
 |inl r =>
  obtain⟨k,hk⟩:=h1 (ss'++W)
  exact⟨k,fun m=>by rw[List.append_assoc];exact hk m⟩
 |inr p =>
  obtain⟨a,r⟩:=p
  obtain⟨k,hk⟩:=h1 (ss'++W)
  obtain⟨k',hk'⟩:=h2 a r rfl W
  refine⟨k+k',fun m=>?_⟩
  rw[List.append_assoc,Nat.add_assoc,hk (k'+m)]
  exact hk' m
theorem q6J (L:Nat)(s:By)(p:By→Bool)(ts:List Tok)(hb:q0d s (hd ts)=none)(hp:q4h s (hd ts)=(!ts.isEmpty&&p (hd ts))):q5y L [s] ts (q6g (q0h p ts)):=by
 intro W
 refine⟨1,fun m=>?_⟩
 rw[Nat.add_comm 1 m]
 show q4C L (m+1) (s::W) ts=_
 rw[q4C,hb]
 simp only[]
 rw[hp]
 cases ts with
 |nil=>simp[q0h,q6g]
 |cons t r =>
  simp only[hd,q0h]
  by_cases hpt:p t.text=true<;>simp[hpt,q6g]
theorem q3a {L:Nat}{s:By}{m:List (By)}{ts:List Tok}{x:Sum (List Tok) (List Tok)}(hb:q0d s (hd ts)=some m)(h:q5y L m ts x):q5y L [s] ts x:=by
 intro W
 obtain⟨k,hk⟩:=h W
 refine⟨k+1,fun j=>?_⟩
 have e:k+1+j=(k+j)+1:=by omega
 rw[e]
 show q4C L (k+j+1) (s::W) ts=_
 rw[q4C,hb]
 exact hk j
theorem q4G (s t:By)(h1:(s==[69,78,68])=false)(h2:(s==[65,82,71])=false)(h3:(s==[77,79,82,69])=false)(h4:s.head?≠some 70):q0d s t=none:=by
 unfold q0d
 rw[h1,h2,h3]
 simp only[Bool.false_eq_true,if_false]
 cases s with
 |nil=>rfl
 |cons c r =>
  simp only[]
  rw[if_neg]
  intro e
  apply h4
  simp at e
  simp[e]
theorem fits_lit (s:By)(ts:List Tok)(h1:(s==[78,85,77])=false)(h2:(s==[86,65,82])=false)(h3:(s==[78,65,77,69])=false)(hts:∀t∈ts,t.text≠[]):q4h s (hd ts)=(!ts.isEmpty&&qD s (hd ts)):=by
 cases ts with
 |nil=>rfl
 |cons t r =>
  have ht:=hts t (by simp)
  cases htx:t.text with
  |nil=>exact absurd htx ht
  |cons c q =>
   show q4h s t.text=_
   simp only[hd,List.isEmpty_cons,Bool.not_false,Bool.true_and,qD]
   rw[htx,q4i,h1,h2,h3]
   rfl
theorem q0z (L:Nat)(s:By)(ts:List Tok)(h1:(s==[78,85,77])=false)(h2:(s==[86,65,82])=false)(h3:(s==[78,65,77,69])=false)(_hne:s≠[])(hE:(s==[69,78,68])=false)(hA:(s==[65,82,71])=false)(hM:(s==[77,79,82,69])=false)(hF:s.head?≠some 70)
  (hts:∀t∈ts,t.text≠[]):q5y L [s] ts (q6g (q0h (qD s) ts)):=
 q6J L s _ ts (q4G s _ hE hA hM hF) (fits_lit s ts h1 h2 h3 hts)
theorem fits_num (ts:List Tok):q4h [78,85,77] (hd ts)=(!ts.isEmpty&&q4o (hd ts)):=by
 cases ts with
 |nil=>rfl
 |cons t r =>
  simp only[hd,List.isEmpty_cons,Bool.not_false,Bool.true_and]
  cases t.text with
  |nil=>rfl
  |cons c q=>rw[q4i];rfl
theorem fits_var (ts:List Tok):q4h [86,65,82] (hd ts)=(!ts.isEmpty&&q1J (hd ts)):=by
 cases ts with
 |nil=>rfl
 |cons t r =>
  simp only[hd,List.isEmpty_cons,Bool.not_false,Bool.true_and]
  cases t.text with
  |nil=>rfl
  |cons c q=>rw[q4i];rfl
theorem j6v (ts:List Tok):q4h [78,65,77,69] (hd ts)=(!ts.isEmpty&&zv (hd ts)):=by
 cases ts with
 |nil=>rfl
 |cons t r =>
  simp only[hd,List.isEmpty_cons,Bool.not_false,Bool.true_and]
  cases t.text with
  |nil=>rfl
  |cons c q=>rw[q4i];rfl
theorem j4n (L:Nat)(ts:List Tok):q5y L [[78,85,77]] ts (q6g (q0h q4o ts)):=q6J L _ _ ts (q4G _ _ (by decide) (by decide) (by decide) (by decide)) (fits_num ts)
theorem j4o (L:Nat)(ts:List Tok):q5y L [[86,65,82]] ts (q6g (q0h q1J ts)):=q6J L _ _ ts (q4G _ _ (by decide) (by decide) (by decide) (by decide)) (fits_var ts)
theorem j7p (L:Nat)(ts:List Tok):q5y L [[78,65,77,69]] ts (q6g (q0h zv ts)):=q6J L _ _ ts (q4G _ _ (by decide) (by decide) (by decide) (by decide)) (j6v ts)
theorem q5G {p q:By→Bool}(ts:List Tok)(h:ts≠[]→p (hd ts)=q (hd ts)):q0h p ts=q0h q ts:=by
 cases ts with
 |nil=>rfl
 |cons t r =>
  have:=h (by simp)
  simp only[hd]at this
  simp only[q0h,this]
theorem runs_end (L:Nat)(ts:List Tok)(hts:∀t∈ts,t.text≠[]):q5y L [[69,78,68]] ts (q6g (q0h q4B ts)):=by
 cases h:(hd ts==[42])with
 |true =>
  refine q3a (m:=[[42]]) (by unfold q0d;rw[if_pos (by decide),h];rfl) ?_
  have e:q0h q4B ts=q0h (qD [42]) ts:=q5G ts (fun _=>by
   have:hd ts=[42]:=by simpa using h
   rw[this];rfl)
  rw[e]
  exact q0z L _ ts (by decide) (by decide) (by decide) (by decide) (by decide) (by decide) (by decide) (by decide) hts
 |false =>
  refine q3a (m:=[[78,85,77]]) (by unfold q0d;rw[if_pos (by decide),h];rfl) ?_
  have e:q0h q4B ts=q0h q4o ts:=q5G ts (fun _=>by unfold q4B;rw[h];rfl)
  rw[e]
  exact j4n L ts
theorem q6C {t:By}(h:(t.length==1&&q1H t)=true):∃c,t=[c]∧48≤c.toNat∧c.toNat≤57:=by
 match t,h with
 | [c],h =>
  refine⟨c,rfl,?_⟩
  simp[q1H,qp]at h
  omega
theorem j3a {c:UInt8}(h:c.toNat≤57)(k:UInt8)(hk:57<k.toNat):c≠k:=by
 intro e
 subst e
 omega
theorem j4m (L:Nat)(ts:List Tok)(hts:∀t∈ts,t.text≠[]):q5y L [[65,82,71]] ts (q6g (q0h q3Q ts)):=by
 cases h:((hd ts).length==1&&q1H (hd ts))with
 |true =>
  obtain⟨c,hc,h1,h2⟩:=q6C h
  refine q3a (m:=[hd ts]) (by unfold q0d;rw[if_neg (by decide),if_pos (by decide),h];rfl) ?_
  have e:q0h q3Q ts=q0h (qD (hd ts)) ts:=q5G ts (fun _=>by unfold q3Q;rw[h];simp[qD])
  rw[e]
  refine q0z L _ ts ?_ ?_ ?_ ?_ ?_ ?_ ?_ ?_ hts
  all_goals rw[hc]
  all_goals first|simp|(simp only[beq_eq_false_iff_ne];simp)
  exact j3a h2 70 (by decide)
 |false =>
  refine q3a (m:=[[86,65,82]]) (by unfold q0d;rw[if_neg (by decide),if_pos (by decide),h];rfl) ?_
  have e:q0h q3Q ts=q0h q1J ts:=q5G ts (fun _=>by unfold q3Q;rw[h];rfl)
  rw[e]
  exact j4o L ts
theorem q0k {p:By→Bool}{ts r:List Tok}{t:Tok}(h:q0h p ts=.inr (t,r)):ts=t::r∧p t.text=true:=by
 cases ts with
 |nil=>simp[q0h]at h
 |cons a q =>
  simp only[q0h]at h
  by_cases hp:p a.text=true
  ·rw[if_pos hp]at h
   simp at h
   obtain⟨rfl,rfl⟩:=h
   exact⟨rfl,hp⟩
  ·rw[if_neg hp]at h
   simp at h
theorem q0r {p:By→Bool}{ts r:List Tok}{t:Tok}(h:q0h p ts=.inr (t,r))(hts:∀t∈ts,t.text≠[]):∀t∈r,t.text≠[]:=by
 have:=(q0k h).1
 subst this
 exact fun x hx=>hts x (by simp[hx])
theorem j7o (L:Nat)(ts:List Tok)(hts:∀t∈ts,t.text≠[]):q5y L [[77,79,82,69]] ts (q6g (q2B ts)):=by
 unfold q2B
 cases h:(hd ts==[44])with
 |true =>
  rw[if_pos rfl]
  refine q3a (m:=[[44],[65,82,71]]) (by unfold q0d;rw[if_neg (by decide),if_neg (by decide),if_pos (by decide),h];rfl) ?_
  refine qg (ss:=[[44]]) (ss':=[[65,82,71]]) (q0z L _ ts (by decide) (by decide) (by decide) (by decide) (by decide) (by decide) (by decide) (by decide) hts) ?_
  intro a r hr
  have hr':=q0r hr hts
  rw[←List.append_nil [[65,82,71]]]
  refine qg (j4m L r hr') ?_
  intro a2 r2 _
  exact q3m L r2
 |false =>
  rw[if_neg (by simp)]
  exact q3a (m:=[]) (by unfold q0d;rw[if_neg (by decide),if_neg (by decide),if_pos (by decide),h];rfl) (q3m L ts)
def qz:zl→List Tok→Prop
 | .nil,_=>False
 | .node p sp y l r,ts =>
  (zv y.word=true∧y.lo=[]∧y.hi=[]∧l=.nil∧r=.nil∧∃q1 q2 q3 a,q3Q a=true∧((y.args=[a]∧ts=[⟨y.word,p⟩,⟨[40],q1⟩,⟨a,q2⟩,⟨[41],q3⟩])∨∃b q4 q5,q3Q b=true∧y.args=[a,b]∧ts=[⟨y.word,p⟩,⟨[40],q1⟩,⟨a,q2⟩,⟨[44],q4⟩,⟨b,q5⟩,⟨[41],q3⟩])) ∨
  (zv y.word=false∧y.word=[101,120,105,115,116,115]∧y.lo=[]∧y.hi=[]∧r=.nil∧∃v q1 q2 q3 u,q1J v=true∧y.args=[v]∧qz l u∧ts=⟨y.word,p⟩::⟨v,q1⟩::⟨[40],q2⟩::(u++[⟨[41],q3⟩])) ∨
  (zv y.word=false∧q0o y.word=true∧y.args=[]∧y.lo=[]∧y.hi=[]∧∃q1 q2 q3 u u',qz l u∧qz r u'∧ts=⟨y.word,p⟩::⟨[40],q1⟩::(u++⟨[44],q2⟩::(u'++[⟨[41],q3⟩]))) ∨
  (zv y.word=false∧q0Q y.word=true∧y.args=[]∧r=.nil∧q4o y.lo=true∧q4B y.hi=true∧∃q1 q2 q3 q4 q5 q6 u,qz l u∧ts=⟨y.word,p⟩::⟨[91],sp⟩::⟨y.lo,q1⟩::⟨[44],q2⟩::⟨y.hi,q3⟩::⟨[93],q4⟩::⟨[40],q5⟩::(u++[⟨[41],q6⟩])) ∨
  (zv y.word=false∧q0J y.word=true∧y.args=[]∧q4o y.lo=true∧q4B y.hi=true∧∃q1 q2 q3 q4 q5 q6 q7 u u',qz l u∧qz r u'∧ts=⟨y.word,p⟩::⟨[91],sp⟩::⟨y.lo,q1⟩::⟨[44],q2⟩::⟨y.hi,q3⟩::⟨[93],q4⟩::⟨[40],q5⟩::(u++⟨[44],q6⟩::(u'++[⟨[41],q7⟩]))) ∨
  (zv y.word=false∧y.word=[116,114,117,101]∧y.args=[]∧y.lo=[]∧y.hi=[]∧l=.nil∧r=.nil∧ts=[⟨y.word,p⟩])
theorem qt {α β:Type}{x:q6M α}{f:α→List Tok→q6M β}{c:β × List Tok}(h:qC x f=.inr c):∃a r,x=.inr (a,r)∧f a r=.inr c:=by
 cases x with
 |inl r=>simp[qC]at h
 |inr p=>exact⟨p.1,p.2,rfl,h⟩
theorem q4l {c t:By}(h:qD c t=true):t=c:=by
 unfold qD at h
 simp at h
 exact h.symm
theorem q1h {c:By}{ts r:List Tok}{t:Tok}(h:q0h (qD c) ts=.inr (t,r)):ts=⟨c,t.pos⟩::r:=by
 obtain⟨h1,h2⟩:=q0k h
 have:=q4l h2
 rw[h1,←this]
theorem q4u {ts r:List Tok}{x:Nat × By × By}(h:q2C ts=.inr (x,r)):q4o x.2.1=true∧q4B x.2.2=true∧∃q1 q2 q3 q4,ts=⟨[91],x.1⟩::⟨x.2.1,q1⟩::⟨[44],q2⟩::⟨x.2.2,q3⟩::⟨[93],q4⟩::r:=by
 obtain⟨t1,r1,h1,h⟩:=qt h
 obtain⟨t2,r2,h2,h⟩:=qt h
 obtain⟨t3,r3,h3,h⟩:=qt h
 obtain⟨t4,r4,h4,h⟩:=qt h
 obtain⟨t5,r5,h5,h⟩:=qt h
 simp at h
 obtain⟨rfl,rfl⟩:=h
 have e1:=q1h h1
 obtain⟨e2,g2⟩:=q0k h2
 have e3:=q1h h3
 obtain⟨e4,g4⟩:=q0k h4
 have e5:=q1h h5
 exact⟨g2,g4,t2.pos,t3.pos,t4.pos,t5.pos,by rw[e1,e2,e3,e4,e5]⟩
theorem j0c {ts r:List Tok}{x:List (By)}(h:q2B ts=.inr (x,r)):(x=[]∧r=ts)∨∃b q1 q2,q3Q b=true∧x=[b]∧ts=⟨[44],q1⟩::⟨b,q2⟩::r:=by
 unfold q2B at h
 by_cases hc:(hd ts==[44])=true
 ·rw[if_pos hc]at h
  obtain⟨t1,r1,h1,h⟩:=qt h
  obtain⟨t2,r2,h2,h⟩:=qt h
  simp at h
  obtain⟨rfl,rfl⟩:=h
  have e1:=q1h h1
  obtain⟨e2,g2⟩:=q0k h2
  exact .inr ⟨t2.text,t1.pos,t2.pos,g2,rfl,by rw[e1,e2]⟩
 ·rw[if_neg hc]at h
  simp at h
  exact .inl ⟨h.1,h.2.symm⟩
theorem q4L:∀(n:Nat) (ts r:List Tok) (F:zl),q0R n ts=.inr (F,r)→∃u,ts=u++r∧qz F u:=by
 intro n
 induction n with
 |zero=>intro ts r F h;simp[q0R]at h
 |succ n ih =>
  intro ts r F h
  rw[q0R]at h
  by_cases c1:zv (hd ts)=true
  ·rw[if_pos c1]at h
   obtain⟨t1,r1,h1,h⟩:=qt h
   obtain⟨t2,r2,h2,h⟩:=qt h
   obtain⟨t3,r3,h3,h⟩:=qt h
   obtain⟨x4,r4,h4,h⟩:=qt h
   obtain⟨t5,r5,h5,h⟩:=qt h
   simp at h
   obtain⟨rfl,rfl⟩:=h
   obtain⟨e1,g1⟩:=q0k h1
   have e2:=q1h h2
   obtain⟨e3,g3⟩:=q0k h3
   have e5:=q1h h5
   rcases j0c h4 with⟨rfl,rfl⟩|⟨b,q1,q2,gb,rfl,e4⟩
   ·exact⟨[t1,⟨[40],t2.pos⟩,t3,⟨[41],t5.pos⟩],by rw[e1,e2,e3,e5];rfl,.inl ⟨g1,rfl,rfl,rfl,rfl,t2.pos,t3.pos,t5.pos,t3.text,g3,.inl ⟨rfl,rfl⟩⟩⟩
   ·exact⟨[t1,⟨[40],t2.pos⟩,t3,⟨[44],q1⟩,⟨b,q2⟩,⟨[41],t5.pos⟩],by rw[e1,e2,e3,e4,e5];rfl,.inl ⟨g1,rfl,rfl,rfl,rfl,t2.pos,t3.pos,t5.pos,t3.text,g3,.inr ⟨b,q1,q2,gb,rfl,rfl⟩⟩⟩
  ·rw[if_neg c1]at h
   by_cases c2:(hd ts==[101,120,105,115,116,115])=true
   ·rw[if_pos c2]at h
    obtain⟨t1,r1,h1,h⟩:=qt h
    obtain⟨t2,r2,h2,h⟩:=qt h
    obtain⟨t3,r3,h3,h⟩:=qt h
    obtain⟨A,r4,h4,h⟩:=qt h
    obtain⟨t5,r5,h5,h⟩:=qt h
    simp at h
    obtain⟨rfl,rfl⟩:=h
    obtain⟨e1,g1⟩:=q0k h1
    have g1:=q4l g1
    obtain⟨e2,g2⟩:=q0k h2
    have e3:=q1h h3
    obtain⟨u,e4,hu⟩:=ih _ _ _ h4
    have e5:=q1h h5
    simp only[beq_iff_eq]at c2
    rw[c2]at g1 c1
    refine⟨t1::t2::⟨[40],t3.pos⟩::(u++[⟨[41],t5.pos⟩]),by rw[e1,e2,e3,e4,e5];simp,.inr (.inl ⟨?_,g1,rfl,rfl,rfl,t2.text,t2.pos,t3.pos,t5.pos,u,g2,rfl,hu,rfl⟩)⟩
    show zv t1.text=false
    rw[g1]
    simpa using c1
   ·rw[if_neg c2]at h
    by_cases c3:q0o (hd ts)=true
    ·rw[if_pos c3]at h
     obtain⟨t1,r1,h1,h⟩:=qt h
     obtain⟨t2,r2,h2,h⟩:=qt h
     obtain⟨A,r3,h3,h⟩:=qt h
     obtain⟨t4,r4,h4,h⟩:=qt h
     obtain⟨B,r5,h5,h⟩:=qt h
     obtain⟨t6,r6,h6,h⟩:=qt h
     simp at h
     obtain⟨rfl,rfl⟩:=h
     obtain⟨e1,g1⟩:=q0k h1
     have g1:=q4l g1
     have e2:=q1h h2
     obtain⟨u,e3,hu⟩:=ih _ _ _ h3
     have e4:=q1h h4
     obtain⟨u',e5,hu'⟩:=ih _ _ _ h5
     have e6:=q1h h6
     rw[←g1]at c1 c3
     exact⟨t1::⟨[40],t2.pos⟩::(u++⟨[44],t4.pos⟩::(u'++[⟨[41],t6.pos⟩])),by rw[e1,e2,e3,e4,e5,e6];simp,.inr (.inr (.inl ⟨by simpa[j1B]using c1,c3,rfl,rfl,rfl,t2.pos,t4.pos,t6.pos,u,u',hu,hu',rfl⟩))⟩
    ·rw[if_neg c3]at h
     by_cases c4:q0Q (hd ts)=true
     ·rw[if_pos c4]at h
      obtain⟨t1,r1,h1,h⟩:=qt h
      obtain⟨x2,r2,h2,h⟩:=qt h
      obtain⟨t3,r3,h3,h⟩:=qt h
      obtain⟨A,r4,h4,h⟩:=qt h
      obtain⟨t5,r5,h5,h⟩:=qt h
      simp at h
      obtain⟨rfl,rfl⟩:=h
      obtain⟨e1,g1⟩:=q0k h1
      have g1:=q4l g1
      obtain⟨n1,n2,q1,q2,q3,q4,e2⟩:=q4u h2
      have e3:=q1h h3
      obtain⟨u,e4,hu⟩:=ih _ _ _ h4
      have e5:=q1h h5
      rw[←g1]at c1 c4
      exact⟨t1::⟨[91],x2.1⟩::⟨x2.2.1,q1⟩::⟨[44],q2⟩::⟨x2.2.2,q3⟩::⟨[93],q4⟩::⟨[40],t3.pos⟩::(u++[⟨[41],t5.pos⟩]),by rw[e1,e2,e3,e4,e5];simp,.inr (.inr (.inr (.inl ⟨by simpa using c1,c4,rfl,rfl,n1,n2,q1,q2,q3,q4,t3.pos,t5.pos,u,hu,rfl⟩)))⟩
     ·rw[if_neg c4]at h
      by_cases c5:q0J (hd ts)=true
      ·rw[if_pos c5]at h
       obtain⟨t1,r1,h1,h⟩:=qt h
       obtain⟨x2,r2,h2,h⟩:=qt h
       obtain⟨t3,r3,h3,h⟩:=qt h
       obtain⟨A,r4,h4,h⟩:=qt h
       obtain⟨t5,r5,h5,h⟩:=qt h
       obtain⟨B,r6,h6,h⟩:=qt h
       obtain⟨t7,r7,h7,h⟩:=qt h
       simp at h
       obtain⟨rfl,rfl⟩:=h
       obtain⟨e1,g1⟩:=q0k h1
       have g1:=q4l g1
       obtain⟨n1,n2,q1,q2,q3,q4,e2⟩:=q4u h2
       have e3:=q1h h3
       obtain⟨u,e4,hu⟩:=ih _ _ _ h4
       have e5:=q1h h5
       obtain⟨u',e6,hu'⟩:=ih _ _ _ h6
       have e7:=q1h h7
       rw[←g1]at c1 c5
       exact⟨t1::⟨[91],x2.1⟩::⟨x2.2.1,q1⟩::⟨[44],q2⟩::⟨x2.2.2,q3⟩::⟨[93],q4⟩::⟨[40],t3.pos⟩::(u++⟨[44],t5.pos⟩::(u'++[⟨[41],t7.pos⟩])),by rw[e1,e2,e3,e4,e5,e6,e7];simp,.inr (.inr (.inr (.inr (.inl ⟨by simpa using c1,c5,rfl,n1,n2,q1,q2,q3,q4,t3.pos,t5.pos,t7.pos,u,u',hu,hu',rfl⟩))))⟩
      ·rw[if_neg c5]at h
       obtain⟨t1,r1,h1,h⟩:=qt h
       simp at h
       obtain⟨rfl,rfl⟩:=h
       obtain⟨e1,g1⟩:=q0k h1
       have g1:=q4l g1
       refine⟨[t1],by rw[e1];rfl,.inr (.inr (.inr (.inr (.inr ⟨?_,g1,rfl,rfl,rfl,rfl,rfl,rfl⟩))))⟩
       show zv t1.text=false
       rw[g1]
       decide
theorem q3x {n:Nat}{ts r:List Tok}{F:zl}(h:q0R n ts=.inr (F,r))(hts:∀t∈ts,t.text≠[]):∀t∈r,t.text≠[]:=by
 obtain⟨u,rfl,_⟩:=q4L n ts r F h
 exact fun t ht=>hts t (by simp[ht])
theorem j1Q {ts r:List Tok}{x:Nat × By × By}(h:q2C ts=.inr (x,r))(hts:∀t∈ts,t.text≠[]):∀t∈r,t.text≠[]:=by
 obtain⟨_,_,q1,q2,q3,q4,rfl⟩:=q4u h
 exact fun t ht=>hts t (by simp[ht])
theorem j6Z {ts r:List Tok}{x:List (By)}(h:q2B ts=.inr (x,r))(hts:∀t∈ts,t.text≠[]):∀t∈r,t.text≠[]:=by
 rcases j0c h with⟨_,rfl⟩|⟨b,q1,q2,_,_,rfl⟩
 ·exact hts
 ·exact fun t ht=>hts t (by simp[ht])
def q1K (t:By):Bool:=t==[101,120,105,115,116,115] || q0o t || q0Q t || q0J t
theorem q6f {t:By}(h:q1K t=true):t∈[[101,120,105,115,116,115],[97,110,100],[98,117,116],[111,114],[112,114,101,118],[110,101,120,116],[111,110,99,101],[115,111,111,110],[115,105,110,99,101],[117,110,115,105,110,99,101],[117,110,116,105,108],[117,110,117,110,116,105,108]]:=by
 unfold q1K q0o q0Q q0J inB q4P j0Y q9l at h
 simp[List.any]at h
 simp
 rcases h with((h|h|h|h)|h|h|h|h)|h|h|h|h<;>simp[h]
theorem q6K (L:Nat)(ts:List Tok)(h:q1K (hd ts)=true)(hts:∀t∈ts,t.text≠[]):q5y L [hd ts] ts (q6g (q0h (qD (hd ts)) ts)):=by
 have hc:=q6f h
 generalize hd ts=t at *
 simp only[List.mem_cons,List.not_mem_nil,or_false]at hc
 rcases hc with rfl|rfl|rfl|rfl|rfl|rfl|rfl|rfl|rfl|rfl|rfl|rfl
 all_goals exact q0z L _ _ (by decide) (by decide) (by decide) (by decide) (by decide) (by decide) (by decide) (by decide) hts
theorem j1N (L:Nat)(ts:List Tok)(hts:∀t∈ts,t.text≠[]):q5y L [[91],[78,85,77],[44],[69,78,68],[93]] ts (q6g (q2C ts)):=by
 refine qg (ss:=[[91]]) (ss':=[[78,85,77],[44],[69,78,68],[93]]) (q0z L _ _ (by decide) (by decide) (by decide) (by decide) (by decide) (by decide) (by decide) (by decide) hts) fun a1 r1 g1=>?_
 have hts:=q0r g1 hts
 refine qg (ss:=[[78,85,77]]) (ss':=[[44],[69,78,68],[93]]) (j4n L _) fun a2 r2 g2=>?_
 have hts:=q0r g2 hts
 refine qg (ss:=[[44]]) (ss':=[[69,78,68],[93]]) (q0z L _ _ (by decide) (by decide) (by decide) (by decide) (by decide) (by decide) (by decide) (by decide) hts) fun a3 r3 g3=>?_
 have hts:=q0r g3 hts
 refine qg (ss:=[[69,78,68]]) (ss':=[[93]]) (runs_end L _ hts) fun a4 r4 g4=>?_
 have hts:=q0r g4 hts
 exact qg (ss:=[[93]]) (ss':=[]) (q0z L _ _ (by decide) (by decide) (by decide) (by decide) (by decide) (by decide) (by decide) (by decide) hts) fun a5 r5 g5=>q3m L r5
theorem q2u (d:Nat)(h1:1≤d)(h9:d≤9)(t:By):q0d (q1I d) t=some (j1r t d):=by
 rcases(by omega:d=1∨d=2∨d=3∨d=4∨d=5∨d=6∨d=7∨d=8∨d=9)with rfl|rfl|rfl|rfl|rfl|rfl|rfl|rfl|rfl<;>rfl
theorem j7q (L:Nat)(ts:List Tok)(hts:∀t∈ts,t.text≠[78,79,78,69])(hne:∀t∈ts,t.text≠[]):q5y L [[78,79,78,69]] ts (.inl ts):=by
 have h:=q0z L [78,79,78,69] ts (by decide) (by decide) (by decide) (by decide) (by decide) (by decide) (by decide) (by decide) hne
 have e:q0h (qD [78,79,78,69]) ts=.inl ts:=by
  cases ts with
  |nil=>rfl
  |cons t r =>
   have:=hts t (by simp)
   simp only[q0h]
   rw[if_neg]
   intro g
   exact this (q4l g)
 rw[e]at h
 exact h
theorem runs_F (L:Nat):∀(n d:Nat) (ts:List Tok),n+d=9→1≤d→(∀t∈ts,t.text≠[78,79,78,69])→(∀t∈ts,t.text≠[])→q5y L [q1I d] ts (q6g (q0R n ts)):=by
 intro n
 induction n with
 |zero =>
  intro d ts hd9 hd1 hN hts
  refine q3a (q2u d hd1 (by omega) _) ?_
  unfold j1r
  rw[if_pos (by omega)]
  exact j7q L ts hN hts
 |succ n ih =>
  intro d ts hd9 hd1 hN hts
  have sub:∀{r:List Tok},(∀t∈r,t∈ts)→q5y L [q1I (d+1)] r (q6g (q0R n r)):=fun hr=>ih (d+1) _ (by omega) (by omega) (fun t ht=>hN t (hr t ht)) (fun t ht=>hts t (hr t ht))
  refine q3a (q2u d hd1 (by omega) _) ?_
  unfold j1r
  rw[if_neg (by omega),q0R]
  by_cases c1:zv (hd ts)=true
  ·rw[if_pos c1,if_pos c1]
   refine qg (ss:=[[78,65,77,69]]) (ss':=[[40],[65,82,71],[77,79,82,69],[41]]) (j7p L _) fun a1 r1 g1=>?_
   have hts:=q0r g1 hts
   refine qg (ss:=[[40]]) (ss':=[[65,82,71],[77,79,82,69],[41]]) (q0z L _ _ (by decide) (by decide) (by decide) (by decide) (by decide) (by decide) (by decide) (by decide) hts) fun a2 r2 g2=>?_
   have hts:=q0r g2 hts
   refine qg (ss:=[[65,82,71]]) (ss':=[[77,79,82,69],[41]]) (j4m L _ hts) fun a3 r3 g3=>?_
   have hts:=q0r g3 hts
   refine qg (ss:=[[77,79,82,69]]) (ss':=[[41]]) (j7o L _ hts) fun a4 r4 g4=>?_
   have hts:=j6Z g4 hts
   exact qg (ss:=[[41]]) (ss':=[]) (q0z L _ _ (by decide) (by decide) (by decide) (by decide) (by decide) (by decide) (by decide) (by decide) hts) fun a5 r5 g5=>q3m L r5
  ·rw[if_neg c1,if_neg c1]
   by_cases cw:q1K (hd ts)=true
   ·rw[if_pos (show(hd ts==[101,120,105,115,116,115] || q0o (hd ts) || q0Q (hd ts) || q0J (hd ts))=true from cw)]
    unfold q6Q bodyF
    by_cases c2:(hd ts==[101,120,105,115,116,115])=true
    ·rw[if_pos c2,if_pos c2]
     refine qg (ss:=[hd ts]) (ss':=[[86,65,82],[40],q1I (d+1),[41]]) (q6K L _ cw hts) fun a1 r1 g1=>?_
     have m1:=(q0k g1).1
     have h1:=q0r g1 hts
     refine qg (ss:=[[86,65,82]]) (ss':=[[40],q1I (d+1),[41]]) (j4o L _) fun a2 r2 g2=>?_
     have m2:=(q0k g2).1
     have h2:=q0r g2 h1
     refine qg (ss:=[[40]]) (ss':=[q1I (d+1),[41]]) (q0z L _ _ (by decide) (by decide) (by decide) (by decide) (by decide) (by decide) (by decide) (by decide) h2) fun a3 r3 g3=>?_
     have m3:=(q0k g3).1
     have h3:=q0r g3 h2
     refine qg (ss:=[q1I (d+1)]) (ss':=[[41]]) (sub (fun t ht=>by rw[m1,m2,m3];simp[ht])) fun a4 r4 g4=>?_
     have h4:=q3x g4 h3
     exact qg (ss:=[[41]]) (ss':=[]) (q0z L _ _ (by decide) (by decide) (by decide) (by decide) (by decide) (by decide) (by decide) (by decide) h4) fun a5 r5 g5=>q3m L r5
    ·rw[if_neg c2,if_neg c2]
     by_cases c3:q0o (hd ts)=true
     ·rw[if_pos c3,if_pos c3]
      refine qg (ss:=[hd ts]) (ss':=[[40],q1I (d+1),[44],q1I (d+1),[41]]) (q6K L _ cw hts) fun a1 r1 g1=>?_
      have m1:=(q0k g1).1
      have h1:=q0r g1 hts
      refine qg (ss:=[[40]]) (ss':=[q1I (d+1),[44],q1I (d+1),[41]]) (q0z L _ _ (by decide) (by decide) (by decide) (by decide) (by decide) (by decide) (by decide) (by decide) h1) fun a2 r2 g2=>?_
      have m2:=(q0k g2).1
      have h2:=q0r g2 h1
      refine qg (ss:=[q1I (d+1)]) (ss':=[[44],q1I (d+1),[41]]) (sub (fun t ht=>by rw[m1,m2];simp[ht])) fun a3 r3 g3=>?_
      obtain⟨u3,m3,_⟩:=q4L _ _ _ _ g3
      have h3:=q3x g3 h2
      refine qg (ss:=[[44]]) (ss':=[q1I (d+1),[41]]) (q0z L _ _ (by decide) (by decide) (by decide) (by decide) (by decide) (by decide) (by decide) (by decide) h3) fun a4 r4 g4=>?_
      have m4:=(q0k g4).1
      have h4:=q0r g4 h3
      refine qg (ss:=[q1I (d+1)]) (ss':=[[41]]) (sub (fun t ht=>by rw[m1,m2,m3,m4];simp[ht])) fun a5 r5 g5=>?_
      have h5:=q3x g5 h4
      exact qg (ss:=[[41]]) (ss':=[]) (q0z L _ _ (by decide) (by decide) (by decide) (by decide) (by decide) (by decide) (by decide) (by decide) h5) fun a6 r6 g6=>q3m L r6
     ·rw[if_neg c3,if_neg c3]
      by_cases c4:q0Q (hd ts)=true
      ·rw[if_pos c4,if_pos c4]
       refine qg (ss:=[hd ts]) (ss':=[[91],[78,85,77],[44],[69,78,68],[93],[40],q1I (d+1),[41]]) (q6K L _ cw hts) fun a1 r1 g1=>?_
       have m1:=(q0k g1).1
       have h1:=q0r g1 hts
       refine qg (ss:=[[91],[78,85,77],[44],[69,78,68],[93]]) (ss':=[[40],q1I (d+1),[41]]) (j1N L _ h1) fun a2 r2 g2=>?_
       obtain⟨_,_,q1,q2,q3,q4,m2⟩:=q4u g2
       have h2:=j1Q g2 h1
       refine qg (ss:=[[40]]) (ss':=[q1I (d+1),[41]]) (q0z L _ _ (by decide) (by decide) (by decide) (by decide) (by decide) (by decide) (by decide) (by decide) h2) fun a3 r3 g3=>?_
       have m3:=(q0k g3).1
       have h3:=q0r g3 h2
       refine qg (ss:=[q1I (d+1)]) (ss':=[[41]]) (sub (fun t ht=>by rw[m1,m2,m3];simp[ht])) fun a4 r4 g4=>?_
       have h4:=q3x g4 h3
       exact qg (ss:=[[41]]) (ss':=[]) (q0z L _ _ (by decide) (by decide) (by decide) (by decide) (by decide) (by decide) (by decide) (by decide) h4) fun a5 r5 g5=>q3m L r5
      ·rw[if_neg c4,if_neg c4]
       have c5:q0J (hd ts)=true:=by
        unfold q1K at cw
        simpa[c2,c3,c4]using cw
       rw[if_pos c5]
       refine qg (ss:=[hd ts]) (ss':=[[91],[78,85,77],[44],[69,78,68],[93],[40],q1I (d+1),[44],q1I (d+1),[41]]) (q6K L _ cw hts) fun a1 r1 g1=>?_
       have m1:=(q0k g1).1
       have h1:=q0r g1 hts
       refine qg (ss:=[[91],[78,85,77],[44],[69,78,68],[93]]) (ss':=[[40],q1I (d+1),[44],q1I (d+1),[41]]) (j1N L _ h1) fun a2 r2 g2=>?_
       obtain⟨_,_,q1,q2,q3,q4,m2⟩:=q4u g2
       have h2:=j1Q g2 h1
       refine qg (ss:=[[40]]) (ss':=[q1I (d+1),[44],q1I (d+1),[41]]) (q0z L _ _ (by decide) (by decide) (by decide) (by decide) (by decide) (by decide) (by decide) (by decide) h2) fun a3 r3 g3=>?_
       have m3:=(q0k g3).1
       have h3:=q0r g3 h2
       refine qg (ss:=[q1I (d+1)]) (ss':=[[44],q1I (d+1),[41]]) (sub (fun t ht=>by rw[m1,m2,m3];simp[ht])) fun a4 r4 g4=>?_
       obtain⟨u4,m4,_⟩:=q4L _ _ _ _ g4
       have h4:=q3x g4 h3
       refine qg (ss:=[[44]]) (ss':=[q1I (d+1),[41]]) (q0z L _ _ (by decide) (by decide) (by decide) (by decide) (by decide) (by decide) (by decide) (by decide) h4) fun a5 r5 g5=>?_
       have m5:=(q0k g5).1
       have h5:=q0r g5 h4
       refine qg (ss:=[q1I (d+1)]) (ss':=[[41]]) (sub (fun t ht=>by rw[m1,m2,m3,m4,m5];simp[ht])) fun a6 r6 g6=>?_
       have h6:=q3x g6 h5
       exact qg (ss:=[[41]]) (ss':=[]) (q0z L _ _ (by decide) (by decide) (by decide) (by decide) (by decide) (by decide) (by decide) (by decide) h6) fun a7 r7 g7=>q3m L r7
   ·rw[if_neg (show ¬(hd ts==[101,120,105,115,116,115] || q0o (hd ts) || q0Q (hd ts) || q0J (hd ts))=true from cw)]
    have cw':q1K (hd ts)=false:=by simpa using cw
    unfold q1K at cw'
    simp only[Bool.or_eq_false_iff]at cw'
    obtain⟨⟨⟨c2,c3⟩,c4⟩,c5⟩:=cw'
    rw[c2,c3,c4,c5]
    simp only[Bool.false_eq_true,if_false]
    exact qg (ss:=[[116,114,117,101]]) (ss':=[]) (q0z L _ _ (by decide) (by decide) (by decide) (by decide) (by decide) (by decide) (by decide) (by decide) hts) fun a5 r5 g5=>q3m L r5
def q6h (L:Nat)(ts:List Tok):Option Nat:=match q0R 8 ts with
 | .inl r=>some (plc L r)
 | .inr (_,[])=>none
 | .inr (_,t::_)=>some t.pos
theorem j5a (L:Nat)(ts:List Tok)(hN:∀t∈ts,t.text≠[78,79,78,69])(hts:∀t∈ts,t.text≠[]):∃k,q4C L k [q1I 1] ts=some (q6h L ts):=by
 obtain⟨k,hk⟩:=runs_F L 8 1 ts rfl (by omega) hN hts []
 refine⟨k+1,?_⟩
 have h:=hk 1
 simp only[List.append_nil]at h
 rw[h]
 unfold q6h
 cases q0R 8 ts with
 |inl r=>rfl
 |inr p =>
  obtain⟨F,r⟩:=p
  cases r<;>rfl
def q0X (t:Tok):Prop:=∃c r,t.text=c::r∧q3p c t.text=true∧(qp (c.toNat:Int)=true→q1H t.text=true)
theorem q2W {n:Int}(h:qp n=true):q0e n=false:=by
 simp[qp]at h
 simp[q0e]
 omega
theorem j1P (l:By):∀c:UInt8,qp (c.toNat:Int)=true→(l.take (q0w c l)).all (fun c=>qp (c.toNat:Int))=true:=by
 induction l with
 |nil=>intro c _;simp
 |cons d r ih =>
  intro c hc
  rw[q0w]
  by_cases hr:q7Y (c.toNat:Int) (d.toNat:Int)=true
  ·rw[if_pos hr]
   have hd:qp (d.toNat:Int)=true:=by
    unfold q7Y at hr
    rw[q2W hc,hc]at hr
    simpa using hr
   rw[List.take_succ_cons,List.all_cons,hd,ih d hd]
   rfl
  ·rw[if_neg hr];simp
theorem q6w (s:By)(i:Nat)(h:i<s.length):cut s i (qA s i)=s.getD i 0::(s.drop (i+1)).take (q0w (s.getD i 0) (s.drop (i+1))):=by
 unfold cut qA
 rw[List.drop_eq_getElem_cons h]
 have e:i+1+q0w (s.getD i 0) (s.drop (i+1))-i=q0w (s.getD i 0) (s.drop (i+1))+1:=by omega
 rw[e,List.take_succ_cons]
 simp[List.getD,h]
theorem j6U (s:By):∀(f i:Nat) (acc:List Tok),(∀t∈acc,q0X t)→∀t∈(q2m s f i acc).1,q0X t:=by
 intro f
 induction f with
 |zero=>intro i acc h;exact h
 |succ f ih =>
  intro i acc h
  rw[q2m]
  by_cases h1:s.length≤i
  ·rw[if_pos h1];exact h
  ·rw[if_neg h1]
   by_cases h2:q2z (s.getD i 0)=true
   ·rw[if_pos h2];exact ih _ _ h
   ·rw[if_neg h2]
    by_cases h3:q3p (s.getD i 0) (cut s i (qA s i))=true
    ·rw[if_pos h3]
     refine ih _ _ (fun t ht=>?_)
     rcases List.mem_append.1 ht with ht|ht
     ·exact h t ht
     ·have:=List.mem_singleton.1 ht
      subst this
      refine⟨_,_,q6w s i (by omega),h3,fun hd=>?_⟩
      show q1H (cut s i (qA s i))=true
      rw[q6w s i (by omega)]
      unfold q1H
      rw[List.all_cons,hd,j1P _ _ hd]
      rfl
    ·rw[if_neg h3];simp
theorem q4m (s:By):∀t∈(q0u s).1,q0X t:=j6U s _ _ _ (by simp)
theorem j5P {t:Tok}(h:q0X t):t.text≠[]:=by
 obtain⟨c,r,e,_⟩:=h
 rw[e];simp
theorem j7r {c:UInt8}{r:By}(h:inB (c::r) q1m=true):c.toNat<94∧c.toNat≠70∧c.toNat≠78∧c.toNat≠69∧c.toNat≠65∧c.toNat≠77∧c.toNat≠86:=by
 unfold inB q1m at h
 simp[List.any]at h
 rcases h with⟨h,_⟩|⟨h,_⟩|⟨h,_⟩|⟨h,_⟩|⟨h,_⟩|⟨h,_⟩<;>subst h<;>decide
theorem j6C {t:Tok}(h:q0X t):∃c r,t.text=c::r∧c.toNat≠70∧c.toNat≠78∧c.toNat≠69∧c.toNat≠65∧c.toNat≠77∧c.toNat≠86:=by
 obtain⟨c,r,e,h,_⟩:=h
 refine⟨c,r,e,?_⟩
 unfold q3p at h
 simp only[Bool.or_eq_true,Bool.and_eq_true]at h
 rcases h with(h|h)|h
 ·rw[e]at h;exact(j7r h).2
 ·have:=h.1;simp[qp]at this;omega
 ·have:=h.1;simp[q0e]at this;omega
theorem j2h {t:Tok}(h:q0X t):t.text≠[78,79,78,69]:=by
 obtain⟨c,r,e,_,h,_⟩:=j6C h
 rw[e]
 intro g
 simp at g
 have:=g.1
 subst this
 exact h rfl
def wF:Nat→Nat
 | 0=>1
 |n+1=>2*wF n+12
def wt (s:By):Nat:=if s==[77,79,82,69]then 2 else match s with
 | 70::r=>wF (9-q0n r)
 |_=>1
def wts (l:List (By)):Nat:=(l.map wt).sum
def q5q (s:By):Prop:=s≠[]∧(s.head?=some 70→∃d,1≤d∧d≤9∧s=q1I d)
theorem wF_pos (n:Nat):1≤wF n:=by
 cases n with
 |zero=>exact zL _
 |succ n=>rw[wF];omega
theorem wt_pos (s:By):1≤wt s:=by
 unfold wt
 split
 ·omega
 ·split
  ·exact wF_pos _
  ·omega
theorem q4K (l:List (By)):l.length≤wts l:=by
 induction l with
 |nil=>simp
 |cons s l ih =>
  have:=wt_pos s
  simp[wts]at ih ⊢
  omega
theorem wt_f (d:Nat)(h1:1≤d)(h9:d≤9):wt (q1I d)=wF (9-d):=by
 rcases(by omega:d=1∨d=2∨d=3∨d=4∨d=5∨d=6∨d=7∨d=8∨d=9)with rfl|rfl|rfl|rfl|rfl|rfl|rfl|rfl|rfl<;>rfl
theorem j6e (d:Nat)(h1:1≤d)(h9:d≤9):q5q (q1I d):=⟨by simp[q1I],fun _=>⟨d,h1,h9,rfl⟩⟩
theorem q2Q {s:By}(h:s≠[])(h':s.head?≠some 70):q5q s:=⟨h,fun e=>absurd e h'⟩
theorem j5D {s:By}(h1:(s==[77,79,82,69])=false)(h2:s.head?≠some 70):wt s=1:=by
 unfold wt
 rw[h1]
 simp only[Bool.false_eq_true,if_false]
 split
 ·rename_i r
  exact absurd rfl h2
 ·rfl
theorem op_sym {t:By}(h:q1K t=true):q5q t∧wt t=1:=by
 have hc:=q6f h
 simp only[List.mem_cons,List.not_mem_nil,or_false]at hc
 rcases hc with rfl|rfl|rfl|rfl|rfl|rfl|rfl|rfl|rfl|rfl|rfl|rfl
 all_goals exact⟨q2Q (by decide) (by decide),j5D (by decide) (by decide)⟩
theorem q5v (s:By)(l:List (By)):wts (s::l)=wt s+wts l:=by simp[wts]
theorem q8n:wts []=0:=rfl
theorem wts_app (a b:List (By)):wts (a++b)=wts a+wts b:=by simp[wts]
theorem body_ok {t:By}{d:Nat}(ho:q1K t=true)(h1:1≤d)(h8:d≤8):wts (q6Q t d)≤wF (9-d)∧∀x∈q6Q t d,q5q x:=by
 obtain⟨hs,hw⟩:=op_sym ho
 have hf:=wt_f (d+1) (by omega) (by omega)
 have hfo:=j6e (d+1) (by omega) (by omega)
 have e:9-d=(9-(d+1))+1:=by omega
 rw[e,wF]
 have lits:∀x∈[[86,65,82],[40],[41],[44],[91],[93],[78,85,77],[69,78,68]],q5q x∧wt x=1:=by
  intro x hx
  simp only[List.mem_cons,List.not_mem_nil,or_false]at hx
  rcases hx with rfl|rfl|rfl|rfl|rfl|rfl|rfl|rfl
  all_goals exact⟨q2Q (by decide) (by decide),j5D (by decide) (by decide)⟩
 have l1:=lits [86,65,82] (by simp)
 have l2:=lits [40] (by simp)
 have l3:=lits [41] (by simp)
 have l4:=lits [44] (by simp)
 have l5:=lits [91] (by simp)
 have l6:=lits [93] (by simp)
 have l7:=lits [78,85,77] (by simp)
 have l8:=lits [69,78,68] (by simp)
 unfold q6Q bodyF
 generalize q1I (d+1)=f at *
 generalize 9-(d+1)=n at *
 split
 ·refine⟨by simp only[q5v,q8n,hw,hf,l1.2,l2.2,l3.2];omega,?_⟩
  simp only[List.mem_cons,List.not_mem_nil,or_false]
  rintro x (rfl|rfl|rfl|rfl|rfl)
  all_goals first|exact hs|exact hfo|exact l1.1|exact l2.1|exact l3.1|exact l4.1|exact l5.1|exact l6.1|exact l7.1|exact l8.1
 ·split
  ·refine⟨by simp only[q5v,q8n,hw,hf,l2.2,l3.2,l4.2];omega,?_⟩
   simp only[List.mem_cons,List.not_mem_nil,or_false]
   rintro x (rfl|rfl|rfl|rfl|rfl|rfl)
   all_goals first|exact hs|exact hfo|exact l1.1|exact l2.1|exact l3.1|exact l4.1|exact l5.1|exact l6.1|exact l7.1|exact l8.1
  ·split
   ·refine⟨by simp only[q5v,q8n,hw,hf,l2.2,l3.2,l4.2,l5.2,l6.2,l7.2,l8.2];omega,?_⟩
    simp only[List.mem_cons,List.not_mem_nil,or_false]
    rintro x (rfl|rfl|rfl|rfl|rfl|rfl|rfl|rfl|rfl)
    all_goals first|exact hs|exact hfo|exact l1.1|exact l2.1|exact l3.1|exact l4.1|exact l5.1|exact l6.1|exact l7.1|exact l8.1
   ·refine⟨by simp only[q5v,q8n,hw,hf,l2.2,l3.2,l4.2,l5.2,l6.2,l7.2,l8.2];omega,?_⟩
    simp only[List.mem_cons,List.not_mem_nil,or_false]
    rintro x (rfl|rfl|rfl|rfl|rfl|rfl|rfl|rfl|rfl|rfl|rfl)
    all_goals first|exact hs|exact hfo|exact l1.1|exact l2.1|exact l3.1|exact l4.1|exact l5.1|exact l6.1|exact l7.1|exact l8.1
theorem q5A {s t:By}{m:List (By)}(hs:q5q s)(h:q0d s t=some m):wts m≤wt s∧∀x∈m,q5q x:=by
 by_cases hf:s.head?=some 70
 ·obtain⟨d,h1,h9,rfl⟩:=hs.2 hf
  rw[q2u d h1 h9]at h
  simp at h
  subst h
  rw[wt_f d h1 h9]
  unfold j1r
  by_cases h8:8<d
  ·rw[if_pos h8]
   have:d=9:=by omega
   subst this
   exact⟨by decide,by simp only[List.mem_singleton];rintro x rfl;exact q2Q (by decide) (by decide)⟩
  ·rw[if_neg h8]
   have e:9-d=(8-d)+1:=by omega
   have hp:=wF_pos (8-d)
   split
   ·rw[e,wF]
    refine⟨?_,?_⟩
    ·have:wts [[78,65,77,69],[40],[65,82,71],[77,79,82,69],[41]]=6:=by decide
     omega
    ·simp only[List.mem_cons,List.not_mem_nil,or_false]
     rintro x (rfl|rfl|rfl|rfl|rfl)
     all_goals exact q2Q (by decide) (by decide)
   ·split
    ·rename_i ho
     exact body_ok ho h1 (by omega)
    ·rw[e,wF]
     refine⟨?_,?_⟩
     ·have:wts [[116,114,117,101]]=1:=by decide
      omega
     ·simp only[List.mem_singleton];rintro x rfl;exact q2Q (by decide) (by decide)
 ·unfold q0d at h
  by_cases h1:(s==[69,78,68])=true
  ·rw[if_pos h1]at h
   have:s=[69,78,68]:=by simpa using h1
   subst this
   simp at h
   subst h
   split
   ·exact⟨by decide,by simp only[List.mem_singleton];rintro x rfl;exact q2Q (by decide) (by decide)⟩
   ·exact⟨by decide,by simp only[List.mem_singleton];rintro x rfl;exact q2Q (by decide) (by decide)⟩
  ·rw[if_neg h1]at h
   by_cases h2:(s==[65,82,71])=true
   ·rw[if_pos h2]at h
    have:s=[65,82,71]:=by simpa using h2
    subst this
    simp only[Option.some.injEq]at h
    subst h
    by_cases hd:(t.length==1&&q1H t)=true
    ·rw[if_pos hd]
     obtain⟨c,rfl,g1,g2⟩:=q6C hd
     have hne:([c]:By).head?≠some 70:=by
      simp
      exact j3a g2 70 (by decide)
     refine⟨?_,?_⟩
     ·rw[q5v,q8n,j5D (by simp) hne]
      decide
     ·simp only[List.mem_singleton];rintro x rfl;exact q2Q (by simp) hne
    ·rw[if_neg hd]
     exact⟨by decide,by simp only[List.mem_singleton];rintro x rfl;exact q2Q (by decide) (by decide)⟩
   ·rw[if_neg h2]at h
    by_cases h3:(s==[77,79,82,69])=true
    ·rw[if_pos h3]at h
     have:s=[77,79,82,69]:=by simpa using h3
     subst this
     simp only[Option.some.injEq]at h
     subst h
     split
     ·refine⟨by decide,?_⟩
      simp only[List.mem_cons,List.not_mem_nil,or_false]
      rintro x (rfl|rfl)
      all_goals exact q2Q (by decide) (by decide)
     ·exact⟨by decide,by simp⟩
    ·rw[if_neg h3]at h
     cases s with
     |nil=>simp at h
     |cons c r =>
      simp only[]at h
      rw[if_neg]at h
      ·simp at h
      ·intro g
       apply hf
       simp at g
       simp[g]
theorem q2D (sym t:By)(m:List (By))(hs:q5q sym)(ht:t.length≤1000)(h:q0d sym t=some m)(w:World) :
  Calls Tryz.prog 105 #[bs sym,bs t] w fun e w'=>∃v,e=.returned (.tuple #[v,.bool true])∧q1f w' v m∧Below w.heap.size w w':=by
 by_cases hf:sym.head?=some 70
 ·obtain⟨d,h1,h9,rfl⟩:=hs.2 hf
  rw[q2u d h1 h9]at h
  simp at h
  subst h
  exact j6r t d h1 h9 w
 ·unfold q0d at h
  by_cases h1:(sym==[69,78,68])=true
  ·rw[if_pos h1]at h
   have:sym=[69,78,68]:=by simpa using h1
   subst this
   simp only[Option.some.injEq]at h
   subst h
   exact j2W t w
  ·rw[if_neg h1]at h
   by_cases h2:(sym==[65,82,71])=true
   ·rw[if_pos h2]at h
    have:sym=[65,82,71]:=by simpa using h2
    subst this
    simp only[Option.some.injEq]at h
    subst h
    exact j2V t ht w
   ·rw[if_neg h2]at h
    by_cases h3:(sym==[77,79,82,69])=true
    ·rw[if_pos h3]at h
     have:sym=[77,79,82,69]:=by simpa using h3
     subst this
     simp only[Option.some.injEq]at h
     subst h
     exact j2c t w
    ·rw[if_neg h3]at h
     cases sym with
     |nil=>simp at h
     |cons c r =>
      simp only[]at h
      rw[if_neg]at h
      ·simp at h
      ·intro g
       apply hf
       simp at g
       simp[g]
theorem q0G (sym t:By)(hs:q5q sym)(h:q0d sym t=none)(w:World) :
  Calls Tryz.prog 105 #[bs sym,bs t] w fun e w'=>e=.returned (.tuple #[.slice none 0 0,.bool false])∧w'=w:=by
 have h1:(sym==[69,78,68])=false:=by
  cases g:(sym==[69,78,68])with
  |false=>rfl
  |true=>unfold q0d at h;rw[if_pos g]at h;simp at h
 have h2:(sym==[65,82,71])=false:=by
  cases g:(sym==[65,82,71])with
  |false=>rfl
  |true=>unfold q0d at h;rw[if_neg (by simp[h1]),if_pos g]at h;simp at h
 have h3:(sym==[77,79,82,69])=false:=by
  cases g:(sym==[77,79,82,69])with
  |false=>rfl
  |true=>unfold q0d at h;rw[if_neg (by simp[h1]),if_neg (by simp[h2]),if_pos g]at h;simp at h
 refine j1b sym t h1 h2 h3 hs.1 (fun e=>?_) w
 obtain⟨d,g1,g9,rfl⟩:=hs.2 e
 rw[q2u d g1 g9]at h
 simp at h
def q4k (t:By):Bool:=t==[40] || t==[91]
def q4j (t:By):Bool:=t==[41] || t==[93]
def q9c (t:By):Bool:=t==[44] || t==[41]
def depth (t:By)(d:Int):Int:=(if q4k t then d+1 else d)-(if q4j t then 1 else 0)
def q2J:List Tok→Nat→Nat→Int→List (Nat × Nat)
 | [],_,_,_=>[]
 |t::r,i,a,d=>if d==0&&q9c t.text then(a,i)::q2J r (i+1) (i+1) (depth t.text d)else q2J r (i+1) a (depth t.text d)
def plain (t:By):Bool:=!(q4k t || q4j t || q9c t)
theorem q0A {t:Tok}(h:plain t.text=true)(r:List Tok)(i a:Nat)(d:Int):q2J (t::r) i a d=q2J r (i+1) a d:=by
 unfold plain at h
 simp only[Bool.not_eq_true',Bool.or_eq_false_iff]at h
 rw[q2J,h.2,Bool.and_false,if_neg (by simp)]
 unfold depth
 rw[h.1.1,h.1.2]
 simp
theorem q3I {t:Tok}(h:q4k t.text=true)(r:List Tok)(i a:Nat)(d:Int):q2J (t::r) i a d=q2J r (i+1) a (d+1):=by
 have:t.text=[40]∨t.text=[91]:=by simpa[q4k]using h
 rw[q2J]
 rcases this with h|h<;>rw[h]<;>simp[q9c,depth,q4k,q4j]
theorem q3H {t:Tok}(h:q4j t.text=true)(r:List Tok)(i a:Nat)(d:Int)(hd:0≤d):q2J (t::r) i a (d+1)=q2J r (i+1) a d:=by
 have:t.text=[41]∨t.text=[93]:=by simpa[q4j]using h
 have hz:(d+1==0)=false:=by simp;omega
 rw[q2J,hz,Bool.false_and,if_neg (by simp)]
 unfold depth
 rcases this with h|h<;>rw[h]<;>simp[q4k,q4j]
theorem q6b {t:Tok}(h:t.text=[44])(r:List Tok)(i a:Nat)(d:Int)(hd:0≤d):q2J (t::r) i a (d+1)=q2J r (i+1) a (d+1):=by
 have hz:(d+1==0)=false:=by simp;omega
 rw[q2J,hz,Bool.false_and,if_neg (by simp),h]
 simp[depth,q4k,q4j]
theorem q4W {c:UInt8}{r:By}(h:c.toNat≠40∧c.toNat≠41∧c.toNat≠44∧c.toNat≠91∧c.toNat≠93):plain (c::r)=true:=by
 have n:∀k:UInt8,c.toNat≠k.toNat→(c::r==[k])=false:=fun k hk=>by
  rw[beq_eq_false_iff_ne]
  intro e
  simp at e
  exact hk (by rw[e.1])
 unfold plain q4k q4j q9c
 rw[n 40 h.1,n 41 h.2.1,n 44 h.2.2.1,n 91 h.2.2.2.1,n 93 h.2.2.2.2]
 rfl
theorem j0q {t:By}(h:zv t=true):plain t=true:=by
 cases t with
 |nil=>simp[zv]at h
 |cons c r =>
  simp[zv,q0e]at h
  exact q4W (by omega)
theorem q5k {t:By}(h:q4o t=true):plain t=true:=by
 cases t with
 |nil=>simp[q4o]at h
 |cons c r =>
  simp[q4o,qp]at h
  exact q4W (by omega)
theorem q8F {t:By}(h:q1J t=true):plain t=true:=by
 have:t=[120]∨t=[121]:=by simpa[q1J]using h
 rcases this with rfl|rfl<;>decide
theorem q8E {t:By}(h:q3Q t=true):plain t=true:=by
 unfold q3Q at h
 rw[Bool.or_eq_true]at h
 rcases h with h|h
 ·obtain⟨c,rfl,h1,h2⟩:=q6C h
  exact q4W (by omega)
 ·exact q8F h
theorem q6D {t:By}(h:q4B t=true):plain t=true:=by
 unfold q4B at h
 rw[Bool.or_eq_true]at h
 rcases h with h|h
 ·have:t=[42]:=by simpa using h
  subst this
  decide
 ·exact q5k h
theorem q5l {t:By}(h:q1K t=true):plain t=true:=by
 have hc:=q6f h
 simp only[List.mem_cons,List.not_mem_nil,or_false]at hc
 rcases hc with rfl|rfl|rfl|rfl|rfl|rfl|rfl|rfl|rfl|rfl|rfl|rfl<;>decide
theorem j0g {t:By}(h:q0o t=true):q1K t=true:=by unfold q1K;rw[h];simp
theorem j2t {t:By}(h:q0Q t=true):q1K t=true:=by unfold q1K;rw[h];simp
theorem j2u {t:By}(h:q0J t=true):q1K t=true:=by unfold q1K;rw[h];simp
theorem q9N:∀(F:zl) (u:List Tok),qz F u→∀(rest:List Tok) (i a:Nat) (d:Int),0≤d→q2J (u++rest) i a d=q2J rest (i+u.length) a d:=by
 intro F
 induction F with
 |nil=>intro u h;exact h.elim
 |node p sp y l r ihl ihr =>
  intro u h rest i a d hd
  have hd1:0≤d+1:=by omega
  rcases h with⟨hn,_,_,_,_,q1,q2,q3,x,hx,hb⟩|⟨_,hw,_,_,_,v,q1,q2,q3,ul,hv,_,hl,rfl⟩|⟨_,hw,_,_,_,q1,q2,q3,ul,ur,hl,hr,rfl⟩|⟨_,hw,_,_,hlo,hhi,q1,q2,q3,q4,q5,q6,ul,hl,rfl⟩|⟨_,hw,_,hlo,hhi,q1,q2,q3,q4,q5,q6,q7,ul,ur,hl,hr,rfl⟩|⟨_,hw,_,_,_,_,_,rfl⟩
  ·rcases hb with⟨_,rfl⟩|⟨z,q4,q5,hz,_,rfl⟩
   ·simp only[List.cons_append,List.nil_append]
    rw[q0A (j0q hn),q3I rfl,q0A (q8E hx),q3H rfl _ _ _ _ hd]
    simp
   ·simp only[List.cons_append,List.nil_append]
    rw[q0A (j0q hn),q3I rfl,q0A (q8E hx),q6b rfl _ _ _ _ hd,q0A (q8E hz),q3H rfl _ _ _ _ hd]
    simp
  ·simp only[List.cons_append,List.append_assoc,List.nil_append]
   rw[q0A (by show plain y.word=true;rw[hw];decide),q0A (q8F hv),q3I rfl,ihl ul hl _ _ _ _ hd1,q3H rfl _ _ _ _ hd]
   simp only[List.length_cons,List.length_append,List.length_nil]
   congr 1
   omega
  ·simp only[List.cons_append,List.append_assoc,List.nil_append]
   rw[q0A (q5l (j0g hw)),q3I rfl,ihl ul hl _ _ _ _ hd1,q6b rfl _ _ _ _ hd,ihr ur hr _ _ _ _ hd1,q3H rfl _ _ _ _ hd]
   simp only[List.length_cons,List.length_append,List.length_nil]
   congr 1
   omega
  ·simp only[List.cons_append,List.append_assoc,List.nil_append]
   rw[q0A (q5l (j2t hw)),q3I rfl,q0A (q5k hlo),q6b rfl _ _ _ _ hd,q0A (q6D hhi),q3H rfl _ _ _ _ hd,q3I rfl,ihl ul hl _ _ _ _ hd1,q3H rfl _ _ _ _ hd]
   simp only[List.length_cons,List.length_append,List.length_nil]
   congr 1
   omega
  ·simp only[List.cons_append,List.append_assoc,List.nil_append]
   rw[q0A (q5l (j2u hw)),q3I rfl,q0A (q5k hlo),q6b rfl _ _ _ _ hd,q0A (q6D hhi),q3H rfl _ _ _ _ hd,q3I rfl,ihl ul hl _ _ _ _ hd1,q6b rfl _ _ _ _ hd,ihr ur hr _ _ _ _ hd1,q3H rfl _ _ _ _ hd]
   simp only[List.length_cons,List.length_append,List.length_nil]
   congr 1
   omega
  ·simp only[List.cons_append,List.nil_append]
   rw[q0A (by show plain y.word=true;rw[hw];decide)]
   simp
def q1u (u:List Tok):Nat:=u.findIdx fun t=>t.text==[40]
def q1g:zl→List zl
 | .nil=>[]
 | .node _ _ _ .nil _=>[]
 | .node _ _ _ l .nil=>[l]
 | .node _ _ _ l r=>[l,r]
theorem q0C {t:Tok}{r:List Tok}(h:(t.text==[40])=false):q1u (t::r)=q1u r+1:=by
 unfold q1u
 rw[List.findIdx_cons,h]
 rfl
theorem q5I {t:Tok}{r:List Tok}(h:t.text=[40]):q1u (t::r)=0:=by
 unfold q1u
 rw[List.findIdx_cons,h]
 rfl
theorem q3j {t:By}(h:plain t=true):(t==[40])=false:=by
 cases g:(t==[40])with
 |false=>rfl
 |true =>
  have:t=[40]:=by simpa using g
  subst this
  exact absurd h (by decide)
theorem q2l {p sp:Nat}{y:Pay}{l:zl}{ul:List Tok}(h:qz l ul):q1g (.node p sp y l .nil)=[l]:=by
 cases l with
 |nil=>exact h.elim
 |node=>rfl
theorem q3J {p sp:Nat}{y:Pay}{l r:zl}{ul ur:List Tok}(h:qz l ul)(h':qz r ur):q1g (.node p sp y l r)=[l,r]:=by
 cases l with
 |nil=>exact h.elim
 |node =>
  cases r with
  |nil=>exact h'.elim
  |node=>rfl
theorem cut1 {F:zl}{ul:List Tok}(h:qz F ul)(q a:Nat):q2J (ul++[⟨[41],q⟩]) a a 0=[(a,a+ul.length)]:=by
 rw[q9N F ul h _ _ _ _ (Int.le_refl _),q2J]
 rfl
theorem cut2 {F G:zl}{ul ur:List Tok}(h:qz F ul)(h':qz G ur)(q q' a:Nat):q2J (ul++⟨[44],q⟩::(ur++[⟨[41],q'⟩])) a a 0=[(a,a+ul.length),(a+ul.length+1,a+ul.length+1+ur.length)]:=by
 rw[q9N F ul h _ _ _ _ (Int.le_refl _),q2J,if_pos (show((0:Int)==0&&q9c (Tok.mk [44] q).text)=true from rfl)]
 have e:depth (Tok.mk [44] q).text 0=0:=rfl
 rw[e,cut1 h']
theorem j3b (pre ul:List Tok)(t:Tok)(ur z:List Tok)(n:Nat)(hn:n=pre.length+ul.length+1):((pre++(ul++t::(ur++z))).drop n).take ur.length=ur:=by
 have e:pre++(ul++t::(ur++z))=(pre++ul++[t])++(ur++z):=by simp
 rw[e,List.drop_left' (by simp;omega),List.take_left' rfl]
def q3Z (t:By):Bool:=t==[116,114,117,101] || zv t
theorem q5F {F:zl}{u:List Tok}(h:qz F u)(hlf:q3Z (hd u)=false) :
  (∃l ul a,q1g F=[l]∧qz l ul∧q2J (u.drop (q1u u+1)) (q1u u+1) (q1u u+1) 0=[(a,a+ul.length)]∧(u.drop a).take ul.length=ul∧a+ul.length<u.length∧0<a) ∨
  (∃l r ul ur a a',q1g F=[l,r]∧qz l ul∧qz r ur∧q2J (u.drop (q1u u+1)) (q1u u+1) (q1u u+1) 0=[(a,a+ul.length),(a',a'+ur.length)]∧(u.drop a).take ul.length=ul∧(u.drop a').take ur.length=ur∧a+ul.length<a'∧a'+ur.length<u.length∧0<a):=by
 cases F with
 |nil=>exact h.elim
 |node p sp y l r =>
  rcases h with⟨hn,_,_,_,_,q1,q2,q3,x,hx,hb⟩|⟨_,hw,_,_,hrn,v,q1,q2,q3,ul,hv,_,hl,rfl⟩|⟨_,hw,_,_,_,q1,q2,q3,ul,ur,hl,hr,rfl⟩|⟨_,hw,_,hrn,hlo,hhi,q1,q2,q3,q4,q5,q6,ul,hl,rfl⟩|⟨_,hw,_,hlo,hhi,q1,q2,q3,q4,q5,q6,q7,ul,ur,hl,hr,rfl⟩|⟨_,hw,_,_,_,_,_,rfl⟩
  ·exfalso
   rcases hb with⟨_,rfl⟩|⟨z,q4,q5,hz,_,rfl⟩<;>simp[hd,q3Z,hn]at hlf
  ·subst hrn
   refine .inl ⟨l,ul,3,q2l hl,hl,?_,?_,?_,by omega⟩
   ·rw[q0C (q3j (by show plain y.word=true;rw[hw];decide)),q0C (q3j (q8F hv)),q5I rfl]
    exact cut1 hl _ _
   ·simp
   ·simp;omega
  ·refine .inr ⟨l,r,ul,ur,2,2+ul.length+1,q3J hl hr,hl,hr,?_,?_,?_,by omega,?_,by omega⟩
   ·rw[q0C (q3j (q5l (j0g hw))),q5I rfl]
    exact cut2 hl hr _ _ _
   ·simp
   ·exact j3b [_,_] ul _ ur _ _ (by simp)
   ·simp;omega
  ·subst hrn
   refine .inl ⟨l,ul,7,q2l hl,hl,?_,?_,?_,by omega⟩
   ·rw[q0C (q3j (q5l (j2t hw))),q0C rfl,q0C (q3j (q5k hlo)),q0C rfl,q0C (q3j (q6D hhi)),q0C rfl,q5I rfl]
    exact cut1 hl _ _
   ·simp
   ·simp;omega
  ·refine .inr ⟨l,r,ul,ur,7,7+ul.length+1,q3J hl hr,hl,hr,?_,?_,?_,by omega,?_,by omega⟩
   ·rw[q0C (q3j (q5l (j2u hw))),q0C rfl,q0C (q3j (q5k hlo)),q0C rfl,q0C (q3j (q6D hhi)),q0C rfl,q5I rfl]
    exact cut2 hl hr _ _ _
   ·simp
   ·exact j3b [_,_,_,_,_,_,_] ul _ ur _ _ (by simp)
   ·simp;omega
  ·exfalso
   simp[hd,q3Z,hw]at hlf
end Go.Proofs.YtiamjjonoeaggabGreatDoor
