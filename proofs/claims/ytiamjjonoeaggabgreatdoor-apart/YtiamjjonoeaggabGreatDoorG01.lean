import Derived.Test.YtiamjjonoeaggabGreatDoorGA
import Derived.Test.YtiamjjonoeaggabGreatDoorG00
import Derived.Test.YtiamjjonoeaggabGreatDoorProg
import Derived.WalkKit
import Derived.WalkSpells
import Derived.WalkLawsBesides
import Derived.Below
import Derived.Lib.ConvBytes
import Derived.Lib.SmallJoins
import Derived.Deep.Trees
import Derived.Deep.QuietTactic
import Derived.BigQuiet
import Derived.Deep.LoopGhost
import Derived.Laws.AppendOwnNone
import Derived.Deep.RegionWith
import Derived.Deep.CutRange
import Derived.Deep.RegionHeld
import Derived.Test.YtiamjjonoeaggabGreatDoorRows
import Derived.Test.YtiamjjonoeaggabGreatDoorCards
import Derived.Test.YtiamjjonoeaggabGreatDoorTie
import Derived.SevenTiedAt
import Derived.SizedLaws
import Derived.ProofKit
import Derived.LaidMore
import Derived.OpenShut
import Derived.Stop.Joined
import Derived.Stop.LaidErr
import Derived.Lib.LaidTab
set_option maxRecDepth 100000
set_option maxHeartbeats 16000000
namespace Go.Proofs.YtiamjjonoeaggabGreatDoor
open Go.RowKit
theorem zb {p:Prop}(h:p):Hid p:=h
theorem zy {W w1:World}{n:Nat}(hb:Below n W w1):(∀b o,b<n→w1.cell? ⟨b,o,none⟩=W.cell? ⟨b,o,none⟩):=
 fun b o h=>hb.cell (p:=⟨b,o,none⟩) h
theorem q0v {a b:Bool}(h:a=b):Ending.returned (.bool a)=.returned (.bool b):=by rw[h]
theorem q1t {k:IntKind}{a b:Int}(h:a=b):Ending.returned (.int k a)=.returned (.int k b):=by rw[h]
abbrev bs (l:By):Value:=.string (ByteArray.mk l.toArray)
def qd (n:Int):Bool:=decide (48≤n)&&decide (n≤57)
def q0s (n:Int):Bool:=decide (97≤n)&&decide (n≤122)
def q2z (w:World)(v:Value)(l:List (By)):Prop:=
 (v=.slice none 0 0∧l=[])∨∃b o cap,v=.slice (some ⟨b,o,none⟩) l.length cap∧l.length≤cap∧cap≤maxLen∧b<w.heap.size∧∀i,i<l.length→w.cell? ⟨b,o+i,none⟩=some (bs (l.getD i []))
def inB (t:By)(l:List (By)):Bool:=l.any fun x=>x==t
theorem q2z.below {w w':World}{v:Value}{l:List (By)}(h:q2z w v l)(hb:Below w.heap.size w w'):q2z w' v l:=by
 rcases h with h|⟨b,o,cap,rfl,hlc,hcap,hlt,hc⟩
 ·exact .inl h
 ·exact .inr ⟨b,o,cap,rfl,hlc,hcap,zT hlt hb.size,fun i hi=>by rw[zy hb b (o+i) hlt];exact hc i hi⟩
def w15:List (By):=[[120],[121],[116,114,117,101],[97,110,100],[98,117,116],[111,114],[101,120,105,115,116,115],[112,114,101,118],[110,101,120,116],[111,110,99,101],[115,111,111,110],[115,105,110,99,101],[117,110,115,105,110,99,101],[117,110,116,105,108],[117,110,117,110,116,105,108]]
def q9u:List (By):=[[112,114,101,118],[110,101,120,116],[111,110,99,101],[115,111,111,110]]
def q8m:List (By):=[[115,105,110,99,101],[117,110,115,105,110,99,101],[117,110,116,105,108],[117,110,117,110,116,105,108]]
def q4c:List (By):=[[97,110,100],[98,117,116],[111,114]]
def q9t:List (By):=[[110,101,120,116],[115,111,111,110],[117,110,116,105,108],[117,110,117,110,116,105,108]]
def q1p:List (By):=[[40],[41],[44],[91],[93],[42]]
def zx (t:By):Bool:=match t with
 | []=>false
 |c::_=>q0s (c.toNat:Int)&&!inB t w15
def qJ (t:By):Bool:=inB t q9u
def qG (t:By):Bool:=inB t q8m
def qj (t:By):Bool:=inB t q4c
end Go.Proofs.YtiamjjonoeaggabGreatDoor
namespace Go.Proofs.YtiamjjonoeaggabGreatDoor
open Go.RowKit
def q5q (a b:Int):Bool:=(qd a&&qd b) || (q0s a&&q0s b)
def q0h (l:By):Nat:=l.foldl (fun n c=>10*n+(c.toNat-48)) 0
theorem q7F (l:By)(k:Nat)(h:k<l.length):q0h (l.take (k+1))=10*q0h (l.take k)+((l[k]).toNat-48):=by
 unfold q0h
 rw[List.take_succ_eq_append_getElem h,List.foldl_append]
 rfl
def q2k (l:By):Bool:=l.all fun c=>qd (c.toNat:Int)
theorem q7u {l:By}(h:q2k l=true)(i:Nat)(hi:i<l.length):48≤(l[i]).toNat∧(l[i]).toNat≤57:=by
 unfold q2k at h
 rw[List.all_eq_true]at h
 have:=h _ (List.getElem_mem hi)
 simp[qd]at this
 omega
theorem q9g {l:By}(h:q2k l=true):∀k,k≤l.length→q0h (l.take k)<10 ^ k:=by
 intro k
 induction k with
 |zero=>intro _;simp[q0h]
 |succ k ih =>
  intro hk
  have h1:=ih (by omega)
  have h2:=q7u h k (by omega)
  rw[q7F l k (by omega),Nat.pow_succ]
  omega
end Go.Proofs.YtiamjjonoeaggabGreatDoor
namespace Go.Proofs.YtiamjjonoeaggabGreatDoor
open Go.RowKit
structure Tok where
 text:By
 pos:Nat
def q0j (c:UInt8):By→Nat
 | []=>0
 |d::r=>if q5q (c.toNat:Int) (d.toNat:Int)then q0j d r+1 else 0
def qv (s:By)(i:Nat):Nat:=i+1+q0j (s.getD i 0) (s.drop (i+1))
def cut (s:By)(i k:Nat):By:=(s.drop i).take (k-i)
def q2i (c:UInt8):Bool:=c==32 || c==10
def q3S (c:UInt8)(t:By):Bool:=inB t q1p || (qd (c.toNat:Int)&&decide (t.length≤3)) || (q0s (c.toNat:Int)&&decide (t.length≤8))
def q2h (s:By):Nat→Nat→List Tok→List Tok × Int
 | 0,_,acc=>(acc,-1)
 |f+1,i,acc =>
  if s.length≤i then(acc,-1)
  else if q2i (s.getD i 0)then q2h s f (i+1) acc
  else if q3S (s.getD i 0) (cut s i (qv s i))then q2h s f (qv s i) (acc++[⟨cut s i (qv s i),i⟩])
  else([],(i:Int))
theorem q5Q (s:By):∀(f g i:Nat) (acc:List Tok),s.length-i≤f→s.length-i≤g→q2h s f i acc=q2h s g i acc:=by
 intro f
 induction f with
 |zero =>
  intro g i acc hf hg
  cases g with
  |zero=>rfl
  |succ g=>rw[q2h,q2h,if_pos (by omega)]
 |succ f ih =>
  intro g i acc hf hg
  cases g with
  |zero=>rw[q2h,q2h,if_pos (by omega)]
  |succ g =>
   rw[q2h,q2h]
   by_cases h1:s.length≤i
   ·rw[if_pos h1,if_pos h1]
   ·rw[if_neg h1,if_neg h1]
    by_cases h2:q2i (s.getD i 0)=true
    ·rw[if_pos h2,if_pos h2];exact ih g (i+1) acc (by omega) (by omega)
    ·rw[if_neg h2,if_neg h2]
     by_cases h3:q3S (s.getD i 0) (cut s i (qv s i))=true
     ·rw[if_pos h3,if_pos h3]
      have:i+1≤qv s i:=by unfold qv;omega
      exact ih g _ _ (by omega) (by omega)
     ·rw[if_neg h3,if_neg h3]
def q0Y (s:By):List Tok × Int:=q2h s s.length 0 []
theorem j1Z (c:UInt8)(l:By):q0j c l≤l.length:=by
 induction l generalizing c with
 |nil=>simp[q0j]
 |cons d r ih =>
  rw[q0j]
  have:=ih d
  split
  ·simp;omega
  ·simp
theorem j0e (s:By)(i:Nat)(h:i<s.length):qv s i≤s.length:=by
 unfold qv
 have:=j1Z (s.getD i 0) (s.drop (i+1))
 rw[List.length_drop]at this
 omega
theorem j6O (s:By)(i k:Nat):(ByteArray.mk s.toArray).extract i k=ByteArray.mk (cut s i k).toArray:=by
 apply ByteArray.ext
 unfold cut
 simp
theorem j5x {s:By}{i:Nat}{acc:List Tok}{R:List Tok × Int}(h:q2h s (s.length-i) i acc=R)(hi:s.length≤i):R=(acc,-1):=by
 rw[←h,q5Q s (s.length-i) 1 i acc (by omega) (by omega),q2h,if_pos hi]
theorem j2N {s:By}{i:Nat}{acc:List Tok}{R:List Tok × Int}(h:q2h s (s.length-i) i acc=R)(hi:i<s.length)(hb:q2i (s.getD i 0)=true):q2h s (s.length-(i+1)) (i+1) acc=R:=by
 rw[←h,q5Q s (s.length-i) (s.length-(i+1)+1) i acc (by omega) (by omega),q2h,if_neg (by omega),if_pos hb]
theorem j8y {s:By}{i:Nat}{acc:List Tok}{R:List Tok × Int}(h:q2h s (s.length-i) i acc=R)(hi:i<s.length)(hb:q2i (s.getD i 0)=false)
  (ho:q3S (s.getD i 0) (cut s i (qv s i))=true):q2h s (s.length-qv s i) (qv s i) (acc++[⟨cut s i (qv s i),i⟩])=R:=by
 have:i+1≤qv s i:=by unfold qv;omega
 rw[←h,q5Q s (s.length-i) (s.length-(i+1)+1) i acc (by omega) (by omega),q2h,if_neg (by omega),if_neg (by rw[hb];simp),if_pos ho]
 exact q5Q s _ _ _ _ (by omega) (by omega)
theorem j8x {s:By}{i:Nat}{acc:List Tok}{R:List Tok × Int}(h:q2h s (s.length-i) i acc=R)(hi:i<s.length)(hb:q2i (s.getD i 0)=false)
  (ho:q3S (s.getD i 0) (cut s i (qv s i))=false):R=([],(i:Int)):=by
 rw[←h,q5Q s (s.length-i) (s.length-(i+1)+1) i acc (by omega) (by omega),q2h,if_neg (by omega),if_neg (by rw[hb];simp),if_neg (by rw[ho];simp)]
theorem zp {w w':World}{base:Nat}{e:TypeId}{size:Nat}{v:Value}{n:Nat}{xs:List Value}(h:w.ownsRow base e size v n xs)(hb:Below w.heap.size w w'):w'.ownsRow base e size v n xs:=by
 obtain⟨h1,h2⟩:=h
 refine⟨h1,?_⟩
 rcases h2 with h2|⟨g,cap,cur,e1,e2,e3,e4⟩
 ·exact .inl h2
 ·refine .inr ⟨g,cap,cur,e1,e2,?_,e4⟩
  have hg:g<w.heap.size:=by
   rcases Nat.lt_or_ge g w.heap.size with h'|h'
   ·exact h'
   ·simp[Array.getElem?_eq_none h']at e3
  rw[hb.block g hg]
  exact e3
end Go.Proofs.YtiamjjonoeaggabGreatDoor
namespace Go.Proofs.YtiamjjonoeaggabGreatDoor
open Go.RowKit
structure Pay where
 word:By
 args:List (By)
 lo:By
 hi:By
abbrev zg:=Go.Deep.BT Pay
abbrev q6O (α:Type):=Sum (List Tok) (α × List Tok)
def qC {α β:Type}(x:q6O α)(f:α→List Tok→q6O β):q6O β:=match x with
 | .inl r=>.inl r
 | .inr (a,r)=>f a r
def q0t (p:By→Bool)(ts:List Tok):q6O Tok:=match ts with
 | []=>.inl []
 |t::r=>if p t.text then .inr (t,r)else .inl (t::r)
def hd (ts:List Tok):By:=match ts with
 | []=>[]
 |t::_=>t.text
def q4m (t:By):Bool:=match t with
 | []=>false
 |c::_=>qd (c.toNat:Int)
def q1l (t:By):Bool:=t==[120] || t==[121]
def q5F (t:By):Bool:=(t.length==1&&q2k t) || q1l t
def q4k (t:By):Bool:=t==[42] || q4m t
def qB (c:By)(t:By):Bool:=c==t
def q1P (ts:List Tok):q6O (List (By)):=
 if hd ts==[44]then qC (q0t (qB [44]) ts) fun _ r=>qC (q0t q5F r) fun a r=>.inr ([a.text],r)else .inr ([],ts)
def q2r (ts:List Tok):q6O (Nat × By × By):=
 qC (q0t (qB [91]) ts) fun o r=>qC (q0t q4m r) fun a r=>qC (q0t (qB [44]) r) fun _ r=>qC (q0t q4k r) fun b r=>qC (q0t (qB [93]) r) fun _ r=>.inr ((o.pos,a.text,b.text),r)
def q8i (w:By):Pay:=⟨w,[],[],[]⟩
def q0A:Nat→List Tok→q6O zg
 | 0,ts=>.inl ts
 |n+1,ts =>
  if zx (hd ts)then
   qC (q0t zx ts) fun t r=>qC (q0t (qB [40]) r) fun _ r=>qC (q0t q5F r) fun a r=>qC (q1P r) fun b r=>qC (q0t (qB [41]) r) fun _ r =>
    .inr (.node t.pos 0 ⟨t.text,a.text::b,[],[]⟩ .nil .nil,r)
  else if hd ts==[101,120,105,115,116,115]then
   qC (q0t (qB (hd ts)) ts) fun t r=>qC (q0t q1l r) fun v r=>qC (q0t (qB [40]) r) fun _ r=>qC (q0A n r) fun A r=>qC (q0t (qB [41]) r) fun _ r =>
    .inr (.node t.pos 0 ⟨t.text,[v.text],[],[]⟩ A .nil,r)
  else if qj (hd ts)then
   qC (q0t (qB (hd ts)) ts) fun t r=>qC (q0t (qB [40]) r) fun _ r=>qC (q0A n r) fun A r=>qC (q0t (qB [44]) r) fun _ r=>qC (q0A n r) fun B r=>qC (q0t (qB [41]) r) fun _ r =>
    .inr (.node t.pos 0 (q8i t.text) A B,r)
  else if qJ (hd ts)then
   qC (q0t (qB (hd ts)) ts) fun t r=>qC (q2r r) fun s r=>qC (q0t (qB [40]) r) fun _ r=>qC (q0A n r) fun A r=>qC (q0t (qB [41]) r) fun _ r =>
    .inr (.node t.pos s.1 ⟨t.text,[],s.2.1,s.2.2⟩ A .nil,r)
  else if qG (hd ts)then
   qC (q0t (qB (hd ts)) ts) fun t r=>qC (q2r r) fun s r=>qC (q0t (qB [40]) r) fun _ r=>qC (q0A n r) fun A r=>qC (q0t (qB [44]) r) fun _ r=>qC (q0A n r) fun B r=>qC (q0t (qB [41]) r) fun _ r =>
    .inr (.node t.pos s.1 ⟨t.text,[],s.2.1,s.2.2⟩ A B,r)
  else qC (q0t (qB [116,114,117,101]) ts) fun t r=>.inr (.node t.pos 0 (q8i t.text) .nil .nil,r)
def plc (L:Nat)(ts:List Tok):Nat:=match ts with
 | []=>L
 |t::_=>t.pos
theorem q0z {p:By→Bool}{ts r:List Tok}{t:Tok}(h:q0t p ts=.inr (t,r)):ts=t::r∧p t.text=true:=by
 cases ts with
 |nil=>simp[q0t]at h
 |cons a q =>
  simp only[q0t]at h
  by_cases hp:p a.text=true
  ·rw[if_pos hp]at h
   simp at h
   obtain⟨rfl,rfl⟩:=h
   exact⟨rfl,hp⟩
  ·rw[if_neg hp]at h
   simp at h
end Go.Proofs.YtiamjjonoeaggabGreatDoor
namespace Go.Proofs.YtiamjjonoeaggabGreatDoor
open Go.RowKit
def q0a:zg→List Tok→Prop
 | .nil,_=>False
 | .node p sp y l r,ts =>
  (zx y.word=true∧y.lo=[]∧y.hi=[]∧l=.nil∧r=.nil∧∃q1 q2 q3 a,q5F a=true∧((y.args=[a]∧ts=[⟨y.word,p⟩,⟨[40],q1⟩,⟨a,q2⟩,⟨[41],q3⟩])∨∃b q4 q5,q5F b=true∧y.args=[a,b]∧ts=[⟨y.word,p⟩,⟨[40],q1⟩,⟨a,q2⟩,⟨[44],q4⟩,⟨b,q5⟩,⟨[41],q3⟩])) ∨
  (zx y.word=false∧y.word=[101,120,105,115,116,115]∧y.lo=[]∧y.hi=[]∧r=.nil∧∃v q1 q2 q3 u,q1l v=true∧y.args=[v]∧q0a l u∧ts=⟨y.word,p⟩::⟨v,q1⟩::⟨[40],q2⟩::(u++[⟨[41],q3⟩])) ∨
  (zx y.word=false∧qj y.word=true∧y.args=[]∧y.lo=[]∧y.hi=[]∧∃q1 q2 q3 u u',q0a l u∧q0a r u'∧ts=⟨y.word,p⟩::⟨[40],q1⟩::(u++⟨[44],q2⟩::(u'++[⟨[41],q3⟩]))) ∨
  (zx y.word=false∧qJ y.word=true∧y.args=[]∧r=.nil∧q4m y.lo=true∧q4k y.hi=true∧∃q1 q2 q3 q4 q5 q6 u,q0a l u∧ts=⟨y.word,p⟩::⟨[91],sp⟩::⟨y.lo,q1⟩::⟨[44],q2⟩::⟨y.hi,q3⟩::⟨[93],q4⟩::⟨[40],q5⟩::(u++[⟨[41],q6⟩])) ∨
  (zx y.word=false∧qG y.word=true∧y.args=[]∧q4m y.lo=true∧q4k y.hi=true∧∃q1 q2 q3 q4 q5 q6 q7 u u',q0a l u∧q0a r u'∧ts=⟨y.word,p⟩::⟨[91],sp⟩::⟨y.lo,q1⟩::⟨[44],q2⟩::⟨y.hi,q3⟩::⟨[93],q4⟩::⟨[40],q5⟩::(u++⟨[44],q6⟩::(u'++[⟨[41],q7⟩]))) ∨
  (zx y.word=false∧y.word=[116,114,117,101]∧y.args=[]∧y.lo=[]∧y.hi=[]∧l=.nil∧r=.nil∧ts=[⟨y.word,p⟩])
theorem qq {α β:Type}{x:q6O α}{f:α→List Tok→q6O β}{c:β × List Tok}(h:qC x f=.inr c):∃a r,x=.inr (a,r)∧f a r=.inr c:=by
 cases x with
 |inl r=>simp[qC]at h
 |inr p=>exact⟨p.1,p.2,rfl,h⟩
theorem q5f {c t:By}(h:qB c t=true):t=c:=by
 unfold qB at h
 simp at h
 exact h.symm
theorem q1H {c:By}{ts r:List Tok}{t:Tok}(h:q0t (qB c) ts=.inr (t,r)):ts=⟨c,t.pos⟩::r:=by
 obtain⟨h1,h2⟩:=q0z h
 have:=q5f h2
 rw[h1,←this]
theorem q5n {ts r:List Tok}{x:Nat × By × By}(h:q2r ts=.inr (x,r)):q4m x.2.1=true∧q4k x.2.2=true∧∃q1 q2 q3 q4,ts=⟨[91],x.1⟩::⟨x.2.1,q1⟩::⟨[44],q2⟩::⟨x.2.2,q3⟩::⟨[93],q4⟩::r:=by
 obtain⟨t1,r1,h1,h⟩:=qq h
 obtain⟨t2,r2,h2,h⟩:=qq h
 obtain⟨t3,r3,h3,h⟩:=qq h
 obtain⟨t4,r4,h4,h⟩:=qq h
 obtain⟨t5,r5,h5,h⟩:=qq h
 simp at h
 obtain⟨rfl,rfl⟩:=h
 have e1:=q1H h1
 obtain⟨e2,g2⟩:=q0z h2
 have e3:=q1H h3
 obtain⟨e4,g4⟩:=q0z h4
 have e5:=q1H h5
 exact⟨g2,g4,t2.pos,t3.pos,t4.pos,t5.pos,by rw[e1,e2,e3,e4,e5]⟩
theorem j1v {ts r:List Tok}{x:List (By)}(h:q1P ts=.inr (x,r)):(x=[]∧r=ts)∨∃b q1 q2,q5F b=true∧x=[b]∧ts=⟨[44],q1⟩::⟨b,q2⟩::r:=by
 unfold q1P at h
 by_cases hc:(hd ts==[44])=true
 ·rw[if_pos hc]at h
  obtain⟨t1,r1,h1,h⟩:=qq h
  obtain⟨t2,r2,h2,h⟩:=qq h
  simp at h
  obtain⟨rfl,rfl⟩:=h
  have e1:=q1H h1
  obtain⟨e2,g2⟩:=q0z h2
  exact .inr ⟨t2.text,t1.pos,t2.pos,g2,rfl,by rw[e1,e2]⟩
 ·rw[if_neg hc]at h
  simp at h
  exact .inl ⟨h.1,h.2.symm⟩
theorem q5A:∀(n:Nat) (ts r:List Tok) (F:zg),q0A n ts=.inr (F,r)→∃u,ts=u++r∧q0a F u:=by
 intro n
 induction n with
 |zero=>intro ts r F h;simp[q0A]at h
 |succ n ih =>
  intro ts r F h
  rw[q0A]at h
  by_cases c1:zx (hd ts)=true
  ·rw[if_pos c1]at h
   obtain⟨t1,r1,h1,h⟩:=qq h
   obtain⟨t2,r2,h2,h⟩:=qq h
   obtain⟨t3,r3,h3,h⟩:=qq h
   obtain⟨x4,r4,h4,h⟩:=qq h
   obtain⟨t5,r5,h5,h⟩:=qq h
   simp at h
   obtain⟨rfl,rfl⟩:=h
   obtain⟨e1,g1⟩:=q0z h1
   have e2:=q1H h2
   obtain⟨e3,g3⟩:=q0z h3
   have e5:=q1H h5
   rcases j1v h4 with⟨rfl,rfl⟩|⟨b,q1,q2,gb,rfl,e4⟩
   ·exact⟨[t1,⟨[40],t2.pos⟩,t3,⟨[41],t5.pos⟩],by rw[e1,e2,e3,e5];rfl,.inl ⟨g1,rfl,rfl,rfl,rfl,t2.pos,t3.pos,t5.pos,t3.text,g3,.inl ⟨rfl,rfl⟩⟩⟩
   ·exact⟨[t1,⟨[40],t2.pos⟩,t3,⟨[44],q1⟩,⟨b,q2⟩,⟨[41],t5.pos⟩],by rw[e1,e2,e3,e4,e5];rfl,.inl ⟨g1,rfl,rfl,rfl,rfl,t2.pos,t3.pos,t5.pos,t3.text,g3,.inr ⟨b,q1,q2,gb,rfl,rfl⟩⟩⟩
  ·rw[if_neg c1]at h
   by_cases c2:(hd ts==[101,120,105,115,116,115])=true
   ·rw[if_pos c2]at h
    obtain⟨t1,r1,h1,h⟩:=qq h
    obtain⟨t2,r2,h2,h⟩:=qq h
    obtain⟨t3,r3,h3,h⟩:=qq h
    obtain⟨A,r4,h4,h⟩:=qq h
    obtain⟨t5,r5,h5,h⟩:=qq h
    simp at h
    obtain⟨rfl,rfl⟩:=h
    obtain⟨e1,g1⟩:=q0z h1
    have g1:=q5f g1
    obtain⟨e2,g2⟩:=q0z h2
    have e3:=q1H h3
    obtain⟨u,e4,hu⟩:=ih _ _ _ h4
    have e5:=q1H h5
    simp only[beq_iff_eq]at c2
    rw[c2]at g1 c1
    refine⟨t1::t2::⟨[40],t3.pos⟩::(u++[⟨[41],t5.pos⟩]),by rw[e1,e2,e3,e4,e5];simp,.inr (.inl ⟨?_,g1,rfl,rfl,rfl,t2.text,t2.pos,t3.pos,t5.pos,u,g2,rfl,hu,rfl⟩)⟩
    show zx t1.text=false
    rw[g1]
    simpa using c1
   ·rw[if_neg c2]at h
    by_cases c3:qj (hd ts)=true
    ·rw[if_pos c3]at h
     obtain⟨t1,r1,h1,h⟩:=qq h
     obtain⟨t2,r2,h2,h⟩:=qq h
     obtain⟨A,r3,h3,h⟩:=qq h
     obtain⟨t4,r4,h4,h⟩:=qq h
     obtain⟨B,r5,h5,h⟩:=qq h
     obtain⟨t6,r6,h6,h⟩:=qq h
     simp at h
     obtain⟨rfl,rfl⟩:=h
     obtain⟨e1,g1⟩:=q0z h1
     have g1:=q5f g1
     have e2:=q1H h2
     obtain⟨u,e3,hu⟩:=ih _ _ _ h3
     have e4:=q1H h4
     obtain⟨u',e5,hu'⟩:=ih _ _ _ h5
     have e6:=q1H h6
     rw[←g1]at c1 c3
     exact⟨t1::⟨[40],t2.pos⟩::(u++⟨[44],t4.pos⟩::(u'++[⟨[41],t6.pos⟩])),by rw[e1,e2,e3,e4,e5,e6];simp,.inr (.inr (.inl ⟨by simpa[q8i]using c1,c3,rfl,rfl,rfl,t2.pos,t4.pos,t6.pos,u,u',hu,hu',rfl⟩))⟩
    ·rw[if_neg c3]at h
     by_cases c4:qJ (hd ts)=true
     ·rw[if_pos c4]at h
      obtain⟨t1,r1,h1,h⟩:=qq h
      obtain⟨x2,r2,h2,h⟩:=qq h
      obtain⟨t3,r3,h3,h⟩:=qq h
      obtain⟨A,r4,h4,h⟩:=qq h
      obtain⟨t5,r5,h5,h⟩:=qq h
      simp at h
      obtain⟨rfl,rfl⟩:=h
      obtain⟨e1,g1⟩:=q0z h1
      have g1:=q5f g1
      obtain⟨n1,n2,q1,q2,q3,q4,e2⟩:=q5n h2
      have e3:=q1H h3
      obtain⟨u,e4,hu⟩:=ih _ _ _ h4
      have e5:=q1H h5
      rw[←g1]at c1 c4
      exact⟨t1::⟨[91],x2.1⟩::⟨x2.2.1,q1⟩::⟨[44],q2⟩::⟨x2.2.2,q3⟩::⟨[93],q4⟩::⟨[40],t3.pos⟩::(u++[⟨[41],t5.pos⟩]),by rw[e1,e2,e3,e4,e5];simp,.inr (.inr (.inr (.inl ⟨by simpa using c1,c4,rfl,rfl,n1,n2,q1,q2,q3,q4,t3.pos,t5.pos,u,hu,rfl⟩)))⟩
     ·rw[if_neg c4]at h
      by_cases c5:qG (hd ts)=true
      ·rw[if_pos c5]at h
       obtain⟨t1,r1,h1,h⟩:=qq h
       obtain⟨x2,r2,h2,h⟩:=qq h
       obtain⟨t3,r3,h3,h⟩:=qq h
       obtain⟨A,r4,h4,h⟩:=qq h
       obtain⟨t5,r5,h5,h⟩:=qq h
       obtain⟨B,r6,h6,h⟩:=qq h
       obtain⟨t7,r7,h7,h⟩:=qq h
       simp at h
       obtain⟨rfl,rfl⟩:=h
       obtain⟨e1,g1⟩:=q0z h1
       have g1:=q5f g1
       obtain⟨n1,n2,q1,q2,q3,q4,e2⟩:=q5n h2
       have e3:=q1H h3
       obtain⟨u,e4,hu⟩:=ih _ _ _ h4
       have e5:=q1H h5
       obtain⟨u',e6,hu'⟩:=ih _ _ _ h6
       have e7:=q1H h7
       rw[←g1]at c1 c5
       exact⟨t1::⟨[91],x2.1⟩::⟨x2.2.1,q1⟩::⟨[44],q2⟩::⟨x2.2.2,q3⟩::⟨[93],q4⟩::⟨[40],t3.pos⟩::(u++⟨[44],t5.pos⟩::(u'++[⟨[41],t7.pos⟩])),by rw[e1,e2,e3,e4,e5,e6,e7];simp,.inr (.inr (.inr (.inr (.inl ⟨by simpa using c1,c5,rfl,n1,n2,q1,q2,q3,q4,t3.pos,t5.pos,t7.pos,u,u',hu,hu',rfl⟩))))⟩
      ·rw[if_neg c5]at h
       obtain⟨t1,r1,h1,h⟩:=qq h
       simp at h
       obtain⟨rfl,rfl⟩:=h
       obtain⟨e1,g1⟩:=q0z h1
       have g1:=q5f g1
       refine⟨[t1],by rw[e1];rfl,.inr (.inr (.inr (.inr (.inr ⟨?_,g1,rfl,rfl,rfl,rfl,rfl,rfl⟩))))⟩
       show zx t1.text=false
       rw[g1]
       decide
def q6x (L:Nat)(ts:List Tok):Option Nat:=match q0A 8 ts with
 | .inl r=>some (plc L r)
 | .inr (_,[])=>none
 | .inr (_,t::_)=>some t.pos
end Go.Proofs.YtiamjjonoeaggabGreatDoor
namespace Go.Proofs.YtiamjjonoeaggabGreatDoor
open Go.RowKit
def q1A (t:Tok):Prop:=∃c r,t.text=c::r∧q3S c t.text=true∧(qd (c.toNat:Int)=true→q2k t.text=true)
theorem q3E {n:Int}(h:qd n=true):q0s n=false:=by
 simp[qd]at h
 simp[q0s]
 omega
theorem j3h (l:By):∀c:UInt8,qd (c.toNat:Int)=true→(l.take (q0j c l)).all (fun c=>qd (c.toNat:Int))=true:=by
 induction l with
 |nil=>intro c _;simp
 |cons d r ih =>
  intro c hc
  rw[q0j]
  by_cases hr:q5q (c.toNat:Int) (d.toNat:Int)=true
  ·rw[if_pos hr]
   have hd:qd (d.toNat:Int)=true:=by
    unfold q5q at hr
    rw[q3E hc,hc]at hr
    simpa using hr
   rw[List.take_succ_cons,List.all_cons,hd,ih d hd]
   rfl
  ·rw[if_neg hr];simp
theorem q8D (s:By)(i:Nat)(h:i<s.length):cut s i (qv s i)=s.getD i 0::(s.drop (i+1)).take (q0j (s.getD i 0) (s.drop (i+1))):=by
 unfold cut qv
 rw[List.drop_eq_getElem_cons h]
 have e:i+1+q0j (s.getD i 0) (s.drop (i+1))-i=q0j (s.getD i 0) (s.drop (i+1))+1:=by omega
 rw[e,List.take_succ_cons]
 simp[List.getD,h]
theorem j9B (s:By):∀(f i:Nat) (acc:List Tok),(∀t∈acc,q1A t)→∀t∈(q2h s f i acc).1,q1A t:=by
 intro f
 induction f with
 |zero=>intro i acc h;exact h
 |succ f ih =>
  intro i acc h
  rw[q2h]
  by_cases h1:s.length≤i
  ·rw[if_pos h1];exact h
  ·rw[if_neg h1]
   by_cases h2:q2i (s.getD i 0)=true
   ·rw[if_pos h2];exact ih _ _ h
   ·rw[if_neg h2]
    by_cases h3:q3S (s.getD i 0) (cut s i (qv s i))=true
    ·rw[if_pos h3]
     refine ih _ _ (fun t ht=>?_)
     rcases List.mem_append.1 ht with ht|ht
     ·exact h t ht
     ·have:=List.mem_singleton.1 ht
      subst this
      refine⟨_,_,q8D s i (by omega),h3,fun hd=>?_⟩
      show q2k (cut s i (qv s i))=true
      rw[q8D s i (by omega)]
      unfold q2k
      rw[List.all_cons,hd,j3h _ _ hd]
      rfl
    ·rw[if_neg h3];simp
theorem q5R (s:By):∀t∈(q0Y s).1,q1A t:=j9B s _ _ _ (by simp)
theorem j8p {t:Tok}(h:q1A t):t.text≠[]:=by
 obtain⟨c,r,e,_⟩:=h
 rw[e];simp
end Go.Proofs.YtiamjjonoeaggabGreatDoor
namespace Go.Proofs.YtiamjjonoeaggabGreatDoor
open Go.RowKit
theorem j0k (c:UInt8):(q2i c=true∧(c=32∨c=10))∨(q2i c=false∧((c.toNat:Int)==32)=false∧((c.toNat:Int)==10)=false):=by
 by_cases h1:c=32
 ·subst h1;exact .inl ⟨rfl,.inl rfl⟩
 ·by_cases h2:c=10
  ·subst h2;exact .inl ⟨rfl,.inr rfl⟩
  ·refine .inr ⟨by simp[q2i,h1,h2],beq_eq_false_iff_ne.2 fun e=>h1 (UInt8.toNat_inj.1 (by show c.toNat=32;omega)),beq_eq_false_iff_ne.2 fun e=>h2 (UInt8.toNat_inj.1 (by show c.toNat=10;omega))⟩
theorem q6E (s:By)(i:Nat)(h:i<s.length):((ByteArray.mk s.toArray)[i]'(by exact h))=s.getD i 0:=by
 show s[i]=_
 simp[List.getD,h]
theorem q3e {B:Nat}{a w:World}(m:Nat)(h:Below B a w):Below B a (w.drewN m):=below_drewN h m
end Go.Proofs.YtiamjjonoeaggabGreatDoor
namespace Go.Proofs.YtiamjjonoeaggabGreatDoor
open Go.RowKit
def q4P (w:World)(v:Value)(l:List Tok):Prop:=
 (v=.slice none 0 0∧l=[])∨∃b o cap,v=.slice (some ⟨b,o,none⟩) l.length cap∧l.length≤cap∧cap≤maxLen∧b<w.heap.size∧∀i (h:i<l.length),w.cell? ⟨b,o+i*2,none⟩=some (bs (l[i]).text)∧w.cell? ⟨b,o+i*2+1,none⟩=some (.int .i64 (l[i]).pos)
theorem q4P.below {w w':World}{v:Value}{l:List Tok}{B:Nat}(h:q4P w v l)(hb:Below B w w')(hB:w.heap.size≤B):q4P w' v l:=by
 rcases h with h|⟨b,o,cap,e,h1,h2,h3,h4⟩
 ·exact .inl h
 ·refine .inr ⟨b,o,cap,e,h1,h2,zT h3 hb.size,fun i hi=>?_⟩
  rw[zy hb b _ (by omega),zy hb b _ (by omega)]
  exact h4 i hi
theorem j1g {t:Tok}(h:q1A t):t.text.length≤8:=by
 obtain⟨c,r,e,h,_⟩:=h
 unfold q3S at h
 simp only[Bool.or_eq_true,Bool.and_eq_true,decide_eq_true_eq]at h
 rcases h with(h|h)|h
 ·unfold inB q1p at h
  simp[List.any]at h
  rcases h with h|h|h|h|h|h<;>rw[←h]<;>decide
 ·omega
 ·omega
def outR (x:Option Nat):Int × Int:=match x with
 |none=>(0,0)
 |some p=>(3,(p:Int))
def q1m (s:By):Int × Int:=
 if 240<s.length then(1,0)else if 0≤(q0Y s).2 then(2,(q0Y s).2)else outR (q6x s.length (q0Y s).1)
theorem j1M {s:By}(h1:¬240<s.length)(h2:¬0≤(q0Y s).2):q1m s=outR (q6x s.length (q0Y s).1):=by
 unfold q1m
 rw[if_neg h1,if_neg h2]
theorem q2z.cons {w:World}{v:Value}{s:By}{W:List (By)}(h:q2z w v (s::W)):∃b o cap,v=.slice (some ⟨b,o,none⟩) (W.length+1) cap∧W.length+1≤cap∧cap≤maxLen∧b<w.heap.size∧w.cell? ⟨b,o,none⟩=some (bs s)∧∀j u,(W.map bs)[j]?=some u→w.cell? ⟨b,o+1+j,none⟩=some u:=by
 rcases h with⟨_,h⟩|⟨b,o,cap,rfl,h1,h2,h3,h4⟩
 ·simp at h
 ·refine⟨b,o,cap,rfl,h1,h2,h3,by simpa using h4 0 (by simp),fun j u hj=>?_⟩
  simp at hj
  obtain⟨x,hx,rfl⟩:=hj
  have hlt:j<W.length:=by
   rcases Nat.lt_or_ge j W.length with g|g
   ·exact g
   ·rw[List.getElem?_eq_none g]at hx;exact absurd hx (by simp)
  have:=h4 (j+1) (by simp;omega)
  rw[show o+1+j=o+(j+1) from by omega,this]
  simp[List.getD,hx]
theorem q2z.tail {w:World}{b o cap:Nat}{W:List (By)}(h1:W.length+1≤cap)(h2:cap≤maxLen)(h3:b<w.heap.size)(h4:∀j u,(W.map bs)[j]?=some u→w.cell? ⟨b,o+1+j,none⟩=some u):q2z w (.slice (some ⟨b,o+1,none⟩) W.length (cap-1)) W:=
 .inr ⟨b,o+1,cap-1,rfl,by omega,by omega,h3,fun i hi=>h4 i _ (by simp[hi])⟩
end Go.Proofs.YtiamjjonoeaggabGreatDoor
namespace Go.Proofs.YtiamjjonoeaggabGreatDoor
open Go.RowKit
def q5e (t:By):Bool:=t==[40] || t==[91]
def q5d (t:By):Bool:=t==[41] || t==[93]
def j0q (t:By):Bool:=t==[44] || t==[41]
def depth (t:By)(d:Int):Int:=(if q5e t then d+1 else d)-(if q5d t then 1 else 0)
def plain (t:By):Bool:=!(q5e t || q5d t || j0q t)
def q1z:zg→List zg
 | .nil=>[]
 | .node _ _ _ .nil _=>[]
 | .node _ _ _ l .nil=>[l]
 | .node _ _ _ l r=>[l,r]
end Go.Proofs.YtiamjjonoeaggabGreatDoor
namespace Go.Proofs.YtiamjjonoeaggabGreatDoor
open Go.RowKit
def q2c (w:World)(v:Value)(u:List Tok):Prop:=∃b o cap,v=.agg #[.slice (some ⟨b,o,none⟩) u.length cap]∧q4P w (.slice (some ⟨b,o,none⟩) u.length cap) u∧0<u.length∧u.length≤1000
theorem q2c.below {w w':World}{v:Value}{u:List Tok}(h:q2c w v u)(hb:Below w.heap.size w w'):q2c w' v u:=by
 obtain⟨b,o,cap,e,ht,h0,h1⟩:=h
 exact⟨b,o,cap,e,ht.below hb (zL _),h0,h1⟩
end Go.Proofs.YtiamjjonoeaggabGreatDoor
namespace Go.Proofs.YtiamjjonoeaggabGreatDoor
open Go.RowKit
def q6S (w:World)(v:Value)(us:List (List Tok)):Prop:=
 (v=.slice none 0 0∧us=[])∨∃g o cap,v=.slice (some ⟨g,o,none⟩) us.length cap∧us.length≤cap∧cap≤maxLen∧g<w.heap.size∧∀j (h:j<us.length),∃x,w.cell? ⟨g,o+j,none⟩=some x∧q2c w (.agg #[x]) us[j]
theorem q6S.below {w w':World}{v:Value}{us:List (List Tok)}(h:q6S w v us)(hb:Below w.heap.size w w'):q6S w' v us:=by
 rcases h with h|⟨g,o,cap,e,h1,h2,h3,h4⟩
 ·exact .inl h
 ·refine .inr ⟨g,o,cap,e,h1,h2,zT h3 hb.size,fun j hj=>?_⟩
  obtain⟨x,hx,hf⟩:=h4 j hj
  exact⟨x,by rw[zy hb g _ h3];exact hx,hf.below hb⟩
end Go.Proofs.YtiamjjonoeaggabGreatDoor
namespace Go.Proofs.YtiamjjonoeaggabGreatDoor
open Go.RowKit
theorem q2F {F:zg}{u:List Tok}(h:q0a F u):0<u.length:=by
 cases F with
 |nil=>exact h.elim
 |node p sp y l r =>
  rcases h with⟨_,_,_,_,_,q1,q2,q3,x,hx,hb⟩|⟨_,hw,_,_,_,v,q1,q2,q3,ul,hv,_,hl,rfl⟩|⟨_,hw,_,_,_,q1,q2,q3,ul,ur,hl,hr,rfl⟩|⟨_,hw,_,_,hlo,hhi,q1,q2,q3,q4,q5,q6,ul,hl,rfl⟩|⟨_,hw,_,hlo,hhi,q1,q2,q3,q4,q5,q6,q7,ul,ur,hl,hr,rfl⟩|⟨_,hw,_,_,_,_,_,rfl⟩
  ·rcases hb with⟨_,rfl⟩|⟨z,q4,q5,hz,_,rfl⟩<;>simp
  all_goals simp
def q2y:zg→By
 | .nil=>[]
 | .node _ _ y _ _=>y.word
end Go.Proofs.YtiamjjonoeaggabGreatDoor
namespace Go.Proofs.YtiamjjonoeaggabGreatDoor
open Go.RowKit
def zh:zg→By→Bool
 | .nil,_=>false
 | .node _ _ y l r,x=>match l with
  | .nil=>y.args.any fun a=>a==x
  |_=>!(y.word==[101,120,105,115,116,115]&&y.args==[x])&&(zh l x || zh r x)
end Go.Proofs.YtiamjjonoeaggabGreatDoor
namespace Go.Proofs.YtiamjjonoeaggabGreatDoor
open Go.RowKit
def q0B (t:By):Bool:=inB t q9t
def mxI (a c:Int):Int:=if a<c then c else a
def zf:zg→Int
 | .nil=>-1
 | .node _ _ y l r=>if q0B y.word then(if mxI (mxI (-1) (zf l)) (zf r)==-1 then 0 else mxI (mxI (-1) (zf l)) (zf r))+(q0h y.hi:Int)else mxI (mxI (-1) (zf l)) (zf r)
def q2d:zg→Bool
 | .nil=>true
 | .node _ _ y l r=>!(q0B y.word&&y.hi==[42])&&q2d l&&q2d r
def q5E (u:List Tok):Prop:=∀t∈u,q1A t
theorem q4E {t:Tok}(h:q1A t)(hn:q4m t.text=true):q2k t.text=true∧0<t.text.length∧t.text.length≤3:=by
 obtain⟨c,r,e,ho,hd⟩:=h
 rw[e]at hn
 have hd:=hd hn
 refine⟨hd,by rw[e];simp,?_⟩
 unfold q3S at ho
 have hn':qd (c.toNat:Int)=true:=hn
 rw[hn',q3E hn']at ho
 simp only[Bool.true_and,Bool.false_and,Bool.or_false,Bool.or_eq_true,decide_eq_true_eq]at ho
 rcases ho with ho|ho
 ·exfalso
  rw[e]at ho
  unfold inB q1p at ho
  simp[List.any]at ho
  simp[qd]at hn'
  rcases ho with⟨h,_⟩|⟨h,_⟩|⟨h,_⟩|⟨h,_⟩|⟨h,_⟩|⟨h,_⟩<;>subst h<;>revert hn'<;>decide
 ·exact ho
theorem q1b {u u':List Tok}(h:q5E u)(hs:∀t∈u',t∈u):q5E u':=fun t ht=>h t (hs t ht)
end Go.Proofs.YtiamjjonoeaggabGreatDoor
namespace Go.Proofs.YtiamjjonoeaggabGreatDoor
open Go.RowKit
def q2t (word:By)(a c:Bool):Bool:=(word==[111,114]&&(a != c)) || (word==[98,117,116]&&c&&!a) || (qG word&&a&&!c)
def q1i:zg→Bool
 | .nil=>false
 | .node p sp y l r=>if y.word==[101,120,105,115,116,115]then !(zh l (y.args.headD []))else if (q1z (.node p sp y l r)).length<2 || y.word==[97,110,100]then false else q2t y.word (zh l [120]) (zh r [120]) || q2t y.word (zh l [121]) (zh r [121])
end Go.Proofs.YtiamjjonoeaggabGreatDoor
namespace Go.Proofs.YtiamjjonoeaggabGreatDoor
open Go.RowKit
def zw:zg→List zg
 | .nil=>[]
 | .node p sp y l r=>.node p sp y l r::(zw l++zw r)
theorem j2f:∀(F:zg) (u:List Tok),q0a F u→(zw F).length≤u.length:=by
 intro F
 induction F with
 |nil=>intro u h;exact h.elim
 |node p sp y l r ihl ihr =>
  intro u h
  have e:(zw (.node p sp y l r)).length=(zw l).length+(zw r).length+1:=by simp[zw]
  have hR:=h
  rw[e]
  have hnil:(zw (.nil:zg)).length=0:=rfl
  rcases h with⟨hn,_,_,rfl,rfl,_⟩|⟨hn,hw,_,_,rfl,v,q1,q2,q3,ul,hv,_,hl,rfl⟩|⟨hn,hw,_,_,_,q1,q2,q3,ul,ur,hl,hr,rfl⟩|⟨hn,hw,_,rfl,hlo,hhi,q1,q2,q3,q4,q5,q6,ul,hl,rfl⟩|⟨hn,hw,_,hlo,hhi,q1,q2,q3,q4,q5,q6,q7,ul,ur,hl,hr,rfl⟩|⟨_,hw,_,_,_,rfl,rfl,rfl⟩
  ·have:=q2F hR;rw[hnil];omega
  ·have:=ihl ul hl;rw[hnil];simp;omega
  ·have:=ihl ul hl;have:=ihr ur hr;simp;omega
  ·have:=ihl ul hl;rw[hnil];simp;omega
  ·have:=ihl ul hl;have:=ihr ur hr;simp;omega
  ·rw[hnil];simp
def q4w (b:Nat)(w:World)(v:Value)(u:List Tok):Prop:=∃o cap,v=.agg #[.slice (some ⟨b,o,none⟩) u.length cap]∧q4P w (.slice (some ⟨b,o,none⟩) u.length cap) u∧0<u.length∧u.length≤1000
theorem q4w.keep {b B:Nat}{w w':World}{v:Value}{u:List Tok}(h:q4w b w v u)(hb:Below B w w')(hB:b<B):q4w b w' v u:=by
 obtain⟨o,cap,e,ht,h0,h1⟩:=h
 refine⟨o,cap,e,?_,h0,h1⟩
 rcases ht with⟨e,_⟩|⟨b',o',cap',e,c1,c2,c3,c4⟩
 ·simp at e
 ·simp at e
  obtain⟨⟨rfl,rfl⟩,rfl⟩:=e
  refine .inr ⟨b,o,cap,rfl,c1,c2,zT c3 hb.size,fun i hi=>?_⟩
  rw[zy hb b _ hB,zy hb b _ hB]
  exact c4 i hi
def KidB (b:Nat)(w:World)(v:Value)(us:List (List Tok)):Prop:=
 (v=.slice none 0 0∧us=[])∨∃g o cap,v=.slice (some ⟨g,o,none⟩) us.length cap∧us.length≤cap∧cap≤maxLen∧g<w.heap.size∧∀j (h:j<us.length),∃x,w.cell? ⟨g,o+j,none⟩=some x∧q4w b w (.agg #[x]) us[j]
theorem KidB.keep {b B:Nat}{w w':World}{v:Value}{us:List (List Tok)}(h:KidB b w v us)(hb:Below B w w')(hB:b<B)(hB2:w.heap.size≤B):KidB b w' v us:=by
 rcases h with h|⟨g,o,cap,e,h1,h2,h3,h4⟩
 ·exact .inl h
 ·refine .inr ⟨g,o,cap,e,h1,h2,zT h3 hb.size,fun j hj=>?_⟩
  obtain⟨x,hx,hf⟩:=h4 j hj
  exact⟨x,by rw[zy hb g _ (by omega)];exact hx,hf.keep hb hB⟩
def q3y (b:Nat)(w:World)(base:Nat)(v:Value)(ks:List (zg × List Tok)):Prop:=∃xs:List Value,xs.length=ks.length∧w.ownsRow base 112 1 v ks.length xs∧∀j (h:j<ks.length) (h':j<xs.length),q4w b w (.agg #[xs[j]]) (ks[j]).2
theorem q3y.below {b:Nat}{w w':World}{base:Nat}{v:Value}{ks:List (zg × List Tok)}(h:q3y b w base v ks)(hb:Below w.heap.size w w')(hB:b<w.heap.size):q3y b w' base v ks:=by
 obtain⟨xs,hl,hown,hf⟩:=h
 exact⟨xs,hl,zp hown hb,fun j h h'=>(hf j h h').keep hb hB⟩
end Go.Proofs.YtiamjjonoeaggabGreatDoor
namespace Go.Proofs.YtiamjjonoeaggabGreatDoor
open Go.RowKit
def q6I:zg→Pay
 | .nil=>q8i []
 | .node _ _ y _ _=>y
def j2X:zg→Nat
 | .nil=>0
 | .node p _ _ _ _=>p
def q5m:zg→Nat
 | .nil=>0
 | .node _ s _ _ _=>s
def qz (F:zg):Bool:=(qJ (q2y F) || qG (q2y F))&&!((q6I F).hi==[42])&&decide (q0h (q6I F).hi<q0h (q6I F).lo)
def qK (F:zg):Bool:=q0B (q2y F)&&((q6I F).hi==[42])
def q0J (F:zg):Int × Int:=match (zw F).find? qz with
 |some k=>(4,(q5m k:Int))
 |none=>match (zw F).find? qK with
  |some k=>(5,(q5m k:Int))
  |none=>match (zw F).find? q1i with
   |some k=>(6,(j2X k:Int))
   |none=>(0,0)
def qb (s:By):zg:=match q0A 8 (q0Y s).1 with
 | .inl _=>.nil
 | .inr (F,_)=>F
def zA (s:By):Int × Int:=if (q1m s).1≠0 then q1m s else q0J (qb s)
theorem q7J {s:By}(h:(q1m s).1=0):q0a (qb s) (q0Y s).1:=by
 unfold q1m at h
 by_cases h1:240<s.length
 ·rw[if_pos h1]at h;simp at h
 ·rw[if_neg h1]at h
  by_cases h2:0≤(q0Y s).2
  ·rw[if_pos h2]at h;simp at h
  ·rw[if_neg h2]at h
   unfold q6x at h
   unfold qb
   cases hp:q0A 8 (q0Y s).1 with
   |inl r=>rw[hp]at h;simp[outR]at h
   |inr p =>
    obtain⟨F,r⟩:=p
    rw[hp]at h
    cases r with
    |nil =>
     obtain⟨u,e,hr⟩:=q5A _ _ _ _ hp
     rw[List.append_nil]at e
     rw[e]
     exact hr
    |cons t r=>simp[outR]at h
theorem lexF_len (s:By):∀(f i:Nat) (acc:List Tok),acc.length≤i→i≤s.length→(q2h s f i acc).1.length≤s.length:=by
 intro f
 induction f with
 |zero=>intro i acc h h';rw[q2h];simp;omega
 |succ f ih =>
  intro i acc h h'
  rw[q2h]
  by_cases h1:s.length≤i
  ·rw[if_pos h1];simp;omega
  ·rw[if_neg h1]
   by_cases h2:q2i (s.getD i 0)=true
   ·rw[if_pos h2];exact ih _ _ (by omega) (by omega)
   ·rw[if_neg h2]
    by_cases h3:q3S (s.getD i 0) (cut s i (qv s i))=true
    ·rw[if_pos h3]
     have hl:=j0e s i (by omega)
     have:i+1≤qv s i:=by unfold qv;omega
     exact ih _ _ (by simp;omega) hl
    ·rw[if_neg h3];simp
theorem j3R (s:By):(q0Y s).1.length≤s.length:=lexF_len s _ _ _ (by simp) (by omega)
end Go.Proofs.YtiamjjonoeaggabGreatDoor
namespace Go.Proofs.YtiamjjonoeaggabGreatDoor
open Go.RowKit
def q0g (x:Nat):By:=[UInt8.ofNat (48+x)]
theorem ten_nat {x:Nat}(h:x<10):x=0∨x=1∨x=2∨x=3∨x=4∨x=5∨x=6∨x=7∨x=8∨x=9:=by omega
theorem z0j (x:Nat)(hx:x<10)(w:World):Calls Tryz.prog 98 #[.int .i64 x] w fun e w'=>e=.returned (bs (q0g x))∧w'=w:=by
 rcases ten_nat hx with rfl|rfl|rfl|rfl|rfl|rfl|rfl|rfl|rfl|rfl <;>
 ·go_enter Tryz.func98,Tryz.ntmps98
  go_wp2
  go_ret
  exact⟨by rfl,rfl⟩
theorem j2w (x:Nat)(hx:x<10)(w:World):Calls Tryz.prog 66 #[.int .i64 x,.int .i64 10] w fun e w'=>e=.returned (bs (q0g x))∧w'=w:=by
 have H:=zb (z0j x hx)
 go_enter Tryz.func66,Tryz.ntmps66
 go_wp2_with fail
 refine(H.out _).mono ?_
 rintro e w1 ⟨rfl,rfl⟩
 go_wp2_with fail
 go_ret
 exact⟨rfl,rfl⟩
theorem q3c (x:Nat)(hx:x<10)(w:World):Calls Tryz.prog 30 #[.int .i64 x] w fun e w'=>e=.returned (bs (q0g x))∧w'=w:=by
 have H:=zb (j2w x hx)
 have h2:Calls Tryz.prog 47 #[.int .i64 x] w fun e w'=>e=.returned (bs (q0g x))∧w'=w:=by
  go_enter Tryz.func47,Tryz.ntmps47
  go_wp2_with fail
  refine(H.out _).mono ?_
  rintro e w1 ⟨rfl,rfl⟩
  go_wp2_with fail
  go_ret
  exact⟨rfl,rfl⟩
 have H2:=zb h2
 clear h2 H
 go_enter Tryz.func30,Tryz.ntmps30
 go_wp2_with fail
 refine H2.out.mono ?_
 rintro e w1 ⟨rfl,rfl⟩
 go_wp2_with fail
 go_ret
 exact⟨rfl,rfl⟩
theorem qE (a c:By):ByteArray.mk a.toArray++ByteArray.mk c.toArray=ByteArray.mk (a++c).toArray:=by
 apply ByteArray.ext
 rw[ByteArray.data_append]
 simp
end Go.Proofs.YtiamjjonoeaggabGreatDoor
namespace Go.Proofs.YtiamjjonoeaggabGreatDoor
open Go.RowKit
theorem j7x:∀F:zg,(∀k∈zw F,qK k=false)→q2d F=true:=by
 intro F
 induction F with
 |nil=>intro _;rfl
 |node p sp y l r ihl ihr =>
  intro h
  rw[q2d]
  have h0:=h (.node p sp y l r) (by simp[zw])
  have h1:=ihl (fun k hk=>h k (by simp[zw,hk]))
  have h2:=ihr (fun k hk=>h k (by simp[zw,hk]))
  have h0':(q0B y.word&&(y.hi==[42]))=false:=h0
  rw[h0',h1,h2]
  rfl
theorem j4N {F:zg}(h:(q0J F).1=0):q2d F=true:=by
 refine j7x F (fun k hk=>?_)
 unfold q0J at h
 cases h1:(zw F).find? qz with
 |some k=>rw[h1]at h;simp at h
 |none =>
  rw[h1]at h
  simp only[]at h
  cases h2:(zw F).find? qK with
  |some k=>rw[h2]at h;simp at h
  |none =>
   rw[List.find?_eq_none]at h2
   simpa using h2 k hk
def j1o (s:By):Bool:=decide ((zA s).1=0)&&zh (qb s) [120]
def j1p (s:By):Bool:=decide ((zA s).1=0)&&zh (qb s) [121]
def j1n (s:By):Int:=if (zA s).1=0 then zf (qb s)else 0
theorem j0Z {s:By}(h:(zA s).1=0):(q1m s).1=0∧q2d (qb s)=true:=by
 unfold zA at h
 by_cases hr:(q1m s).1=0
 ·rw[if_neg (by simp[hr])]at h
  exact⟨hr,j4N h⟩
 ·rw[if_pos hr]at h
  exact absurd h hr
theorem j0m {F:zg}(h:(q0J F).1=0):(q0J F).2=0:=by
 unfold q0J at h ⊢
 cases h1:(zw F).find? qz with
 |some k=>rw[h1]at h;simp at h
 |none =>
  rw[h1]at h
  simp only[]at h ⊢
  cases h2:(zw F).find? qK with
  |some k=>rw[h2]at h;simp at h
  |none =>
   rw[h2]at h
   simp only[]at h ⊢
   cases h3:(zw F).find? q1i with
   |some k=>rw[h3]at h;simp at h
   |none=>rfl
theorem q5t {s:By}(h:(zA s).1=0):(zA s).2=0:=by
 unfold zA at h ⊢
 by_cases hr:(q1m s).1=0
 ·rw[if_neg (by simp[hr])]at h ⊢
  exact j0m h
 ·rw[if_pos hr]at h
  exact absurd h hr
end Go.Proofs.YtiamjjonoeaggabGreatDoor
namespace Go.Proofs.YtiamjjonoeaggabGreatDoor
open Go.RowKit
def qo (a k n c:Int):Option (Int × Int × Int):=
 if a=0 then(if c=64 then some (1,0,n)else none)
 else if a=1 then(if qd c=true∧k<5∧10*n+(c-48)≤65535 then some (1,k+1,10*n+(c-48))else if 0<k∧c=32 then some (2,0,n)else none)
 else if a=2 then(if q0s c=true∧k<8 then some (2,k+1,n)else if 0<k∧c=40 then some (3,k,n)else none)
 else if a=3 then(if qd c=true then some (4,k,n)else none)
 else if a=4 then(if c=44 then some (5,k,n)else if c=41 then some (7,k,n)else none)
 else if a=5 then(if qd c=true then some (6,k,n)else none)
 else if a=6 then(if c=41 then some (7,k,n)else none)
 else(if c=32 then some (2,0,n)else none)
def q4o (L:Nat):By→Nat→Int→Int→Int→Int
 | [],_,a,k,_=>if a=7∨(a=1∧0<k)then -1 else(L:Int)
 |c::r,i,a,k,n=>match qo a k n (c.toNat:Int)with
  |none=>(i:Int)
  |some q=>q4o L r (i+1) q.1 q.2.1 q.2.2
def j1H (s:By):Int:=q4o s.length s 0 0 0 0
end Go.Proofs.YtiamjjonoeaggabGreatDoor
namespace Go.Proofs.YtiamjjonoeaggabGreatDoor
open Go.RowKit
def q9o (s:By):Nat→Nat→Nat→List (By)→List (By)
 | 0,_,_,acc=>acc
 |f+1,i,a,acc=>if i=s.length∨s.getD i 0=32 then q9o s f (i+1) (i+1) (acc++[cut s a i])else q9o s f (i+1) a acc
def splR (s:By):List (By):=q9o s s.length 1 1 []
end Go.Proofs.YtiamjjonoeaggabGreatDoor
namespace Go.Proofs.YtiamjjonoeaggabGreatDoor
open Go.RowKit
def q6J (c:Int)(n:Nat):Nat:=(if c<0 then -(c+1)else c).toNat % n
theorem j5I (c:Int){n:Nat}(h:0<n):q6J c n<n:=Nat.mod_lt _ h
theorem j2U {c:Int}(h:c<0)(n:Nat):-(c+1).tmod (n:Int)=(q6J c n:Int):=by
 unfold q6J
 rw[if_pos h,←Int.neg_tmod,Int.tmod_eq_emod_of_nonneg (by omega),Int.natCast_emod,Int.toNat_of_nonneg (by omega)]
theorem j2V {c:Int}(h:¬c<0)(n:Nat):c.tmod (n:Int)=(q6J c n:Int):=by
 unfold q6J
 rw[if_neg h,Int.tmod_eq_emod_of_nonneg (by omega),Int.natCast_emod,Int.toNat_of_nonneg (by omega)]
end Go.Proofs.YtiamjjonoeaggabGreatDoor
namespace Go.Proofs.YtiamjjonoeaggabGreatDoor
open Go.ChangeShapes Go.WideShapes Go.ChangeAt Go.WideElems Go.RowKit
theorem ownK:ownKnob Tryz.prog.godebug=none:=by kernel_rfl
theorem laidOutK:laidOutB Tryz.prog=true:=by kernel_rfl
theorem bs_dataK (s:ByteArray):bs s.data.toList=.string s:=by
 cases s
 simp[bs]
theorem wfK {n:Int}(h:(Lit.int .i64 n).wf=true):-9223372036854775808≤n∧n≤9223372036854775807:=by
 simp only[Lit.wf,Bool.and_eq_true,decide_eq_true_eq]at h
 exact⟨h.1,h.2⟩
theorem tab_laid {W:World}{l:List (String × DataW Unit)}{nm:String}{a b:String × DataW Unit}(hl:laidMet Tryz.prog (a::b::(nm,Lib.tabData .u64 Lib.pow10Tab)::l) W)(hn:Tryz.prog.globalNamed nm=some (q8T.g 17)):TabB W:=by
 have h:=Lib.tabIs_of_head (t:=229) (e:=199) (n:=20) hn (by kernel_rfl) Tryz.underlying229 Tryz.underlying199 (by kernel_rfl) (by kernel_rfl) hl.tail.tail
 unfold Lib.TabIs World.var? at h
 rw[hn]at h
 simp only[Option.bind_some]at h
 split at h
 ·rename_i cs t fr hc
  simp only[Option.some.injEq]at h
  subst h
  exact⟨_,_,hc⟩
 ·exact absurd h (by simp)
theorem str_in {H:Type}{enc:TypeId × Value→H}{W:World}{base b0:Nat}{spare:Nat→Bool}{held:Bool}{v:Value}{d:DataW H}{p:List MemPlace}(hv:Value.okWide Tryz.prog W .any b0 9 v)(h:DataW.Trod enc Tryz.prog W base spare held 9 v d p):∃s:By,v=bs s∧s.length≤maxLen:=by
 obtain⟨s,rfl⟩:=okWide_string Tryz.underlying9 hv
 obtain⟨fuel,hf⟩:=h
 obtain⟨s',e1,_,e3⟩:=DataW.trod_string Tryz.underlying9 hf
 simp[Value.cells]at e1
 subst e1
 exact⟨s.data.toList,(bs_dataK s).symm,by rw[Array.length_toList];exact e3⟩
theorem int_in {H:Type}{enc:TypeId × Value→H}{W:World}{base b0:Nat}{spare:Nat→Bool}{held:Bool}{v:Value}{d:DataW H}{p:List MemPlace}(hv:Value.okWide Tryz.prog W .any b0 3 v)(h:DataW.Trod enc Tryz.prog W base spare held 3 v d p):∃n:Int,v=.int .i64 n∧(-9223372036854775808≤n∧n≤9223372036854775807):=by
 obtain⟨n,e1,_,_,e4⟩:=open_int Tryz.underlying3 hv h
 exact⟨n,e1,wfK e4⟩
end Go.Proofs.YtiamjjonoeaggabGreatDoor
