import Derived.Test.YtiamjjonoeaggaaGreatDoorGA
import Derived.Test.YtiamjjonoeaggaaGreatDoorG02
namespace Go.Proofs.YtiamjjonoeaggaaGreatDoor
open Go.RowKit
def q0P (t:By):Bool:=match t with
 | []=>false
 |c::_=>q0n (c.toNat:Int)
def q7F (t:By):Bool:=match t with
 | []=>false
 |c::_=>zQ (c.toNat:Int)
def q1n:List (By)→By
 | []=>[]
 |t::r=>t++(if q0P t&&q0P (r.headD [])then 32::q1n r else q1n r)
structure TokT (t:By):Prop where
 shape:(∃c,t=[c]∧inB [c] q1j=true)∨(t≠[]∧(∀c∈t,zQ (c.toNat:Int)=true)∧t.length≤3)∨(t≠[]∧(∀c∈t,q0n (c.toNat:Int)=true)∧t.length≤8)
theorem j8f {c:UInt8}(h:q0n (c.toNat:Int)=true):zQ (c.toNat:Int)=false:=by
 unfold q0n at h;unfold zQ;simp at h ⊢;omega
theorem dig_let {c:UInt8}(h:zQ (c.toNat:Int)=true):q0n (c.toNat:Int)=false:=by
 unfold zQ at h;unfold q0n;simp at h ⊢;omega
theorem q9L {c:UInt8}(h:inB [c] q1j=true):q0n (c.toNat:Int)=false∧zQ (c.toNat:Int)=false∧q2b c=false:=by
 unfold inB q1j at h
 simp at h
 rcases h with h|h|h|h|h|h<;>subst h<;>decide
theorem j9M:∀(r rest:By) (c:UInt8),q0n (c.toNat:Int)=true→(∀d∈r,q0n (d.toNat:Int)=true)→q0P rest=false→q0g c (r++rest)=r.length:=by
 intro r
 induction r with
 |nil =>
  intro rest c hc _ hr
  cases rest with
  |nil=>rfl
  |cons d q =>
   have hd:q0n (d.toNat:Int)=false:=hr
   show(if q5f (c.toNat:Int) (d.toNat:Int)then q0g d q+1 else 0)=0
   rw[if_neg]
   unfold q5f
   rw[hd,j8f hc]
   simp
 |cons d r ih =>
  intro rest c hc hr hw
  have hd:=hr d (by simp)
  show(if q5f (c.toNat:Int) (d.toNat:Int)then q0g d (r++rest)+1 else 0)=r.length+1
  rw[if_pos (by unfold q5f;rw[hc,hd];simp),ih rest d hd (fun x hx=>hr x (by simp[hx])) hw]
theorem j9L:∀(r rest:By) (c:UInt8),zQ (c.toNat:Int)=true→(∀d∈r,zQ (d.toNat:Int)=true)→q7F rest=false→q0g c (r++rest)=r.length:=by
 intro r
 induction r with
 |nil =>
  intro rest c hc _ hr
  cases rest with
  |nil=>rfl
  |cons d q =>
   have hd:zQ (d.toNat:Int)=false:=hr
   show(if q5f (c.toNat:Int) (d.toNat:Int)then q0g d q+1 else 0)=0
   rw[if_neg]
   unfold q5f
   rw[hd,dig_let hc]
   simp
 |cons d r ih =>
  intro rest c hc hr hw
  have hd:=hr d (by simp)
  show(if q5f (c.toNat:Int) (d.toNat:Int)then q0g d (r++rest)+1 else 0)=r.length+1
  rw[if_pos (by unfold q5f;rw[hc,hd];simp),ih rest d hd (fun x hx=>hr x (by simp[hx])) hw]
theorem j9J (rest:By)(c:UInt8)(h:inB [c] q1j=true):q0g c rest=0:=by
 cases rest with
 |nil=>rfl
 |cons d q =>
  show(if q5f (c.toNat:Int) (d.toNat:Int)then q0g d q+1 else 0)=0
  rw[if_neg]
  unfold q5f
  rw[(q9L h).1,(q9L h).2.1]
  simp
theorem j5p {s:By}{i f:Nat}{acc:List Tok}{t rest:By}(hs:s.drop i=t++rest)(ht:TokT t)(h1:q0P t=true→q0P rest=false)(h2:q7F t=true→q7F rest=false):q2a s (f+1) i acc=q2a s f (i+t.length) (acc++[⟨t,i⟩]):=by
 have hne:t≠[]:=by rcases ht.shape with⟨c,rfl,_⟩|⟨h,_⟩|⟨h,_⟩<;>simp_all
 obtain⟨c,r,rfl⟩:=List.exists_cons_of_ne_nil hne
 have hi:i<s.length:=by
  rcases Nat.lt_or_ge i s.length with g|g
  ·exact g
  ·rw[List.drop_eq_nil_of_le g]at hs;simp at hs
 have hc:s.getD i 0=c:=by
  have e:s.drop i=s[i]::s.drop (i+1):=List.drop_eq_getElem_cons hi
  rw[e]at hs
  simp only[List.cons_append,List.cons.injEq]at hs
  rw[←hs.1]
  simp[List.getD,hi]
 have hd:s.drop (i+1)=r++rest:=by
  have e:s.drop i=s[i]::s.drop (i+1):=List.drop_eq_getElem_cons hi
  rw[e]at hs
  simp only[List.cons_append,List.cons.injEq]at hs
  exact hs.2
 have hend:qq s i=i+(c::r).length:=by
  unfold qq
  rw[hc,hd]
  rcases ht.shape with⟨c',e,hg⟩|⟨_,hg,_⟩|⟨_,hg,_⟩
  ·injection e with e1 e2
   subst e1 e2
   rw[j9J _ _ hg]
   simp
  ·rw[j9L r rest c (hg c (by simp)) (fun d hd=>hg d (by simp[hd])) (h2 (hg c (by simp)))]
   simp;omega
  ·rw[j9M r rest c (hg c (by simp)) (fun d hd=>hg d (by simp[hd])) (h1 (hg c (by simp)))]
   simp;omega
 have hcut:cut s i (i+(c::r).length)=c::r:=by
  unfold cut
  rw[hs,show i+(c::r).length-i=(c::r).length by omega,List.take_left']
  rfl
 have hb:q2b c=false:=by
  rcases ht.shape with⟨c',e,hg⟩|⟨_,hg,_⟩|⟨_,hg,_⟩
  ·injection e with e1 e2
   subst e1
   exact(q9L hg).2.2
  ·have:=hg c (by simp)
   unfold zQ at this
   unfold q2b
   simp at this ⊢
   constructor<;>(intro e;rw[e]at this;revert this;decide)
  ·have:=hg c (by simp)
   unfold q0n at this
   unfold q2b
   simp at this ⊢
   constructor<;>(intro e;rw[e]at this;revert this;decide)
 have hok:q3F c (c::r)=true:=by
  unfold q3F
  rcases ht.shape with⟨c',e,hg⟩|⟨_,hg,hl⟩|⟨_,hg,hl⟩
  ·rw[e,hg];rfl
  ·rw[hg c (by simp),decide_eq_true hl];simp
  ·rw[hg c (by simp),decide_eq_true hl];simp
 rw[q2a,if_neg (by omega),hc,hb,hend,hcut,if_neg (by simp),if_pos hok]
theorem j6X {s:By}{i f:Nat}{acc:List Tok}{rest:By}(hs:s.drop i=32::rest):q2a s (f+1) i acc=q2a s f (i+1) acc:=by
 have hi:i<s.length:=by
  rcases Nat.lt_or_ge i s.length with g|g
  ·exact g
  ·rw[List.drop_eq_nil_of_le g]at hs;simp at hs
 have hc:s.getD i 0=32:=by
  have e:s.drop i=s[i]::s.drop (i+1):=List.drop_eq_getElem_cons hi
  rw[e]at hs
  simp only[List.cons.injEq]at hs
  rw[←hs.1]
  simp[List.getD,hi]
 rw[q2a,if_neg (by omega),hc,if_pos (by decide)]
def Nums:List (By)→Prop
 | []=>True
 |t::r=>(q7F t=true→q7F (r.headD [])=false)∧Nums r
theorem j8Q {ts:List (By)}(h:∀t∈ts,TokT t):q0P (q1n ts)=q0P (ts.headD [])∧q7F (q1n ts)=q7F (ts.headD []):=by
 cases ts with
 |nil=>exact⟨rfl,rfl⟩
 |cons t r =>
  have hne:t≠[]:=by rcases(h t (by simp)).shape with⟨c,rfl,_⟩|⟨h,_⟩|⟨h,_⟩<;>simp_all
  obtain⟨c,q,rfl⟩:=List.exists_cons_of_ne_nil hne
  exact⟨rfl,rfl⟩
theorem glue_tok {t:By}(h:TokT t):0<t.length:=by
 rcases h.shape with⟨c,rfl,_⟩|⟨h,_⟩|⟨h,_⟩
 ·simp
 ·exact List.length_pos_iff.2 h
 ·exact List.length_pos_iff.2 h
theorem lex_glue:∀(ts:List (By)),(∀t∈ts,TokT t)→Nums ts→∀(s:By) (i f:Nat) (acc:List Tok),s.drop i=q1n ts→s.length-i≤f→∃us:List Tok,us.map Tok.text=ts∧q2a s f i acc=(acc++us,-1):=by
 intro ts
 induction ts with
 |nil =>
  intro _ _ s i f acc hs _
  have hi:s.length≤i:=List.drop_eq_nil_iff.1 hs
  refine⟨[],rfl,?_⟩
  cases f with
  |zero=>simp[q2a]
  |succ f=>rw[q2a,if_pos hi];simp
 |cons t r ih =>
  intro hT hN s i f acc hs hf
  have hg:=j8Q (ts:=r) (fun x hx=>hT x (by simp[hx]))
  have ht:=hT t (by simp)
  have hp:=glue_tok ht
  have hlen:s.length-i=(q1n (t::r)).length:=by rw[←hs];simp
  cases hw:(q0P t&&q0P (r.headD []))with
  |true =>
   have e:q1n (t::r)=t++32::q1n r:=by show t++(if (q0P t&&q0P (r.headD []))=true then 32::q1n r else q1n r)=_;rw[if_pos hw]
   rw[e]at hs hlen
   simp only[List.length_append,List.length_cons]at hlen
   obtain⟨f',rfl⟩:∃f',f=f'+1+1:=⟨f-2,by omega⟩
   rw[j5p hs ht (fun _=>rfl) (fun _=>rfl)]
   have hs2:s.drop (i+t.length)=32::q1n r:=by rw[←List.drop_drop,hs];simp
   rw[j6X hs2]
   have hs3:s.drop (i+t.length+1)=q1n r:=by rw[←List.drop_drop,hs2];simp
   obtain⟨us,h1,h2⟩:=ih (fun x hx=>hT x (by simp[hx])) hN.2 s (i+t.length+1) f' (acc++[⟨t,i⟩]) hs3 (by omega)
   exact⟨⟨t,i⟩::us,by simp[h1],by rw[h2];simp⟩
  |false =>
   have e:q1n (t::r)=t++q1n r:=by show t++(if (q0P t&&q0P (r.headD []))=true then 32::q1n r else q1n r)=_;rw[if_neg (by rw[hw];simp)]
   rw[e]at hs hlen
   simp only[List.length_append]at hlen
   obtain⟨f',rfl⟩:∃f',f=f'+1:=⟨f-1,by omega⟩
   rw[j5p hs ht (fun hwt=>by rw[hg.1];rw[hwt]at hw;simpa using hw) (fun hnt=>by rw[hg.2];exact hN.1 hnt)]
   have hs3:s.drop (i+t.length)=q1n r:=by rw[←List.drop_drop,hs];simp
   obtain⟨us,h1,h2⟩:=ih (fun x hx=>hT x (by simp[hx])) hN.2 s (i+t.length) f' (acc++[⟨t,i⟩]) hs3 (by omega)
   exact⟨⟨t,i⟩::us,by simp[h1],by rw[h2];simp⟩
theorem j9j (ts:List (By))(hT:∀t∈ts,TokT t)(hN:Nums ts):∃us:List Tok,us.map Tok.text=ts∧q0S (q1n ts)=(us,-1):=by
 obtain⟨us,h1,h2⟩:=lex_glue ts hT hN (q1n ts) 0 (q1n ts).length [] rfl (by omega)
 exact⟨us,h1,by unfold q0S;simpa using h2⟩
def qJ:zh→List (By)
 | .nil=>[]
 | .node _ _ y l r =>
  if zx y.word then y.word::[40]::(match y.args with
   | [a]=>[a,[41]]
   | [a,b]=>[a,[44],b,[41]]
   |_=>[[41]])
  else if y.word==[101,120,105,115,116,115]then y.word::y.args.headD []::[40]::(qJ l++[[41]])
  else if qh y.word then y.word::[40]::(qJ l++[44]::(qJ r++[[41]]))
  else if qE y.word then y.word::[91]::y.lo::[44]::y.hi::[93]::[40]::(qJ l++[[41]])
  else if qB y.word then y.word::[91]::y.lo::[44]::y.hi::[93]::[40]::(qJ l++[44]::(qJ r++[[41]]))
  else [y.word]
def q3V:zh→Prop
 | .nil=>False
 | .node _ _ y l r =>
  (zx y.word=true∧y.lo=[]∧y.hi=[]∧l=.nil∧r=.nil∧∃a,q5u a=true∧(y.args=[a]∨∃b,q5u b=true∧y.args=[a,b])) ∨
  (y.word=[101,120,105,115,116,115]∧y.lo=[]∧y.hi=[]∧r=.nil∧q3V l∧∃v,q1h v=true∧y.args=[v]) ∨
  (qh y.word=true∧y.args=[]∧y.lo=[]∧y.hi=[]∧q3V l∧q3V r) ∨
  (qE y.word=true∧y.args=[]∧r=.nil∧q4b y.lo=true∧q3Y y.hi=true∧q3V l) ∨
  (qB y.word=true∧y.args=[]∧q4b y.lo=true∧q3Y y.hi=true∧q3V l∧q3V r) ∨
  (y.word=[116,114,117,101]∧y.args=[]∧y.lo=[]∧y.hi=[]∧l=.nil∧r=.nil)
def hgt:zh→Nat
 | .nil=>0
 | .node _ _ _ l r=>1+max (hgt l) (hgt r)
def q1f:zh→zh
 | .nil=>.nil
 | .node _ _ y l r=>.node 0 0 y (q1f l) (q1f r)
theorem qp {α β:Type}{x:q6y α}{f:α→List Tok→q6y β}{a:α}{r:List Tok}(h:x=.inr (a,r)):qy x f=f a r:=by rw[h];rfl
theorem q0k {p:By→Bool}{t:Tok}{r:List Tok}(h:p t.text=true):q0p p (t::r)=.inr (t,r):=by simp[q0p,h]
theorem q1P {c:By}{t:Tok}(h:t.text=c):qx c t.text=true:=by unfold qx;rw[h];simp
theorem map_cons {us:List Tok}{t:By}{r:List (By)}(h:us.map Tok.text=t::r):∃(a:Tok) (vs:List Tok),us=a::vs∧a.text=t∧vs.map Tok.text=r:=by
 cases us with
 |nil=>simp at h
 |cons a vs=>simp at h;exact⟨a,vs,rfl,h.1,h.2⟩
theorem q7m {us:List Tok}{a b:List (By)}(h:us.map Tok.text=a++b):∃xs ys:List Tok,us=xs++ys∧xs.map Tok.text=a∧ys.map Tok.text=b:=List.map_eq_append_iff.1 h
theorem q0a {t:By}:(qh t=true→zx t=false∧(t==[101,120,105,115,116,115])=false)∧(qE t=true→zx t=false∧(t==[101,120,105,115,116,115])=false∧qh t=false)∧(qB t=true→zx t=false∧(t==[101,120,105,115,116,115])=false∧qh t=false∧qE t=false):=by
 refine⟨fun h=>?_,fun h=>?_,fun h=>?_⟩
 ·unfold qh inB q3O at h
  simp at h
  rcases h with h|h|h<;>subst h<;>decide
 ·unfold qE inB q9e at h
  simp at h
  rcases h with h|h|h|h<;>subst h<;>decide
 ·unfold qB inB q7X at h
  simp at h
  rcases h with h|h|h|h<;>subst h<;>decide
theorem j1o {sp lo c hi e:Tok}{r:List Tok}(h1:sp.text=[91])(h2:q4b lo.text=true)(h3:c.text=[44])(h4:q3Y hi.text=true)(h5:e.text=[93]):q2j (sp::lo::c::hi::e::r)=.inr ((sp.pos,lo.text,hi.text),r):=by
 unfold q2j
 rw[qp (q0k (q1P h1)),qp (q0k h2),qp (q0k (q1P h3)),qp (q0k h4),qp (q0k (q1P h5))]
theorem j5x:∀(F:zh),q3V F→∀(n:Nat),hgt F≤n→∀(us r:List Tok),us.map Tok.text=qJ F→∃F',q1f F'=q1f F∧q0x n (us++r)=.inr (F',r):=by
 intro F
 induction F with
 |nil=>intro h;exact absurd h (by simp[q3V])
 |node p sp y l r ihl ihr =>
  intro hW n hn us q hu
  obtain⟨m,rfl⟩:∃m,n=m+1:=⟨n-1,by simp[hgt]at hn;omega⟩
  have hl:hgt l≤m:=by simp[hgt]at hn;omega
  have hr:hgt r≤m:=by simp[hgt]at hn;omega
  obtain⟨yw,ya,ylo,yhi⟩:=y
  simp only[q3V]at hW
  rcases hW with⟨hN,e1,e2,e3,e4,a,ha,hargs⟩|⟨hw,e1,e2,e3,hl',v,hv,ea⟩|⟨hw,ea,e1,e2,hl',hr'⟩|⟨hw,ea,e3,n1,n2,hl'⟩|⟨hw,ea,n1,n2,hl',hr'⟩|⟨hw,ea,e1,e2,e3,e4⟩
  ·subst e1 e2 e3 e4
   rcases hargs with rfl|⟨b,hb,rfl⟩
   ·simp only[qJ,hN,if_true]at hu
    obtain⟨t1,u1,rfl,x1,hu⟩:=map_cons hu
    obtain⟨t2,u2,rfl,x2,hu⟩:=map_cons hu
    obtain⟨t3,u3,rfl,x3,hu⟩:=map_cons hu
    obtain⟨t4,u4,rfl,x4,hu⟩:=map_cons hu
    have:u4=[]:=by simpa using hu
    subst this
    refine⟨.node t1.pos 0 ⟨t1.text,[t3.text],[],[]⟩ .nil .nil,by simp[q1f,x1,x3],?_⟩
    simp only[List.cons_append,List.nil_append]
    rw[q0x]
    simp only[hd,x1,hN,if_true]
    rw[qp (q0k (by rw[x1];exact hN)),qp (q0k (q1P x2)),qp (q0k (by rw[x3];exact ha))]
    have hm:q1J (t4::q)=.inr ([],t4::q):=by unfold q1J;simp only[hd,x4];rfl
    rw[qp hm,qp (q0k (q1P x4))]
    rw[x1]
   ·simp only[qJ,hN,if_true]at hu
    obtain⟨t1,u1,rfl,x1,hu⟩:=map_cons hu
    obtain⟨t2,u2,rfl,x2,hu⟩:=map_cons hu
    obtain⟨t3,u3,rfl,x3,hu⟩:=map_cons hu
    obtain⟨t4,u4,rfl,x4,hu⟩:=map_cons hu
    obtain⟨t5,u5,rfl,x5,hu⟩:=map_cons hu
    obtain⟨t6,u6,rfl,x6,hu⟩:=map_cons hu
    have:u6=[]:=by simpa using hu
    subst this
    refine⟨.node t1.pos 0 ⟨t1.text,[t3.text,t5.text],[],[]⟩ .nil .nil,by simp[q1f,x1,x3,x5],?_⟩
    simp only[List.cons_append,List.nil_append]
    rw[q0x]
    simp only[hd,x1,hN,if_true]
    rw[qp (q0k (by rw[x1];exact hN)),qp (q0k (q1P x2)),qp (q0k (by rw[x3];exact ha))]
    have hm:q1J (t4::t5::t6::q)=.inr ([t5.text],t6::q):=by
     unfold q1J
     simp only[hd,x4]
     rw[if_pos (by decide),qp (q0k (q1P x4)),qp (q0k (by rw[x5];exact hb))]
    rw[qp hm,qp (q0k (q1P x6))]
    rw[x1]
  ·subst hw e1 e2 e3 ea
   have k1:zx [101,120,105,115,116,115]=false:=by decide
   simp only[qJ,k1,Bool.false_eq_true,if_false,beq_self_eq_true,if_true,List.headD_cons]at hu
   obtain⟨t1,u1,rfl,x1,hu⟩:=map_cons hu
   obtain⟨t2,u2,rfl,x2,hu⟩:=map_cons hu
   obtain⟨t3,u3,rfl,x3,hu⟩:=map_cons hu
   obtain⟨ul,u4,rfl,hul,hu⟩:=q7m hu
   obtain⟨t5,u5,rfl,x5,hu⟩:=map_cons hu
   have:u5=[]:=by simpa using hu
   subst this
   obtain⟨A,hA,hpA⟩:=ihl hl' m hl ul (t5::q) hul
   refine⟨.node t1.pos 0 ⟨t1.text,[t2.text],[],[]⟩ A .nil,by simp[q1f,x1,x2,hA],?_⟩
   simp only[List.cons_append,List.append_assoc,List.nil_append]
   rw[q0x]
   simp only[hd,x1,k1,Bool.false_eq_true,if_false,beq_self_eq_true,if_true]
   rw[qp (q0k (q1P x1)),qp (q0k (by rw[x2];exact hv)),qp (q0k (q1P x3)),qp hpA,qp (q0k (q1P x5))]
   rw[x1]
  ·have k:=q0a.1 hw
   subst e1 e2 ea
   simp only[qJ,k.1,k.2,hw,Bool.false_eq_true,if_false,if_true]at hu
   obtain⟨t1,u1,rfl,x1,hu⟩:=map_cons hu
   obtain⟨t2,u2,rfl,x2,hu⟩:=map_cons hu
   obtain⟨ul,u4,rfl,hul,hu⟩:=q7m hu
   obtain⟨t3,u3,rfl,x3,hu⟩:=map_cons hu
   obtain⟨ur,u4,rfl,hur,hu⟩:=q7m hu
   obtain⟨t5,u5,rfl,x5,hu⟩:=map_cons hu
   have:u5=[]:=by simpa using hu
   subst this
   obtain⟨A,hA,hpA⟩:=ihl hl' m hl ul (t3::(ur++(t5::q))) hul
   obtain⟨B,hB,hpB⟩:=ihr hr' m hr ur (t5::q) hur
   refine⟨.node t1.pos 0 (q7T t1.text) A B,by simp[q1f,q7T,x1,hA,hB],?_⟩
   simp only[List.cons_append,List.append_assoc,List.nil_append]
   rw[q0x]
   simp only[hd,x1,k.1,k.2,hw,Bool.false_eq_true,if_false,if_true]
   rw[qp (q0k (q1P x1)),qp (q0k (q1P x2)),qp hpA,qp (q0k (q1P x3)),qp hpB,qp (q0k (q1P x5))]
   rw[x1]
  ·have k:=q0a.2.1 hw
   subst e3 ea
   simp only[qJ,k.1,k.2.1,k.2.2,hw,Bool.false_eq_true,if_false,if_true]at hu
   obtain⟨t1,u1,rfl,x1,hu⟩:=map_cons hu
   obtain⟨s1,u1,rfl,y1,hu⟩:=map_cons hu
   obtain⟨s2,u1,rfl,y2,hu⟩:=map_cons hu
   obtain⟨s3,u1,rfl,y3,hu⟩:=map_cons hu
   obtain⟨s4,u1,rfl,y4,hu⟩:=map_cons hu
   obtain⟨s5,u1,rfl,y5,hu⟩:=map_cons hu
   obtain⟨t2,u2,rfl,x2,hu⟩:=map_cons hu
   obtain⟨ul,u4,rfl,hul,hu⟩:=q7m hu
   obtain⟨t5,u5,rfl,x5,hu⟩:=map_cons hu
   have:u5=[]:=by simpa using hu
   subst this
   obtain⟨A,hA,hpA⟩:=ihl hl' m hl ul (t5::q) hul
   refine⟨.node t1.pos s1.pos ⟨t1.text,[],s2.text,s4.text⟩ A .nil,by simp[q1f,x1,y2,y4,hA],?_⟩
   simp only[List.cons_append,List.append_assoc,List.nil_append]
   rw[q0x]
   simp only[hd,x1,k.1,k.2.1,k.2.2,hw,Bool.false_eq_true,if_false,if_true]
   rw[qp (q0k (q1P x1)),qp (j1o y1 (by rw[y2];exact n1) y3 (by rw[y4];exact n2) y5),qp (q0k (q1P x2)),qp hpA,qp (q0k (q1P x5))]
   rw[x1]
  ·have k:=q0a.2.2 hw
   subst ea
   simp only[qJ,k.1,k.2.1,k.2.2.1,k.2.2.2,hw,Bool.false_eq_true,if_false,if_true]at hu
   obtain⟨t1,u1,rfl,x1,hu⟩:=map_cons hu
   obtain⟨s1,u1,rfl,y1,hu⟩:=map_cons hu
   obtain⟨s2,u1,rfl,y2,hu⟩:=map_cons hu
   obtain⟨s3,u1,rfl,y3,hu⟩:=map_cons hu
   obtain⟨s4,u1,rfl,y4,hu⟩:=map_cons hu
   obtain⟨s5,u1,rfl,y5,hu⟩:=map_cons hu
   obtain⟨t2,u2,rfl,x2,hu⟩:=map_cons hu
   obtain⟨ul,u4,rfl,hul,hu⟩:=q7m hu
   obtain⟨t3,u3,rfl,x3,hu⟩:=map_cons hu
   obtain⟨ur,u4,rfl,hur,hu⟩:=q7m hu
   obtain⟨t5,u5,rfl,x5,hu⟩:=map_cons hu
   have:u5=[]:=by simpa using hu
   subst this
   obtain⟨A,hA,hpA⟩:=ihl hl' m hl ul (t3::(ur++(t5::q))) hul
   obtain⟨B,hB,hpB⟩:=ihr hr' m hr ur (t5::q) hur
   refine⟨.node t1.pos s1.pos ⟨t1.text,[],s2.text,s4.text⟩ A B,by simp[q1f,x1,y2,y4,hA,hB],?_⟩
   simp only[List.cons_append,List.append_assoc,List.nil_append]
   rw[q0x]
   simp only[hd,x1,k.1,k.2.1,k.2.2.1,k.2.2.2,hw,Bool.false_eq_true,if_false,if_true]
   rw[qp (q0k (q1P x1)),qp (j1o y1 (by rw[y2];exact n1) y3 (by rw[y4];exact n2) y5),qp (q0k (q1P x2)),qp hpA,qp (q0k (q1P x3)),qp hpB,qp (q0k (q1P x5))]
   rw[x1]
  ·subst hw ea e1 e2 e3 e4
   have k1:zx [116,114,117,101]=false:=by decide
   have k2:(([116,114,117,101]:By)==[101,120,105,115,116,115])=false:=by decide
   have k3:qh [116,114,117,101]=false:=by decide
   have k4:qE [116,114,117,101]=false:=by decide
   have k5:qB [116,114,117,101]=false:=by decide
   simp only[qJ,k1,k2,k3,k4,k5,Bool.false_eq_true,if_false]at hu
   obtain⟨t1,u1,rfl,x1,hu⟩:=map_cons hu
   have:u1=[]:=by simpa using hu
   subst this
   refine⟨.node t1.pos 0 (q7T t1.text) .nil .nil,by simp[q1f,q7T,x1],?_⟩
   simp only[List.cons_append,List.nil_append]
   rw[q0x]
   simp only[hd,x1,k1,k2,k3,k4,k5,Bool.false_eq_true,if_false]
   rw[qp (q0k (q1P x1))]
   rw[x1]
def q4N:List (By)→Prop
 | []=>True
 |t::r=>(q7F t=true→r≠[]∧q7F (r.headD [])=false)∧q4N r
theorem q4N.app {a b:List (By)}(ha:q4N a)(hb:q4N b):q4N (a++b):=by
 induction a with
 |nil=>exact hb
 |cons t r ih =>
  refine⟨fun h=>?_,ih ha.2⟩
  have:=ha.1 h
  cases r with
  |nil=>exact absurd rfl this.1
  |cons q r=>exact⟨by simp,this.2⟩
theorem q4N.nums {a:List (By)}(ha:q4N a):Nums a:=by
 induction a with
 |nil=>trivial
 |cons t r ih=>exact⟨fun h=>(ha.1 h).2,ih ha.2⟩
theorem j5s {t:By}(h:zx t=true):q7F t=false∧q0P t=true:=by
 cases t with
 |nil=>simp[zx]at h
 |cons c r =>
  have:q0n (c.toNat:Int)=true:=by unfold zx at h;simp only[Bool.and_eq_true]at h;exact h.1
  exact⟨j8f this,this⟩
theorem j3O {t:By}:(qh t=true→q7F t=false∧q0P t=true)∧(qE t=true→q7F t=false∧q0P t=true)∧(qB t=true→q7F t=false∧q0P t=true):=by
 refine⟨fun h=>?_,fun h=>?_,fun h=>?_⟩
 ·unfold qh inB q3O at h
  simp at h
  rcases h with h|h|h<;>subst h<;>decide
 ·unfold qE inB q9e at h
  simp at h
  rcases h with h|h|h|h<;>subst h<;>decide
 ·unfold qB inB q7X at h
  simp at h
  rcases h with h|h|h|h<;>subst h<;>decide
theorem j8r {v:By}(h:q1h v=true):q7F v=false∧q0P v=true:=by
 unfold q1h at h
 simp at h
 rcases h with h|h<;>subst h<;>decide
theorem q0K (c:UInt8)(h:zQ (c.toNat:Int)=false){r:List (By)}(hr:q4N r):q4N ([c]::r):=⟨fun e=>by rw[show q7F [c]=zQ (c.toNat:Int) from rfl,h]at e;simp at e,hr⟩
theorem q2M {t:By}(h:q7F t=false){r:List (By)}(hr:q4N r):q4N (t::r):=⟨fun e=>by rw[h]at e;simp at e,hr⟩
theorem q3q {t:By}{c:UInt8}(h:zQ (c.toNat:Int)=false){r:List (By)}(hr:q4N ([c]::r)):q4N (t::[c]::r):=⟨fun _=>⟨by simp,h⟩,hr⟩
theorem j7G:∀(F:zh),q3V F→q4N (qJ F):=by
 intro F
 induction F with
 |nil=>intro h;exact absurd h (by simp[q3V])
 |node p sp y l r ihl ihr =>
  intro hW
  obtain⟨yw,ya,ylo,yhi⟩:=y
  simp only[q3V]at hW
  have e40:zQ ((40:UInt8).toNat:Int)=false:=by decide
  have e41:zQ ((41:UInt8).toNat:Int)=false:=by decide
  have e44:zQ ((44:UInt8).toNat:Int)=false:=by decide
  have e91:zQ ((91:UInt8).toNat:Int)=false:=by decide
  have e93:zQ ((93:UInt8).toNat:Int)=false:=by decide
  have N41:q4N [[41]]:=q0K 41 e41 trivial
  rcases hW with⟨hN,e1,e2,e3,e4,a,ha,hargs⟩|⟨hw,e1,e2,e3,hl',v,hv,ea⟩|⟨hw,ea,e1,e2,hl',hr'⟩|⟨hw,ea,e3,n1,n2,hl'⟩|⟨hw,ea,n1,n2,hl',hr'⟩|⟨hw,ea,e1,e2,e3,e4⟩
  ·rcases hargs with rfl|⟨b,hb,rfl⟩
   ·simp only[qJ,hN,if_true]
    exact q2M (j5s hN).1 (q0K 40 e40 (q3q e41 N41))
   ·simp only[qJ,hN,if_true]
    exact q2M (j5s hN).1 (q0K 40 e40 (q3q e44 (q0K 44 e44 (q3q e41 N41))))
  ·subst hw ea
   have k1:zx [101,120,105,115,116,115]=false:=by decide
   simp only[qJ,k1,Bool.false_eq_true,if_false,beq_self_eq_true,if_true,List.headD_cons]
   exact q2M (by decide) (q2M (j8r hv).1 (q0K 40 e40 ((ihl hl').app N41)))
  ·have k:=q0a.1 hw
   simp only[qJ,k.1,k.2,hw,Bool.false_eq_true,if_false,if_true]
   exact q2M (j3O.1 hw).1 (q0K 40 e40 ((ihl hl').app (q0K 44 e44 ((ihr hr').app N41))))
  ·have k:=q0a.2.1 hw
   simp only[qJ,k.1,k.2.1,k.2.2,hw,Bool.false_eq_true,if_false,if_true]
   exact q2M (j3O.2.1 hw).1 (q0K 91 e91 (q3q e44 (q0K 44 e44 (q3q e93 (q0K 93 e93 (q0K 40 e40 ((ihl hl').app N41)))))))
  ·have k:=q0a.2.2 hw
   simp only[qJ,k.1,k.2.1,k.2.2.1,k.2.2.2,hw,Bool.false_eq_true,if_false,if_true]
   exact q2M (j3O.2.2 hw).1 (q0K 91 e91 (q3q e44 (q0K 44 e44 (q3q e93 (q0K 93 e93 (q0K 40 e40 ((ihl hl').app (q0K 44 e44 ((ihr hr').app N41)))))))))
  ·subst hw
   have k1:zx [116,114,117,101]=false:=by decide
   have k2:(([116,114,117,101]:By)==[101,120,105,115,116,115])=false:=by decide
   have k3:qh [116,114,117,101]=false:=by decide
   have k4:qE [116,114,117,101]=false:=by decide
   have k5:qB [116,114,117,101]=false:=by decide
   simp only[qJ,k1,k2,k3,k4,k5,Bool.false_eq_true,if_false]
   exact q2M (by decide) trivial
def zy:zh→By
 | .nil=>[]
 | .node _ _ y l r =>
  if zx y.word then y.word++[40]++(match y.args with
   | [a]=>a++[41]
   | [a,b]=>a++[44]++b++[41]
   |_=>[41])
  else if y.word==[101,120,105,115,116,115]then y.word++[32]++y.args.headD []++[40]++zy l++[41]
  else if qh y.word then y.word++[40]++zy l++[44]++zy r++[41]
  else if qE y.word then y.word++[91]++y.lo++[44]++y.hi++[93,40]++zy l++[41]
  else if qB y.word then y.word++[91]++y.lo++[44]++y.hi++[93,40]++zy l++[44]++zy r++[41]
  else y.word
theorem q4S {t:By}(ht:q0P t=false):∀(a b:List (By)),q1n (a++t::b)=q1n a++t++q1n b:=by
 intro a
 induction a with
 |nil=>intro b;simp[q1n,ht]
 |cons x a ih =>
  intro b
  cases a with
  |nil =>
   have e1:q1n (x::t::b)=x++(if q0P x&&q0P t then 32::q1n (t::b)else q1n (t::b)):=rfl
   have e2:q1n [x]=x++(if q0P x&&q0P []then 32::q1n []else q1n []):=rfl
   have e3:q1n (t::b)=t++(if q0P t&&q0P (b.headD [])then 32::q1n b else q1n b):=rfl
   show q1n (x::t::b)=q1n [x]++t++q1n b
   rw[e1,e2,e3,ht]
   simp[q1n,q0P]
  |cons q a =>
   have e1:q1n (x::(q::a++t::b))=x++(if q0P x&&q0P q then 32::q1n (q::a++t::b)else q1n (q::a++t::b)):=rfl
   have e2:q1n (x::q::a)=x++(if q0P x&&q0P q then 32::q1n (q::a)else q1n (q::a)):=rfl
   rw[List.cons_append,e1,e2,ih b]
   split<;>simp
theorem j4M {t:By}(ht:q0P t=false)(b:List (By)):q1n (t::b)=t++q1n b:=by simp[q1n,ht]
theorem q2f {t u:By}(ht:q0P u=false)(b:List (By)):q1n (t::u::b)=t++u++q1n b:=by
 have:=q4S ht [t] b
 simpa[q1n,q0P]using this
theorem j8P {t u:By}(h1:q0P t=true)(h2:q0P u=true)(b:List (By)):q1n (t::u::b)=t++32::q1n (u::b):=by
 show t++(if q0P t&&q0P u then 32::q1n (u::b)else q1n (u::b))=_
 rw[h1,h2]
 rfl
theorem z0a:∀(F:zh),q3V F→q1n (qJ F)=zy F:=by
 intro F
 induction F with
 |nil=>intro h;exact absurd h (by simp[q3V])
 |node p sp y l r ihl ihr =>
  intro hW
  obtain⟨yw,ya,ylo,yhi⟩:=y
  simp only[q3V]at hW
  have w40:q0P [40]=false:=by decide
  have w41:q0P [41]=false:=by decide
  have w44:q0P [44]=false:=by decide
  have w91:q0P [91]=false:=by decide
  have w93:q0P [93]=false:=by decide
  have g0:q1n []=[]:=rfl
  rcases hW with⟨hN,e1,e2,e3,e4,a,ha,hargs⟩|⟨hw,e1,e2,e3,hl',v,hv,ea⟩|⟨hw,ea,e1,e2,hl',hr'⟩|⟨hw,ea,e3,n1,n2,hl'⟩|⟨hw,ea,n1,n2,hl',hr'⟩|⟨hw,ea,e1,e2,e3,e4⟩
  ·rcases hargs with rfl|⟨b,hb,rfl⟩
   ·simp only[qJ,zy,hN,if_true]
    rw[q2f w40,q2f w41,g0]
    simp
   ·simp only[qJ,zy,hN,if_true]
    rw[q2f w40,q2f w44,q2f w41,g0]
    simp
  ·subst hw ea
   have k1:zx [101,120,105,115,116,115]=false:=by decide
   simp only[qJ,zy,k1,Bool.false_eq_true,if_false,beq_self_eq_true,if_true,List.headD_cons]
   rw[j8P (by decide) (j8r hv).2,q2f w40,q4S w41,g0,ihl hl']
   simp
  ·have k:=q0a.1 hw
   simp only[qJ,zy,k.1,k.2,hw,Bool.false_eq_true,if_false,if_true]
   rw[q2f w40,q4S w44,q4S w41,g0,ihl hl',ihr hr']
   simp
  ·have k:=q0a.2.1 hw
   simp only[qJ,zy,k.1,k.2.1,k.2.2,hw,Bool.false_eq_true,if_false,if_true]
   rw[q2f w91,q2f w44,q2f w93,j4M w40,q4S w41,g0,ihl hl']
   simp
  ·have k:=q0a.2.2 hw
   simp only[qJ,zy,k.1,k.2.1,k.2.2.1,k.2.2.2,hw,Bool.false_eq_true,if_false,if_true]
   rw[q2f w91,q2f w44,q2f w93,j4M w40,q4S w44,q4S w41,g0,ihl hl',ihr hr']
   simp
  ·subst hw
   have k1:zx [116,114,117,101]=false:=by decide
   have k2:(([116,114,117,101]:By)==[101,120,105,115,116,115])=false:=by decide
   have k3:qh [116,114,117,101]=false:=by decide
   have k4:qE [116,114,117,101]=false:=by decide
   have k5:qB [116,114,117,101]=false:=by decide
   simp only[qJ,zy,k1,k2,k3,k4,k5,Bool.false_eq_true,if_false]
   simp[q1n,q0P]
theorem j8K (F:zh)(hW:q3V F)(hT:∀t∈qJ F,TokT t)(hh:hgt F≤8)(hl:(zy F).length≤240):(q1p (zy F)).1=0∧q1f (qK (zy F))=q1f F:=by
 obtain⟨us,h1,h2⟩:=j9j (qJ F) hT (j7G F hW).nums
 rw[z0a F hW]at h2
 obtain⟨F',h3,h4⟩:=j5x F hW 8 hh us [] h1
 rw[List.append_nil]at h4
 constructor
 ·rw[j1u (by omega) (by rw[h2];show ¬(0:Int)≤-1;decide),h2]
  unfold q6j
  rw[h4]
  rfl
 ·unfold qK
  rw[h2]
  simp only[]
  rw[h4]
  exact h3
theorem q3X (x:By):∀F:zh,zg (q1f F) x=zg F x:=by
 intro F
 induction F with
 |nil=>rfl
 |node p sp y l r ihl ihr =>
  cases l with
  |nil=>rfl
  |node a b c e f =>
   show(!(y.word==[101,120,105,115,116,115]&&y.args==[x])&&(zg (q1f (.node a b c e f)) x || zg (q1f r) x))=(!(y.word==[101,120,105,115,116,115]&&y.args==[x])&&(zg (.node a b c e f) x || zg r x))
   rw[ihl,ihr]
theorem j8A {p sp:Nat}{y:Pay}{l r:zh}:(q1t (.node 0 0 y (q1f l) (q1f r))).length=(q1t (.node p sp y l r)).length:=by
 cases l with
 |nil=>rfl
 |node a b c e f=>cases r<;>rfl
theorem j0F:∀F:zh,q1e (q1f F)=q1e F:=by
 intro F
 cases F with
 |nil=>rfl
 |node p sp y l r =>
  show(if y.word==[101,120,105,115,116,115]then !(zg (q1f l) (y.args.headD []))else if (q1t (.node 0 0 y (q1f l) (q1f r))).length<2 || y.word==[97,110,100]then false else q2k y.word (zg (q1f l) [120]) (zg (q1f r) [120]) || q2k y.word (zg (q1f l) [121]) (zg (q1f r) [121]))=(if y.word==[101,120,105,115,116,115]then !(zg l (y.args.headD []))else if (q1t (.node p sp y l r)).length<2 || y.word==[97,110,100]then false else q2k y.word (zg l [120]) (zg r [120]) || q2k y.word (zg l [121]) (zg r [121]))
  rw[q3X,q3X,q3X,q3X,q3X,j8A (p:=p) (sp:=sp)]
theorem j0D:∀F:zh,qv (q1f F)=qv F:=by
 intro F
 cases F<;>rfl
theorem j2h:∀F:zh,qF (q1f F)=qF F:=by
 intro F
 cases F<;>rfl
theorem j2i:∀F:zh,zv (q1f F)=(zv F).map q1f:=by
 intro F
 induction F with
 |nil=>rfl
 |node p sp y l r ihl ihr=>simp only[q1f,zv,ihl,ihr,List.map_cons,List.map_append]
theorem q2O:∀F:zh,-1≤zf F:=by
 intro F
 induction F with
 |nil=>exact Int.le_refl _
 |node p sp y l r ihl ihr =>
  rw[zf]
  have h1:-1≤mxI (mxI (-1) (zf l)) (zf r):=by unfold mxI;split<;>(try split)<;>omega
  split
  ·split<;>omega
  ·exact h1
def q7H (F:zh):Prop:=∀G∈zv F,qv G=false∧qF G=false∧q1e G=false
theorem j6x {F F':zh}(h:q1f F'=q1f F)(hn:q7H F):q7H F':=by
 intro G hG
 have h1:q1f G∈zv (q1f F'):=by rw[j2i];exact List.mem_map_of_mem hG
 rw[h,j2i]at h1
 obtain⟨G',hG',e⟩:=List.mem_map.1 h1
 obtain⟨a,b,c⟩:=hn G' hG'
 rw[←j0D,←j2h G,←j0F G,←e,j0D,j2h,j0F]
 exact⟨a,b,c⟩
theorem j5v {F:zh}(h:q7H F):q0F F=(0,0):=by
 unfold q0F
 have h1:(zv F).find? qv=none:=List.find?_eq_none.2 (fun G hG=>by rw[(h G hG).1];decide)
 have h2:(zv F).find? qF=none:=List.find?_eq_none.2 (fun G hG=>by rw[(h G hG).2.1];decide)
 have h3:(zv F).find? q1e=none:=List.find?_eq_none.2 (fun G hG=>by rw[(h G hG).2.2];decide)
 rw[h1,h2,h3]
structure Fine (F:zh):Prop where
 well:q3V F
 toks:∀t∈qJ F,TokT t
 nobad:q7H F
theorem j0O {F:zh}(h:Fine F)(hh:hgt F≤8)(hl:(zy F).length≤240):qe (zy F)=(0,0)∧q1f (qK (zy F))=q1f F:=by
 obtain⟨h1,h2⟩:=j8K F h.well h.toks hh hl
 refine⟨?_,h2⟩
 unfold qe
 rw[if_neg (by rw[h1];simp)]
 exact j5v (j6x h2 h.nobad)
theorem q8m {F F':zh}(h:q1f F'=q1f F)(x:By):zg F' x=zg F x:=by rw[←q3X,h,q3X]
def zk (s:By)(i n:Nat):Nat × Nat:=if s.length≤i then(0,i)else((s.getD i 0).toNat % n,i+1)
theorem qj (s:By)(i:Nat){n:Nat}(h:0<n):(zk s i n).1<n:=by
 unfold zk
 split
 ·exact h
 ·exact Nat.mod_lt _ h
def nmK (k:Nat):By:=if k=0 then [112]else if k=1 then [113]else [114]
def q1X (k:Nat):By:=if k=0 then [120]else if k=1 then [121]else if k=2 then [49]else [50]
def evF (n:By)(gs:List (By)):zh:=.node 0 0 ⟨n,gs,[],[]⟩ .nil .nil
def q7c:zh:=.node 0 0 ⟨[116,114,117,101],[],[],[]⟩ .nil .nil
def opF (w:By)(lo hi:By)(l r:zh):zh:=.node 0 0 ⟨w,[],lo,hi⟩ l r
def exF (v:By)(l:zh):zh:=.node 0 0 ⟨[101,120,105,115,116,115],[v],[],[]⟩ l .nil
theorem q5T (c:UInt8)(h:inB [c] q1j=true):TokT [c]:=⟨.inl ⟨c,rfl,h⟩⟩
theorem q1D (t:By)(h0:t≠[])(h:(t.all fun c=>q0n (c.toNat:Int))=true)(hl:t.length≤8):TokT t:=⟨.inr (.inr ⟨h0,fun c hc=>List.all_eq_true.1 h c hc,hl⟩)⟩
theorem q3p {p sp:Nat}{y:Pay}{l r:zh}(hl:q7H l)(hr:q7H r)(h:qv (.node p sp y l r)=false∧qF (.node p sp y l r)=false∧q1e (.node p sp y l r)=false):q7H (.node p sp y l r):=by
 intro G hG
 rw[zv]at hG
 rcases List.mem_cons.1 hG with rfl|hG
 ·exact h
 ·rcases List.mem_append.1 hG with hG|hG
  ·exact hl G hG
  ·exact hr G hG
theorem q3w:q7H .nil:=fun G hG=>by simp[zv]at hG
theorem q9z (k:Nat):zx (nmK k)=true∧TokT (nmK k)∧(nmK k).length=1∧qE (nmK k)=false∧qB (nmK k)=false∧q0y (nmK k)=false∧(nmK k==[101,120,105,115,116,115])=false:=by
 unfold nmK
 split
 ·exact⟨by decide,q1D _ (by decide) (by decide) (by decide),by decide,by decide,by decide,by decide,by decide⟩
 ·split
  ·exact⟨by decide,q1D _ (by decide) (by decide) (by decide),by decide,by decide,by decide,by decide,by decide⟩
  ·exact⟨by decide,q1D _ (by decide) (by decide) (by decide),by decide,by decide,by decide,by decide,by decide⟩
theorem q8j (k:Nat):q5u (q1X k)=true∧TokT (q1X k)∧(q1X k).length=1:=by
 unfold q1X
 split
 ·exact⟨by decide,q1D _ (by decide) (by decide) (by decide),by decide⟩
 ·split
  ·exact⟨by decide,q1D _ (by decide) (by decide) (by decide),by decide⟩
  ·split
   ·exact⟨by decide,⟨.inr (.inl ⟨by decide,by decide,by decide⟩)⟩,by decide⟩
   ·exact⟨by decide,⟨.inr (.inl ⟨by decide,by decide,by decide⟩)⟩,by decide⟩
theorem j1C:TokT [40]:=q5T 40 (by decide)
theorem j1D:TokT [41]:=q5T 41 (by decide)
theorem j2S:TokT [44]:=q5T 44 (by decide)
theorem sgn91:TokT [91]:=q5T 91 (by decide)
theorem sgn93:TokT [93]:=q5T 93 (by decide)
structure FineB (F:zh)(h t:Nat):Prop where
 fine:Fine F
 hgt:hgt F≤h
 len:(zy F).length≤t
theorem FineB.mono {F:zh}{h t h' t':Nat}(f:FineB F h t)(hh:h≤h')(ht:t≤t'):FineB F h' t':=⟨f.fine,zM f.hgt hh,zM f.len ht⟩
theorem fine_ev1 (k a:Nat):FineB (evF (nmK k) [q1X a]) 1 6:=by
 obtain⟨n1,n2,n3,n4,n5,n6,n7⟩:=q9z k
 obtain⟨a1,a2,a3⟩:=q8j a
 refine⟨⟨.inl ⟨n1,rfl,rfl,rfl,rfl,q1X a,a1,.inl rfl⟩,?_,q3p q3w q3w ⟨?_,?_,?_⟩⟩,by simp[evF,hgt],?_⟩
 ·unfold evF
  simp only[qJ,n1,if_true]
  simp[n2,a2,j1C,j1D]
 ·unfold qv q2p;simp only[n4,n5];rfl
 ·unfold qF q2p;simp only[n6];rfl
 ·unfold q1e;simp only[n7];rfl
 ·unfold evF
  simp only[zy,n1,if_true]
  simp[n3,a3]
theorem j8H:FineB q7c 1 6:=by
 refine⟨⟨.inr (.inr (.inr (.inr (.inr ⟨rfl,rfl,rfl,rfl,rfl,rfl⟩)))),?_,q3p q3w q3w ⟨by decide,by decide,by decide⟩⟩,by simp[q7c,hgt],by decide⟩
 intro t ht
 have:t=[116,114,117,101]:=by
  have e:qJ q7c=[[116,114,117,101]]:=by decide
  rw[e]at ht
  simpa using ht
 subst this
 exact q1D _ (by decide) (by decide) (by decide)
theorem j7S {F:zh}{h t:Nat}(f:FineB F h t)(v:By)(hv:q1h v=true)(hf:zg F v=true):FineB (exF v F) (h+1) (t+10):=by
 have hW:=f.fine.well
 have hne:F≠.nil:=by intro e;rw[e]at hW;exact hW
 have k1:zx [101,120,105,115,116,115]=false:=by decide
 have hvl:v.length=1∧TokT v:=by
  unfold q1h at hv
  simp at hv
  rcases hv with rfl|rfl
  ·exact⟨rfl,q1D _ (by decide) (by decide) (by decide)⟩
  ·exact⟨rfl,q1D _ (by decide) (by decide) (by decide)⟩
 refine⟨⟨.inr (.inl ⟨rfl,rfl,rfl,rfl,hW,v,hv,rfl⟩),?_,q3p f.fine.nobad q3w ⟨by rfl,by rfl,?_⟩⟩,?_,?_⟩
 ·unfold exF
  simp only[qJ,k1,Bool.false_eq_true,if_false,beq_self_eq_true,if_true,List.headD_cons]
  intro q hq
  simp only[List.mem_cons,List.mem_append,List.not_mem_nil,or_false]at hq
  rcases hq with rfl|rfl|rfl|hq|rfl
  ·exact q1D _ (by decide) (by decide) (by decide)
  ·exact hvl.2
  ·exact j1C
  ·exact f.fine.toks q hq
  ·exact j1D
 ·unfold q1e
  simp only[beq_self_eq_true,if_true,List.headD_cons,hf]
  rfl
 ·have:=f.hgt
  simp[exF,hgt]
  omega
 ·have:=f.len
  unfold exF
  simp only[zy,k1,Bool.false_eq_true,if_false,beq_self_eq_true,if_true,List.headD_cons]
  simp[hvl.1]
  omega
theorem q6c {A B:zh}{h t:Nat}(fa:FineB A h t)(fb:FineB B h t)(w:By)(hw:qh w=true)(hb:w=[97,110,100]∨(q2k w (zg A [120]) (zg B [120])=false∧q2k w (zg A [121]) (zg B [121])=false)):FineB (opF w [] [] A B) (h+1) (t+t+6):=by
 have k:=q0a.1 hw
 have k2:qE w=false∧qB w=false∧q0y w=false∧w.length≤3∧TokT w:=by
  unfold qh inB q3O at hw
  simp at hw
  rcases hw with hw|hw|hw<;>subst hw<;>exact⟨by decide,by decide,by decide,by decide,q1D _ (by decide) (by decide) (by decide)⟩
 refine⟨⟨.inr (.inr (.inl ⟨hw,rfl,rfl,rfl,fa.fine.well,fb.fine.well⟩)),?_,q3p fa.fine.nobad fb.fine.nobad ⟨?_,?_,?_⟩⟩,?_,?_⟩
 ·unfold opF
  simp only[qJ,k.1,k.2,hw,Bool.false_eq_true,if_false,if_true]
  intro q hq
  simp only[List.mem_cons,List.mem_append,List.not_mem_nil,or_false]at hq
  rcases hq with rfl|rfl|hq|rfl|hq|rfl
  ·exact k2.2.2.2.2
  ·exact j1C
  ·exact fa.fine.toks q hq
  ·exact j2S
  ·exact fb.fine.toks q hq
  ·exact j1D
 ·unfold qv q2p;simp only[k2.1,k2.2.1];rfl
 ·unfold qF q2p;simp only[k2.2.2.1];rfl
 ·unfold q1e
  simp only[k.2,Bool.false_eq_true,if_false]
  rcases hb with rfl|⟨b1,b2⟩
  ·rw[if_pos (by simp)]
  ·rw[b1,b2]
   split<;>rfl
 ·have:=fa.hgt
  have:=fb.hgt
  simp[opF,hgt]
  omega
 ·have:=fa.len
  have:=fb.len
  have:=k2.2.2.2.1
  unfold opF
  simp only[zy,k.1,k.2,hw,Bool.false_eq_true,if_false,if_true]
  simp
  omega
end Go.Proofs.YtiamjjonoeaggaaGreatDoor
