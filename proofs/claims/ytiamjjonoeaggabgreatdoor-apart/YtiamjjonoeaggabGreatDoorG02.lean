import Derived.Test.YtiamjjonoeaggabGreatDoorGA
import Derived.Test.YtiamjjonoeaggabGreatDoorG01
namespace Go.Proofs.YtiamjjonoeaggabGreatDoor
open Go.RowKit
def q0V (t:By):Bool:=match t with
 | []=>false
 |c::_=>q0s (c.toNat:Int)
def q7W (t:By):Bool:=match t with
 | []=>false
 |c::_=>qd (c.toNat:Int)
def q1u:List (By)→By
 | []=>[]
 |t::r=>t++(if q0V t&&q0V (r.headD [])then 32::q1u r else q1u r)
structure TokT (t:By):Prop where
 shape:(∃c,t=[c]∧inB [c] q1p=true)∨(t≠[]∧(∀c∈t,qd (c.toNat:Int)=true)∧t.length≤3)∨(t≠[]∧(∀c∈t,q0s (c.toNat:Int)=true)∧t.length≤8)
theorem j8w {c:UInt8}(h:q0s (c.toNat:Int)=true):qd (c.toNat:Int)=false:=by
 unfold q0s at h;unfold qd;simp at h ⊢;omega
theorem dig_let {c:UInt8}(h:qd (c.toNat:Int)=true):q0s (c.toNat:Int)=false:=by
 unfold qd at h;unfold q0s;simp at h ⊢;omega
theorem q9Y {c:UInt8}(h:inB [c] q1p=true):q0s (c.toNat:Int)=false∧qd (c.toNat:Int)=false∧q2i c=false:=by
 unfold inB q1p at h
 simp at h
 rcases h with h|h|h|h|h|h<;>subst h<;>decide
theorem z0g:∀(r rest:By) (c:UInt8),q0s (c.toNat:Int)=true→(∀d∈r,q0s (d.toNat:Int)=true)→q0V rest=false→q0j c (r++rest)=r.length:=by
 intro r
 induction r with
 |nil =>
  intro rest c hc _ hr
  cases rest with
  |nil=>rfl
  |cons d q =>
   have hd:q0s (d.toNat:Int)=false:=hr
   show(if q5q (c.toNat:Int) (d.toNat:Int)then q0j d q+1 else 0)=0
   rw[if_neg]
   unfold q5q
   rw[hd,j8w hc]
   simp
 |cons d r ih =>
  intro rest c hc hr hw
  have hd:=hr d (by simp)
  show(if q5q (c.toNat:Int) (d.toNat:Int)then q0j d (r++rest)+1 else 0)=r.length+1
  rw[if_pos (by unfold q5q;rw[hc,hd];simp),ih rest d hd (fun x hx=>hr x (by simp[hx])) hw]
theorem z0f:∀(r rest:By) (c:UInt8),qd (c.toNat:Int)=true→(∀d∈r,qd (d.toNat:Int)=true)→q7W rest=false→q0j c (r++rest)=r.length:=by
 intro r
 induction r with
 |nil =>
  intro rest c hc _ hr
  cases rest with
  |nil=>rfl
  |cons d q =>
   have hd:qd (d.toNat:Int)=false:=hr
   show(if q5q (c.toNat:Int) (d.toNat:Int)then q0j d q+1 else 0)=0
   rw[if_neg]
   unfold q5q
   rw[hd,dig_let hc]
   simp
 |cons d r ih =>
  intro rest c hc hr hw
  have hd:=hr d (by simp)
  show(if q5q (c.toNat:Int) (d.toNat:Int)then q0j d (r++rest)+1 else 0)=r.length+1
  rw[if_pos (by unfold q5q;rw[hc,hd];simp),ih rest d hd (fun x hx=>hr x (by simp[hx])) hw]
theorem z0d (rest:By)(c:UInt8)(h:inB [c] q1p=true):q0j c rest=0:=by
 cases rest with
 |nil=>rfl
 |cons d q =>
  show(if q5q (c.toNat:Int) (d.toNat:Int)then q0j d q+1 else 0)=0
  rw[if_neg]
  unfold q5q
  rw[(q9Y h).1,(q9Y h).2.1]
  simp
theorem j5y {s:By}{i f:Nat}{acc:List Tok}{t rest:By}(hs:s.drop i=t++rest)(ht:TokT t)(h1:q0V t=true→q0V rest=false)(h2:q7W t=true→q7W rest=false):q2h s (f+1) i acc=q2h s f (i+t.length) (acc++[⟨t,i⟩]):=by
 have hne:t≠[]:=by rcases ht.shape with⟨c,rfl,_⟩|⟨h,_⟩|⟨h,_⟩<;>simp_all
 obtain⟨c,r,rfl⟩:=List.exists_cons_of_ne_nil hne
 have hi:i<s.length:=by
  rcases Nat.lt_or_ge i s.length with g|g
  ·exact g
  ·rw[List.drop_eq_nil_of_le g]at hs;simp at hs
 have hc:s.getD i 0=c:=by
  have e:s.drop i=s[i]::s.drop (i+1):=List.drop_eq_getElem_cons hi
  rw[e]at hs
  simp only[List.cons_append,List.cons.injEq]at hs
  rw[←hs.1]
  simp[List.getD,hi]
 have hd:s.drop (i+1)=r++rest:=by
  have e:s.drop i=s[i]::s.drop (i+1):=List.drop_eq_getElem_cons hi
  rw[e]at hs
  simp only[List.cons_append,List.cons.injEq]at hs
  exact hs.2
 have hend:qv s i=i+(c::r).length:=by
  unfold qv
  rw[hc,hd]
  rcases ht.shape with⟨c',e,hg⟩|⟨_,hg,_⟩|⟨_,hg,_⟩
  ·injection e with e1 e2
   subst e1 e2
   rw[z0d _ _ hg]
   simp
  ·rw[z0f r rest c (hg c (by simp)) (fun d hd=>hg d (by simp[hd])) (h2 (hg c (by simp)))]
   simp;omega
  ·rw[z0g r rest c (hg c (by simp)) (fun d hd=>hg d (by simp[hd])) (h1 (hg c (by simp)))]
   simp;omega
 have hcut:cut s i (i+(c::r).length)=c::r:=by
  unfold cut
  rw[hs,show i+(c::r).length-i=(c::r).length by omega,List.take_left']
  rfl
 have hb:q2i c=false:=by
  rcases ht.shape with⟨c',e,hg⟩|⟨_,hg,_⟩|⟨_,hg,_⟩
  ·injection e with e1 e2
   subst e1
   exact(q9Y hg).2.2
  ·have:=hg c (by simp)
   unfold qd at this
   unfold q2i
   simp at this ⊢
   constructor<;>(intro e;rw[e]at this;revert this;decide)
  ·have:=hg c (by simp)
   unfold q0s at this
   unfold q2i
   simp at this ⊢
   constructor<;>(intro e;rw[e]at this;revert this;decide)
 have hok:q3S c (c::r)=true:=by
  unfold q3S
  rcases ht.shape with⟨c',e,hg⟩|⟨_,hg,hl⟩|⟨_,hg,hl⟩
  ·rw[e,hg];rfl
  ·rw[hg c (by simp),decide_eq_true hl];simp
  ·rw[hg c (by simp),decide_eq_true hl];simp
 rw[q2h,if_neg (by omega),hc,hb,hend,hcut,if_neg (by simp),if_pos hok]
theorem j7m {s:By}{i f:Nat}{acc:List Tok}{rest:By}(hs:s.drop i=32::rest):q2h s (f+1) i acc=q2h s f (i+1) acc:=by
 have hi:i<s.length:=by
  rcases Nat.lt_or_ge i s.length with g|g
  ·exact g
  ·rw[List.drop_eq_nil_of_le g]at hs;simp at hs
 have hc:s.getD i 0=32:=by
  have e:s.drop i=s[i]::s.drop (i+1):=List.drop_eq_getElem_cons hi
  rw[e]at hs
  simp only[List.cons.injEq]at hs
  rw[←hs.1]
  simp[List.getD,hi]
 rw[q2h,if_neg (by omega),hc,if_pos (by decide)]
def Nums:List (By)→Prop
 | []=>True
 |t::r=>(q7W t=true→q7W (r.headD [])=false)∧Nums r
theorem j9m {ts:List (By)}(h:∀t∈ts,TokT t):q0V (q1u ts)=q0V (ts.headD [])∧q7W (q1u ts)=q7W (ts.headD []):=by
 cases ts with
 |nil=>exact⟨rfl,rfl⟩
 |cons t r =>
  have hne:t≠[]:=by rcases(h t (by simp)).shape with⟨c,rfl,_⟩|⟨h,_⟩|⟨h,_⟩<;>simp_all
  obtain⟨c,q,rfl⟩:=List.exists_cons_of_ne_nil hne
  exact⟨rfl,rfl⟩
theorem glue_tok {t:By}(h:TokT t):0<t.length:=by
 rcases h.shape with⟨c,rfl,_⟩|⟨h,_⟩|⟨h,_⟩
 ·simp
 ·exact List.length_pos_iff.2 h
 ·exact List.length_pos_iff.2 h
theorem lex_glue:∀(ts:List (By)),(∀t∈ts,TokT t)→Nums ts→∀(s:By) (i f:Nat) (acc:List Tok),s.drop i=q1u ts→s.length-i≤f→∃us:List Tok,us.map Tok.text=ts∧q2h s f i acc=(acc++us,-1):=by
 intro ts
 induction ts with
 |nil =>
  intro _ _ s i f acc hs _
  have hi:s.length≤i:=List.drop_eq_nil_iff.1 hs
  refine⟨[],rfl,?_⟩
  cases f with
  |zero=>simp[q2h]
  |succ f=>rw[q2h,if_pos hi];simp
 |cons t r ih =>
  intro hT hN s i f acc hs hf
  have hg:=j9m (ts:=r) (fun x hx=>hT x (by simp[hx]))
  have ht:=hT t (by simp)
  have hp:=glue_tok ht
  have hlen:s.length-i=(q1u (t::r)).length:=by rw[←hs];simp
  cases hw:(q0V t&&q0V (r.headD []))with
  |true =>
   have e:q1u (t::r)=t++32::q1u r:=by show t++(if (q0V t&&q0V (r.headD []))=true then 32::q1u r else q1u r)=_;rw[if_pos hw]
   rw[e]at hs hlen
   simp only[List.length_append,List.length_cons]at hlen
   obtain⟨f',rfl⟩:∃f',f=f'+1+1:=⟨f-2,by omega⟩
   rw[j5y hs ht (fun _=>rfl) (fun _=>rfl)]
   have hs2:s.drop (i+t.length)=32::q1u r:=by rw[←List.drop_drop,hs];simp
   rw[j7m hs2]
   have hs3:s.drop (i+t.length+1)=q1u r:=by rw[←List.drop_drop,hs2];simp
   obtain⟨us,h1,h2⟩:=ih (fun x hx=>hT x (by simp[hx])) hN.2 s (i+t.length+1) f' (acc++[⟨t,i⟩]) hs3 (by omega)
   exact⟨⟨t,i⟩::us,by simp[h1],by rw[h2];simp⟩
  |false =>
   have e:q1u (t::r)=t++q1u r:=by show t++(if (q0V t&&q0V (r.headD []))=true then 32::q1u r else q1u r)=_;rw[if_neg (by rw[hw];simp)]
   rw[e]at hs hlen
   simp only[List.length_append]at hlen
   obtain⟨f',rfl⟩:∃f',f=f'+1:=⟨f-1,by omega⟩
   rw[j5y hs ht (fun hwt=>by rw[hg.1];rw[hwt]at hw;simpa using hw) (fun hnt=>by rw[hg.2];exact hN.1 hnt)]
   have hs3:s.drop (i+t.length)=q1u r:=by rw[←List.drop_drop,hs];simp
   obtain⟨us,h1,h2⟩:=ih (fun x hx=>hT x (by simp[hx])) hN.2 s (i+t.length) f' (acc++[⟨t,i⟩]) hs3 (by omega)
   exact⟨⟨t,i⟩::us,by simp[h1],by rw[h2];simp⟩
theorem j9C (ts:List (By))(hT:∀t∈ts,TokT t)(hN:Nums ts):∃us:List Tok,us.map Tok.text=ts∧q0Y (q1u ts)=(us,-1):=by
 obtain⟨us,h1,h2⟩:=lex_glue ts hT hN (q1u ts) 0 (q1u ts).length [] rfl (by omega)
 exact⟨us,h1,by unfold q0Y;simpa using h2⟩
def q0c:zg→List (By)
 | .nil=>[]
 | .node _ _ y l r =>
  if zx y.word then y.word::[40]::(match y.args with
   | [a]=>[a,[41]]
   | [a,b]=>[a,[44],b,[41]]
   |_=>[[41]])
  else if y.word==[101,120,105,115,116,115]then y.word::y.args.headD []::[40]::(q0c l++[[41]])
  else if qj y.word then y.word::[40]::(q0c l++[44]::(q0c r++[[41]]))
  else if qJ y.word then y.word::[91]::y.lo::[44]::y.hi::[93]::[40]::(q0c l++[[41]])
  else if qG y.word then y.word::[91]::y.lo::[44]::y.hi::[93]::[40]::(q0c l++[44]::(q0c r++[[41]]))
  else [y.word]
def q4h:zg→Prop
 | .nil=>False
 | .node _ _ y l r =>
  (zx y.word=true∧y.lo=[]∧y.hi=[]∧l=.nil∧r=.nil∧∃a,q5F a=true∧(y.args=[a]∨∃b,q5F b=true∧y.args=[a,b])) ∨
  (y.word=[101,120,105,115,116,115]∧y.lo=[]∧y.hi=[]∧r=.nil∧q4h l∧∃v,q1l v=true∧y.args=[v]) ∨
  (qj y.word=true∧y.args=[]∧y.lo=[]∧y.hi=[]∧q4h l∧q4h r) ∨
  (qJ y.word=true∧y.args=[]∧r=.nil∧q4m y.lo=true∧q4k y.hi=true∧q4h l) ∨
  (qG y.word=true∧y.args=[]∧q4m y.lo=true∧q4k y.hi=true∧q4h l∧q4h r) ∨
  (y.word=[116,114,117,101]∧y.args=[]∧y.lo=[]∧y.hi=[]∧l=.nil∧r=.nil)
def hgt:zg→Nat
 | .nil=>0
 | .node _ _ _ l r=>1+max (hgt l) (hgt r)
def q1k:zg→zg
 | .nil=>.nil
 | .node _ _ y l r=>.node 0 0 y (q1k l) (q1k r)
theorem qt {α β:Type}{x:q6O α}{f:α→List Tok→q6O β}{a:α}{r:List Tok}(h:x=.inr (a,r)):qC x f=f a r:=by rw[h];rfl
theorem q0o {p:By→Bool}{t:Tok}{r:List Tok}(h:p t.text=true):q0t p (t::r)=.inr (t,r):=by simp[q0t,h]
theorem q1V {c:By}{t:Tok}(h:t.text=c):qB c t.text=true:=by unfold qB;rw[h];simp
theorem map_cons {us:List Tok}{t:By}{r:List (By)}(h:us.map Tok.text=t::r):∃(a:Tok) (vs:List Tok),us=a::vs∧a.text=t∧vs.map Tok.text=r:=by
 cases us with
 |nil=>simp at h
 |cons a vs=>simp at h;exact⟨a,vs,rfl,h.1,h.2⟩
theorem q7D {us:List Tok}{a b:List (By)}(h:us.map Tok.text=a++b):∃xs ys:List Tok,us=xs++ys∧xs.map Tok.text=a∧ys.map Tok.text=b:=List.map_eq_append_iff.1 h
theorem q0d {t:By}:(qj t=true→zx t=false∧(t==[101,120,105,115,116,115])=false)∧(qJ t=true→zx t=false∧(t==[101,120,105,115,116,115])=false∧qj t=false)∧(qG t=true→zx t=false∧(t==[101,120,105,115,116,115])=false∧qj t=false∧qJ t=false):=by
 refine⟨fun h=>?_,fun h=>?_,fun h=>?_⟩
 ·unfold qj inB q4c at h
  simp at h
  rcases h with h|h|h<;>subst h<;>decide
 ·unfold qJ inB q9u at h
  simp at h
  rcases h with h|h|h|h<;>subst h<;>decide
 ·unfold qG inB q8m at h
  simp at h
  rcases h with h|h|h|h<;>subst h<;>decide
theorem j1G {sp lo c hi e:Tok}{r:List Tok}(h1:sp.text=[91])(h2:q4m lo.text=true)(h3:c.text=[44])(h4:q4k hi.text=true)(h5:e.text=[93]):q2r (sp::lo::c::hi::e::r)=.inr ((sp.pos,lo.text,hi.text),r):=by
 unfold q2r
 rw[qt (q0o (q1V h1)),qt (q0o h2),qt (q0o (q1V h3)),qt (q0o h4),qt (q0o (q1V h5))]
theorem j5H:∀(F:zg),q4h F→∀(n:Nat),hgt F≤n→∀(us r:List Tok),us.map Tok.text=q0c F→∃F',q1k F'=q1k F∧q0A n (us++r)=.inr (F',r):=by
 intro F
 induction F with
 |nil=>intro h;exact absurd h (by simp[q4h])
 |node p sp y l r ihl ihr =>
  intro hW n hn us q hu
  obtain⟨m,rfl⟩:∃m,n=m+1:=⟨n-1,by simp[hgt]at hn;omega⟩
  have hl:hgt l≤m:=by simp[hgt]at hn;omega
  have hr:hgt r≤m:=by simp[hgt]at hn;omega
  obtain⟨yw,ya,ylo,yhi⟩:=y
  simp only[q4h]at hW
  rcases hW with⟨hN,e1,e2,e3,e4,a,ha,hargs⟩|⟨hw,e1,e2,e3,hl',v,hv,ea⟩|⟨hw,ea,e1,e2,hl',hr'⟩|⟨hw,ea,e3,n1,n2,hl'⟩|⟨hw,ea,n1,n2,hl',hr'⟩|⟨hw,ea,e1,e2,e3,e4⟩
  ·subst e1 e2 e3 e4
   rcases hargs with rfl|⟨b,hb,rfl⟩
   ·simp only[q0c,hN,if_true]at hu
    obtain⟨t1,u1,rfl,x1,hu⟩:=map_cons hu
    obtain⟨t2,u2,rfl,x2,hu⟩:=map_cons hu
    obtain⟨t3,u3,rfl,x3,hu⟩:=map_cons hu
    obtain⟨t4,u4,rfl,x4,hu⟩:=map_cons hu
    have:u4=[]:=by simpa using hu
    subst this
    refine⟨.node t1.pos 0 ⟨t1.text,[t3.text],[],[]⟩ .nil .nil,by simp[q1k,x1,x3],?_⟩
    simp only[List.cons_append,List.nil_append]
    rw[q0A]
    simp only[hd,x1,hN,if_true]
    rw[qt (q0o (by rw[x1];exact hN)),qt (q0o (q1V x2)),qt (q0o (by rw[x3];exact ha))]
    have hm:q1P (t4::q)=.inr ([],t4::q):=by unfold q1P;simp only[hd,x4];rfl
    rw[qt hm,qt (q0o (q1V x4))]
    rw[x1]
   ·simp only[q0c,hN,if_true]at hu
    obtain⟨t1,u1,rfl,x1,hu⟩:=map_cons hu
    obtain⟨t2,u2,rfl,x2,hu⟩:=map_cons hu
    obtain⟨t3,u3,rfl,x3,hu⟩:=map_cons hu
    obtain⟨t4,u4,rfl,x4,hu⟩:=map_cons hu
    obtain⟨t5,u5,rfl,x5,hu⟩:=map_cons hu
    obtain⟨t6,u6,rfl,x6,hu⟩:=map_cons hu
    have:u6=[]:=by simpa using hu
    subst this
    refine⟨.node t1.pos 0 ⟨t1.text,[t3.text,t5.text],[],[]⟩ .nil .nil,by simp[q1k,x1,x3,x5],?_⟩
    simp only[List.cons_append,List.nil_append]
    rw[q0A]
    simp only[hd,x1,hN,if_true]
    rw[qt (q0o (by rw[x1];exact hN)),qt (q0o (q1V x2)),qt (q0o (by rw[x3];exact ha))]
    have hm:q1P (t4::t5::t6::q)=.inr ([t5.text],t6::q):=by
     unfold q1P
     simp only[hd,x4]
     rw[if_pos (by decide),qt (q0o (q1V x4)),qt (q0o (by rw[x5];exact hb))]
    rw[qt hm,qt (q0o (q1V x6))]
    rw[x1]
  ·subst hw e1 e2 e3 ea
   have k1:zx [101,120,105,115,116,115]=false:=by decide
   simp only[q0c,k1,Bool.false_eq_true,if_false,beq_self_eq_true,if_true,List.headD_cons]at hu
   obtain⟨t1,u1,rfl,x1,hu⟩:=map_cons hu
   obtain⟨t2,u2,rfl,x2,hu⟩:=map_cons hu
   obtain⟨t3,u3,rfl,x3,hu⟩:=map_cons hu
   obtain⟨ul,u4,rfl,hul,hu⟩:=q7D hu
   obtain⟨t5,u5,rfl,x5,hu⟩:=map_cons hu
   have:u5=[]:=by simpa using hu
   subst this
   obtain⟨A,hA,hpA⟩:=ihl hl' m hl ul (t5::q) hul
   refine⟨.node t1.pos 0 ⟨t1.text,[t2.text],[],[]⟩ A .nil,by simp[q1k,x1,x2,hA],?_⟩
   simp only[List.cons_append,List.append_assoc,List.nil_append]
   rw[q0A]
   simp only[hd,x1,k1,Bool.false_eq_true,if_false,beq_self_eq_true,if_true]
   rw[qt (q0o (q1V x1)),qt (q0o (by rw[x2];exact hv)),qt (q0o (q1V x3)),qt hpA,qt (q0o (q1V x5))]
   rw[x1]
  ·have k:=q0d.1 hw
   subst e1 e2 ea
   simp only[q0c,k.1,k.2,hw,Bool.false_eq_true,if_false,if_true]at hu
   obtain⟨t1,u1,rfl,x1,hu⟩:=map_cons hu
   obtain⟨t2,u2,rfl,x2,hu⟩:=map_cons hu
   obtain⟨ul,u4,rfl,hul,hu⟩:=q7D hu
   obtain⟨t3,u3,rfl,x3,hu⟩:=map_cons hu
   obtain⟨ur,u4,rfl,hur,hu⟩:=q7D hu
   obtain⟨t5,u5,rfl,x5,hu⟩:=map_cons hu
   have:u5=[]:=by simpa using hu
   subst this
   obtain⟨A,hA,hpA⟩:=ihl hl' m hl ul (t3::(ur++(t5::q))) hul
   obtain⟨B,hB,hpB⟩:=ihr hr' m hr ur (t5::q) hur
   refine⟨.node t1.pos 0 (q8i t1.text) A B,by simp[q1k,q8i,x1,hA,hB],?_⟩
   simp only[List.cons_append,List.append_assoc,List.nil_append]
   rw[q0A]
   simp only[hd,x1,k.1,k.2,hw,Bool.false_eq_true,if_false,if_true]
   rw[qt (q0o (q1V x1)),qt (q0o (q1V x2)),qt hpA,qt (q0o (q1V x3)),qt hpB,qt (q0o (q1V x5))]
   rw[x1]
  ·have k:=q0d.2.1 hw
   subst e3 ea
   simp only[q0c,k.1,k.2.1,k.2.2,hw,Bool.false_eq_true,if_false,if_true]at hu
   obtain⟨t1,u1,rfl,x1,hu⟩:=map_cons hu
   obtain⟨s1,u1,rfl,y1,hu⟩:=map_cons hu
   obtain⟨s2,u1,rfl,y2,hu⟩:=map_cons hu
   obtain⟨s3,u1,rfl,y3,hu⟩:=map_cons hu
   obtain⟨s4,u1,rfl,y4,hu⟩:=map_cons hu
   obtain⟨s5,u1,rfl,y5,hu⟩:=map_cons hu
   obtain⟨t2,u2,rfl,x2,hu⟩:=map_cons hu
   obtain⟨ul,u4,rfl,hul,hu⟩:=q7D hu
   obtain⟨t5,u5,rfl,x5,hu⟩:=map_cons hu
   have:u5=[]:=by simpa using hu
   subst this
   obtain⟨A,hA,hpA⟩:=ihl hl' m hl ul (t5::q) hul
   refine⟨.node t1.pos s1.pos ⟨t1.text,[],s2.text,s4.text⟩ A .nil,by simp[q1k,x1,y2,y4,hA],?_⟩
   simp only[List.cons_append,List.append_assoc,List.nil_append]
   rw[q0A]
   simp only[hd,x1,k.1,k.2.1,k.2.2,hw,Bool.false_eq_true,if_false,if_true]
   rw[qt (q0o (q1V x1)),qt (j1G y1 (by rw[y2];exact n1) y3 (by rw[y4];exact n2) y5),qt (q0o (q1V x2)),qt hpA,qt (q0o (q1V x5))]
   rw[x1]
  ·have k:=q0d.2.2 hw
   subst ea
   simp only[q0c,k.1,k.2.1,k.2.2.1,k.2.2.2,hw,Bool.false_eq_true,if_false,if_true]at hu
   obtain⟨t1,u1,rfl,x1,hu⟩:=map_cons hu
   obtain⟨s1,u1,rfl,y1,hu⟩:=map_cons hu
   obtain⟨s2,u1,rfl,y2,hu⟩:=map_cons hu
   obtain⟨s3,u1,rfl,y3,hu⟩:=map_cons hu
   obtain⟨s4,u1,rfl,y4,hu⟩:=map_cons hu
   obtain⟨s5,u1,rfl,y5,hu⟩:=map_cons hu
   obtain⟨t2,u2,rfl,x2,hu⟩:=map_cons hu
   obtain⟨ul,u4,rfl,hul,hu⟩:=q7D hu
   obtain⟨t3,u3,rfl,x3,hu⟩:=map_cons hu
   obtain⟨ur,u4,rfl,hur,hu⟩:=q7D hu
   obtain⟨t5,u5,rfl,x5,hu⟩:=map_cons hu
   have:u5=[]:=by simpa using hu
   subst this
   obtain⟨A,hA,hpA⟩:=ihl hl' m hl ul (t3::(ur++(t5::q))) hul
   obtain⟨B,hB,hpB⟩:=ihr hr' m hr ur (t5::q) hur
   refine⟨.node t1.pos s1.pos ⟨t1.text,[],s2.text,s4.text⟩ A B,by simp[q1k,x1,y2,y4,hA,hB],?_⟩
   simp only[List.cons_append,List.append_assoc,List.nil_append]
   rw[q0A]
   simp only[hd,x1,k.1,k.2.1,k.2.2.1,k.2.2.2,hw,Bool.false_eq_true,if_false,if_true]
   rw[qt (q0o (q1V x1)),qt (j1G y1 (by rw[y2];exact n1) y3 (by rw[y4];exact n2) y5),qt (q0o (q1V x2)),qt hpA,qt (q0o (q1V x3)),qt hpB,qt (q0o (q1V x5))]
   rw[x1]
  ·subst hw ea e1 e2 e3 e4
   have k1:zx [116,114,117,101]=false:=by decide
   have k2:(([116,114,117,101]:By)==[101,120,105,115,116,115])=false:=by decide
   have k3:qj [116,114,117,101]=false:=by decide
   have k4:qJ [116,114,117,101]=false:=by decide
   have k5:qG [116,114,117,101]=false:=by decide
   simp only[q0c,k1,k2,k3,k4,k5,Bool.false_eq_true,if_false]at hu
   obtain⟨t1,u1,rfl,x1,hu⟩:=map_cons hu
   have:u1=[]:=by simpa using hu
   subst this
   refine⟨.node t1.pos 0 (q8i t1.text) .nil .nil,by simp[q1k,q8i,x1],?_⟩
   simp only[List.cons_append,List.nil_append]
   rw[q0A]
   simp only[hd,x1,k1,k2,k3,k4,k5,Bool.false_eq_true,if_false]
   rw[qt (q0o (q1V x1))]
   rw[x1]
def q4X:List (By)→Prop
 | []=>True
 |t::r=>(q7W t=true→r≠[]∧q7W (r.headD [])=false)∧q4X r
theorem q4X.app {a b:List (By)}(ha:q4X a)(hb:q4X b):q4X (a++b):=by
 induction a with
 |nil=>exact hb
 |cons t r ih =>
  refine⟨fun h=>?_,ih ha.2⟩
  have:=ha.1 h
  cases r with
  |nil=>exact absurd rfl this.1
  |cons q r=>exact⟨by simp,this.2⟩
theorem q4X.nums {a:List (By)}(ha:q4X a):Nums a:=by
 induction a with
 |nil=>trivial
 |cons t r ih=>exact⟨fun h=>(ha.1 h).2,ih ha.2⟩
theorem j5D {t:By}(h:zx t=true):q7W t=false∧q0V t=true:=by
 cases t with
 |nil=>simp[zx]at h
 |cons c r =>
  have:q0s (c.toNat:Int)=true:=by unfold zx at h;simp only[Bool.and_eq_true]at h;exact h.1
  exact⟨j8w this,this⟩
theorem j3Y {t:By}:(qj t=true→q7W t=false∧q0V t=true)∧(qJ t=true→q7W t=false∧q0V t=true)∧(qG t=true→q7W t=false∧q0V t=true):=by
 refine⟨fun h=>?_,fun h=>?_,fun h=>?_⟩
 ·unfold qj inB q4c at h
  simp at h
  rcases h with h|h|h<;>subst h<;>decide
 ·unfold qJ inB q9u at h
  simp at h
  rcases h with h|h|h|h<;>subst h<;>decide
 ·unfold qG inB q8m at h
  simp at h
  rcases h with h|h|h|h<;>subst h<;>decide
theorem j8K {v:By}(h:q1l v=true):q7W v=false∧q0V v=true:=by
 unfold q1l at h
 simp at h
 rcases h with h|h<;>subst h<;>decide
theorem q0N (c:UInt8)(h:qd (c.toNat:Int)=false){r:List (By)}(hr:q4X r):q4X ([c]::r):=⟨fun e=>by rw[show q7W [c]=qd (c.toNat:Int) from rfl,h]at e;simp at e,hr⟩
theorem q2W {t:By}(h:q7W t=false){r:List (By)}(hr:q4X r):q4X (t::r):=⟨fun e=>by rw[h]at e;simp at e,hr⟩
theorem q3C {t:By}{c:UInt8}(h:qd (c.toNat:Int)=false){r:List (By)}(hr:q4X ([c]::r)):q4X (t::[c]::r):=⟨fun _=>⟨by simp,h⟩,hr⟩
theorem j7W:∀(F:zg),q4h F→q4X (q0c F):=by
 intro F
 induction F with
 |nil=>intro h;exact absurd h (by simp[q4h])
 |node p sp y l r ihl ihr =>
  intro hW
  obtain⟨yw,ya,ylo,yhi⟩:=y
  simp only[q4h]at hW
  have e40:qd ((40:UInt8).toNat:Int)=false:=by decide
  have e41:qd ((41:UInt8).toNat:Int)=false:=by decide
  have e44:qd ((44:UInt8).toNat:Int)=false:=by decide
  have e91:qd ((91:UInt8).toNat:Int)=false:=by decide
  have e93:qd ((93:UInt8).toNat:Int)=false:=by decide
  have N41:q4X [[41]]:=q0N 41 e41 trivial
  rcases hW with⟨hN,e1,e2,e3,e4,a,ha,hargs⟩|⟨hw,e1,e2,e3,hl',v,hv,ea⟩|⟨hw,ea,e1,e2,hl',hr'⟩|⟨hw,ea,e3,n1,n2,hl'⟩|⟨hw,ea,n1,n2,hl',hr'⟩|⟨hw,ea,e1,e2,e3,e4⟩
  ·rcases hargs with rfl|⟨b,hb,rfl⟩
   ·simp only[q0c,hN,if_true]
    exact q2W (j5D hN).1 (q0N 40 e40 (q3C e41 N41))
   ·simp only[q0c,hN,if_true]
    exact q2W (j5D hN).1 (q0N 40 e40 (q3C e44 (q0N 44 e44 (q3C e41 N41))))
  ·subst hw ea
   have k1:zx [101,120,105,115,116,115]=false:=by decide
   simp only[q0c,k1,Bool.false_eq_true,if_false,beq_self_eq_true,if_true,List.headD_cons]
   exact q2W (by decide) (q2W (j8K hv).1 (q0N 40 e40 ((ihl hl').app N41)))
  ·have k:=q0d.1 hw
   simp only[q0c,k.1,k.2,hw,Bool.false_eq_true,if_false,if_true]
   exact q2W (j3Y.1 hw).1 (q0N 40 e40 ((ihl hl').app (q0N 44 e44 ((ihr hr').app N41))))
  ·have k:=q0d.2.1 hw
   simp only[q0c,k.1,k.2.1,k.2.2,hw,Bool.false_eq_true,if_false,if_true]
   exact q2W (j3Y.2.1 hw).1 (q0N 91 e91 (q3C e44 (q0N 44 e44 (q3C e93 (q0N 93 e93 (q0N 40 e40 ((ihl hl').app N41)))))))
  ·have k:=q0d.2.2 hw
   simp only[q0c,k.1,k.2.1,k.2.2.1,k.2.2.2,hw,Bool.false_eq_true,if_false,if_true]
   exact q2W (j3Y.2.2 hw).1 (q0N 91 e91 (q3C e44 (q0N 44 e44 (q3C e93 (q0N 93 e93 (q0N 40 e40 ((ihl hl').app (q0N 44 e44 ((ihr hr').app N41)))))))))
  ·subst hw
   have k1:zx [116,114,117,101]=false:=by decide
   have k2:(([116,114,117,101]:By)==[101,120,105,115,116,115])=false:=by decide
   have k3:qj [116,114,117,101]=false:=by decide
   have k4:qJ [116,114,117,101]=false:=by decide
   have k5:qG [116,114,117,101]=false:=by decide
   simp only[q0c,k1,k2,k3,k4,k5,Bool.false_eq_true,if_false]
   exact q2W (by decide) trivial
def zs:zg→By
 | .nil=>[]
 | .node _ _ y l r =>
  if zx y.word then y.word++[40]++(match y.args with
   | [a]=>a++[41]
   | [a,b]=>a++[44]++b++[41]
   |_=>[41])
  else if y.word==[101,120,105,115,116,115]then y.word++[32]++y.args.headD []++[40]++zs l++[41]
  else if qj y.word then y.word++[40]++zs l++[44]++zs r++[41]
  else if qJ y.word then y.word++[91]++y.lo++[44]++y.hi++[93,40]++zs l++[41]
  else if qG y.word then y.word++[91]++y.lo++[44]++y.hi++[93,40]++zs l++[44]++zs r++[41]
  else y.word
theorem q5c {t:By}(ht:q0V t=false):∀(a b:List (By)),q1u (a++t::b)=q1u a++t++q1u b:=by
 intro a
 induction a with
 |nil=>intro b;simp[q1u,ht]
 |cons x a ih =>
  intro b
  cases a with
  |nil =>
   have e1:q1u (x::t::b)=x++(if q0V x&&q0V t then 32::q1u (t::b)else q1u (t::b)):=rfl
   have e2:q1u [x]=x++(if q0V x&&q0V []then 32::q1u []else q1u []):=rfl
   have e3:q1u (t::b)=t++(if q0V t&&q0V (b.headD [])then 32::q1u b else q1u b):=rfl
   show q1u (x::t::b)=q1u [x]++t++q1u b
   rw[e1,e2,e3,ht]
   simp[q1u,q0V]
  |cons q a =>
   have e1:q1u (x::(q::a++t::b))=x++(if q0V x&&q0V q then 32::q1u (q::a++t::b)else q1u (q::a++t::b)):=rfl
   have e2:q1u (x::q::a)=x++(if q0V x&&q0V q then 32::q1u (q::a)else q1u (q::a)):=rfl
   rw[List.cons_append,e1,e2,ih b]
   split<;>simp
theorem j4U {t:By}(ht:q0V t=false)(b:List (By)):q1u (t::b)=t++q1u b:=by simp[q1u,ht]
theorem q2m {t u:By}(ht:q0V u=false)(b:List (By)):q1u (t::u::b)=t++u++q1u b:=by
 have:=q5c ht [t] b
 simpa[q1u,q0V]using this
theorem j9l {t u:By}(h1:q0V t=true)(h2:q0V u=true)(b:List (By)):q1u (t::u::b)=t++32::q1u (u::b):=by
 show t++(if q0V t&&q0V u then 32::q1u (u::b)else q1u (u::b))=_
 rw[h1,h2]
 rfl
theorem z0r:∀(F:zg),q4h F→q1u (q0c F)=zs F:=by
 intro F
 induction F with
 |nil=>intro h;exact absurd h (by simp[q4h])
 |node p sp y l r ihl ihr =>
  intro hW
  obtain⟨yw,ya,ylo,yhi⟩:=y
  simp only[q4h]at hW
  have w40:q0V [40]=false:=by decide
  have w41:q0V [41]=false:=by decide
  have w44:q0V [44]=false:=by decide
  have w91:q0V [91]=false:=by decide
  have w93:q0V [93]=false:=by decide
  have g0:q1u []=[]:=rfl
  rcases hW with⟨hN,e1,e2,e3,e4,a,ha,hargs⟩|⟨hw,e1,e2,e3,hl',v,hv,ea⟩|⟨hw,ea,e1,e2,hl',hr'⟩|⟨hw,ea,e3,n1,n2,hl'⟩|⟨hw,ea,n1,n2,hl',hr'⟩|⟨hw,ea,e1,e2,e3,e4⟩
  ·rcases hargs with rfl|⟨b,hb,rfl⟩
   ·simp only[q0c,zs,hN,if_true]
    rw[q2m w40,q2m w41,g0]
    simp
   ·simp only[q0c,zs,hN,if_true]
    rw[q2m w40,q2m w44,q2m w41,g0]
    simp
  ·subst hw ea
   have k1:zx [101,120,105,115,116,115]=false:=by decide
   simp only[q0c,zs,k1,Bool.false_eq_true,if_false,beq_self_eq_true,if_true,List.headD_cons]
   rw[j9l (by decide) (j8K hv).2,q2m w40,q5c w41,g0,ihl hl']
   simp
  ·have k:=q0d.1 hw
   simp only[q0c,zs,k.1,k.2,hw,Bool.false_eq_true,if_false,if_true]
   rw[q2m w40,q5c w44,q5c w41,g0,ihl hl',ihr hr']
   simp
  ·have k:=q0d.2.1 hw
   simp only[q0c,zs,k.1,k.2.1,k.2.2,hw,Bool.false_eq_true,if_false,if_true]
   rw[q2m w91,q2m w44,q2m w93,j4U w40,q5c w41,g0,ihl hl']
   simp
  ·have k:=q0d.2.2 hw
   simp only[q0c,zs,k.1,k.2.1,k.2.2.1,k.2.2.2,hw,Bool.false_eq_true,if_false,if_true]
   rw[q2m w91,q2m w44,q2m w93,j4U w40,q5c w44,q5c w41,g0,ihl hl',ihr hr']
   simp
  ·subst hw
   have k1:zx [116,114,117,101]=false:=by decide
   have k2:(([116,114,117,101]:By)==[101,120,105,115,116,115])=false:=by decide
   have k3:qj [116,114,117,101]=false:=by decide
   have k4:qJ [116,114,117,101]=false:=by decide
   have k5:qG [116,114,117,101]=false:=by decide
   simp only[q0c,zs,k1,k2,k3,k4,k5,Bool.false_eq_true,if_false]
   simp[q1u,q0V]
theorem j9f (F:zg)(hW:q4h F)(hT:∀t∈q0c F,TokT t)(hh:hgt F≤8)(hl:(zs F).length≤240):(q1m (zs F)).1=0∧q1k (qb (zs F))=q1k F:=by
 obtain⟨us,h1,h2⟩:=j9C (q0c F) hT (j7W F hW).nums
 rw[z0r F hW]at h2
 obtain⟨F',h3,h4⟩:=j5H F hW 8 hh us [] h1
 rw[List.append_nil]at h4
 constructor
 ·rw[j1M (by omega) (by rw[h2];show ¬(0:Int)≤-1;decide),h2]
  unfold q6x
  rw[h4]
  rfl
 ·unfold qb
  rw[h2]
  simp only[]
  rw[h4]
  exact h3
theorem q4j (x:By):∀F:zg,zh (q1k F) x=zh F x:=by
 intro F
 induction F with
 |nil=>rfl
 |node p sp y l r ihl ihr =>
  cases l with
  |nil=>rfl
  |node a b c e f =>
   show(!(y.word==[101,120,105,115,116,115]&&y.args==[x])&&(zh (q1k (.node a b c e f)) x || zh (q1k r) x))=(!(y.word==[101,120,105,115,116,115]&&y.args==[x])&&(zh (.node a b c e f) x || zh r x))
   rw[ihl,ihr]
theorem j8U {p sp:Nat}{y:Pay}{l r:zg}:(q1z (.node 0 0 y (q1k l) (q1k r))).length=(q1z (.node p sp y l r)).length:=by
 cases l with
 |nil=>rfl
 |node a b c e f=>cases r<;>rfl
theorem j0W:∀F:zg,q1i (q1k F)=q1i F:=by
 intro F
 cases F with
 |nil=>rfl
 |node p sp y l r =>
  show(if y.word==[101,120,105,115,116,115]then !(zh (q1k l) (y.args.headD []))else if (q1z (.node 0 0 y (q1k l) (q1k r))).length<2 || y.word==[97,110,100]then false else q2t y.word (zh (q1k l) [120]) (zh (q1k r) [120]) || q2t y.word (zh (q1k l) [121]) (zh (q1k r) [121]))=(if y.word==[101,120,105,115,116,115]then !(zh l (y.args.headD []))else if (q1z (.node p sp y l r)).length<2 || y.word==[97,110,100]then false else q2t y.word (zh l [120]) (zh r [120]) || q2t y.word (zh l [121]) (zh r [121]))
  rw[q4j,q4j,q4j,q4j,q4j,j8U (p:=p) (sp:=sp)]
theorem j0U:∀F:zg,qz (q1k F)=qz F:=by
 intro F
 cases F<;>rfl
theorem j2A:∀F:zg,qK (q1k F)=qK F:=by
 intro F
 cases F<;>rfl
theorem j2B:∀F:zg,zw (q1k F)=(zw F).map q1k:=by
 intro F
 induction F with
 |nil=>rfl
 |node p sp y l r ihl ihr=>simp only[q1k,zw,ihl,ihr,List.map_cons,List.map_append]
theorem q2Y:∀F:zg,-1≤zf F:=by
 intro F
 induction F with
 |nil=>exact Int.le_refl _
 |node p sp y l r ihl ihr =>
  rw[zf]
  have h1:-1≤mxI (mxI (-1) (zf l)) (zf r):=by unfold mxI;split<;>(try split)<;>omega
  split
  ·split<;>omega
  ·exact h1
def q7X (F:zg):Prop:=∀G∈zw F,qz G=false∧qK G=false∧q1i G=false
theorem j6L {F F':zg}(h:q1k F'=q1k F)(hn:q7X F):q7X F':=by
 intro G hG
 have h1:q1k G∈zw (q1k F'):=by rw[j2B];exact List.mem_map_of_mem hG
 rw[h,j2B]at h1
 obtain⟨G',hG',e⟩:=List.mem_map.1 h1
 obtain⟨a,b,c⟩:=hn G' hG'
 rw[←j0U,←j2A G,←j0W G,←e,j0U,j2A,j0W]
 exact⟨a,b,c⟩
theorem j5G {F:zg}(h:q7X F):q0J F=(0,0):=by
 unfold q0J
 have h1:(zw F).find? qz=none:=List.find?_eq_none.2 (fun G hG=>by rw[(h G hG).1];decide)
 have h2:(zw F).find? qK=none:=List.find?_eq_none.2 (fun G hG=>by rw[(h G hG).2.1];decide)
 have h3:(zw F).find? q1i=none:=List.find?_eq_none.2 (fun G hG=>by rw[(h G hG).2.2];decide)
 rw[h1,h2,h3]
structure Fine (F:zg):Prop where
 well:q4h F
 toks:∀t∈q0c F,TokT t
 nobad:q7X F
theorem q8o {F:zg}(h:Fine F)(hh:hgt F≤8)(hl:(zs F).length≤240):zA (zs F)=(0,0)∧q1k (qb (zs F))=q1k F:=by
 obtain⟨h1,h2⟩:=j9f F h.well h.toks hh hl
 refine⟨?_,h2⟩
 unfold zA
 rw[if_neg (by rw[h1];simp)]
 exact j5G (j6L h2 h.nobad)
theorem q4R {F F':zg}(h:q1k F'=q1k F)(x:By):zh F' x=zh F x:=by rw[←q4j,h,q4j]
def zk (s:By)(i n:Nat):Nat × Nat:=if s.length≤i then(0,i)else((s.getD i 0).toNat % n,i+1)
theorem ql (s:By)(i:Nat){n:Nat}(h:0<n):(zk s i n).1<n:=by
 unfold zk
 split
 ·exact h
 ·exact Nat.mod_lt _ h
def nmK (k:Nat):By:=if k=0 then [112]else if k=1 then [113]else [114]
def q2f (k:Nat):By:=if k=0 then [120]else if k=1 then [121]else if k=2 then [49]else [50]
def evF (n:By)(gs:List (By)):zg:=.node 0 0 ⟨n,gs,[],[]⟩ .nil .nil
def q7q:zg:=.node 0 0 ⟨[116,114,117,101],[],[],[]⟩ .nil .nil
def q2K (s:By)(i:Nat):zg × Nat:=
 if (zk s i 9).1=1 then(q7q,(zk s i 9).2)
 else if (zk s (zk s (zk s (zk s i 9).2 3).2 4).2 2).1=1 then
  (evF (nmK (zk s (zk s i 9).2 3).1) [q2f (zk s (zk s (zk s i 9).2 3).2 4).1,q2f (zk s (zk s (zk s (zk s (zk s i 9).2 3).2 4).2 2).2 4).1],(zk s (zk s (zk s (zk s (zk s i 9).2 3).2 4).2 2).2 4).2)
 else(evF (nmK (zk s (zk s i 9).2 3).1) [q2f (zk s (zk s (zk s i 9).2 3).2 4).1],(zk s (zk s (zk s (zk s i 9).2 3).2 4).2 2).2)
def q5H (n:Nat):By:=[UInt8.ofNat (48+n)]
def q1h (s:By)(i:Nat)(ahead:Bool):(By × By × Nat) × Nat:=
 let a:=zk s i 4
 let b:=zk s a.2 5
 let c:=zk s b.2 3
 if ahead=false then(if c.1=1 then((q5H a.1,[42],0),c.2)else((q5H a.1,q5H (a.1+b.1),a.1+b.1),c.2))
 else((q5H a.1,q5H (a.1+b.1),a.1+b.1),b.2)
def opF (w:By)(lo hi:By)(l r:zg):zg:=.node 0 0 ⟨w,[],lo,hi⟩ l r
def exF (v:By)(l:zg):zg:=.node 0 0 ⟨[101,120,105,115,116,115],[v],[],[]⟩ l .nil
def q5j (F:zg)(y:Bool):zg:=
 if (zh F [121]&&(y || !zh F [120]))=true then exF [121] F else if zh F [120]=true then exF [120] F else F
def timeW (k:Nat):By:=if k=2 then [115,105,110,99,101]else if k=3 then [117,110,115,105,110,99,101]else if k=4 then [117,110,116,105,108]else [117,110,117,110,116,105,108]
def q8j (s:By)(i:Nat)(A B:zg):zg × Nat:=
 let k:=zk s i 6
 let fits:=(!zh B [120] || zh A [120])&&(!zh B [121] || zh A [121])
 if k.1=0∧(zh A [120]==zh B [120]&&zh A [121]==zh B [121])=true then(opF [111,114] [] [] A B,k.2)
 else if k.1=1∧fits=true then(opF [98,117,116] [] [] A B,k.2)
 else if fits=false∨k.1<2 then(opF [97,110,100] [] [] A B,k.2)
 else
  let sp:=q1h s k.2 (decide (3<k.1))
  (opF (timeW k.1) sp.1.1 sp.1.2.1 B A,sp.2)
def oneW (k:Nat):By:=if k=0 then [112,114,101,118]else if k=1 then [110,101,120,116]else if k=2 then [111,110,99,101]else [115,111,111,110]
def mkF (s:By):Nat→Nat→zg × Nat
 | 0,i=>q2K s (zk s i 10).2
 |n+1,i =>
  let k:=zk s i 10
  if k.1<2 then q2K s k.2
  else
   let A:=mkF s n k.2
   if k.1<6 then
    let B:=mkF s n A.2
    q8j s B.2 A.1 B.1
   else if k.1=6 then
    let y:=zk s A.2 2
    (q5j A.1 (decide (y.1=1)),y.2)
   else
    let o:=zk s A.2 4
    let sp:=q1h s o.2 (decide (o.1 % 2=1))
    (opF (oneW o.1) sp.1.1 sp.1.2.1 A.1 .nil,sp.2)
end Go.Proofs.YtiamjjonoeaggabGreatDoor
