import Derived.Test.YtiamjjonoeaggabGreatDoorGA
import Derived.Test.YtiamjjonoeaggabGreatDoorG07
import Derived.Test.YtiamjjonoeaggabGreatDoorG09
namespace Go.Proofs.YtiamjjonoeaggabGreatDoor
open Go.RowKit
def q1C (k:Int):Bool:=k==11 || k==13 || k==16 || k==17
structure KFacts (t:By):Prop where
 name:zv t=(zk t==2)
 ex:(t==[101,120,105,115,116,115])=(zk t==9)
 plain:q0o t=(q3O (zk t)&&!q2P (zk t))
 one:q0Q t=(q2P (zk t)&&!q3O (zk t))
 two:q0J t=(q2P (zk t)&&q3O (zk t))
 tr:qD [116,114,117,101] t=(zk t==5)
 opn:qD [40] t=(zk t==18)
 cls:qD [41] t=(zk t==19)
 com:qD [44] t=(zk t==20)
 osq:qD [91] t=(zk t==21)
 csq:qD [93] t=(zk t==22)
 star:qD [42] t=(zk t==23)
 num:q4o t=(zk t==1)
 var:q1J t=q5T (zk t)
 ahead:q2f t=q1C (zk t)
 isX:(t==[120])=(zk t==3)
 isY:(t==[121])=(zk t==4)
 isOr:(t==[111,114])=(zk t==8)
 isBut:(t==[98,117,116])=(zk t==7)
 nz:zk t≠0
theorem kf_sign {t:By}(h:inB t q1m=true):KFacts t:=by
 unfold inB q1m at h
 simp[List.any]at h
 rcases h with h|h|h|h|h|h<;>subst h<;>exact⟨by decide,by decide,by decide,by decide,by decide,by decide,by decide,by decide,by decide,by decide,by decide,by decide,by decide,by decide,by decide,by decide,by decide,by decide,by decide,by decide⟩
theorem kf_word {t:By}(h:inB t w15=true):KFacts t:=by
 unfold inB w15 at h
 simp[List.any]at h
 rcases h with h|h|h|h|h|h|h|h|h|h|h|h|h|h|h<;>subst h<;>exact⟨by decide,by decide,by decide,by decide,by decide,by decide,by decide,by decide,by decide,by decide,by decide,by decide,by decide,by decide,by decide,by decide,by decide,by decide,by decide,by decide⟩
theorem j3B {t:By}(h:∀x∈w15++q1m,(x==t)=false)(hk:zk t=1∨zk t=2)(hn:zv t=(zk t==2))(hd:q4o t=(zk t==1)):KFacts t:=by
 have g:∀x∈w15++q1m,(t==x)=false:=fun x hx=>by have:=h x hx;simp at this ⊢;exact fun e=>this e.symm
 have f0:=h [120] (by decide)
 have f1:=h [121] (by decide)
 have f2:=h [116,114,117,101] (by decide)
 have f3:=h [97,110,100] (by decide)
 have f4:=h [98,117,116] (by decide)
 have f5:=h [111,114] (by decide)
 have f6:=h [101,120,105,115,116,115] (by decide)
 have f7:=h [112,114,101,118] (by decide)
 have f8:=h [110,101,120,116] (by decide)
 have f9:=h [111,110,99,101] (by decide)
 have f10:=h [115,111,111,110] (by decide)
 have f11:=h [115,105,110,99,101] (by decide)
 have f12:=h [117,110,115,105,110,99,101] (by decide)
 have f13:=h [117,110,116,105,108] (by decide)
 have f14:=h [117,110,117,110,116,105,108] (by decide)
 refine⟨hn,?_,?_,?_,?_,?_,?_,?_,?_,?_,?_,?_,hd,?_,?_,?_,?_,?_,?_,?_⟩
 ·rw[g _ (by decide)];rcases hk with hk|hk<;>rw[hk]<;>rfl
 ·unfold q0o inB q4P;simp only[List.any_cons,List.any_nil,f3,f4,f5];rcases hk with hk|hk<;>rw[hk]<;>rfl
 ·unfold q0Q inB j0Y;simp only[List.any_cons,List.any_nil,f7,f8,f9,f10];rcases hk with hk|hk<;>rw[hk]<;>rfl
 ·unfold q0J inB q9l;simp only[List.any_cons,List.any_nil,f11,f12,f13,f14];rcases hk with hk|hk<;>rw[hk]<;>rfl
 ·unfold qD;rw[f2];rcases hk with hk|hk<;>rw[hk]<;>rfl
 ·unfold qD;rw[h [40] (by decide)];rcases hk with hk|hk<;>rw[hk]<;>rfl
 ·unfold qD;rw[h [41] (by decide)];rcases hk with hk|hk<;>rw[hk]<;>rfl
 ·unfold qD;rw[h [44] (by decide)];rcases hk with hk|hk<;>rw[hk]<;>rfl
 ·unfold qD;rw[h [91] (by decide)];rcases hk with hk|hk<;>rw[hk]<;>rfl
 ·unfold qD;rw[h [93] (by decide)];rcases hk with hk|hk<;>rw[hk]<;>rfl
 ·unfold qD;rw[h [42] (by decide)];rcases hk with hk|hk<;>rw[hk]<;>rfl
 ·unfold q1J;rw[g [120] (by decide),g [121] (by decide)];rcases hk with hk|hk<;>rw[hk]<;>rfl
 ·unfold q2f inB q8k;simp only[List.any_cons,List.any_nil,f8,f10,f13,f14];rcases hk with hk|hk<;>rw[hk]<;>rfl
 ·rw[g [120] (by decide)];rcases hk with hk|hk<;>rw[hk]<;>rfl
 ·rw[g [121] (by decide)];rcases hk with hk|hk<;>rw[hk]<;>rfl
 ·rw[g [111,114] (by decide)];rcases hk with hk|hk<;>rw[hk]<;>rfl
 ·rw[g [98,117,116] (by decide)];rcases hk with hk|hk<;>rw[hk]<;>rfl
 ·rcases hk with hk|hk<;>rw[hk]<;>decide
theorem j5A {t:By}(h:inB t w15=false):q8m t=2:=by
 have g:∀x∈w15,(t==x)=false:=fun x hx=>by
  unfold inB at h
  rw[List.any_eq_false]at h
  have:=h x hx
  simp at this ⊢
  exact fun e=>this e.symm
 unfold q8m
 rw[g [120] (by decide),g [121] (by decide),g [116,114,117,101] (by decide),g [97,110,100] (by decide),g [98,117,116] (by decide),g [111,114] (by decide),g [101,120,105,115,116,115] (by decide),g [112,114,101,118] (by decide),g [110,101,120,116] (by decide),g [111,110,99,101] (by decide),g [115,111,111,110] (by decide),g [115,105,110,99,101] (by decide),g [117,110,115,105,110,99,101] (by decide),g [117,110,116,105,108] (by decide),g [117,110,117,110,116,105,108] (by decide)]
 rfl
theorem j0M:∀x∈q1m,∀c q,x=c::q→q0e (c.toNat:Int)=false∧qp (c.toNat:Int)=false:=by
 intro x hx c q e
 simp only[q1m,List.mem_cons,List.not_mem_nil,or_false]at hx
 rcases hx with rfl|rfl|rfl|rfl|rfl|rfl<;>injection e with e1 e2<;>subst e1<;>decide
theorem j5B:∀x∈w15,∀c q,x=c::q→qp (c.toNat:Int)=false:=by
 intro x hx c q e
 simp only[w15,List.mem_cons,List.not_mem_nil,or_false]at hx
 rcases hx with rfl|rfl|rfl|rfl|rfl|rfl|rfl|rfl|rfl|rfl|rfl|rfl|rfl|rfl|rfl<;>injection e with e1 e2<;>subst e1<;>decide
theorem q0m {t:Tok}(h:q0X t):KFacts t.text:=by
 obtain⟨c,r,e,ho,_⟩:=h
 generalize t.text=t at *
 subst e
 unfold q3p at ho
 simp only[Bool.or_eq_true,Bool.and_eq_true,decide_eq_true_eq]at ho
 rcases ho with(ho|⟨hd,_⟩)|⟨hl,_⟩
 ·exact kf_sign ho
 ·have k1:zk (c::r)=1:=by simp only[zk];rw[if_pos hd]
  refine j3B ?_ (.inl k1) ?_ ?_
  ·intro x hx
   rcases List.mem_append.1 hx with hx|hx
   ·simp only[beq_eq_false_iff_ne]
    intro e
    have:=j5B x hx c r e
    rw[hd]at this
    exact absurd this (by decide)
   ·simp only[beq_eq_false_iff_ne]
    intro e
    have:=(j0M x hx c r e).2
    rw[hd]at this
    exact absurd this (by decide)
  ·rw[k1];simp only[zv];rw[q2W hd];rfl
  ·rw[k1];exact hd
 ·cases hw:inB (c::r) w15 with
  |true=>exact kf_word hw
  |false =>
   have hnd:qp (c.toNat:Int)=false:=by
    cases hq:qp (c.toNat:Int)with
    |false=>rfl
    |true=>rw[q2W hq]at hl;exact absurd hl (by decide)
   have k2:zk (c::r)=2:=by simp only[zk];rw[hnd,if_neg (by decide),if_pos hl];exact j5A hw
   refine j3B ?_ (.inr k2) ?_ ?_
   ·intro x hx
    rcases List.mem_append.1 hx with hx|hx
    ·unfold inB at hw
     rw[List.any_eq_false]at hw
     have:=hw x hx
     simpa using this
    ·simp only[beq_eq_false_iff_ne]
     intro e
     have:=(j0M x hx c r e).1
     rw[hl]at this
     exact absurd this (by decide)
   ·rw[k2];simp only[zv];rw[hl,hw];rfl
   ·rw[k2];exact hnd
theorem KFacts.arg {t:Tok}(k:KFacts t.text)(h:q0X t):q3Q t.text=q5j (q5S t):=by
 unfold q3Q
 rw[k.var]
 unfold q5j q5S
 simp only[]
 cases hn:q4o t.text with
 |true =>
  have hk:=k.num
  rw[hn]at hk
  have hd:=(q2N h hn).1
  rw[hd,←hk]
  have e:((t.text.length:Int)==1)=(t.text.length==1):=by rw[Bool.eq_iff_iff];simp;omega
  rw[e]
  simp
 |false =>
  have hk:=k.num
  rw[hn]at hk
  have hd:q1H t.text=false:=by
   obtain⟨c,r,e,_⟩:=h
   rw[e]at hn ⊢
   unfold q1H
   have hn':qp (c.toNat:Int)=false:=hn
   rw[List.all_cons,hn']
   rfl
  rw[hd,←hk]
  simp
def endT (L:Nat):PTok:=⟨0,L,0,0,[]⟩
def q0F (toks:List Tok)(L:Nat):List PTok:=toks.map q5S++[endT L]
def q2j (L:Nat):List Tok→PTok
 | []=>endT L
 |t::_=>q5S t
def atS (toks r:List Tok):Nat:=toks.length-r.length
theorem q9Q {toks r:List Tok}(L:Nat)(h:r <:+ toks):zp (q0F toks L) (atS toks r)=q2j L r:=by
 obtain⟨u,rfl⟩:=h
 have e:atS (u++r) r=u.length:=by unfold atS;simp
 rw[e]
 unfold zp q0F
 cases r with
 |nil=>simp[q2j]
 |cons t q=>simp[q2j]
theorem at_s {toks q:List Tok}{t:Tok}(h:(t::q) <:+ toks):atS toks q=atS toks (t::q)+1∧q <:+ toks:=by
 obtain⟨u,rfl⟩:=h
 refine⟨?_,u++[t],by simp⟩
 unfold atS
 simp
 omega
theorem q7y {toks q:List Tok}{t:Tok}(hg:q3t toks)(h:(t::q) <:+ toks):q0X t:=hg t (h.subset (by simp))
theorem q7M {toks r:List Tok}(L:Nat){p:By→Bool}(P:PTok→Bool)(hg:q3t toks)(hs:r <:+ toks)(hp:∀t,q0X t→p t.text=P (q5S t))(h0:P (endT L)=false) :
  (∃t q,r=t::q∧q0X t∧q0h p r=.inr (t,q)∧zp (q0F toks L) (atS toks r)=q5S t∧P (zp (q0F toks L) (atS toks r))=true∧atS toks q=atS toks r+1∧q <:+ toks)
  ∨ (q0h p r=.inl r∧P (zp (q0F toks L) (atS toks r))=false):=by
 rw[q9Q L hs]
 cases r with
 |nil=>exact .inr ⟨rfl,h0⟩
 |cons t q =>
  have ht:=q7y hg hs
  have e:=hp t ht
  cases hq:p t.text with
  |true=>exact .inl ⟨t,q,rfl,ht,by simp[q0h,hq],rfl,by rw[←hq,e];rfl,(at_s hs).1,(at_s hs).2⟩
  |false=>exact .inr ⟨by simp[q0h,hq],by rw[←hq,e];rfl⟩
theorem q1c {toks r:List Tok}(L:Nat){p:By→Bool}(k:Int)(hg:q3t toks)(hs:r <:+ toks)(hp:∀t,q0X t→p t.text=(zk t.text==k))(h0:k≠0) :
  (∃t q,r=t::q∧q0X t∧q0h p r=.inr (t,q)∧zp (q0F toks L) (atS toks r)=q5S t∧(zp (q0F toks L) (atS toks r)).kind=k∧atS toks q=atS toks r+1∧q <:+ toks)
  ∨ (q0h p r=.inl r∧¬(zp (q0F toks L) (atS toks r)).kind=k):=by
 rcases q7M L (fun q=>q.kind==k) hg hs hp (by simp[endT,h0.symm])with⟨t,q,a,b,c,d,e,f,g⟩|⟨a,b⟩
 ·exact .inl ⟨t,q,a,b,c,d,by simpa using e,f,g⟩
 ·exact .inr ⟨a,by simpa using b⟩
def HSim {β:Type}(toks:List Tok)(o:Bool × Nat × PNode)(x:q6M β)(f:β→PNode):Prop:=match x with
 | .inl r=>o.1=false∧o.2.1=atS toks r∧r <:+ toks
 | .inr (b,r)=>o=(true,atS toks r,f b)∧r <:+ toks
theorem kind_nil:zk []=0:=rfl
theorem val_nil:q2F []=0:=rfl
def q5u (nd:PNode)(gs:List (By)):PNode:={nd with k0:=zk (gs.getD 0 []),v0:=q2F (gs.getD 0 []),k1:=zk (gs.getD 1 []),v1:=q2F (gs.getD 1 []),cnt:=gs.length}
theorem args_sim {toks r:List Tok}(L:Nat)(hg:q3t toks)(hs:r <:+ toks)(nd:PNode)(h0:nd.k1=0∧nd.v1=0) :
  HSim toks (q6O (q0F toks L) (atS toks r) nd) (qC (q0h (qD [40]) r) fun _ r=>qC (q0h q3Q r) fun a r=>qC (q2B r) fun b r=>qC (q0h (qD [41]) r) fun _ r=>.inr (a.text::b,r)) (q5u nd):=by
 obtain⟨z1,z2⟩:=h0
 unfold q6O
 rcases q1c L 18 hg hs (fun t ht=>(q0m ht).opn) (by decide)with⟨t,q,rfl,_,en,_,ek,ea,hs1⟩|⟨en,ek⟩
 ·rw[en,if_pos ek,←ea]
  simp only[qC]
  rcases q7M L q5j hg hs1 (fun t ht=>(q0m ht).arg ht) rfl with⟨t1,q1,rfl,_,en1,eh1,ek1,ea1,hs2⟩|⟨en1,ek1⟩
  ·rw[en1,if_pos ek1]
   simp only[]
   unfold q6P q2B
   have ea':atS toks q1=atS toks (t::t1::q1)+2:=by omega
   rw[←ea']
   rcases q1c L 20 hg hs2 (fun t ht=>(q0m ht).com) (by decide)with⟨t2,q2,rfl,g2,en2,eh2,ek2,ea2,hs3⟩|⟨en2,ek2⟩
   ·have hh:(hd (t2::q2)==[44])=true:=by
     have:=(q0m g2).com
     rw[eh2]at ek2
     have e2:zk t2.text=20:=ek2
     rw[e2]at this
     simp[qD]at this
     simp[hd,←this]
    rw[if_pos ek2,if_pos hh,en2]
    simp only[qC]
    have ea3:atS toks (t::t1::t2::q2)+3=atS toks q2:=by omega
    rw[ea3]
    rcases q7M L q5j hg hs3 (fun t ht=>(q0m ht).arg ht) rfl with⟨t3,q3,rfl,_,en3,eh3,ek3,ea4,hs4⟩|⟨en3,ek3⟩
    ·rw[en3,if_pos ek3]
     simp only[]
     have ea5:atS toks (t::t1::t2::t3::q3)+4=atS toks q3:=by omega
     rw[ea5]
     rcases q1c L 19 hg hs4 (fun t ht=>(q0m ht).cls) (by decide)with⟨t4,q4,rfl,_,en4,_,ek4,ea6,hs5⟩|⟨en4,ek4⟩
     ·rw[en4,if_pos ek4]
      refine⟨?_,hs5⟩
      rw[show atS toks (t::t1::t2::t3::t4::q4)+5=atS toks q4 from by omega,eh1,eh3]
      rfl
     ·rw[en4,if_neg ek4]
      exact⟨rfl,rfl,hs4⟩
    ·rw[en3,if_neg (by rw[ek3];decide)]
     exact⟨rfl,rfl,hs3⟩
   ·have hh:¬(hd q1==[44])=true:=by
     intro hc
     cases q1 with
     |nil=>exact absurd hc (by decide)
     |cons a b =>
      apply ek2
      rw[q9Q L hs2]
      have:=(q0m (q7y hg hs2)).com
      simp[hd]at hc
      rw[hc]at this
      simp[qD]at this
      simp[q2j,q5S,hc,←this]
    rw[if_neg ek2,if_neg hh]
    simp only[]
    rcases q1c L 19 hg hs2 (fun t ht=>(q0m ht).cls) (by decide)with⟨t2,q2,rfl,g2,en3,eh2,ek3,ea2,hs3⟩|⟨en3,ek3⟩
    ·rw[en3,if_pos ek3]
     refine⟨?_,hs3⟩
     rw[show atS toks (t::t1::t2::q2)+3=atS toks q2 from by omega,eh1]
     simp[q5u,q5S,z1,z2,kind_nil,val_nil]
    ·rw[en3,if_neg ek3]
     exact⟨rfl,rfl,hs2⟩
  ·rw[en1,if_neg (by rw[ek1];decide)]
   exact⟨rfl,rfl,hs1⟩
 ·rw[en,if_neg ek]
  exact⟨rfl,rfl,hs⟩
def q3o (nd:PNode)(s:Nat × By × By):PNode:={nd with sat:=s.1,slo:=q2F s.2.1,shi:=q2F s.2.2,sop:=s.2.2==[42]}
theorem span_sim {toks r:List Tok}(L:Nat)(hg:q3t toks)(hs:r <:+ toks)(nd:PNode)(h0:nd.shi=0∧nd.sop=false):HSim toks (q3n (q0F toks L) (atS toks r) nd) (q2C r) (q3o nd):=by
 obtain⟨z1,z2⟩:=h0
 unfold q3n q2C
 rcases q1c L 21 hg hs (fun t ht=>(q0m ht).osq) (by decide)with⟨t,q,rfl,_,en,eh,ek,ea,hs1⟩|⟨en,ek⟩
 ·rw[en,if_pos ek,←ea]
  simp only[qC]
  rcases q1c L 1 hg hs1 (fun t ht=>(q0m ht).num) (by decide)with⟨t1,q1,rfl,_,en1,eh1,ek1,ea1,hs2⟩|⟨en1,ek1⟩
  ·rw[en1,if_pos ek1,show atS toks (t::t1::q1)+2=atS toks q1 from by omega]
   simp only[]
   rcases q1c L 20 hg hs2 (fun t ht=>(q0m ht).com) (by decide)with⟨t2,q2,rfl,_,en2,eh2,ek2,ea2,hs3⟩|⟨en2,ek2⟩
   ·rw[en2,if_pos ek2,show atS toks (t::t1::t2::q2)+3=atS toks q2 from by omega]
    simp only[]
    rcases q7M L (fun q=>q.kind==23 || q.kind==1) hg hs3 (p:=q4B) (fun t ht=>by
      unfold q4B
      have h1:=(q0m ht).star
      unfold qD at h1
      have h2:(t.text==[42])=([42]==t.text):=by rw[Bool.eq_iff_iff];simp;exact⟨fun h=>h.symm,fun h=>h.symm⟩
      rw[h2,h1,(q0m ht).num]
      rfl) rfl with⟨t3,q3,rfl,g3,en3,eh3,ek3,ea3,hs4⟩|⟨en3,ek3⟩
    ·rw[en3]
     simp only[]
     have e4:atS toks (t::t1::t2::t3::q3)+4=atS toks q3:=by omega
     rw[e4]
     have hst:=(q0m g3).star
     unfold qD at hst
     by_cases ks:(zp (q0F toks L) (atS toks (t3::q3))).kind=23
     ·rw[if_pos ks]
      have e3:t3.text=[42]:=by
       rw[eh3]at ks
       have ks':zk t3.text=23:=ks
       rw[ks']at hst
       simp at hst
       exact hst.symm
      rcases q1c L 22 hg hs4 (fun t ht=>(q0m ht).csq) (by decide)with⟨t4,q4,rfl,_,en4,_,ek4,ea4,hs5⟩|⟨en4,ek4⟩
      ·rw[en4,if_pos ek4,show atS toks (t::t1::t2::t3::t4::q4)+5=atS toks q4 from by omega,eh,eh1]
       refine⟨?_,hs5⟩
       simp[q3o,q5S,e3,z1]
       rfl
      ·rw[en4,if_neg ek4]
       exact⟨rfl,rfl,hs4⟩
     ·rw[if_neg ks]
      have k1:(zp (q0F toks L) (atS toks (t3::q3))).kind=1:=by
       simp only[Bool.or_eq_true,beq_iff_eq]at ek3
       rcases ek3 with e|e
       ·exact absurd e ks
       ·exact e
      rw[if_pos k1]
      have e3:(t3.text==[42])=false:=by
       rw[eh3]at k1
       have ks':zk t3.text=1:=k1
       rw[ks']at hst
       simp at hst ⊢
       exact fun h=>hst h.symm
      rcases q1c L 22 hg hs4 (fun t ht=>(q0m ht).csq) (by decide)with⟨t4,q4,rfl,_,en4,_,ek4,ea4,hs5⟩|⟨en4,ek4⟩
      ·rw[en4,if_pos ek4,show atS toks (t::t1::t2::t3::t4::q4)+5=atS toks q4 from by omega,eh,eh1,eh3]
       refine⟨?_,hs5⟩
       simp[q3o,q5S,e3,z2]
      ·rw[en4,if_neg ek4]
       exact⟨rfl,rfl,hs4⟩
    ·simp only[Bool.or_eq_false_iff,beq_eq_false_iff_ne]at ek3
     rw[en3,if_neg ek3.1,if_neg ek3.2]
     exact⟨rfl,rfl,hs3⟩
   ·rw[en2,if_neg ek2]
    exact⟨rfl,rfl,hs2⟩
  ·rw[en1,if_neg ek1]
   exact⟨rfl,rfl,hs1⟩
 ·rw[en,if_neg ek]
  exact⟨rfl,rfl,hs⟩
def q2L (ts:List PTok)(F:Nat→Nat→Bool × Nat × List PNode)(m base:Nat)(nd:PNode):Bool × Nat × List PNode:=
 if (zp ts m).kind=18 then
  if (F (m+1) (base+1)).1=true then
   if q3O nd.kind=true then
    if (zp ts (F (m+1) (base+1)).2.1).kind=20 then
     if (F ((F (m+1) (base+1)).2.1+1) (base+1+(F (m+1) (base+1)).2.2.length)).1=true then
      if (zp ts (F ((F (m+1) (base+1)).2.1+1) (base+1+(F (m+1) (base+1)).2.2.length)).2.1).kind=19 then
       (true,(F ((F (m+1) (base+1)).2.1+1) (base+1+(F (m+1) (base+1)).2.2.length)).2.1+1,{nd with fst:=base+1,snd:=base+1+(F (m+1) (base+1)).2.2.length}::((F (m+1) (base+1)).2.2++(F ((F (m+1) (base+1)).2.1+1) (base+1+(F (m+1) (base+1)).2.2.length)).2.2))
      else(false,(F ((F (m+1) (base+1)).2.1+1) (base+1+(F (m+1) (base+1)).2.2.length)).2.1,[])
     else(false,(F ((F (m+1) (base+1)).2.1+1) (base+1+(F (m+1) (base+1)).2.2.length)).2.1,[])
    else(false,(F (m+1) (base+1)).2.1,[])
   else if (zp ts (F (m+1) (base+1)).2.1).kind=19 then(true,(F (m+1) (base+1)).2.1+1,{nd with fst:=base+1}::(F (m+1) (base+1)).2.2)
   else(false,(F (m+1) (base+1)).2.1,[])
  else(false,(F (m+1) (base+1)).2.1,[])
 else(false,m,[])
def qO (ts:List PTok):Nat→Nat→Nat→Bool × Nat × List PNode
 | 0,nx,_=>(false,nx,[])
 |d+1,nx,base =>
  if (q0E ts nx).1=true then
   if (q0E ts nx).2.2.kind=5∨(q0E ts nx).2.2.kind=2 then(true,(q0E ts nx).2.1,[(q0E ts nx).2.2])
   else q2L ts (qO ts d) (q0E ts nx).2.1 base (q0E ts nx).2.2
  else(false,(q0E ts nx).2.1,[])
def zq:zl→Nat
 | .nil=>0
 | .node _ _ _ l r=>1+zq l+zq r
def exB (t:By):Bool:=t==[101,120,105,115,116,115]
def zz (base:Nat)(p sp:Nat)(y:Pay)(l r:zl):PNode:=
 {kind:=zk y.word,pos:=p,name:=q9o y.word
  k0:=if zv y.word then zk (y.args.getD 0 [])else 0
  v0:=if zv y.word then q2F (y.args.getD 0 [])else 0
  k1:=if zv y.word then zk (y.args.getD 1 [])else 0
  v1:=if zv y.word then q2F (y.args.getD 1 [])else 0
  cnt:=if zv y.word then y.args.length else 0
  var:=if exB y.word then zk (y.args.getD 0 [])else 0
  sat:=sp,slo:=q2F y.lo,shi:=q2F y.hi,sop:=y.hi==[42]
  fst:=if zq l=0 then -1 else base+1
  snd:=if zq r=0 then -1 else base+1+zq l}
def qK:zl→Nat→List PNode
 | .nil,_=>[]
 | .node p sp y l r,base=>zz base p sp y l r::(qK l (base+1)++qK r (base+1+zq l))
theorem q1t (F:zl):∀base,(qK F base).length=zq F:=by
 induction F with
 |nil=>intro base;rfl
 |node p sp y l r ihl ihr=>intro base;simp[qK,zq,ihl,ihr];omega
def FSim (toks:List Tok)(o:Bool × Nat × List PNode)(x:q6M zl)(base:Nat):Prop:=match x with
 | .inl r=>o.1=false∧o.2.1=atS toks r∧r <:+ toks
 | .inr (F,r)=>o=(true,atS toks r,qK F base)∧r <:+ toks∧0<zq F
theorem j1D {toks r:List Tok}(L:Nat)(hg:q3t toks)(hs:r <:+ toks)(F:Nat→Nat→Bool × Nat × List PNode)(n base:Nat)(ih:∀r base,r <:+ toks→FSim toks (F (atS toks r) base) (q0R n r) base)(nd:PNode)(h2:q3O nd.kind=false)(p sp:Nat)(y:Pay)
  (hn:∀l:zl,0<zq l→zz base p sp y l .nil={nd with fst:=base+1}) :
  FSim toks (q2L (q0F toks L) F (atS toks r) base nd) (qC (q0h (qD [40]) r) fun _ r=>qC (q0R n r) fun A r=>qC (q0h (qD [41]) r) fun _ r=>.inr (.node p sp y A .nil,r)) base:=by
 unfold q2L
 rcases q1c L 18 hg hs (fun t ht=>(q0m ht).opn) (by decide)with⟨t,q,rfl,_,en,_,ek,ea,hs1⟩|⟨en,ek⟩
 ·rw[en,if_pos ek,←ea]
  simp only[qC]
  have h:=ih q (base+1) hs1
  generalize F (atS toks q) (base+1)=o at *
  cases hp:q0R n q with
  |inl r1 =>
   rw[hp]at h
   obtain⟨a1,a2,a3⟩:=h
   rw[if_neg (by rw[a1];decide)]
   exact⟨rfl,a2,a3⟩
  |inr z =>
   obtain⟨A,r1⟩:=z
   rw[hp]at h
   obtain⟨rfl,hs2,hz⟩:=h
   simp only[if_true,h2,Bool.false_eq_true,if_false]
   rcases q1c L 19 hg hs2 (fun t ht=>(q0m ht).cls) (by decide)with⟨t2,q2,rfl,_,en2,_,ek2,ea2,hs3⟩|⟨en2,ek2⟩
   ·rw[en2,if_pos ek2,←ea2]
    refine⟨?_,hs3,by simp[zq];omega⟩
    simp only[qK,List.append_nil]
    rw[hn A hz]
   ·rw[en2,if_neg ek2]
    exact⟨rfl,rfl,hs2⟩
 ·rw[en,if_neg ek]
  exact⟨rfl,rfl,hs⟩
theorem j1E {toks r:List Tok}(L:Nat)(hg:q3t toks)(hs:r <:+ toks)(F:Nat→Nat→Bool × Nat × List PNode)(n base:Nat)(ih:∀r base,r <:+ toks→FSim toks (F (atS toks r) base) (q0R n r) base)(nd:PNode)(h2:q3O nd.kind=true)(p sp:Nat)(y:Pay)
  (hn:∀l r:zl,0<zq l→0<zq r→zz base p sp y l r={nd with fst:=base+1,snd:=base+1+zq l}) :
  FSim toks (q2L (q0F toks L) F (atS toks r) base nd) (qC (q0h (qD [40]) r) fun _ r=>qC (q0R n r) fun A r=>qC (q0h (qD [44]) r) fun _ r=>qC (q0R n r) fun B r=>qC (q0h (qD [41]) r) fun _ r=>.inr (.node p sp y A B,r)) base:=by
 unfold q2L
 rcases q1c L 18 hg hs (fun t ht=>(q0m ht).opn) (by decide)with⟨t,q,rfl,_,en,_,ek,ea,hs1⟩|⟨en,ek⟩
 ·rw[en,if_pos ek,←ea]
  simp only[qC]
  have h:=ih q (base+1) hs1
  generalize F (atS toks q) (base+1)=o at *
  cases hp:q0R n q with
  |inl r1 =>
   rw[hp]at h
   obtain⟨a1,a2,a3⟩:=h
   rw[if_neg (by rw[a1];decide)]
   exact⟨rfl,a2,a3⟩
  |inr z =>
   obtain⟨A,r1⟩:=z
   rw[hp]at h
   obtain⟨rfl,hs2,hz⟩:=h
   simp only[if_true,h2]
   rcases q1c L 20 hg hs2 (fun t ht=>(q0m ht).com) (by decide)with⟨t2,q2,rfl,_,en2,_,ek2,ea2,hs3⟩|⟨en2,ek2⟩
   ·rw[en2,if_pos ek2,←ea2]
    simp only[]
    have h':=ih q2 (base+1+(qK A (base+1)).length) hs3
    generalize F (atS toks q2) (base+1+(qK A (base+1)).length)=o at *
    cases hp2:q0R n q2 with
    |inl r3 =>
     rw[hp2]at h'
     obtain⟨a1,a2,a3⟩:=h'
     rw[if_neg (by rw[a1];decide)]
     exact⟨rfl,a2,a3⟩
    |inr z2 =>
     obtain⟨B,r3⟩:=z2
     rw[hp2]at h'
     obtain⟨rfl,hs4,hz2⟩:=h'
     simp only[if_true]
     rcases q1c L 19 hg hs4 (fun t ht=>(q0m ht).cls) (by decide)with⟨t4,q4,rfl,_,en4,_,ek4,ea4,hs5⟩|⟨en4,ek4⟩
     ·rw[en4,if_pos ek4,←ea4]
      refine⟨?_,hs5,by simp[zq];omega⟩
      simp only[qK]
      rw[hn A B hz hz2,q1t]
     ·rw[en4,if_neg ek4]
      exact⟨rfl,rfl,hs4⟩
   ·rw[en2,if_neg ek2]
    exact⟨rfl,rfl,hs2⟩
 ·rw[en,if_neg ek]
  exact⟨rfl,rfl,hs⟩
theorem q4c {t:Tok}{q:List Tok}{p:By→Bool}(h:p t.text=true):q0h p (t::q)=.inr (t,q):=by simp[q0h,h]
theorem form_sim {toks:List Tok}(L:Nat)(hg:q3t toks):∀(d:Nat) (r:List Tok) (base:Nat),r <:+ toks→FSim toks (qO (q0F toks L) d (atS toks r) base) (q0R d r) base:=by
 intro d
 induction d with
 |zero=>intro r base hs;exact⟨rfl,rfl,hs⟩
 |succ n ih =>
  intro r base hs
  have hh:=q9Q L hs
  cases r with
  |nil =>
   have hb:¬q2T (zp (q0F toks L) (atS toks [])).kind=true:=by rw[hh];show ¬q2T 0=true;decide
   unfold qO q0E
   rw[if_neg hb]
   exact⟨rfl,rfl,hs⟩
  |cons t q =>
   have gt:=q7y hg hs
   have K:=q0m gt
   obtain⟨ea,hs1⟩:=at_s hs
   have hk:(zp (q0F toks L) (atS toks (t::q))).kind=zk t.text:=by rw[hh];rfl
   have hself:qD t.text t.text=true:=by simp[qD]
   have hhd:hd (t::q)=t.text:=rfl
   rw[qO,q0R]
   simp only[hhd]
   unfold q0E
   rw[hk]
   by_cases c1:zk t.text=2
   ·have b1:zv t.text=true:=by rw[K.name,c1];rfl
    rw[if_pos b1,if_pos (show q2T (zk t.text)=true by rw[c1];decide),if_pos c1,q4c b1,←ea]
    simp only[qC]
    have h:=args_sim L hg hs1 (q0T (zp (q0F toks L) (atS toks (t::q)))) ⟨rfl,rfl⟩
    generalize q6O (q0F toks L) (atS toks q) (q0T (zp (q0F toks L) (atS toks (t::q))))=o at *
    have key:∀(x:q6M (List (By))) (g:q6M zl),(g=qC x fun gs r=>.inr (.node t.pos 0 ⟨t.text,gs,[],[]⟩ .nil .nil,r))→HSim toks o x (q5u (q0T (zp (q0F toks L) (atS toks (t::q)))))→FSim toks (if o.1=true then if o.2.2.kind=5∨o.2.2.kind=2 then(true,o.2.1,[o.2.2])else q2L (q0F toks L) (qO (q0F toks L) n) o.2.1 base o.2.2 else(false,o.2.1,[])) g base:=by
     intro x g hg' hx
     subst hg'
     cases x with
     |inl r1 =>
      obtain⟨a1,a2,a3⟩:=hx
      rw[if_neg (by rw[a1];decide)]
      exact⟨rfl,a2,a3⟩
     |inr z =>
      obtain⟨gs,r1⟩:=z
      obtain⟨rfl,a2⟩:=hx
      rw[hh]
      simp only[if_true]
      rw[if_pos (show(q5u (q0T (q2j L (t::q))) gs).kind=5∨(q5u (q0T (q2j L (t::q))) gs).kind=2 from Or.inr c1)]
      refine⟨?_,a2,by simp[zq]⟩
      have hne:exB t.text=false:=by unfold exB;rw[K.ex,c1];rfl
      simp only[qK,List.append_nil,zz,b1,hne,zq,if_true,q5u,q0T,q2j,q5S]
      rfl
    refine key _ _ ?_ h
    cases q0h (qD [40]) q with
    |inl r1=>rfl
    |inr z =>
     obtain⟨t1,r1⟩:=z
     simp only[qC]
     cases q0h q3Q r1 with
     |inl r2=>rfl
     |inr z =>
      obtain⟨t2,r2⟩:=z
      simp only[]
      cases q2B r2 with
      |inl r3=>rfl
      |inr z =>
       obtain⟨bb,r3⟩:=z
       simp only[]
       cases q0h (qD [41]) r3<;>rfl
   ·have b1:¬zv t.text=true:=by rw[K.name];simpa using c1
    rw[if_neg b1]
    by_cases c2:zk t.text=9
    ·have b2:(t.text==[101,120,105,115,116,115])=true:=by rw[K.ex,c2];rfl
     rw[if_pos b2,if_pos (show q2T (zk t.text)=true by rw[c2];decide),if_neg c1,if_pos c2,q4c hself,←ea]
     simp only[qC]
     rcases q7M L (fun q=>q5T q.kind) hg hs1 (p:=q1J) (fun t ht=>(q0m ht).var) rfl with⟨t1,q1,rfl,_,en1,eh1,ek1,ea1,hs2⟩|⟨en1,ek1⟩
     ·rw[en1,if_pos ek1]
      simp only[]
      have e2:atS toks (t::t1::q1)+2=atS toks q1:=by omega
      rw[e2,eh1,hh]
      simp only[if_true]
      rw[if_neg (show ¬((q0T (q2j L (t::t1::q1))).kind=5∨(q0T (q2j L (t::t1::q1))).kind=2) from(by show ¬(zk t.text=5∨zk t.text=2);rw[c2];decide))]
      refine j1D L hg hs2 _ n base ih _ (show q3O (zk t.text)=false by rw[c2];decide) _ _ _ ?_
      intro l hl
      have hz:zq l≠0:=by omega
      have hx:exB t.text=true:=b2
      have b1':zv t.text=false:=by simpa using b1
      simp only[zz,b1',hx,hz,zq,if_true,if_false,q0T,q2j,q5S,Bool.false_eq_true]
      rfl
     ·have ek2:¬q5T (zp (q0F toks L) (atS toks q)).kind=true:=by have e:q5T (zp (q0F toks L) (atS toks q)).kind=false:=ek1;rw[e];decide
      rw[en1,if_neg ek2]
      exact⟨rfl,rfl,hs1⟩
    ·have b2:¬(t.text==[101,120,105,115,116,115])=true:=by rw[K.ex];simpa using c2
     have hx:exB t.text=false:=by simpa[exB]using b2
     have b1':zv t.text=false:=by simpa using b1
     rw[if_neg b2]
     cases c3:q2P (zk t.text)with
     |false =>
      have b4:¬q0Q t.text=true:=by rw[K.one,c3];simp
      have b5:¬q0J t.text=true:=by rw[K.two,c3];simp
      cases c4:q3O (zk t.text)with
      |true =>
       have b3:q0o t.text=true:=by rw[K.plain,c3,c4];rfl
       have hb:q2T (zk t.text)=true:=by unfold q2T;rw[c4];simp
       have n5:¬(zk t.text=5∨zk t.text=2):=by
        intro h
        rcases h with h|h
        ·rw[h]at c4;exact absurd c4 (by decide)
        ·exact c1 h
       rw[if_pos b3,if_pos hb,if_neg c1,if_neg c2,q4c hself,←ea]
       simp only[qC,Bool.false_eq_true,if_false,if_true]
       rw[hh,if_neg (show ¬((q0T (q2j L (t::q))).kind=5∨(q0T (q2j L (t::q))).kind=2) from n5)]
       refine j1E L hg hs1 _ n base ih _ c4 _ _ _ ?_
       intro l r hl hr
       have hz:zq l≠0:=by omega
       have hz2:zq r≠0:=by omega
       simp only[zz,j1B,b1',hx,hz,hz2,if_false,q0T,q2j,q5S,Bool.false_eq_true]
       rfl
      |false =>
       have b3:¬q0o t.text=true:=by rw[K.plain,c3,c4];decide
       rw[if_neg b3,if_neg b4,if_neg b5]
       by_cases c5:zk t.text=5
       ·have b6:qD [116,114,117,101] t.text=true:=by rw[K.tr,c5];rfl
        rw[if_pos (show q2T (zk t.text)=true by rw[c5];decide),if_neg c1,if_neg c2,q4c b6,←ea]
        simp only[qC,Bool.false_eq_true,if_false,if_true]
        rw[hh,if_pos (show((q0T (q2j L (t::q))).kind=5∨(q0T (q2j L (t::q))).kind=2) from .inl c5)]
        refine⟨?_,hs1,by simp[zq]⟩
        simp only[qK,List.append_nil,zz,j1B,b1',hx,zq,if_true,if_false,q0T,q2j,q5S,Bool.false_eq_true]
        rfl
       ·have b6:qD [116,114,117,101] t.text=false:=by rw[K.tr];simpa using c5
        have hb:¬q2T (zk t.text)=true:=by unfold q2T;rw[c3,c4];simp[c1,c2,c5]
        rw[if_neg hb]
        have e:q0h (qD [116,114,117,101]) (t::q)=.inl (t::q):=by simp[q0h,b6]
        rw[e]
        exact⟨rfl,rfl,hs⟩
     |true =>
      have hb:q2T (zk t.text)=true:=by unfold q2T;rw[c3];simp
      have b3:¬q0o t.text=true:=by rw[K.plain,c3];simp
      have n5:¬(zk t.text=5∨zk t.text=2):=by
       intro h
       rcases h with h|h
       ·rw[h]at c3;exact absurd c3 (by decide)
       ·exact c1 h
      have h:=span_sim L hg hs1 (q0T (zp (q0F toks L) (atS toks (t::q)))) ⟨rfl,rfl⟩
      rw[if_neg b3,if_pos hb,if_neg c1,if_neg c2]
      simp only[if_true]
      rw[←ea]
      cases c4:q3O (zk t.text)with
      |false =>
       have b4:q0Q t.text=true:=by rw[K.one,c3,c4];rfl
       rw[if_pos b4,q4c hself]
       simp only[qC]
       generalize q3n (q0F toks L) (atS toks q) (q0T (zp (q0F toks L) (atS toks (t::q))))=o at *
       cases hp:q2C q with
       |inl r1 =>
        rw[hp]at h
        obtain⟨a1,a2,a3⟩:=h
        rw[if_neg (by rw[a1];decide)]
        exact⟨rfl,a2,a3⟩
       |inr z =>
        obtain⟨sv,r1⟩:=z
        rw[hp]at h
        obtain⟨rfl,hs2⟩:=h
        simp only[if_true]
        rw[hh,if_neg (show ¬((q3o (q0T (q2j L (t::q))) sv).kind=5∨(q3o (q0T (q2j L (t::q))) sv).kind=2) from n5)]
        refine j1D L hg hs2 _ n base ih _ c4 _ _ _ ?_
        intro l hl
        have hz:zq l≠0:=by omega
        simp only[zz,b1',hx,hz,zq,if_true,if_false,q0T,q2j,q5S,q3o,Bool.false_eq_true]
      |true =>
       have b4:¬q0Q t.text=true:=by rw[K.one,c3,c4];decide
       have b5:q0J t.text=true:=by rw[K.two,c3,c4];rfl
       rw[if_neg b4,if_pos b5,q4c hself]
       simp only[qC]
       generalize q3n (q0F toks L) (atS toks q) (q0T (zp (q0F toks L) (atS toks (t::q))))=o at *
       cases hp:q2C q with
       |inl r1 =>
        rw[hp]at h
        obtain⟨a1,a2,a3⟩:=h
        rw[if_neg (by rw[a1];decide)]
        exact⟨rfl,a2,a3⟩
       |inr z =>
        obtain⟨sv,r1⟩:=z
        rw[hp]at h
        obtain⟨rfl,hs2⟩:=h
        simp only[if_true]
        rw[hh,if_neg (show ¬((q3o (q0T (q2j L (t::q))) sv).kind=5∨(q3o (q0T (q2j L (t::q))) sv).kind=2) from n5)]
        refine j1E L hg hs2 _ n base ih _ c4 _ _ _ ?_
        intro l r hl hr
        have hz:zq l≠0:=by omega
        have hz2:zq r≠0:=by omega
        simp only[zz,b1',hx,hz,hz2,if_false,q0T,q2j,q5S,q3o,Bool.false_eq_true]
structure NodeOk (y:Pay)(l r:zl):Prop where
 word:KFacts y.word
 args:∀a∈y.args,KFacts a
 lo:q2F y.lo=(q0n y.lo:Int)
 hi:q2F y.hi=(q0n y.hi:Int)
 shape:(zk y.word=2∧l=.nil∧r=.nil∧y.lo=[]∧y.hi=[]∧y.args.length≤2)∨(zk y.word=5∧l=.nil∧r=.nil∧y.lo=[]∧y.hi=[]∧y.args=[])∨(zk y.word=9∧l≠.nil∧r=.nil∧y.lo=[]∧y.hi=[]∧∃v,y.args=[v]∧(v=[120]∨v=[121]))
  ∨ (q2P (zk y.word)=true∧q3O (zk y.word)=false∧l≠.nil∧r=.nil∧y.args=[])∨(q3O (zk y.word)=true∧q2P (zk y.word)=false∧l≠.nil∧r≠.nil∧y.args=[]∧y.lo=[]∧y.hi=[])∨(q3O (zk y.word)=true∧q2P (zk y.word)=true∧l≠.nil∧r≠.nil∧y.args=[])
def q3P:zl→Prop
 | .nil=>True
 | .node _ _ y l r=>NodeOk y l r∧q3P l∧q3P r
theorem j2I {t:Tok}(h:q0X t)(hn:q4o t.text=true):q2F t.text=(q0n t.text:Int):=by
 obtain⟨c,r,e,_⟩:=h
 rw[e]at hn ⊢
 have e2:qp (c.toNat:Int)=true:=hn
 simp only[q2F]
 rw[if_pos e2]
theorem j6g {t:Tok}(h:q0X t)(hn:q4B t.text=true):q2F t.text=(q0n t.text:Int):=by
 unfold q4B at hn
 rw[Bool.or_eq_true]at hn
 rcases hn with hn|hn
 ·have:t.text=[42]:=by simpa using hn
  rw[this]
  decide
 ·exact j2I h hn
theorem q1z {F:zl}{u:List Tok}(h:qz F u):F≠.nil:=by
 intro e
 subst e
 exact h
theorem j2J {v:By}(h:q1J v=true):v=[120]∨v=[121]:=by
 unfold q1J at h
 simpa using h
theorem j0t:∀(F:zl) (u:List Tok),qz F u→q3t u→q3P F:=by
 intro F
 induction F with
 |nil=>intro u h _;trivial
 |node p sp y l r ihl ihr =>
  intro u h hg
  rcases h with⟨hn,e1,e2,rfl,rfl,q1,q2,q3,a,ha,h⟩|⟨hn,hw,e1,e2,rfl,v,q1,q2,q3,ul,hv,ea,hl,rfl⟩|⟨hn,hw,ea,e1,e2,q1,q2,q3,ul,ur,hl,hr,rfl⟩|⟨hn,hw,ea,rfl,hlo,hhi,q1,q2,q3,q4,q5,q6,ul,hl,rfl⟩|⟨hn,hw,ea,hlo,hhi,q1,q2,q3,q4,q5,q6,q7,ul,ur,hl,hr,rfl⟩|⟨hn,hw,ea,e1,e2,rfl,rfl,rfl⟩
  ·have kw:KFacts y.word∧(∀b∈y.args,KFacts b)∧y.args.length≤2:=by
    rcases h with⟨hy,rfl⟩|⟨b,q4,q5,hb,hy,rfl⟩
    ·refine⟨q0m (hg ⟨y.word,p⟩ (by simp)),?_,by rw[hy];simp⟩
     rw[hy]
     intro b hb
     have:=List.mem_singleton.1 hb
     subst this
     exact q0m (hg ⟨b,q2⟩ (by simp))
    ·refine⟨q0m (hg ⟨y.word,p⟩ (by simp)),?_,by rw[hy];simp⟩
     rw[hy]
     intro c hc
     simp only[List.mem_cons,List.not_mem_nil,or_false]at hc
     rcases hc with rfl|rfl
     ·exact q0m (hg ⟨c,q2⟩ (by simp))
     ·exact q0m (hg ⟨c,q5⟩ (by simp))
   have k2:zk y.word=2:=by have:=kw.1.name;rw[hn]at this;simpa using this.symm
   exact⟨⟨kw.1,kw.2.1,by rw[e1];rfl,by rw[e2];rfl,.inl ⟨k2,rfl,rfl,e1,e2,kw.2.2⟩⟩,trivial,trivial⟩
  ·have kw:=q0m (hg ⟨y.word,p⟩ (by simp))
   have kv:=q0m (hg ⟨v,q1⟩ (by simp))
   have k9:zk y.word=9:=by rw[hw];decide
   exact⟨⟨kw,by rw[ea];intro a ha;have:=List.mem_singleton.1 ha;subst this;exact kv,by rw[e1];rfl,by rw[e2];rfl,.inr (.inr (.inl ⟨k9,q1z hl,rfl,e1,e2,v,ea,j2J hv⟩))⟩,ihl ul hl (q0t hg (by intro t ht;simp[ht])),trivial⟩
  ·have kw:=q0m (hg ⟨y.word,p⟩ (by simp))
   have kp:=kw.plain
   simp only[]at kp
   rw[hw]at kp
   have kp':q3O (zk y.word)=true∧q2P (zk y.word)=false:=by simpa using kp.symm
   exact⟨⟨kw,by rw[ea];simp,by rw[e1];rfl,by rw[e2];rfl,.inr (.inr (.inr (.inr (.inl ⟨kp'.1,kp'.2,q1z hl,q1z hr,ea,e1,e2⟩))))⟩,ihl ul hl (q0t hg (by intro t ht;simp[ht])),ihr ur hr (q0t hg (by intro t ht;simp[ht]))⟩
  ·have kw:=q0m (hg ⟨y.word,p⟩ (by simp))
   have kp:=kw.one
   simp only[]at kp
   rw[hw]at kp
   have kp':q2P (zk y.word)=true∧q3O (zk y.word)=false:=by simpa using kp.symm
   exact⟨⟨kw,by rw[ea];simp,j2I (hg ⟨y.lo,q1⟩ (by simp)) hlo,j6g (hg ⟨y.hi,q3⟩ (by simp)) hhi,.inr (.inr (.inr (.inl ⟨kp'.1,kp'.2,q1z hl,rfl,ea⟩)))⟩,ihl ul hl (q0t hg (by intro t ht;simp[ht])),trivial⟩
  ·have kw:=q0m (hg ⟨y.word,p⟩ (by simp))
   have kp:=kw.two
   simp only[]at kp
   rw[hw]at kp
   have kp':q2P (zk y.word)=true∧q3O (zk y.word)=true:=by simpa using kp.symm
   exact⟨⟨kw,by rw[ea];simp,j2I (hg ⟨y.lo,q1⟩ (by simp)) hlo,j6g (hg ⟨y.hi,q3⟩ (by simp)) hhi,.inr (.inr (.inr (.inr (.inr ⟨kp'.2,kp'.1,q1z hl,q1z hr,ea⟩))))⟩,ihl ul hl (q0t hg (by intro t ht;simp[ht])),ihr ur hr (q0t hg (by intro t ht;simp[ht]))⟩
  ·have kw:=q0m (hg ⟨y.word,p⟩ (by simp))
   have k5:zk y.word=5:=by rw[hw];decide
   exact⟨⟨kw,by rw[ea];simp,by rw[e1];rfl,by rw[e2];rfl,.inr (.inl ⟨k5,rfl,rfl,e1,e2,ea⟩)⟩,trivial,trivial⟩
structure PInfo where
 x:Bool
 y:Bool
 reach:Int
def qj (G:zl):PInfo:=⟨zt G [120],zt G [121],zV G⟩
def q1Z:PInfo:=⟨false,false,-1⟩
def q3D (nd:PNode)(k:Int):Bool:=(decide (0<nd.cnt)&&nd.k0==k) || (decide (1<nd.cnt)&&nd.k1==k)
def q3V (own inner:Int):Int:=if inner = -1 then own else own+inner
def mxP (a b:PInfo):Int:=if b.reach > a.reach then b.reach else a.reach
def q2y (nd:PNode)(a b:PInfo):PInfo:=
 if nd.kind=2 then⟨q3D nd 3,q3D nd 4,if q1C nd.kind then q3V nd.shi (mxP a b)else mxP a b⟩
 else if nd.kind=9 then⟨(a.x || b.x)&&!(nd.var==3),(a.y || b.y)&&!(nd.var==4),if q1C nd.kind then q3V nd.shi (mxP a b)else mxP a b⟩
 else⟨a.x || b.x,a.y || b.y,if q1C nd.kind then q3V nd.shi (mxP a b)else mxP a b⟩
def q9m (one other:PInfo):Bool:=(other.x || !one.x)&&(other.y || !one.y)
def q8V (nd:PNode)(a b:PInfo):Bool:=
 if nd.kind=8 then(a.x != b.x) || (a.y != b.y)
 else if nd.kind=7 then !q9m b a
 else if nd.kind=14∨nd.kind=15∨nd.kind=16∨nd.kind=17 then !q9m a b
 else if nd.kind=9 then !(nd.var==3&&a.x)&&!(nd.var==4&&a.y)
 else false
def j2U (nd:PNode):Bool:=!nd.sop&&decide (nd.slo > nd.shi)
def openP (nd:PNode):Bool:=nd.sop&&q1C nd.kind
theorem q5m:∀F:zl,-1≤zV F:=by
 intro F
 induction F with
 |nil=>simp[zV]
 |node p sp y l r ihl ihr =>
  simp only[zV,mxI]
  have:(0:Int)≤(q0n y.hi:Int):=by omega
  repeat' split
  all_goals omega
theorem mx_two (l r:zl):mxI (mxI (-1) (zV l)) (zV r)=mxP (qj l) (qj r):=by
 have:=q5m l
 have:=q5m r
 simp only[mxI,mxP,qj]
 repeat' split
 all_goals omega
theorem reach_of {y:Pay}{l r:zl}(base p sp:Nat)(h:NodeOk y l r):(if q1C (zz base p sp y l r).kind then q3V (zz base p sp y l r).shi (mxP (qj l) (qj r))else mxP (qj l) (qj r))=zV (.node p sp y l r):=by
 have e1:(zz base p sp y l r).kind=zk y.word:=rfl
 have e2:(zz base p sp y l r).shi=q2F y.hi:=rfl
 rw[e1,e2,h.hi,←h.word.ahead]
 simp only[zV]
 rw[mx_two]
 generalize mxP (qj l) (qj r)=m
 cases q2f y.word with
 |false=>rfl
 |true =>
  simp only[if_true,q3V]
  by_cases hm:m = -1
  ·simp[hm]
  ·simp[hm];omega
theorem j5J (gs:List (By))(x:By)(k:Int)(h2:gs.length≤2)(hx:∀a∈gs,(a==x)=(zk a==k)):(gs.any fun a=>a==x)=((decide (0<(gs.length:Int))&&zk (gs.getD 0 [])==k) || (decide (1<(gs.length:Int))&&zk (gs.getD 1 [])==k)):=by
 match gs,h2 with
 | [],_=>rfl
 | [a],_=>simp[hx a (by simp)]
 | [a,b],_=>simp[hx a (by simp),hx b (by simp)]
theorem q2X {p sp:Nat}{y:Pay}{l r:zl}(x:By)(h:l≠.nil):zt (.node p sp y l r) x=(!(y.word==[101,120,105,115,116,115]&&y.args==[x])&&(zt l x || zt r x)):=by
 cases l with
 |nil=>exact absurd rfl h
 |node=>rfl
theorem info_of {y:Pay}{l r:zl}(base p sp:Nat)(h:NodeOk y l r):q2y (zz base p sp y l r) (qj l) (qj r)=qj (.node p sp y l r):=by
 unfold q2y
 rw[reach_of base p sp h]
 have e1:(zz base p sp y l r).kind=zk y.word:=rfl
 rw[e1]
 have hex:=h.word.ex
 have hnm:=h.word.name
 rcases h.shape with⟨k,rfl,rfl,_,_,ha⟩|⟨k,rfl,rfl,_,_,ha⟩|⟨k,hl,rfl,_,_,v,ha,hv⟩|⟨k1,k2,hl,rfl,ha⟩|⟨k1,k2,hl,hr,ha,_⟩|⟨k1,k2,hl,hr,ha⟩
 ·rw[if_pos k]
  rw[k]at hnm
  have hn:zv y.word=true:=hnm
  simp only[qj,zt]
  rw[j5J y.args [120] 3 ha (fun a hm=>(h.args a hm).isX),j5J y.args [121] 4 ha (fun a hm=>(h.args a hm).isY)]
  simp only[q3D,zz,hn,if_true]
 ·rw[if_neg (by rw[k];decide),if_neg (by rw[k];decide)]
  simp only[qj,zt,ha]
  rfl
 ·rw[if_neg (by rw[k];decide),if_pos k]
  have hw:y.word=[101,120,105,115,116,115]:=by rw[k]at hex;simpa using hex
  have hx:exB y.word=true:=by rw[hw];decide
  have hv0:(zz base p sp y l .nil).var=zk v:=by simp only[zz,hx,ha];rfl
  rw[hv0]
  simp only[qj]
  rw[q2X _ hl,q2X _ hl,hw,ha]
  simp only[beq_self_eq_true,Bool.true_and]
  rcases hv with rfl|rfl
  ·rw[show zk [120]=3 by decide]
   simp[zt]
  ·rw[show zk [121]=4 by decide]
   simp[zt]
 ·have n2:¬zk y.word=2:=by intro e;rw[e]at k1;exact absurd k1 (by decide)
  have n9:¬zk y.word=9:=by intro e;rw[e]at k1;exact absurd k1 (by decide)
  rw[if_neg n2,if_neg n9]
  have hw:(y.word==[101,120,105,115,116,115])=false:=by rw[hex];simpa using n9
  simp only[qj]
  rw[q2X _ hl,q2X _ hl,hw]
  simp
 ·have n2:¬zk y.word=2:=by intro e;rw[e]at k1;exact absurd k1 (by decide)
  have n9:¬zk y.word=9:=by intro e;rw[e]at k1;exact absurd k1 (by decide)
  rw[if_neg n2,if_neg n9]
  have hw:(y.word==[101,120,105,115,116,115])=false:=by rw[hex];simpa using n9
  simp only[qj]
  rw[q2X _ hl,q2X _ hl,hw]
  simp
 ·have n2:¬zk y.word=2:=by intro e;rw[e]at k1;exact absurd k1 (by decide)
  have n9:¬zk y.word=9:=by intro e;rw[e]at k1;exact absurd k1 (by decide)
  rw[if_neg n2,if_neg n9]
  have hw:(y.word==[101,120,105,115,116,115])=false:=by rw[hex];simpa using n9
  simp only[qj]
  rw[q2X _ hl,q2X _ hl,hw]
  simp
theorem back_of {y:Pay}{l r:zl}(base p sp:Nat)(h:NodeOk y l r):j2U (zz base p sp y l r)=q0p (.node p sp y l r):=by
 unfold j2U q0p
 have e1:q4A (.node p sp y l r)=y.word:=rfl
 have e2:q6X (.node p sp y l r)=y:=rfl
 rw[e1,e2,h.word.one,h.word.two]
 have e3:(zz base p sp y l r).sop=(y.hi==[42]):=rfl
 have e4:(zz base p sp y l r).slo=q2F y.lo:=rfl
 have e5:(zz base p sp y l r).shi=q2F y.hi:=rfl
 rw[e3,e4,e5,h.lo,h.hi]
 have e6:decide ((q0n y.lo:Int) > (q0n y.hi:Int))=decide (q0n y.hi<q0n y.lo):=by rw[decide_eq_decide];omega
 rw[e6]
 have key:q2P (zk y.word)=false→y.lo=[]→y.hi=[]→(!(y.hi==[42])&&decide (q0n y.hi<q0n y.lo))=((q2P (zk y.word)&&!q3O (zk y.word) || q2P (zk y.word)&&q3O (zk y.word))&&!(y.hi==[42])&&decide (q0n y.hi<q0n y.lo)):=by
  intro hs a b
  rw[hs,a,b]
  simp
 rcases h.shape with⟨k,rfl,rfl,a,b,_⟩|⟨k,rfl,rfl,a,b,_⟩|⟨k,hl,rfl,a,b,_⟩|⟨k1,k2,_⟩|⟨k1,k2,_,_,_,a,b⟩|⟨k1,k2,_⟩
 ·exact key (by rw[k];decide) a b
 ·exact key (by rw[k];decide) a b
 ·exact key (by rw[k];decide) a b
 ·rw[k1,k2];simp
 ·exact key k2 a b
 ·rw[k1,k2];simp
theorem open_of {y:Pay}{l r:zl}(base p sp:Nat)(h:NodeOk y l r):openP (zz base p sp y l r)=q0v (.node p sp y l r):=by
 unfold openP q0v
 have e1:q4A (.node p sp y l r)=y.word:=rfl
 have e2:q6X (.node p sp y l r)=y:=rfl
 rw[e1,e2,h.word.ahead,Bool.and_comm]
 rfl
theorem kids_few {p sp:Nat}{y:Pay}{l r:zl}(h:r=.nil):decide ((q1g (.node p sp y l r)).length<2)=true:=by
 subst h
 cases l with
 |nil=>rfl
 |node=>rfl
theorem j1z {p sp:Nat}{y:Pay}{l r:zl}(hl:l≠.nil)(hr:r≠.nil):decide ((q1g (.node p sp y l r)).length<2)=false:=by
 cases l with
 |nil=>exact absurd rfl hl
 |node =>
  cases r with
  |nil=>exact absurd rfl hr
  |node=>rfl
theorem wrong_of {y:Pay}{l r:zl}(base p sp:Nat)(h:NodeOk y l r):q8V (zz base p sp y l r) (qj l) (qj r)=q2t (.node p sp y l r):=by
 unfold q8V
 have e1:(zz base p sp y l r).kind=zk y.word:=rfl
 rw[e1]
 rw[q2t]
 have hex:=h.word.ex
 have hor:=h.word.isOr
 have hbut:=h.word.isBut
 have htwo:=h.word.two
 rw[hex]
 have one:q3O (zk y.word)=false→r=.nil→zk y.word≠9→(if zk y.word=8 then((qj l).x != (qj r).x) || ((qj l).y != (qj r).y)else if zk y.word=7 then !q9m (qj r) (qj l)else if zk y.word=14∨zk y.word=15∨zk y.word=16∨zk y.word=17 then !q9m (qj l) (qj r)else if zk y.word=9 then !((zz base p sp y l r).var==3&&(qj l).x)&&!((zz base p sp y l r).var==4&&(qj l).y)else false)=if (zk y.word==9)=true then !zt l (y.args.headD [])else if (decide ((q1g (.node p sp y l r)).length<2) || y.word==[97,110,100])=true then false else q4U y.word (zt l [120]) (zt r [120]) || q4U y.word (zt l [121]) (zt r [121]):=by
  intro ht hr n9
  have n8:¬zk y.word=8:=by intro e;rw[e]at ht;exact absurd ht (by decide)
  have n7:¬zk y.word=7:=by intro e;rw[e]at ht;exact absurd ht (by decide)
  have n14:¬(zk y.word=14∨zk y.word=15∨zk y.word=16∨zk y.word=17):=by
   intro e
   rcases e with e|e|e|e<;>(rw[e]at ht;exact absurd ht (by decide))
  rw[if_neg n8,if_neg n7,if_neg n14,if_neg n9,if_neg (by simpa using n9),if_pos]
  rw[kids_few hr]
  rfl
 rcases h.shape with⟨k,hl,hr,_⟩|⟨k,hl,hr,_⟩|⟨k,hl,hr,_,_,v,ha,hv⟩|⟨k1,k2,hl,hr,ha⟩|⟨k1,k2,hl,hr,ha,_⟩|⟨k1,k2,hl,hr,ha⟩
 ·exact one (by rw[k];decide) hr (by rw[k];decide)
 ·exact one (by rw[k];decide) hr (by rw[k];decide)
 ·have hw:y.word=[101,120,105,115,116,115]:=by rw[k]at hex;simpa using hex
  have hx:exB y.word=true:=by rw[hw];decide
  have hv0:(zz base p sp y l r).var=zk v:=by simp only[zz,hx,ha];rfl
  rw[hv0,k,ha]
  rw[if_neg (by decide),if_neg (by decide),if_neg (by decide),if_pos rfl,if_pos (show((9:Int)==9)=true by decide)]
  rcases hv with rfl|rfl
  ·have ek:zk [120]=3:=by decide
   rw[ek]
   simp[qj]
  ·have ek:zk [121]=4:=by decide
   rw[ek]
   simp[qj]
 ·exact one k2 hr (by intro e;rw[e]at k1;exact absurd k1 (by decide))
 ·have n9:¬zk y.word=9:=by intro e;rw[e]at k1;exact absurd k1 (by decide)
  have n14:¬(zk y.word=14∨zk y.word=15∨zk y.word=16∨zk y.word=17):=by
   intro e
   rcases e with e|e|e|e<;>(rw[e]at k2;exact absurd k2 (by decide))
  rw[if_neg (show ¬(zk y.word==9)=true by simpa using n9),j1z hl hr,if_neg n14,if_neg n9]
  unfold q4U
  rw[hor,hbut,htwo,k2]
  by_cases a8:zk y.word=8
  ·have hw:y.word=[111,114]:=by rw[a8]at hor;simpa using hor
   rw[if_pos a8,a8,hw]
   simp[qj]
  ·rw[if_neg a8]
   by_cases a7:zk y.word=7
   ·have hw:y.word=[98,117,116]:=by rw[a7]at hbut;simpa using hbut
    rw[if_pos a7,a7,hw]
    simp[qj,q9m]
    cases zt l [120]<;>cases zt r [120]<;>cases zt l [121]<;>cases zt r [121]<;>rfl
   ·rw[if_neg a7]
    simp[a8,a7]
 ·have n9:¬zk y.word=9:=by intro e;rw[e]at k1;exact absurd k1 (by decide)
  have n8:¬zk y.word=8:=by intro e;rw[e]at k2;exact absurd k2 (by decide)
  have n7:¬zk y.word=7:=by intro e;rw[e]at k2;exact absurd k2 (by decide)
  have y14:zk y.word=14∨zk y.word=15∨zk y.word=16∨zk y.word=17:=by
   unfold q3O at k1
   unfold q2P at k2
   simp only[Bool.or_eq_true,beq_iff_eq]at k1 k2
   omega
  have na:(y.word==[97,110,100])=false:=by
   simp only[beq_eq_false_iff_ne]
   intro e
   rw[e]at k2
   exact absurd k2 (by decide)
  rw[if_neg (show ¬(zk y.word==9)=true by simpa using n9),j1z hl hr,if_neg n8,if_neg n7,if_pos y14]
  unfold q4U
  have m8:(zk y.word==8)=false:=by simpa using n8
  have m7:(zk y.word==7)=false:=by simpa using n7
  rw[hor,hbut,htwo,k1,k2,na,m8,m7]
  simp only[qj,q9m]
  cases zt l [120]<;>cases zt r [120]<;>cases zt l [121]<;>cases zt r [121]<;>rfl
theorem qN (F:zl):(zu F).length=zq F:=by
 induction F with
 |nil=>rfl
 |node p sp y l r ihl ihr=>simp[zu,zq,ihl,ihr];omega
theorem j5K (F:zl):∀(base m:Nat) (G:zl),(zu F)[m]?=some G→∃p sp y l r,G=.node p sp y l r∧(qK F base)[m]?=some (zz (base+m) p sp y l r)∧(q3P F→q3P G)∧(∀j,j<zq G→(zu F)[m+j]?=(zu G)[j]?):=by
 induction F with
 |nil=>intro base m G h;simp[zu]at h
 |node p sp y l r ihl ihr =>
  intro base m G h
  cases m with
  |zero =>
   have:.node p sp y l r=G:=by simpa[zu]using h
   subst this
   exact⟨p,sp,y,l,r,rfl,rfl,fun h=>h,fun j _=>by rw[Nat.zero_add]⟩
  |succ m =>
   have h':(zu l++zu r)[m]?=some G:=by simpa[zu]using h
   by_cases hm:m<(zu l).length
   ·rw[List.getElem?_append_left hm]at h'
    obtain⟨p',sp',y',l',r',e,h1,h2,h3⟩:=ihl (base+1) m G h'
    refine⟨p',sp',y',l',r',e,?_,fun hf=>h2 hf.2.1,fun j hj=>?_⟩
    ·have hm':m<(qK l (base+1)).length:=by rw[q1t,←qN];exact hm
     have e2:base+(m+1)=base+1+m:=by omega
     rw[qK,List.getElem?_cons_succ,List.getElem?_append_left hm',h1,e2]
    ·have h3':=h3 j hj
     have hs:m+j<(zu l).length:=by
      rw[zG (show j<(zu G).length by rw[qN];exact hj)]at h3'
      exact(List.getElem?_eq_some_iff.1 h3').1
     have e2:m+1+j=(m+j)+1:=by omega
     rw[e2,zu,List.getElem?_cons_succ,List.getElem?_append_left hs,h3']
   ·rw[List.getElem?_append_right (by omega)]at h'
    obtain⟨p',sp',y',l',r',e,h1,h2,h3⟩:=ihr (base+1+zq l) (m-(zu l).length) G h'
    rw[qN]at h1 h3 hm
    refine⟨p',sp',y',l',r',e,?_,fun hf=>h2 hf.2.2,fun j hj=>?_⟩
    ·have e2:base+1+zq l+(m-zq l)=base+(m+1):=by omega
     rw[qK,List.getElem?_cons_succ,List.getElem?_append_right (by rw[q1t];omega),q1t,h1,e2]
    ·have h3':=h3 j hj
     have e2:m+1+j=(m+j)+1:=by omega
     have e3:m+j-(zu l).length=m-zq l+j:=by rw[qN];omega
     rw[e2,zu,List.getElem?_cons_succ,List.getElem?_append_right (by rw[qN];omega),e3,h3']
theorem q3c {F:zl}(h:F≠.nil):(zu F)[0]?=some F∧0<zq F:=by
 cases F with
 |nil=>exact absurd rfl h
 |node=>exact⟨rfl,by simp[zq];omega⟩
def q1b (I:List PInfo)(n:Int):PInfo:=if n<0∨(I.length:Int)≤n then q1Z else I.getD n.toNat q1Z
def q0B (F:zl)(k:Nat):List PInfo:=List.replicate k ⟨false,false,0⟩++((zu F).map qj).drop k
theorem q4V (F:zl)(k:Nat)(h:k≤zq F):(q0B F k).length=zq F:=by
 unfold q0B
 simp[qN]
 omega
theorem q8x (F:zl)(k m:Nat)(h:k≤m)(G:zl)(hG:(zu F)[m]?=some G):q1b (q0B F k) (m:Int)=qj G:=by
 have hm:m<(zu F).length:=(List.getElem?_eq_some_iff.1 hG).1
 rw[qN]at hm
 have hl:=q4V F k (by omega)
 unfold q1b
 rw[if_neg (by rw[hl];omega)]
 have e:(q0B F k)[m]?=some (qj G):=by
  unfold q0B
  rw[List.getElem?_append_right (by simpa using h)]
  simp only[List.length_replicate,List.getElem?_drop,List.getElem?_map]
  rw[show k+(m-k)=m by omega,hG]
  rfl
 simp[List.getD,e]
theorem j5f (F:zl)(hF:q3P F)(m:Nat)(hm:m<zq F)(k:Nat)(hk:k≤m+1) :
  ∃p sp y l r,(zu F)[m]?=some (.node p sp y l r)∧(qK F 0)[m]?=some (zz m p sp y l r)∧NodeOk y l r∧q1b (q0B F k) (zz m p sp y l r).fst=qj l∧q1b (q0B F k) (zz m p sp y l r).snd=qj r:=by
 have hm':m<(zu F).length:=by rw[qN];exact hm
 obtain⟨p,sp,y,l,r,e,h1,h2,h3⟩:=j5K F 0 m _ (zG hm')
 rw[Nat.zero_add]at h1
 have hG:(zu F)[m]?=some (.node p sp y l r):=by rw[zG hm',e]
 rw[e]at h2 h3
 refine⟨p,sp,y,l,r,hG,h1,(h2 hF).1,?_,?_⟩
 ·have ef:(zz m p sp y l r).fst=if zq l=0 then -1 else(m:Int)+1:=rfl
  rw[ef]
  by_cases hl:l=.nil
  ·subst hl
   rw[if_pos (show zq (.nil:zl)=0 from rfl)]
   unfold q1b
   rw[if_pos (.inl (by decide))]
   rfl
  ·obtain⟨g1,g2⟩:=q3c hl
   rw[if_neg (by omega)]
   have h4:=h3 1 (by simp[zq];omega)
   have h5:(zu (.node p sp y l r))[1]?=some l:=by
    rw[zu,List.getElem?_cons_succ,List.getElem?_append_left (by rw[qN];exact g2),g1]
   rw[h5]at h4
   exact q8x F k (m+1) hk l h4
 ·have ef:(zz m p sp y l r).snd=if zq r=0 then -1 else(m:Int)+1+zq l:=rfl
  rw[ef]
  by_cases hr:r=.nil
  ·subst hr
   rw[if_pos (show zq (.nil:zl)=0 from rfl)]
   unfold q1b
   rw[if_pos (.inl (by decide))]
   rfl
  ·obtain⟨g1,g2⟩:=q3c hr
   rw[if_neg (by omega)]
   have h4:=h3 (1+zq l) (by simp[zq];omega)
   have h5:(zu (.node p sp y l r))[1+zq l]?=some r:=by
    rw[Nat.add_comm 1,zu,List.getElem?_cons_succ,List.getElem?_append_right (by rw[qN];omega),qN,Nat.sub_self,g1]
   rw[h5]at h4
   have h6:=q8x F k (m+(1+zq l)) (by omega) r h4
   rw[←h6]
   congr 1
   omega
theorem j3z (F:zl)(k:Nat)(G:zl)(h:(zu F)[k]?=some G):q0B F k=(q0B F (k+1)).set k (qj G):=by
 have hk:k<(zu F).length:=(List.getElem?_eq_some_iff.1 h).1
 have hG:(zu F)[k]=G:=by rw[zG hk]at h;simpa using h
 unfold q0B
 have hk':k<((zu F).map qj).length:=by simpa using hk
 rw[List.drop_eq_getElem_cons hk',List.replicate_succ',List.append_assoc,List.set_append_right _ _ (by simp)]
 simp[hG]
theorem q9b (F:zl):q0B F 0=(zu F).map qj:=by simp[q0B]
theorem j4X (F:zl):q0B F (zq F)=List.replicate (zq F) ⟨false,false,0⟩:=by
 unfold q0B
 rw[List.drop_of_length_le (by simp[qN])]
 simp
end Go.Proofs.YtiamjjonoeaggabGreatDoor
