import Derived.Test.YtiamjjonoeaggabGreatDoorGA
import Derived.Test.YtiamjjonoeaggabGreatDoorG01
import Derived.Test.YtiamjjonoeaggabGreatDoorG07
namespace Go.Proofs.YtiamjjonoeaggabGreatDoor
open Go.RowKit
def q1X (k:Int):Bool:=k==11 || k==13 || k==16 || k==17
structure KFacts (t:By):Prop where
 name:zx t=(zo t==2)
 ex:(t==[101,120,105,115,116,115])=(zo t==9)
 plain:qj t=(q4s (zo t)&&!q3l (zo t))
 one:qJ t=(q3l (zo t)&&!q4s (zo t))
 two:qG t=(q3l (zo t)&&q4s (zo t))
 tr:qB [116,114,117,101] t=(zo t==5)
 opn:qB [40] t=(zo t==18)
 cls:qB [41] t=(zo t==19)
 com:qB [44] t=(zo t==20)
 osq:qB [91] t=(zo t==21)
 csq:qB [93] t=(zo t==22)
 star:qB [42] t=(zo t==23)
 num:q4m t=(zo t==1)
 var:q1l t=q6Q (zo t)
 ahead:q0B t=q1X (zo t)
 isX:(t==[120])=(zo t==3)
 isY:(t==[121])=(zo t==4)
 isOr:(t==[111,114])=(zo t==8)
 isBut:(t==[98,117,116])=(zo t==7)
 nz:zo t≠0
theorem kf_sign {t:By}(h:inB t q1p=true):KFacts t:=by
 unfold inB q1p at h
 simp[List.any]at h
 rcases h with h|h|h|h|h|h<;>subst h<;>exact⟨by decide,by decide,by decide,by decide,by decide,by decide,by decide,by decide,by decide,by decide,by decide,by decide,by decide,by decide,by decide,by decide,by decide,by decide,by decide,by decide⟩
theorem kf_word {t:By}(h:inB t w15=true):KFacts t:=by
 unfold inB w15 at h
 simp[List.any]at h
 rcases h with h|h|h|h|h|h|h|h|h|h|h|h|h|h|h<;>subst h<;>exact⟨by decide,by decide,by decide,by decide,by decide,by decide,by decide,by decide,by decide,by decide,by decide,by decide,by decide,by decide,by decide,by decide,by decide,by decide,by decide,by decide⟩
theorem j5v {t:By}(h:∀x∈w15++q1p,(x==t)=false)(hk:zo t=1∨zo t=2)(hn:zx t=(zo t==2))(hd:q4m t=(zo t==1)):KFacts t:=by
 have g:∀x∈w15++q1p,(t==x)=false:=fun x hx=>by have:=h x hx;simp at this ⊢;exact fun e=>this e.symm
 have f0:=h [120] (by decide)
 have f1:=h [121] (by decide)
 have f2:=h [116,114,117,101] (by decide)
 have f3:=h [97,110,100] (by decide)
 have f4:=h [98,117,116] (by decide)
 have f5:=h [111,114] (by decide)
 have f6:=h [101,120,105,115,116,115] (by decide)
 have f7:=h [112,114,101,118] (by decide)
 have f8:=h [110,101,120,116] (by decide)
 have f9:=h [111,110,99,101] (by decide)
 have f10:=h [115,111,111,110] (by decide)
 have f11:=h [115,105,110,99,101] (by decide)
 have f12:=h [117,110,115,105,110,99,101] (by decide)
 have f13:=h [117,110,116,105,108] (by decide)
 have f14:=h [117,110,117,110,116,105,108] (by decide)
 refine⟨hn,?_,?_,?_,?_,?_,?_,?_,?_,?_,?_,?_,hd,?_,?_,?_,?_,?_,?_,?_⟩
 ·rw[g _ (by decide)];rcases hk with hk|hk<;>rw[hk]<;>rfl
 ·unfold qj inB q4c;simp only[List.any_cons,List.any_nil,f3,f4,f5];rcases hk with hk|hk<;>rw[hk]<;>rfl
 ·unfold qJ inB q9u;simp only[List.any_cons,List.any_nil,f7,f8,f9,f10];rcases hk with hk|hk<;>rw[hk]<;>rfl
 ·unfold qG inB q8m;simp only[List.any_cons,List.any_nil,f11,f12,f13,f14];rcases hk with hk|hk<;>rw[hk]<;>rfl
 ·unfold qB;rw[f2];rcases hk with hk|hk<;>rw[hk]<;>rfl
 ·unfold qB;rw[h [40] (by decide)];rcases hk with hk|hk<;>rw[hk]<;>rfl
 ·unfold qB;rw[h [41] (by decide)];rcases hk with hk|hk<;>rw[hk]<;>rfl
 ·unfold qB;rw[h [44] (by decide)];rcases hk with hk|hk<;>rw[hk]<;>rfl
 ·unfold qB;rw[h [91] (by decide)];rcases hk with hk|hk<;>rw[hk]<;>rfl
 ·unfold qB;rw[h [93] (by decide)];rcases hk with hk|hk<;>rw[hk]<;>rfl
 ·unfold qB;rw[h [42] (by decide)];rcases hk with hk|hk<;>rw[hk]<;>rfl
 ·unfold q1l;rw[g [120] (by decide),g [121] (by decide)];rcases hk with hk|hk<;>rw[hk]<;>rfl
 ·unfold q0B inB q9t;simp only[List.any_cons,List.any_nil,f8,f10,f13,f14];rcases hk with hk|hk<;>rw[hk]<;>rfl
 ·rw[g [120] (by decide)];rcases hk with hk|hk<;>rw[hk]<;>rfl
 ·rw[g [121] (by decide)];rcases hk with hk|hk<;>rw[hk]<;>rfl
 ·rw[g [111,114] (by decide)];rcases hk with hk|hk<;>rw[hk]<;>rfl
 ·rw[g [98,117,116] (by decide)];rcases hk with hk|hk<;>rw[hk]<;>rfl
 ·rcases hk with hk|hk<;>rw[hk]<;>decide
theorem j7U {t:By}(h:inB t w15=false):q9x t=2:=by
 have g:∀x∈w15,(t==x)=false:=fun x hx=>by
  unfold inB at h
  rw[List.any_eq_false]at h
  have:=h x hx
  simp at this ⊢
  exact fun e=>this e.symm
 unfold q9x
 rw[g [120] (by decide),g [121] (by decide),g [116,114,117,101] (by decide),g [97,110,100] (by decide),g [98,117,116] (by decide),g [111,114] (by decide),g [101,120,105,115,116,115] (by decide),g [112,114,101,118] (by decide),g [110,101,120,116] (by decide),g [111,110,99,101] (by decide),g [115,111,111,110] (by decide),g [115,105,110,99,101] (by decide),g [117,110,115,105,110,99,101] (by decide),g [117,110,116,105,108] (by decide),g [117,110,117,110,116,105,108] (by decide)]
 rfl
theorem j1X:∀x∈q1p,∀c q,x=c::q→q0s (c.toNat:Int)=false∧qd (c.toNat:Int)=false:=by
 intro x hx c q e
 simp only[q1p,List.mem_cons,List.not_mem_nil,or_false]at hx
 rcases hx with rfl|rfl|rfl|rfl|rfl|rfl<;>injection e with e1 e2<;>subst e1<;>decide
theorem j7V:∀x∈w15,∀c q,x=c::q→qd (c.toNat:Int)=false:=by
 intro x hx c q e
 simp only[w15,List.mem_cons,List.not_mem_nil,or_false]at hx
 rcases hx with rfl|rfl|rfl|rfl|rfl|rfl|rfl|rfl|rfl|rfl|rfl|rfl|rfl|rfl|rfl<;>injection e with e1 e2<;>subst e1<;>decide
theorem q0C {t:Tok}(h:q1A t):KFacts t.text:=by
 obtain⟨c,r,e,ho,_⟩:=h
 generalize t.text=t at *
 subst e
 unfold q3S at ho
 simp only[Bool.or_eq_true,Bool.and_eq_true,decide_eq_true_eq]at ho
 rcases ho with(ho|⟨hd,_⟩)|⟨hl,_⟩
 ·exact kf_sign ho
 ·have k1:zo (c::r)=1:=by simp only[zo];rw[if_pos hd]
  refine j5v ?_ (.inl k1) ?_ ?_
  ·intro x hx
   rcases List.mem_append.1 hx with hx|hx
   ·simp only[beq_eq_false_iff_ne]
    intro e
    have:=j7V x hx c r e
    rw[hd]at this
    exact absurd this (by decide)
   ·simp only[beq_eq_false_iff_ne]
    intro e
    have:=(j1X x hx c r e).2
    rw[hd]at this
    exact absurd this (by decide)
  ·rw[k1];simp only[zx];rw[q3E hd];rfl
  ·rw[k1];exact hd
 ·cases hw:inB (c::r) w15 with
  |true=>exact kf_word hw
  |false =>
   have hnd:qd (c.toNat:Int)=false:=by
    cases hq:qd (c.toNat:Int)with
    |false=>rfl
    |true=>rw[q3E hq]at hl;exact absurd hl (by decide)
   have k2:zo (c::r)=2:=by simp only[zo];rw[hnd,if_neg (by decide),if_pos hl];exact j7U hw
   refine j5v ?_ (.inr k2) ?_ ?_
   ·intro x hx
    rcases List.mem_append.1 hx with hx|hx
    ·unfold inB at hw
     rw[List.any_eq_false]at hw
     have:=hw x hx
     simpa using this
    ·simp only[beq_eq_false_iff_ne]
     intro e
     have:=(j1X x hx c r e).1
     rw[hl]at this
     exact absurd this (by decide)
   ·rw[k2];simp only[zx];rw[hl,hw];rfl
   ·rw[k2];exact hnd
theorem KFacts.arg {t:Tok}(k:KFacts t.text)(h:q1A t):q5F t.text=q5T (q6P t):=by
 unfold q5F
 rw[k.var]
 unfold q5T q6P
 simp only[]
 cases hn:q4m t.text with
 |true =>
  have hk:=k.num
  rw[hn]at hk
  have hd:=(q4E h hn).1
  rw[hd,←hk]
  have e:((t.text.length:Int)==1)=(t.text.length==1):=by rw[Bool.eq_iff_iff];simp;omega
  rw[e]
  simp
 |false =>
  have hk:=k.num
  rw[hn]at hk
  have hd:q2k t.text=false:=by
   obtain⟨c,r,e,_⟩:=h
   rw[e]at hn ⊢
   unfold q2k
   have hn':qd (c.toNat:Int)=false:=hn
   rw[List.all_cons,hn']
   rfl
  rw[hd,←hk]
  simp
def endT (L:Nat):PTok:=⟨0,L,0,0,[]⟩
def q1d (toks:List Tok)(L:Nat):List PTok:=toks.map q6P++[endT L]
def q2T (L:Nat):List Tok→PTok
 | []=>endT L
 |t::_=>q6P t
def atS (toks r:List Tok):Nat:=toks.length-r.length
theorem j1h {toks r:List Tok}(L:Nat)(h:r <:+ toks):zt (q1d toks L) (atS toks r)=q2T L r:=by
 obtain⟨u,rfl⟩:=h
 have e:atS (u++r) r=u.length:=by unfold atS;simp
 rw[e]
 unfold zt q1d
 cases r with
 |nil=>simp[q2T]
 |cons t q=>simp[q2T]
theorem at_s {toks q:List Tok}{t:Tok}(h:(t::q) <:+ toks):atS toks q=atS toks (t::q)+1∧q <:+ toks:=by
 obtain⟨u,rfl⟩:=h
 refine⟨?_,u++[t],by simp⟩
 unfold atS
 simp
 omega
theorem q8K {toks q:List Tok}{t:Tok}(hg:q5E toks)(h:(t::q) <:+ toks):q1A t:=hg t (h.subset (by simp))
theorem q9d {toks r:List Tok}(L:Nat){p:By→Bool}(P:PTok→Bool)(hg:q5E toks)(hs:r <:+ toks)(hp:∀t,q1A t→p t.text=P (q6P t))(h0:P (endT L)=false) :
  (∃t q,r=t::q∧q1A t∧q0t p r=.inr (t,q)∧zt (q1d toks L) (atS toks r)=q6P t∧P (zt (q1d toks L) (atS toks r))=true∧atS toks q=atS toks r+1∧q <:+ toks)
  ∨ (q0t p r=.inl r∧P (zt (q1d toks L) (atS toks r))=false):=by
 rw[j1h L hs]
 cases r with
 |nil=>exact .inr ⟨rfl,h0⟩
 |cons t q =>
  have ht:=q8K hg hs
  have e:=hp t ht
  cases hq:p t.text with
  |true=>exact .inl ⟨t,q,rfl,ht,by simp[q0t,hq],rfl,by rw[←hq,e];rfl,(at_s hs).1,(at_s hs).2⟩
  |false=>exact .inr ⟨by simp[q0t,hq],by rw[←hq,e];rfl⟩
theorem q1E {toks r:List Tok}(L:Nat){p:By→Bool}(k:Int)(hg:q5E toks)(hs:r <:+ toks)(hp:∀t,q1A t→p t.text=(zo t.text==k))(h0:k≠0) :
  (∃t q,r=t::q∧q1A t∧q0t p r=.inr (t,q)∧zt (q1d toks L) (atS toks r)=q6P t∧(zt (q1d toks L) (atS toks r)).kind=k∧atS toks q=atS toks r+1∧q <:+ toks)
  ∨ (q0t p r=.inl r∧¬(zt (q1d toks L) (atS toks r)).kind=k):=by
 rcases q9d L (fun q=>q.kind==k) hg hs hp (by simp[endT,h0.symm])with⟨t,q,a,b,c,d,e,f,g⟩|⟨a,b⟩
 ·exact .inl ⟨t,q,a,b,c,d,by simpa using e,f,g⟩
 ·exact .inr ⟨a,by simpa using b⟩
def HSim {β:Type}(toks:List Tok)(o:Bool × Nat × PNode)(x:q6O β)(f:β→PNode):Prop:=match x with
 | .inl r=>o.1=false∧o.2.1=atS toks r∧r <:+ toks
 | .inr (b,r)=>o=(true,atS toks r,f b)∧r <:+ toks
theorem kind_nil:zo []=0:=rfl
theorem val_nil:q3w []=0:=rfl
def q6i (nd:PNode)(gs:List (By)):PNode:={nd with k0:=zo (gs.getD 0 []),v0:=q3w (gs.getD 0 []),k1:=zo (gs.getD 1 []),v1:=q3w (gs.getD 1 []),cnt:=gs.length}
theorem args_sim {toks r:List Tok}(L:Nat)(hg:q5E toks)(hs:r <:+ toks)(nd:PNode)(h0:nd.k1=0∧nd.v1=0) :
  HSim toks (q7Y (q1d toks L) (atS toks r) nd) (qC (q0t (qB [40]) r) fun _ r=>qC (q0t q5F r) fun a r=>qC (q1P r) fun b r=>qC (q0t (qB [41]) r) fun _ r=>.inr (a.text::b,r)) (q6i nd):=by
 obtain⟨z1,z2⟩:=h0
 unfold q7Y
 rcases q1E L 18 hg hs (fun t ht=>(q0C ht).opn) (by decide)with⟨t,q,rfl,_,en,_,ek,ea,hs1⟩|⟨en,ek⟩
 ·rw[en,if_pos ek,←ea]
  simp only[qC]
  rcases q9d L q5T hg hs1 (fun t ht=>(q0C ht).arg ht) rfl with⟨t1,q1,rfl,_,en1,eh1,ek1,ea1,hs2⟩|⟨en1,ek1⟩
  ·rw[en1,if_pos ek1]
   simp only[]
   unfold q7Z q1P
   have ea':atS toks q1=atS toks (t::t1::q1)+2:=by omega
   rw[←ea']
   rcases q1E L 20 hg hs2 (fun t ht=>(q0C ht).com) (by decide)with⟨t2,q2,rfl,g2,en2,eh2,ek2,ea2,hs3⟩|⟨en2,ek2⟩
   ·have hh:(hd (t2::q2)==[44])=true:=by
     have:=(q0C g2).com
     rw[eh2]at ek2
     have e2:zo t2.text=20:=ek2
     rw[e2]at this
     simp[qB]at this
     simp[hd,←this]
    rw[if_pos ek2,if_pos hh,en2]
    simp only[qC]
    have ea3:atS toks (t::t1::t2::q2)+3=atS toks q2:=by omega
    rw[ea3]
    rcases q9d L q5T hg hs3 (fun t ht=>(q0C ht).arg ht) rfl with⟨t3,q3,rfl,_,en3,eh3,ek3,ea4,hs4⟩|⟨en3,ek3⟩
    ·rw[en3,if_pos ek3]
     simp only[]
     have ea5:atS toks (t::t1::t2::t3::q3)+4=atS toks q3:=by omega
     rw[ea5]
     rcases q1E L 19 hg hs4 (fun t ht=>(q0C ht).cls) (by decide)with⟨t4,q4,rfl,_,en4,_,ek4,ea6,hs5⟩|⟨en4,ek4⟩
     ·rw[en4,if_pos ek4]
      refine⟨?_,hs5⟩
      rw[show atS toks (t::t1::t2::t3::t4::q4)+5=atS toks q4 from by omega,eh1,eh3]
      rfl
     ·rw[en4,if_neg ek4]
      exact⟨rfl,rfl,hs4⟩
    ·rw[en3,if_neg (by rw[ek3];decide)]
     exact⟨rfl,rfl,hs3⟩
   ·have hh:¬(hd q1==[44])=true:=by
     intro hc
     cases q1 with
     |nil=>exact absurd hc (by decide)
     |cons a b =>
      apply ek2
      rw[j1h L hs2]
      have:=(q0C (q8K hg hs2)).com
      simp[hd]at hc
      rw[hc]at this
      simp[qB]at this
      simp[q2T,q6P,hc,←this]
    rw[if_neg ek2,if_neg hh]
    simp only[]
    rcases q1E L 19 hg hs2 (fun t ht=>(q0C ht).cls) (by decide)with⟨t2,q2,rfl,g2,en3,eh2,ek3,ea2,hs3⟩|⟨en3,ek3⟩
    ·rw[en3,if_pos ek3]
     refine⟨?_,hs3⟩
     rw[show atS toks (t::t1::t2::q2)+3=atS toks q2 from by omega,eh1]
     simp[q6i,q6P,z1,z2,kind_nil,val_nil]
    ·rw[en3,if_neg ek3]
     exact⟨rfl,rfl,hs2⟩
  ·rw[en1,if_neg (by rw[ek1];decide)]
   exact⟨rfl,rfl,hs1⟩
 ·rw[en,if_neg ek]
  exact⟨rfl,rfl,hs⟩
def q4d (nd:PNode)(s:Nat × By × By):PNode:={nd with sat:=s.1,slo:=q3w s.2.1,shi:=q3w s.2.2,sop:=s.2.2==[42]}
theorem span_sim {toks r:List Tok}(L:Nat)(hg:q5E toks)(hs:r <:+ toks)(nd:PNode)(h0:nd.shi=0∧nd.sop=false):HSim toks (q3Z (q1d toks L) (atS toks r) nd) (q2r r) (q4d nd):=by
 obtain⟨z1,z2⟩:=h0
 unfold q3Z q2r
 rcases q1E L 21 hg hs (fun t ht=>(q0C ht).osq) (by decide)with⟨t,q,rfl,_,en,eh,ek,ea,hs1⟩|⟨en,ek⟩
 ·rw[en,if_pos ek,←ea]
  simp only[qC]
  rcases q1E L 1 hg hs1 (fun t ht=>(q0C ht).num) (by decide)with⟨t1,q1,rfl,_,en1,eh1,ek1,ea1,hs2⟩|⟨en1,ek1⟩
  ·rw[en1,if_pos ek1,show atS toks (t::t1::q1)+2=atS toks q1 from by omega]
   simp only[]
   rcases q1E L 20 hg hs2 (fun t ht=>(q0C ht).com) (by decide)with⟨t2,q2,rfl,_,en2,eh2,ek2,ea2,hs3⟩|⟨en2,ek2⟩
   ·rw[en2,if_pos ek2,show atS toks (t::t1::t2::q2)+3=atS toks q2 from by omega]
    simp only[]
    rcases q9d L (fun q=>q.kind==23 || q.kind==1) hg hs3 (p:=q4k) (fun t ht=>by
      unfold q4k
      have h1:=(q0C ht).star
      unfold qB at h1
      have h2:(t.text==[42])=([42]==t.text):=by rw[Bool.eq_iff_iff];simp;exact⟨fun h=>h.symm,fun h=>h.symm⟩
      rw[h2,h1,(q0C ht).num]
      rfl) rfl with⟨t3,q3,rfl,g3,en3,eh3,ek3,ea3,hs4⟩|⟨en3,ek3⟩
    ·rw[en3]
     simp only[]
     have e4:atS toks (t::t1::t2::t3::q3)+4=atS toks q3:=by omega
     rw[e4]
     have hst:=(q0C g3).star
     unfold qB at hst
     by_cases ks:(zt (q1d toks L) (atS toks (t3::q3))).kind=23
     ·rw[if_pos ks]
      have e3:t3.text=[42]:=by
       rw[eh3]at ks
       have ks':zo t3.text=23:=ks
       rw[ks']at hst
       simp at hst
       exact hst.symm
      rcases q1E L 22 hg hs4 (fun t ht=>(q0C ht).csq) (by decide)with⟨t4,q4,rfl,_,en4,_,ek4,ea4,hs5⟩|⟨en4,ek4⟩
      ·rw[en4,if_pos ek4,show atS toks (t::t1::t2::t3::t4::q4)+5=atS toks q4 from by omega,eh,eh1]
       refine⟨?_,hs5⟩
       simp[q4d,q6P,e3,z1]
       rfl
      ·rw[en4,if_neg ek4]
       exact⟨rfl,rfl,hs4⟩
     ·rw[if_neg ks]
      have k1:(zt (q1d toks L) (atS toks (t3::q3))).kind=1:=by
       simp only[Bool.or_eq_true,beq_iff_eq]at ek3
       rcases ek3 with e|e
       ·exact absurd e ks
       ·exact e
      rw[if_pos k1]
      have e3:(t3.text==[42])=false:=by
       rw[eh3]at k1
       have ks':zo t3.text=1:=k1
       rw[ks']at hst
       simp at hst ⊢
       exact fun h=>hst h.symm
      rcases q1E L 22 hg hs4 (fun t ht=>(q0C ht).csq) (by decide)with⟨t4,q4,rfl,_,en4,_,ek4,ea4,hs5⟩|⟨en4,ek4⟩
      ·rw[en4,if_pos ek4,show atS toks (t::t1::t2::t3::t4::q4)+5=atS toks q4 from by omega,eh,eh1,eh3]
       refine⟨?_,hs5⟩
       simp[q4d,q6P,e3,z2]
      ·rw[en4,if_neg ek4]
       exact⟨rfl,rfl,hs4⟩
    ·simp only[Bool.or_eq_false_iff,beq_eq_false_iff_ne]at ek3
     rw[en3,if_neg ek3.1,if_neg ek3.2]
     exact⟨rfl,rfl,hs3⟩
   ·rw[en2,if_neg ek2]
    exact⟨rfl,rfl,hs2⟩
  ·rw[en1,if_neg ek1]
   exact⟨rfl,rfl,hs1⟩
 ·rw[en,if_neg ek]
  exact⟨rfl,rfl,hs⟩
def q3o (ts:List PTok)(F:Nat→Nat→Bool × Nat × List PNode)(m base:Nat)(nd:PNode):Bool × Nat × List PNode:=
 if (zt ts m).kind=18 then
  if (F (m+1) (base+1)).1=true then
   if q4s nd.kind=true then
    if (zt ts (F (m+1) (base+1)).2.1).kind=20 then
     if (F ((F (m+1) (base+1)).2.1+1) (base+1+(F (m+1) (base+1)).2.2.length)).1=true then
      if (zt ts (F ((F (m+1) (base+1)).2.1+1) (base+1+(F (m+1) (base+1)).2.2.length)).2.1).kind=19 then
       (true,(F ((F (m+1) (base+1)).2.1+1) (base+1+(F (m+1) (base+1)).2.2.length)).2.1+1,{nd with fst:=base+1,snd:=base+1+(F (m+1) (base+1)).2.2.length}::((F (m+1) (base+1)).2.2++(F ((F (m+1) (base+1)).2.1+1) (base+1+(F (m+1) (base+1)).2.2.length)).2.2))
      else(false,(F ((F (m+1) (base+1)).2.1+1) (base+1+(F (m+1) (base+1)).2.2.length)).2.1,[])
     else(false,(F ((F (m+1) (base+1)).2.1+1) (base+1+(F (m+1) (base+1)).2.2.length)).2.1,[])
    else(false,(F (m+1) (base+1)).2.1,[])
   else if (zt ts (F (m+1) (base+1)).2.1).kind=19 then(true,(F (m+1) (base+1)).2.1+1,{nd with fst:=base+1}::(F (m+1) (base+1)).2.2)
   else(false,(F (m+1) (base+1)).2.1,[])
  else(false,(F (m+1) (base+1)).2.1,[])
 else(false,m,[])
def q0i (ts:List PTok):Nat→Nat→Nat→Bool × Nat × List PNode
 | 0,nx,_=>(false,nx,[])
 |d+1,nx,base =>
  if (q1c ts nx).1=true then
   if (q1c ts nx).2.2.kind=5∨(q1c ts nx).2.2.kind=2 then(true,(q1c ts nx).2.1,[(q1c ts nx).2.2])
   else q3o ts (q0i ts d) (q1c ts nx).2.1 base (q1c ts nx).2.2
  else(false,(q1c ts nx).2.1,[])
def zv:zg→Nat
 | .nil=>0
 | .node _ _ _ l r=>1+zv l+zv r
def exB (t:By):Bool:=t==[101,120,105,115,116,115]
def zQ (base:Nat)(p sp:Nat)(y:Pay)(l r:zg):PNode:=
 {kind:=zo y.word,pos:=p,name:=padP y.word
  k0:=if zx y.word then zo (y.args.getD 0 [])else 0
  v0:=if zx y.word then q3w (y.args.getD 0 [])else 0
  k1:=if zx y.word then zo (y.args.getD 1 [])else 0
  v1:=if zx y.word then q3w (y.args.getD 1 [])else 0
  cnt:=if zx y.word then y.args.length else 0
  var:=if exB y.word then zo (y.args.getD 0 [])else 0
  sat:=sp,slo:=q3w y.lo,shi:=q3w y.hi,sop:=y.hi==[42]
  fst:=if zv l=0 then -1 else base+1
  snd:=if zv r=0 then -1 else base+1+zv l}
def q0p:zg→Nat→List PNode
 | .nil,_=>[]
 | .node p sp y l r,base=>zQ base p sp y l r::(q0p l (base+1)++q0p r (base+1+zv l))
theorem q1S (F:zg):∀base,(q0p F base).length=zv F:=by
 induction F with
 |nil=>intro base;rfl
 |node p sp y l r ihl ihr=>intro base;simp[q0p,zv,ihl,ihr];omega
def FSim (toks:List Tok)(o:Bool × Nat × List PNode)(x:q6O zg)(base:Nat):Prop:=match x with
 | .inl r=>o.1=false∧o.2.1=atS toks r∧r <:+ toks
 | .inr (F,r)=>o=(true,atS toks r,q0p F base)∧r <:+ toks∧0<zv F
theorem j2R {toks r:List Tok}(L:Nat)(hg:q5E toks)(hs:r <:+ toks)(F:Nat→Nat→Bool × Nat × List PNode)(n base:Nat)(ih:∀r base,r <:+ toks→FSim toks (F (atS toks r) base) (q0A n r) base)(nd:PNode)(h2:q4s nd.kind=false)(p sp:Nat)(y:Pay)
  (hn:∀l:zg,0<zv l→zQ base p sp y l .nil={nd with fst:=base+1}) :
  FSim toks (q3o (q1d toks L) F (atS toks r) base nd) (qC (q0t (qB [40]) r) fun _ r=>qC (q0A n r) fun A r=>qC (q0t (qB [41]) r) fun _ r=>.inr (.node p sp y A .nil,r)) base:=by
 unfold q3o
 rcases q1E L 18 hg hs (fun t ht=>(q0C ht).opn) (by decide)with⟨t,q,rfl,_,en,_,ek,ea,hs1⟩|⟨en,ek⟩
 ·rw[en,if_pos ek,←ea]
  simp only[qC]
  have h:=ih q (base+1) hs1
  generalize F (atS toks q) (base+1)=o at *
  cases hp:q0A n q with
  |inl r1 =>
   rw[hp]at h
   obtain⟨a1,a2,a3⟩:=h
   rw[if_neg (by rw[a1];decide)]
   exact⟨rfl,a2,a3⟩
  |inr z =>
   obtain⟨A,r1⟩:=z
   rw[hp]at h
   obtain⟨rfl,hs2,hz⟩:=h
   simp only[if_true,h2,Bool.false_eq_true,if_false]
   rcases q1E L 19 hg hs2 (fun t ht=>(q0C ht).cls) (by decide)with⟨t2,q2,rfl,_,en2,_,ek2,ea2,hs3⟩|⟨en2,ek2⟩
   ·rw[en2,if_pos ek2,←ea2]
    refine⟨?_,hs3,by simp[zv];omega⟩
    simp only[q0p,List.append_nil]
    rw[hn A hz]
   ·rw[en2,if_neg ek2]
    exact⟨rfl,rfl,hs2⟩
 ·rw[en,if_neg ek]
  exact⟨rfl,rfl,hs⟩
theorem j2S {toks r:List Tok}(L:Nat)(hg:q5E toks)(hs:r <:+ toks)(F:Nat→Nat→Bool × Nat × List PNode)(n base:Nat)(ih:∀r base,r <:+ toks→FSim toks (F (atS toks r) base) (q0A n r) base)(nd:PNode)(h2:q4s nd.kind=true)(p sp:Nat)(y:Pay)
  (hn:∀l r:zg,0<zv l→0<zv r→zQ base p sp y l r={nd with fst:=base+1,snd:=base+1+zv l}) :
  FSim toks (q3o (q1d toks L) F (atS toks r) base nd) (qC (q0t (qB [40]) r) fun _ r=>qC (q0A n r) fun A r=>qC (q0t (qB [44]) r) fun _ r=>qC (q0A n r) fun B r=>qC (q0t (qB [41]) r) fun _ r=>.inr (.node p sp y A B,r)) base:=by
 unfold q3o
 rcases q1E L 18 hg hs (fun t ht=>(q0C ht).opn) (by decide)with⟨t,q,rfl,_,en,_,ek,ea,hs1⟩|⟨en,ek⟩
 ·rw[en,if_pos ek,←ea]
  simp only[qC]
  have h:=ih q (base+1) hs1
  generalize F (atS toks q) (base+1)=o at *
  cases hp:q0A n q with
  |inl r1 =>
   rw[hp]at h
   obtain⟨a1,a2,a3⟩:=h
   rw[if_neg (by rw[a1];decide)]
   exact⟨rfl,a2,a3⟩
  |inr z =>
   obtain⟨A,r1⟩:=z
   rw[hp]at h
   obtain⟨rfl,hs2,hz⟩:=h
   simp only[if_true,h2]
   rcases q1E L 20 hg hs2 (fun t ht=>(q0C ht).com) (by decide)with⟨t2,q2,rfl,_,en2,_,ek2,ea2,hs3⟩|⟨en2,ek2⟩
   ·rw[en2,if_pos ek2,←ea2]
    simp only[]
    have h':=ih q2 (base+1+(q0p A (base+1)).length) hs3
    generalize F (atS toks q2) (base+1+(q0p A (base+1)).length)=o at *
    cases hp2:q0A n q2 with
    |inl r3 =>
     rw[hp2]at h'
     obtain⟨a1,a2,a3⟩:=h'
     rw[if_neg (by rw[a1];decide)]
     exact⟨rfl,a2,a3⟩
    |inr z2 =>
     obtain⟨B,r3⟩:=z2
     rw[hp2]at h'
     obtain⟨rfl,hs4,hz2⟩:=h'
     simp only[if_true]
     rcases q1E L 19 hg hs4 (fun t ht=>(q0C ht).cls) (by decide)with⟨t4,q4,rfl,_,en4,_,ek4,ea4,hs5⟩|⟨en4,ek4⟩
     ·rw[en4,if_pos ek4,←ea4]
      refine⟨?_,hs5,by simp[zv];omega⟩
      simp only[q0p]
      rw[hn A B hz hz2,q1S]
     ·rw[en4,if_neg ek4]
      exact⟨rfl,rfl,hs4⟩
   ·rw[en2,if_neg ek2]
    exact⟨rfl,rfl,hs2⟩
 ·rw[en,if_neg ek]
  exact⟨rfl,rfl,hs⟩
theorem q4W {t:Tok}{q:List Tok}{p:By→Bool}(h:p t.text=true):q0t p (t::q)=.inr (t,q):=by simp[q0t,h]
theorem form_sim {toks:List Tok}(L:Nat)(hg:q5E toks):∀(d:Nat) (r:List Tok) (base:Nat),r <:+ toks→FSim toks (q0i (q1d toks L) d (atS toks r) base) (q0A d r) base:=by
 intro d
 induction d with
 |zero=>intro r base hs;exact⟨rfl,rfl,hs⟩
 |succ n ih =>
  intro r base hs
  have hh:=j1h L hs
  cases r with
  |nil =>
   have hb:¬q3z (zt (q1d toks L) (atS toks [])).kind=true:=by rw[hh];show ¬q3z 0=true;decide
   unfold q0i q1c
   rw[if_neg hb]
   exact⟨rfl,rfl,hs⟩
  |cons t q =>
   have gt:=q8K hg hs
   have K:=q0C gt
   obtain⟨ea,hs1⟩:=at_s hs
   have hk:(zt (q1d toks L) (atS toks (t::q))).kind=zo t.text:=by rw[hh];rfl
   have hself:qB t.text t.text=true:=by simp[qB]
   have hhd:hd (t::q)=t.text:=rfl
   rw[q0i,q0A]
   simp only[hhd]
   unfold q1c
   rw[hk]
   by_cases c1:zo t.text=2
   ·have b1:zx t.text=true:=by rw[K.name,c1];rfl
    rw[if_pos b1,if_pos (show q3z (zo t.text)=true by rw[c1];decide),if_pos c1,q4W b1,←ea]
    simp only[qC]
    have h:=args_sim L hg hs1 (q1w (zt (q1d toks L) (atS toks (t::q)))) ⟨rfl,rfl⟩
    generalize q7Y (q1d toks L) (atS toks q) (q1w (zt (q1d toks L) (atS toks (t::q))))=o at *
    have key:∀(x:q6O (List (By))) (g:q6O zg),(g=qC x fun gs r=>.inr (.node t.pos 0 ⟨t.text,gs,[],[]⟩ .nil .nil,r))→HSim toks o x (q6i (q1w (zt (q1d toks L) (atS toks (t::q)))))→FSim toks (if o.1=true then if o.2.2.kind=5∨o.2.2.kind=2 then(true,o.2.1,[o.2.2])else q3o (q1d toks L) (q0i (q1d toks L) n) o.2.1 base o.2.2 else(false,o.2.1,[])) g base:=by
     intro x g hg' hx
     subst hg'
     cases x with
     |inl r1 =>
      obtain⟨a1,a2,a3⟩:=hx
      rw[if_neg (by rw[a1];decide)]
      exact⟨rfl,a2,a3⟩
     |inr z =>
      obtain⟨gs,r1⟩:=z
      obtain⟨rfl,a2⟩:=hx
      rw[hh]
      simp only[if_true]
      rw[if_pos (show(q6i (q1w (q2T L (t::q))) gs).kind=5∨(q6i (q1w (q2T L (t::q))) gs).kind=2 from Or.inr c1)]
      refine⟨?_,a2,by simp[zv]⟩
      have hne:exB t.text=false:=by unfold exB;rw[K.ex,c1];rfl
      simp only[q0p,List.append_nil,zQ,b1,hne,zv,if_true,q6i,q1w,q2T,q6P]
      rfl
    refine key _ _ ?_ h
    cases q0t (qB [40]) q with
    |inl r1=>rfl
    |inr z =>
     obtain⟨t1,r1⟩:=z
     simp only[qC]
     cases q0t q5F r1 with
     |inl r2=>rfl
     |inr z =>
      obtain⟨t2,r2⟩:=z
      simp only[]
      cases q1P r2 with
      |inl r3=>rfl
      |inr z =>
       obtain⟨bb,r3⟩:=z
       simp only[]
       cases q0t (qB [41]) r3<;>rfl
   ·have b1:¬zx t.text=true:=by rw[K.name];simpa using c1
    rw[if_neg b1]
    by_cases c2:zo t.text=9
    ·have b2:(t.text==[101,120,105,115,116,115])=true:=by rw[K.ex,c2];rfl
     rw[if_pos b2,if_pos (show q3z (zo t.text)=true by rw[c2];decide),if_neg c1,if_pos c2,q4W hself,←ea]
     simp only[qC]
     rcases q9d L (fun q=>q6Q q.kind) hg hs1 (p:=q1l) (fun t ht=>(q0C ht).var) rfl with⟨t1,q1,rfl,_,en1,eh1,ek1,ea1,hs2⟩|⟨en1,ek1⟩
     ·rw[en1,if_pos ek1]
      simp only[]
      have e2:atS toks (t::t1::q1)+2=atS toks q1:=by omega
      rw[e2,eh1,hh]
      simp only[if_true]
      rw[if_neg (show ¬((q1w (q2T L (t::t1::q1))).kind=5∨(q1w (q2T L (t::t1::q1))).kind=2) from(by show ¬(zo t.text=5∨zo t.text=2);rw[c2];decide))]
      refine j2R L hg hs2 _ n base ih _ (show q4s (zo t.text)=false by rw[c2];decide) _ _ _ ?_
      intro l hl
      have hz:zv l≠0:=by omega
      have hx:exB t.text=true:=b2
      have b1':zx t.text=false:=by simpa using b1
      simp only[zQ,b1',hx,hz,zv,if_true,if_false,q1w,q2T,q6P,Bool.false_eq_true]
      rfl
     ·have ek2:¬q6Q (zt (q1d toks L) (atS toks q)).kind=true:=by have e:q6Q (zt (q1d toks L) (atS toks q)).kind=false:=ek1;rw[e];decide
      rw[en1,if_neg ek2]
      exact⟨rfl,rfl,hs1⟩
    ·have b2:¬(t.text==[101,120,105,115,116,115])=true:=by rw[K.ex];simpa using c2
     have hx:exB t.text=false:=by simpa[exB]using b2
     have b1':zx t.text=false:=by simpa using b1
     rw[if_neg b2]
     cases c3:q3l (zo t.text)with
     |false =>
      have b4:¬qJ t.text=true:=by rw[K.one,c3];simp
      have b5:¬qG t.text=true:=by rw[K.two,c3];simp
      cases c4:q4s (zo t.text)with
      |true =>
       have b3:qj t.text=true:=by rw[K.plain,c3,c4];rfl
       have hb:q3z (zo t.text)=true:=by unfold q3z;rw[c4];simp
       have n5:¬(zo t.text=5∨zo t.text=2):=by
        intro h
        rcases h with h|h
        ·rw[h]at c4;exact absurd c4 (by decide)
        ·exact c1 h
       rw[if_pos b3,if_pos hb,if_neg c1,if_neg c2,q4W hself,←ea]
       simp only[qC,Bool.false_eq_true,if_false,if_true]
       rw[hh,if_neg (show ¬((q1w (q2T L (t::q))).kind=5∨(q1w (q2T L (t::q))).kind=2) from n5)]
       refine j2S L hg hs1 _ n base ih _ c4 _ _ _ ?_
       intro l r hl hr
       have hz:zv l≠0:=by omega
       have hz2:zv r≠0:=by omega
       simp only[zQ,q8i,b1',hx,hz,hz2,if_false,q1w,q2T,q6P,Bool.false_eq_true]
       rfl
      |false =>
       have b3:¬qj t.text=true:=by rw[K.plain,c3,c4];decide
       rw[if_neg b3,if_neg b4,if_neg b5]
       by_cases c5:zo t.text=5
       ·have b6:qB [116,114,117,101] t.text=true:=by rw[K.tr,c5];rfl
        rw[if_pos (show q3z (zo t.text)=true by rw[c5];decide),if_neg c1,if_neg c2,q4W b6,←ea]
        simp only[qC,Bool.false_eq_true,if_false,if_true]
        rw[hh,if_pos (show((q1w (q2T L (t::q))).kind=5∨(q1w (q2T L (t::q))).kind=2) from .inl c5)]
        refine⟨?_,hs1,by simp[zv]⟩
        simp only[q0p,List.append_nil,zQ,q8i,b1',hx,zv,if_true,if_false,q1w,q2T,q6P,Bool.false_eq_true]
        rfl
       ·have b6:qB [116,114,117,101] t.text=false:=by rw[K.tr];simpa using c5
        have hb:¬q3z (zo t.text)=true:=by unfold q3z;rw[c3,c4];simp[c1,c2,c5]
        rw[if_neg hb]
        have e:q0t (qB [116,114,117,101]) (t::q)=.inl (t::q):=by simp[q0t,b6]
        rw[e]
        exact⟨rfl,rfl,hs⟩
     |true =>
      have hb:q3z (zo t.text)=true:=by unfold q3z;rw[c3];simp
      have b3:¬qj t.text=true:=by rw[K.plain,c3];simp
      have n5:¬(zo t.text=5∨zo t.text=2):=by
       intro h
       rcases h with h|h
       ·rw[h]at c3;exact absurd c3 (by decide)
       ·exact c1 h
      have h:=span_sim L hg hs1 (q1w (zt (q1d toks L) (atS toks (t::q)))) ⟨rfl,rfl⟩
      rw[if_neg b3,if_pos hb,if_neg c1,if_neg c2]
      simp only[if_true]
      rw[←ea]
      cases c4:q4s (zo t.text)with
      |false =>
       have b4:qJ t.text=true:=by rw[K.one,c3,c4];rfl
       rw[if_pos b4,q4W hself]
       simp only[qC]
       generalize q3Z (q1d toks L) (atS toks q) (q1w (zt (q1d toks L) (atS toks (t::q))))=o at *
       cases hp:q2r q with
       |inl r1 =>
        rw[hp]at h
        obtain⟨a1,a2,a3⟩:=h
        rw[if_neg (by rw[a1];decide)]
        exact⟨rfl,a2,a3⟩
       |inr z =>
        obtain⟨sv,r1⟩:=z
        rw[hp]at h
        obtain⟨rfl,hs2⟩:=h
        simp only[if_true]
        rw[hh,if_neg (show ¬((q4d (q1w (q2T L (t::q))) sv).kind=5∨(q4d (q1w (q2T L (t::q))) sv).kind=2) from n5)]
        refine j2R L hg hs2 _ n base ih _ c4 _ _ _ ?_
        intro l hl
        have hz:zv l≠0:=by omega
        simp only[zQ,b1',hx,hz,zv,if_true,if_false,q1w,q2T,q6P,q4d,Bool.false_eq_true]
      |true =>
       have b4:¬qJ t.text=true:=by rw[K.one,c3,c4];decide
       have b5:qG t.text=true:=by rw[K.two,c3,c4];rfl
       rw[if_neg b4,if_pos b5,q4W hself]
       simp only[qC]
       generalize q3Z (q1d toks L) (atS toks q) (q1w (zt (q1d toks L) (atS toks (t::q))))=o at *
       cases hp:q2r q with
       |inl r1 =>
        rw[hp]at h
        obtain⟨a1,a2,a3⟩:=h
        rw[if_neg (by rw[a1];decide)]
        exact⟨rfl,a2,a3⟩
       |inr z =>
        obtain⟨sv,r1⟩:=z
        rw[hp]at h
        obtain⟨rfl,hs2⟩:=h
        simp only[if_true]
        rw[hh,if_neg (show ¬((q4d (q1w (q2T L (t::q))) sv).kind=5∨(q4d (q1w (q2T L (t::q))) sv).kind=2) from n5)]
        refine j2S L hg hs2 _ n base ih _ c4 _ _ _ ?_
        intro l r hl hr
        have hz:zv l≠0:=by omega
        have hz2:zv r≠0:=by omega
        simp only[zQ,b1',hx,hz,hz2,if_false,q1w,q2T,q6P,q4d,Bool.false_eq_true]
structure NodeOk (y:Pay)(l r:zg):Prop where
 word:KFacts y.word
 args:∀a∈y.args,KFacts a
 lo:q3w y.lo=(q0h y.lo:Int)
 hi:q3w y.hi=(q0h y.hi:Int)
 shape:(zo y.word=2∧l=.nil∧r=.nil∧y.lo=[]∧y.hi=[]∧y.args.length≤2)∨(zo y.word=5∧l=.nil∧r=.nil∧y.lo=[]∧y.hi=[]∧y.args=[])∨(zo y.word=9∧l≠.nil∧r=.nil∧y.lo=[]∧y.hi=[]∧∃v,y.args=[v]∧(v=[120]∨v=[121]))
  ∨ (q3l (zo y.word)=true∧q4s (zo y.word)=false∧l≠.nil∧r=.nil∧y.args=[])∨(q4s (zo y.word)=true∧q3l (zo y.word)=false∧l≠.nil∧r≠.nil∧y.args=[]∧y.lo=[]∧y.hi=[])∨(q4s (zo y.word)=true∧q3l (zo y.word)=true∧l≠.nil∧r≠.nil∧y.args=[])
def q3x:zg→Prop
 | .nil=>True
 | .node _ _ y l r=>NodeOk y l r∧q3x l∧q3x r
theorem j4o {t:Tok}(h:q1A t)(hn:q4m t.text=true):q3w t.text=(q0h t.text:Int):=by
 obtain⟨c,r,e,_⟩:=h
 rw[e]at hn ⊢
 have e2:qd (c.toNat:Int)=true:=hn
 simp only[q3w]
 rw[if_pos e2]
theorem j8J {t:Tok}(h:q1A t)(hn:q4k t.text=true):q3w t.text=(q0h t.text:Int):=by
 unfold q4k at hn
 rw[Bool.or_eq_true]at hn
 rcases hn with hn|hn
 ·have:t.text=[42]:=by simpa using hn
  rw[this]
  decide
 ·exact j4o h hn
theorem q3L {F:zg}{u:List Tok}(h:q0a F u):F≠.nil:=by
 intro e
 subst e
 exact h
theorem var_two {v:By}(h:q1l v=true):v=[120]∨v=[121]:=by
 unfold q1l at h
 simpa using h
theorem j5U:∀(F:zg) (u:List Tok),q0a F u→q5E u→q3x F:=by
 intro F
 induction F with
 |nil=>intro u h _;trivial
 |node p sp y l r ihl ihr =>
  intro u h hg
  rcases h with⟨hn,e1,e2,rfl,rfl,q1,q2,q3,a,ha,h⟩|⟨hn,hw,e1,e2,rfl,v,q1,q2,q3,ul,hv,ea,hl,rfl⟩|⟨hn,hw,ea,e1,e2,q1,q2,q3,ul,ur,hl,hr,rfl⟩|⟨hn,hw,ea,rfl,hlo,hhi,q1,q2,q3,q4,q5,q6,ul,hl,rfl⟩|⟨hn,hw,ea,hlo,hhi,q1,q2,q3,q4,q5,q6,q7,ul,ur,hl,hr,rfl⟩|⟨hn,hw,ea,e1,e2,rfl,rfl,rfl⟩
  ·have kw:KFacts y.word∧(∀b∈y.args,KFacts b)∧y.args.length≤2:=by
    rcases h with⟨hy,rfl⟩|⟨b,q4,q5,hb,hy,rfl⟩
    ·refine⟨q0C (hg ⟨y.word,p⟩ (by simp)),?_,by rw[hy];simp⟩
     rw[hy]
     intro b hb
     have:=List.mem_singleton.1 hb
     subst this
     exact q0C (hg ⟨b,q2⟩ (by simp))
    ·refine⟨q0C (hg ⟨y.word,p⟩ (by simp)),?_,by rw[hy];simp⟩
     rw[hy]
     intro c hc
     simp only[List.mem_cons,List.not_mem_nil,or_false]at hc
     rcases hc with rfl|rfl
     ·exact q0C (hg ⟨c,q2⟩ (by simp))
     ·exact q0C (hg ⟨c,q5⟩ (by simp))
   have k2:zo y.word=2:=by have:=kw.1.name;rw[hn]at this;simpa using this.symm
   exact⟨⟨kw.1,kw.2.1,by rw[e1];rfl,by rw[e2];rfl,.inl ⟨k2,rfl,rfl,e1,e2,kw.2.2⟩⟩,trivial,trivial⟩
  ·have kw:=q0C (hg ⟨y.word,p⟩ (by simp))
   have kv:=q0C (hg ⟨v,q1⟩ (by simp))
   have k9:zo y.word=9:=by rw[hw];decide
   exact⟨⟨kw,by rw[ea];intro a ha;have:=List.mem_singleton.1 ha;subst this;exact kv,by rw[e1];rfl,by rw[e2];rfl,.inr (.inr (.inl ⟨k9,q3L hl,rfl,e1,e2,v,ea,var_two hv⟩))⟩,ihl ul hl (q1b hg (by intro t ht;simp[ht])),trivial⟩
  ·have kw:=q0C (hg ⟨y.word,p⟩ (by simp))
   have kp:=kw.plain
   simp only[]at kp
   rw[hw]at kp
   have kp':q4s (zo y.word)=true∧q3l (zo y.word)=false:=by simpa using kp.symm
   exact⟨⟨kw,by rw[ea];simp,by rw[e1];rfl,by rw[e2];rfl,.inr (.inr (.inr (.inr (.inl ⟨kp'.1,kp'.2,q3L hl,q3L hr,ea,e1,e2⟩))))⟩,ihl ul hl (q1b hg (by intro t ht;simp[ht])),ihr ur hr (q1b hg (by intro t ht;simp[ht]))⟩
  ·have kw:=q0C (hg ⟨y.word,p⟩ (by simp))
   have kp:=kw.one
   simp only[]at kp
   rw[hw]at kp
   have kp':q3l (zo y.word)=true∧q4s (zo y.word)=false:=by simpa using kp.symm
   exact⟨⟨kw,by rw[ea];simp,j4o (hg ⟨y.lo,q1⟩ (by simp)) hlo,j8J (hg ⟨y.hi,q3⟩ (by simp)) hhi,.inr (.inr (.inr (.inl ⟨kp'.1,kp'.2,q3L hl,rfl,ea⟩)))⟩,ihl ul hl (q1b hg (by intro t ht;simp[ht])),trivial⟩
  ·have kw:=q0C (hg ⟨y.word,p⟩ (by simp))
   have kp:=kw.two
   simp only[]at kp
   rw[hw]at kp
   have kp':q3l (zo y.word)=true∧q4s (zo y.word)=true:=by simpa using kp.symm
   exact⟨⟨kw,by rw[ea];simp,j4o (hg ⟨y.lo,q1⟩ (by simp)) hlo,j8J (hg ⟨y.hi,q3⟩ (by simp)) hhi,.inr (.inr (.inr (.inr (.inr ⟨kp'.2,kp'.1,q3L hl,q3L hr,ea⟩))))⟩,ihl ul hl (q1b hg (by intro t ht;simp[ht])),ihr ur hr (q1b hg (by intro t ht;simp[ht]))⟩
  ·have kw:=q0C (hg ⟨y.word,p⟩ (by simp))
   have k5:zo y.word=5:=by rw[hw];decide
   exact⟨⟨kw,by rw[ea];simp,by rw[e1];rfl,by rw[e2];rfl,.inr (.inl ⟨k5,rfl,rfl,e1,e2,ea⟩)⟩,trivial,trivial⟩
structure PInfo where
 x:Bool
 y:Bool
 reach:Int
def qk (G:zg):PInfo:=⟨zh G [120],zh G [121],zf G⟩
def q2J:PInfo:=⟨false,false,-1⟩
def q4u (nd:PNode)(k:Int):Bool:=(decide (0<nd.cnt)&&nd.k0==k) || (decide (1<nd.cnt)&&nd.k1==k)
def q4q (own inner:Int):Int:=if inner = -1 then own else own+inner
def mxP (a b:PInfo):Int:=if b.reach > a.reach then b.reach else a.reach
def q3h (nd:PNode)(a b:PInfo):PInfo:=
 if nd.kind=2 then⟨q4u nd 3,q4u nd 4,if q1X nd.kind then q4q nd.shi (mxP a b)else mxP a b⟩
 else if nd.kind=9 then⟨(a.x || b.x)&&!(nd.var==3),(a.y || b.y)&&!(nd.var==4),if q1X nd.kind then q4q nd.shi (mxP a b)else mxP a b⟩
 else⟨a.x || b.x,a.y || b.y,if q1X nd.kind then q4q nd.shi (mxP a b)else mxP a b⟩
def j0z (one other:PInfo):Bool:=(other.x || !one.x)&&(other.y || !one.y)
def j0i (nd:PNode)(a b:PInfo):Bool:=
 if nd.kind=8 then(a.x != b.x) || (a.y != b.y)
 else if nd.kind=7 then !j0z b a
 else if nd.kind=14∨nd.kind=15∨nd.kind=16∨nd.kind=17 then !j0z a b
 else if nd.kind=9 then !(nd.var==3&&a.x)&&!(nd.var==4&&a.y)
 else false
def j4C (nd:PNode):Bool:=!nd.sop&&decide (nd.slo > nd.shi)
def openP (nd:PNode):Bool:=nd.sop&&q1X nd.kind
theorem q5W:∀F:zg,-1≤zf F:=by
 intro F
 induction F with
 |nil=>simp[zf]
 |node p sp y l r ihl ihr =>
  simp only[zf,mxI]
  have:(0:Int)≤(q0h y.hi:Int):=by omega
  repeat' split
  all_goals omega
theorem mx_two (l r:zg):mxI (mxI (-1) (zf l)) (zf r)=mxP (qk l) (qk r):=by
 have:=q5W l
 have:=q5W r
 simp only[mxI,mxP,qk]
 repeat' split
 all_goals omega
theorem j5R {y:Pay}{l r:zg}(base p sp:Nat)(h:NodeOk y l r):(if q1X (zQ base p sp y l r).kind then q4q (zQ base p sp y l r).shi (mxP (qk l) (qk r))else mxP (qk l) (qk r))=zf (.node p sp y l r):=by
 have e1:(zQ base p sp y l r).kind=zo y.word:=rfl
 have e2:(zQ base p sp y l r).shi=q3w y.hi:=rfl
 rw[e1,e2,h.hi,←h.word.ahead]
 simp only[zf]
 rw[mx_two]
 generalize mxP (qk l) (qk r)=m
 cases q0B y.word with
 |false=>rfl
 |true =>
  simp only[if_true,q4q]
  by_cases hm:m = -1
  ·simp[hm]
  ·simp[hm];omega
theorem j8d (gs:List (By))(x:By)(k:Int)(h2:gs.length≤2)(hx:∀a∈gs,(a==x)=(zo a==k)):(gs.any fun a=>a==x)=((decide (0<(gs.length:Int))&&zo (gs.getD 0 [])==k) || (decide (1<(gs.length:Int))&&zo (gs.getD 1 [])==k)):=by
 match gs,h2 with
 | [],_=>rfl
 | [a],_=>simp[hx a (by simp)]
 | [a,b],_=>simp[hx a (by simp),hx b (by simp)]
theorem q3F {p sp:Nat}{y:Pay}{l r:zg}(x:By)(h:l≠.nil):zh (.node p sp y l r) x=(!(y.word==[101,120,105,115,116,115]&&y.args==[x])&&(zh l x || zh r x)):=by
 cases l with
 |nil=>exact absurd rfl h
 |node=>rfl
theorem info_of {y:Pay}{l r:zg}(base p sp:Nat)(h:NodeOk y l r):q3h (zQ base p sp y l r) (qk l) (qk r)=qk (.node p sp y l r):=by
 unfold q3h
 rw[j5R base p sp h]
 have e1:(zQ base p sp y l r).kind=zo y.word:=rfl
 rw[e1]
 have hex:=h.word.ex
 have hnm:=h.word.name
 rcases h.shape with⟨k,rfl,rfl,_,_,ha⟩|⟨k,rfl,rfl,_,_,ha⟩|⟨k,hl,rfl,_,_,v,ha,hv⟩|⟨k1,k2,hl,rfl,ha⟩|⟨k1,k2,hl,hr,ha,_⟩|⟨k1,k2,hl,hr,ha⟩
 ·rw[if_pos k]
  rw[k]at hnm
  have hn:zx y.word=true:=hnm
  simp only[qk,zh]
  rw[j8d y.args [120] 3 ha (fun a hm=>(h.args a hm).isX),j8d y.args [121] 4 ha (fun a hm=>(h.args a hm).isY)]
  simp only[q4u,zQ,hn,if_true]
 ·rw[if_neg (by rw[k];decide),if_neg (by rw[k];decide)]
  simp only[qk,zh,ha]
  rfl
 ·rw[if_neg (by rw[k];decide),if_pos k]
  have hw:y.word=[101,120,105,115,116,115]:=by rw[k]at hex;simpa using hex
  have hx:exB y.word=true:=by rw[hw];decide
  have hv0:(zQ base p sp y l .nil).var=zo v:=by simp only[zQ,hx,ha];rfl
  rw[hv0]
  simp only[qk]
  rw[q3F _ hl,q3F _ hl,hw,ha]
  simp only[beq_self_eq_true,Bool.true_and]
  rcases hv with rfl|rfl
  ·rw[show zo [120]=3 by decide]
   simp[zh]
  ·rw[show zo [121]=4 by decide]
   simp[zh]
 ·have n2:¬zo y.word=2:=by intro e;rw[e]at k1;exact absurd k1 (by decide)
  have n9:¬zo y.word=9:=by intro e;rw[e]at k1;exact absurd k1 (by decide)
  rw[if_neg n2,if_neg n9]
  have hw:(y.word==[101,120,105,115,116,115])=false:=by rw[hex];simpa using n9
  simp only[qk]
  rw[q3F _ hl,q3F _ hl,hw]
  simp
 ·have n2:¬zo y.word=2:=by intro e;rw[e]at k1;exact absurd k1 (by decide)
  have n9:¬zo y.word=9:=by intro e;rw[e]at k1;exact absurd k1 (by decide)
  rw[if_neg n2,if_neg n9]
  have hw:(y.word==[101,120,105,115,116,115])=false:=by rw[hex];simpa using n9
  simp only[qk]
  rw[q3F _ hl,q3F _ hl,hw]
  simp
 ·have n2:¬zo y.word=2:=by intro e;rw[e]at k1;exact absurd k1 (by decide)
  have n9:¬zo y.word=9:=by intro e;rw[e]at k1;exact absurd k1 (by decide)
  rw[if_neg n2,if_neg n9]
  have hw:(y.word==[101,120,105,115,116,115])=false:=by rw[hex];simpa using n9
  simp only[qk]
  rw[q3F _ hl,q3F _ hl,hw]
  simp
theorem back_of {y:Pay}{l r:zg}(base p sp:Nat)(h:NodeOk y l r):j4C (zQ base p sp y l r)=qz (.node p sp y l r):=by
 unfold j4C qz
 have e1:q2y (.node p sp y l r)=y.word:=rfl
 have e2:q6I (.node p sp y l r)=y:=rfl
 rw[e1,e2,h.word.one,h.word.two]
 have e3:(zQ base p sp y l r).sop=(y.hi==[42]):=rfl
 have e4:(zQ base p sp y l r).slo=q3w y.lo:=rfl
 have e5:(zQ base p sp y l r).shi=q3w y.hi:=rfl
 rw[e3,e4,e5,h.lo,h.hi]
 have e6:decide ((q0h y.lo:Int) > (q0h y.hi:Int))=decide (q0h y.hi<q0h y.lo):=by rw[decide_eq_decide];omega
 rw[e6]
 have key:q3l (zo y.word)=false→y.lo=[]→y.hi=[]→(!(y.hi==[42])&&decide (q0h y.hi<q0h y.lo))=((q3l (zo y.word)&&!q4s (zo y.word) || q3l (zo y.word)&&q4s (zo y.word))&&!(y.hi==[42])&&decide (q0h y.hi<q0h y.lo)):=by
  intro hs a b
  rw[hs,a,b]
  simp
 rcases h.shape with⟨k,rfl,rfl,a,b,_⟩|⟨k,rfl,rfl,a,b,_⟩|⟨k,hl,rfl,a,b,_⟩|⟨k1,k2,_⟩|⟨k1,k2,_,_,_,a,b⟩|⟨k1,k2,_⟩
 ·exact key (by rw[k];decide) a b
 ·exact key (by rw[k];decide) a b
 ·exact key (by rw[k];decide) a b
 ·rw[k1,k2];simp
 ·exact key k2 a b
 ·rw[k1,k2];simp
theorem open_of {y:Pay}{l r:zg}(base p sp:Nat)(h:NodeOk y l r):openP (zQ base p sp y l r)=qK (.node p sp y l r):=by
 unfold openP qK
 have e1:q2y (.node p sp y l r)=y.word:=rfl
 have e2:q6I (.node p sp y l r)=y:=rfl
 rw[e1,e2,h.word.ahead,Bool.and_comm]
 rfl
theorem kids_few {p sp:Nat}{y:Pay}{l r:zg}(h:r=.nil):decide ((q1z (.node p sp y l r)).length<2)=true:=by
 subst h
 cases l with
 |nil=>rfl
 |node=>rfl
theorem j2L {p sp:Nat}{y:Pay}{l r:zg}(hl:l≠.nil)(hr:r≠.nil):decide ((q1z (.node p sp y l r)).length<2)=false:=by
 cases l with
 |nil=>exact absurd rfl hl
 |node =>
  cases r with
  |nil=>exact absurd rfl hr
  |node=>rfl
theorem wrong_of {y:Pay}{l r:zg}(base p sp:Nat)(h:NodeOk y l r):j0i (zQ base p sp y l r) (qk l) (qk r)=q1i (.node p sp y l r):=by
 unfold j0i
 have e1:(zQ base p sp y l r).kind=zo y.word:=rfl
 rw[e1]
 rw[q1i]
 have hex:=h.word.ex
 have hor:=h.word.isOr
 have hbut:=h.word.isBut
 have htwo:=h.word.two
 rw[hex]
 have one:q4s (zo y.word)=false→r=.nil→zo y.word≠9→(if zo y.word=8 then((qk l).x != (qk r).x) || ((qk l).y != (qk r).y)else if zo y.word=7 then !j0z (qk r) (qk l)else if zo y.word=14∨zo y.word=15∨zo y.word=16∨zo y.word=17 then !j0z (qk l) (qk r)else if zo y.word=9 then !((zQ base p sp y l r).var==3&&(qk l).x)&&!((zQ base p sp y l r).var==4&&(qk l).y)else false)=if (zo y.word==9)=true then !zh l (y.args.headD [])else if (decide ((q1z (.node p sp y l r)).length<2) || y.word==[97,110,100])=true then false else q2t y.word (zh l [120]) (zh r [120]) || q2t y.word (zh l [121]) (zh r [121]):=by
  intro ht hr n9
  have n8:¬zo y.word=8:=by intro e;rw[e]at ht;exact absurd ht (by decide)
  have n7:¬zo y.word=7:=by intro e;rw[e]at ht;exact absurd ht (by decide)
  have n14:¬(zo y.word=14∨zo y.word=15∨zo y.word=16∨zo y.word=17):=by
   intro e
   rcases e with e|e|e|e<;>(rw[e]at ht;exact absurd ht (by decide))
  rw[if_neg n8,if_neg n7,if_neg n14,if_neg n9,if_neg (by simpa using n9),if_pos]
  rw[kids_few hr]
  rfl
 rcases h.shape with⟨k,hl,hr,_⟩|⟨k,hl,hr,_⟩|⟨k,hl,hr,_,_,v,ha,hv⟩|⟨k1,k2,hl,hr,ha⟩|⟨k1,k2,hl,hr,ha,_⟩|⟨k1,k2,hl,hr,ha⟩
 ·exact one (by rw[k];decide) hr (by rw[k];decide)
 ·exact one (by rw[k];decide) hr (by rw[k];decide)
 ·have hw:y.word=[101,120,105,115,116,115]:=by rw[k]at hex;simpa using hex
  have hx:exB y.word=true:=by rw[hw];decide
  have hv0:(zQ base p sp y l r).var=zo v:=by simp only[zQ,hx,ha];rfl
  rw[hv0,k,ha]
  rw[if_neg (by decide),if_neg (by decide),if_neg (by decide),if_pos rfl,if_pos (show((9:Int)==9)=true by decide)]
  rcases hv with rfl|rfl
  ·have ek:zo [120]=3:=by decide
   rw[ek]
   simp[qk]
  ·have ek:zo [121]=4:=by decide
   rw[ek]
   simp[qk]
 ·exact one k2 hr (by intro e;rw[e]at k1;exact absurd k1 (by decide))
 ·have n9:¬zo y.word=9:=by intro e;rw[e]at k1;exact absurd k1 (by decide)
  have n14:¬(zo y.word=14∨zo y.word=15∨zo y.word=16∨zo y.word=17):=by
   intro e
   rcases e with e|e|e|e<;>(rw[e]at k2;exact absurd k2 (by decide))
  rw[if_neg (show ¬(zo y.word==9)=true by simpa using n9),j2L hl hr,if_neg n14,if_neg n9]
  unfold q2t
  rw[hor,hbut,htwo,k2]
  by_cases a8:zo y.word=8
  ·have hw:y.word=[111,114]:=by rw[a8]at hor;simpa using hor
   rw[if_pos a8,a8,hw]
   simp[qk]
  ·rw[if_neg a8]
   by_cases a7:zo y.word=7
   ·have hw:y.word=[98,117,116]:=by rw[a7]at hbut;simpa using hbut
    rw[if_pos a7,a7,hw]
    simp[qk,j0z]
    cases zh l [120]<;>cases zh r [120]<;>cases zh l [121]<;>cases zh r [121]<;>rfl
   ·rw[if_neg a7]
    simp[a8,a7]
 ·have n9:¬zo y.word=9:=by intro e;rw[e]at k1;exact absurd k1 (by decide)
  have n8:¬zo y.word=8:=by intro e;rw[e]at k2;exact absurd k2 (by decide)
  have n7:¬zo y.word=7:=by intro e;rw[e]at k2;exact absurd k2 (by decide)
  have y14:zo y.word=14∨zo y.word=15∨zo y.word=16∨zo y.word=17:=by
   unfold q4s at k1
   unfold q3l at k2
   simp only[Bool.or_eq_true,beq_iff_eq]at k1 k2
   omega
  have na:(y.word==[97,110,100])=false:=by
   simp only[beq_eq_false_iff_ne]
   intro e
   rw[e]at k2
   exact absurd k2 (by decide)
  rw[if_neg (show ¬(zo y.word==9)=true by simpa using n9),j2L hl hr,if_neg n8,if_neg n7,if_pos y14]
  unfold q2t
  have m8:(zo y.word==8)=false:=by simpa using n8
  have m7:(zo y.word==7)=false:=by simpa using n7
  rw[hor,hbut,htwo,k1,k2,na,m8,m7]
  simp only[qk,j0z]
  cases zh l [120]<;>cases zh r [120]<;>cases zh l [121]<;>cases zh r [121]<;>rfl
theorem q0f (F:zg):(zw F).length=zv F:=by
 induction F with
 |nil=>rfl
 |node p sp y l r ihl ihr=>simp[zw,zv,ihl,ihr];omega
theorem j8f (F:zg):∀(base m:Nat) (G:zg),(zw F)[m]?=some G→∃p sp y l r,G=.node p sp y l r∧(q0p F base)[m]?=some (zQ (base+m) p sp y l r)∧(q3x F→q3x G)∧(∀j,j<zv G→(zw F)[m+j]?=(zw G)[j]?):=by
 induction F with
 |nil=>intro base m G h;simp[zw]at h
 |node p sp y l r ihl ihr =>
  intro base m G h
  cases m with
  |zero =>
   have:.node p sp y l r=G:=by simpa[zw]using h
   subst this
   exact⟨p,sp,y,l,r,rfl,rfl,fun h=>h,fun j _=>by rw[Nat.zero_add]⟩
  |succ m =>
   have h':(zw l++zw r)[m]?=some G:=by simpa[zw]using h
   by_cases hm:m<(zw l).length
   ·rw[List.getElem?_append_left hm]at h'
    obtain⟨p',sp',y',l',r',e,h1,h2,h3⟩:=ihl (base+1) m G h'
    refine⟨p',sp',y',l',r',e,?_,fun hf=>h2 hf.2.1,fun j hj=>?_⟩
    ·have hm':m<(q0p l (base+1)).length:=by rw[q1S,←q0f];exact hm
     have e2:base+(m+1)=base+1+m:=by omega
     rw[q0p,List.getElem?_cons_succ,List.getElem?_append_left hm',h1,e2]
    ·have h3':=h3 j hj
     have hs:m+j<(zw l).length:=by
      rw[zG (show j<(zw G).length by rw[q0f];exact hj)]at h3'
      exact(List.getElem?_eq_some_iff.1 h3').1
     have e2:m+1+j=(m+j)+1:=by omega
     rw[e2,zw,List.getElem?_cons_succ,List.getElem?_append_left hs,h3']
   ·rw[List.getElem?_append_right (by omega)]at h'
    obtain⟨p',sp',y',l',r',e,h1,h2,h3⟩:=ihr (base+1+zv l) (m-(zw l).length) G h'
    rw[q0f]at h1 h3 hm
    refine⟨p',sp',y',l',r',e,?_,fun hf=>h2 hf.2.2,fun j hj=>?_⟩
    ·have e2:base+1+zv l+(m-zv l)=base+(m+1):=by omega
     rw[q0p,List.getElem?_cons_succ,List.getElem?_append_right (by rw[q1S];omega),q1S,h1,e2]
    ·have h3':=h3 j hj
     have e2:m+1+j=(m+j)+1:=by omega
     have e3:m+j-(zw l).length=m-zv l+j:=by rw[q0f];omega
     rw[e2,zw,List.getElem?_cons_succ,List.getElem?_append_right (by rw[q0f];omega),e3,h3']
theorem q3N {F:zg}(h:F≠.nil):(zw F)[0]?=some F∧0<zv F:=by
 cases F with
 |nil=>exact absurd rfl h
 |node=>exact⟨rfl,by simp[zv];omega⟩
def q1D (I:List PInfo)(n:Int):PInfo:=if n<0∨(I.length:Int)≤n then q2J else I.getD n.toNat q2J
def q0X (F:zg)(k:Nat):List PInfo:=List.replicate k ⟨false,false,0⟩++((zw F).map qk).drop k
theorem q5I (F:zg)(k:Nat)(h:k≤zv F):(q0X F k).length=zv F:=by
 unfold q0X
 simp[q0f]
 omega
theorem q9K (F:zg)(k m:Nat)(h:k≤m)(G:zg)(hG:(zw F)[m]?=some G):q1D (q0X F k) (m:Int)=qk G:=by
 have hm:m<(zw F).length:=(List.getElem?_eq_some_iff.1 hG).1
 rw[q0f]at hm
 have hl:=q5I F k (by omega)
 unfold q1D
 rw[if_neg (by rw[hl];omega)]
 have e:(q0X F k)[m]?=some (qk G):=by
  unfold q0X
  rw[List.getElem?_append_right (by simpa using h)]
  simp only[List.length_replicate,List.getElem?_drop,List.getElem?_map]
  rw[show k+(m-k)=m by omega,hG]
  rfl
 simp[List.getD,e]
theorem j7u (F:zg)(hF:q3x F)(m:Nat)(hm:m<zv F)(k:Nat)(hk:k≤m+1) :
  ∃p sp y l r,(zw F)[m]?=some (.node p sp y l r)∧(q0p F 0)[m]?=some (zQ m p sp y l r)∧NodeOk y l r∧q1D (q0X F k) (zQ m p sp y l r).fst=qk l∧q1D (q0X F k) (zQ m p sp y l r).snd=qk r:=by
 have hm':m<(zw F).length:=by rw[q0f];exact hm
 obtain⟨p,sp,y,l,r,e,h1,h2,h3⟩:=j8f F 0 m _ (zG hm')
 rw[Nat.zero_add]at h1
 have hG:(zw F)[m]?=some (.node p sp y l r):=by rw[zG hm',e]
 rw[e]at h2 h3
 refine⟨p,sp,y,l,r,hG,h1,(h2 hF).1,?_,?_⟩
 ·have ef:(zQ m p sp y l r).fst=if zv l=0 then -1 else(m:Int)+1:=rfl
  rw[ef]
  by_cases hl:l=.nil
  ·subst hl
   rw[if_pos (show zv (.nil:zg)=0 from rfl)]
   unfold q1D
   rw[if_pos (.inl (by decide))]
   rfl
  ·obtain⟨g1,g2⟩:=q3N hl
   rw[if_neg (by omega)]
   have h4:=h3 1 (by simp[zv];omega)
   have h5:(zw (.node p sp y l r))[1]?=some l:=by
    rw[zw,List.getElem?_cons_succ,List.getElem?_append_left (by rw[q0f];exact g2),g1]
   rw[h5]at h4
   exact q9K F k (m+1) hk l h4
 ·have ef:(zQ m p sp y l r).snd=if zv r=0 then -1 else(m:Int)+1+zv l:=rfl
  rw[ef]
  by_cases hr:r=.nil
  ·subst hr
   rw[if_pos (show zv (.nil:zg)=0 from rfl)]
   unfold q1D
   rw[if_pos (.inl (by decide))]
   rfl
  ·obtain⟨g1,g2⟩:=q3N hr
   rw[if_neg (by omega)]
   have h4:=h3 (1+zv l) (by simp[zv];omega)
   have h5:(zw (.node p sp y l r))[1+zv l]?=some r:=by
    rw[Nat.add_comm 1,zw,List.getElem?_cons_succ,List.getElem?_append_right (by rw[q0f];omega),q0f,Nat.sub_self,g1]
   rw[h5]at h4
   have h6:=q9K F k (m+(1+zv l)) (by omega) r h4
   rw[←h6]
   congr 1
   omega
theorem j5i (F:zg)(k:Nat)(G:zg)(h:(zw F)[k]?=some G):q0X F k=(q0X F (k+1)).set k (qk G):=by
 have hk:k<(zw F).length:=(List.getElem?_eq_some_iff.1 h).1
 have hG:(zw F)[k]=G:=by rw[zG hk]at h;simpa using h
 unfold q0X
 have hk':k<((zw F).map qk).length:=by simpa using hk
 rw[List.drop_eq_getElem_cons hk',List.replicate_succ',List.append_assoc,List.set_append_right _ _ (by simp)]
 simp[hG]
theorem j0p (F:zg):q0X F 0=(zw F).map qk:=by simp[q0X]
theorem j7j (F:zg):q0X F (zv F)=List.replicate (zv F) ⟨false,false,0⟩:=by
 unfold q0X
 rw[List.drop_of_length_le (by simp[q0f])]
 simp
end Go.Proofs.YtiamjjonoeaggabGreatDoor
