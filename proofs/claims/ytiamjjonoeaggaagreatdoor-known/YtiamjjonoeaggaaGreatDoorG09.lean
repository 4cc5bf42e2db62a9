import Derived.Test.YtiamjjonoeaggaaGreatDoorGA
import Derived.Test.YtiamjjonoeaggaaGreatDoorG02
import Derived.Test.YtiamjjonoeaggaaGreatDoorG08
namespace Go.Proofs.YtiamjjonoeaggaaGreatDoor
open Go.RowKit
def q1R (k:Int):Bool:=k==11 || k==13 || k==16 || k==17
structure KFacts (t:By):Prop where
 name:zx t=(zp t==2)
 ex:(t==[101,120,105,115,116,115])=(zp t==9)
 plain:qh t=(q4f (zp t)&&!q3b (zp t))
 one:qE t=(q3b (zp t)&&!q4f (zp t))
 two:qB t=(q3b (zp t)&&q4f (zp t))
 tr:qx [116,114,117,101] t=(zp t==5)
 opn:qx [40] t=(zp t==18)
 cls:qx [41] t=(zp t==19)
 com:qx [44] t=(zp t==20)
 osq:qx [91] t=(zp t==21)
 csq:qx [93] t=(zp t==22)
 star:qx [42] t=(zp t==23)
 num:q4b t=(zp t==1)
 var:q1h t=q6A (zp t)
 ahead:q0y t=q1R (zp t)
 isX:(t==[120])=(zp t==3)
 isY:(t==[121])=(zp t==4)
 isOr:(t==[111,114])=(zp t==8)
 isBut:(t==[98,117,116])=(zp t==7)
 nz:zp t≠0
theorem kf_sign {t:By}(h:inB t q1j=true):KFacts t:=by
 unfold inB q1j at h
 simp[List.any]at h
 rcases h with h|h|h|h|h|h<;>subst h<;>exact⟨by decide,by decide,by decide,by decide,by decide,by decide,by decide,by decide,by decide,by decide,by decide,by decide,by decide,by decide,by decide,by decide,by decide,by decide,by decide,by decide⟩
theorem kf_word {t:By}(h:inB t w15=true):KFacts t:=by
 unfold inB w15 at h
 simp[List.any]at h
 rcases h with h|h|h|h|h|h|h|h|h|h|h|h|h|h|h<;>subst h<;>exact⟨by decide,by decide,by decide,by decide,by decide,by decide,by decide,by decide,by decide,by decide,by decide,by decide,by decide,by decide,by decide,by decide,by decide,by decide,by decide,by decide⟩
theorem j5l {t:By}(h:∀x∈w15++q1j,(x==t)=false)(hk:zp t=1∨zp t=2)(hn:zx t=(zp t==2))(hd:q4b t=(zp t==1)):KFacts t:=by
 have g:∀x∈w15++q1j,(t==x)=false:=fun x hx=>by have:=h x hx;simp at this ⊢;exact fun e=>this e.symm
 have f0:=h [120] (by decide)
 have f1:=h [121] (by decide)
 have f2:=h [116,114,117,101] (by decide)
 have f3:=h [97,110,100] (by decide)
 have f4:=h [98,117,116] (by decide)
 have f5:=h [111,114] (by decide)
 have f6:=h [101,120,105,115,116,115] (by decide)
 have f7:=h [112,114,101,118] (by decide)
 have f8:=h [110,101,120,116] (by decide)
 have f9:=h [111,110,99,101] (by decide)
 have f10:=h [115,111,111,110] (by decide)
 have f11:=h [115,105,110,99,101] (by decide)
 have f12:=h [117,110,115,105,110,99,101] (by decide)
 have f13:=h [117,110,116,105,108] (by decide)
 have f14:=h [117,110,117,110,116,105,108] (by decide)
 refine⟨hn,?_,?_,?_,?_,?_,?_,?_,?_,?_,?_,?_,hd,?_,?_,?_,?_,?_,?_,?_⟩
 ·rw[g _ (by decide)];rcases hk with hk|hk<;>rw[hk]<;>rfl
 ·unfold qh inB q3O;simp only[List.any_cons,List.any_nil,f3,f4,f5];rcases hk with hk|hk<;>rw[hk]<;>rfl
 ·unfold qE inB q9e;simp only[List.any_cons,List.any_nil,f7,f8,f9,f10];rcases hk with hk|hk<;>rw[hk]<;>rfl
 ·unfold qB inB q7X;simp only[List.any_cons,List.any_nil,f11,f12,f13,f14];rcases hk with hk|hk<;>rw[hk]<;>rfl
 ·unfold qx;rw[f2];rcases hk with hk|hk<;>rw[hk]<;>rfl
 ·unfold qx;rw[h [40] (by decide)];rcases hk with hk|hk<;>rw[hk]<;>rfl
 ·unfold qx;rw[h [41] (by decide)];rcases hk with hk|hk<;>rw[hk]<;>rfl
 ·unfold qx;rw[h [44] (by decide)];rcases hk with hk|hk<;>rw[hk]<;>rfl
 ·unfold qx;rw[h [91] (by decide)];rcases hk with hk|hk<;>rw[hk]<;>rfl
 ·unfold qx;rw[h [93] (by decide)];rcases hk with hk|hk<;>rw[hk]<;>rfl
 ·unfold qx;rw[h [42] (by decide)];rcases hk with hk|hk<;>rw[hk]<;>rfl
 ·unfold q1h;rw[g [120] (by decide),g [121] (by decide)];rcases hk with hk|hk<;>rw[hk]<;>rfl
 ·unfold q0y inB q9d;simp only[List.any_cons,List.any_nil,f8,f10,f13,f14];rcases hk with hk|hk<;>rw[hk]<;>rfl
 ·rw[g [120] (by decide)];rcases hk with hk|hk<;>rw[hk]<;>rfl
 ·rw[g [121] (by decide)];rcases hk with hk|hk<;>rw[hk]<;>rfl
 ·rw[g [111,114] (by decide)];rcases hk with hk|hk<;>rw[hk]<;>rfl
 ·rw[g [98,117,116] (by decide)];rcases hk with hk|hk<;>rw[hk]<;>rfl
 ·rcases hk with hk|hk<;>rw[hk]<;>decide
theorem j7E {t:By}(h:inB t w15=false):q9h t=2:=by
 have g:∀x∈w15,(t==x)=false:=fun x hx=>by
  unfold inB at h
  rw[List.any_eq_false]at h
  have:=h x hx
  simp at this ⊢
  exact fun e=>this e.symm
 unfold q9h
 rw[g [120] (by decide),g [121] (by decide),g [116,114,117,101] (by decide),g [97,110,100] (by decide),g [98,117,116] (by decide),g [111,114] (by decide),g [101,120,105,115,116,115] (by decide),g [112,114,101,118] (by decide),g [110,101,120,116] (by decide),g [111,110,99,101] (by decide),g [115,111,111,110] (by decide),g [115,105,110,99,101] (by decide),g [117,110,115,105,110,99,101] (by decide),g [117,110,116,105,108] (by decide),g [117,110,117,110,116,105,108] (by decide)]
 rfl
theorem j1G:∀x∈q1j,∀c q,x=c::q→q0n (c.toNat:Int)=false∧zQ (c.toNat:Int)=false:=by
 intro x hx c q e
 simp only[q1j,List.mem_cons,List.not_mem_nil,or_false]at hx
 rcases hx with rfl|rfl|rfl|rfl|rfl|rfl<;>injection e with e1 e2<;>subst e1<;>decide
theorem j7F:∀x∈w15,∀c q,x=c::q→zQ (c.toNat:Int)=false:=by
 intro x hx c q e
 simp only[w15,List.mem_cons,List.not_mem_nil,or_false]at hx
 rcases hx with rfl|rfl|rfl|rfl|rfl|rfl|rfl|rfl|rfl|rfl|rfl|rfl|rfl|rfl|rfl<;>injection e with e1 e2<;>subst e1<;>decide
theorem q0z {t:Tok}(h:q1u t):KFacts t.text:=by
 obtain⟨c,r,e,ho,_⟩:=h
 generalize t.text=t at *
 subst e
 unfold q3F at ho
 simp only[Bool.or_eq_true,Bool.and_eq_true,decide_eq_true_eq]at ho
 rcases ho with(ho|⟨hd,_⟩)|⟨hl,_⟩
 ·exact kf_sign ho
 ·have k1:zp (c::r)=1:=by simp only[zp];rw[if_pos hd]
  refine j5l ?_ (.inl k1) ?_ ?_
  ·intro x hx
   rcases List.mem_append.1 hx with hx|hx
   ·simp only[beq_eq_false_iff_ne]
    intro e
    have:=j7F x hx c r e
    rw[hd]at this
    exact absurd this (by decide)
   ·simp only[beq_eq_false_iff_ne]
    intro e
    have:=(j1G x hx c r e).2
    rw[hd]at this
    exact absurd this (by decide)
  ·rw[k1];simp only[zx];rw[q3s hd];rfl
  ·rw[k1];exact hd
 ·cases hw:inB (c::r) w15 with
  |true=>exact kf_word hw
  |false =>
   have hnd:zQ (c.toNat:Int)=false:=by
    cases hq:zQ (c.toNat:Int)with
    |false=>rfl
    |true=>rw[q3s hq]at hl;exact absurd hl (by decide)
   have k2:zp (c::r)=2:=by simp only[zp];rw[hnd,if_neg (by decide),if_pos hl];exact j7E hw
   refine j5l ?_ (.inr k2) ?_ ?_
   ·intro x hx
    rcases List.mem_append.1 hx with hx|hx
    ·unfold inB at hw
     rw[List.any_eq_false]at hw
     have:=hw x hx
     simpa using this
    ·simp only[beq_eq_false_iff_ne]
     intro e
     have:=(j1G x hx c r e).1
     rw[hl]at this
     exact absurd this (by decide)
   ·rw[k2];simp only[zx];rw[hl,hw];rfl
   ·rw[k2];exact hnd
theorem KFacts.arg {t:Tok}(k:KFacts t.text)(h:q1u t):q5u t.text=q5H (q6z t):=by
 unfold q5u
 rw[k.var]
 unfold q5H q6z
 simp only[]
 cases hn:q4b t.text with
 |true =>
  have hk:=k.num
  rw[hn]at hk
  have hd:=(q4r h hn).1
  rw[hd,←hk]
  have e:((t.text.length:Int)==1)=(t.text.length==1):=by rw[Bool.eq_iff_iff];simp;omega
  rw[e]
  simp
 |false =>
  have hk:=k.num
  rw[hn]at hk
  have hd:q2d t.text=false:=by
   obtain⟨c,r,e,_⟩:=h
   rw[e]at hn ⊢
   unfold q2d
   have hn':zQ (c.toNat:Int)=false:=hn
   rw[List.all_cons,hn']
   rfl
  rw[hd,←hk]
  simp
def endT (L:Nat):PTok:=⟨0,L,0,0,[]⟩
def q0Z (toks:List Tok)(L:Nat):List PTok:=toks.map q6z++[endT L]
def q2J (L:Nat):List Tok→PTok
 | []=>endT L
 |t::_=>q6z t
def atS (toks r:List Tok):Nat:=toks.length-r.length
theorem j0S {toks r:List Tok}(L:Nat)(h:r <:+ toks):zt (q0Z toks L) (atS toks r)=q2J L r:=by
 obtain⟨u,rfl⟩:=h
 have e:atS (u++r) r=u.length:=by unfold atS;simp
 rw[e]
 unfold zt q0Z
 cases r with
 |nil=>simp[q2J]
 |cons t q=>simp[q2J]
theorem at_s {toks q:List Tok}{t:Tok}(h:(t::q) <:+ toks):atS toks q=atS toks (t::q)+1∧q <:+ toks:=by
 obtain⟨u,rfl⟩:=h
 refine⟨?_,u++[t],by simp⟩
 unfold atS
 simp
 omega
theorem q8u {toks q:List Tok}{t:Tok}(hg:q5t toks)(h:(t::q) <:+ toks):q1u t:=hg t (h.subset (by simp))
theorem q8N {toks r:List Tok}(L:Nat){p:By→Bool}(P:PTok→Bool)(hg:q5t toks)(hs:r <:+ toks)(hp:∀t,q1u t→p t.text=P (q6z t))(h0:P (endT L)=false) :
  (∃t q,r=t::q∧q1u t∧q0p p r=.inr (t,q)∧zt (q0Z toks L) (atS toks r)=q6z t∧P (zt (q0Z toks L) (atS toks r))=true∧atS toks q=atS toks r+1∧q <:+ toks)
  ∨ (q0p p r=.inl r∧P (zt (q0Z toks L) (atS toks r))=false):=by
 rw[j0S L hs]
 cases r with
 |nil=>exact .inr ⟨rfl,h0⟩
 |cons t q =>
  have ht:=q8u hg hs
  have e:=hp t ht
  cases hq:p t.text with
  |true=>exact .inl ⟨t,q,rfl,ht,by simp[q0p,hq],rfl,by rw[←hq,e];rfl,(at_s hs).1,(at_s hs).2⟩
  |false=>exact .inr ⟨by simp[q0p,hq],by rw[←hq,e];rfl⟩
theorem q1z {toks r:List Tok}(L:Nat){p:By→Bool}(k:Int)(hg:q5t toks)(hs:r <:+ toks)(hp:∀t,q1u t→p t.text=(zp t.text==k))(h0:k≠0) :
  (∃t q,r=t::q∧q1u t∧q0p p r=.inr (t,q)∧zt (q0Z toks L) (atS toks r)=q6z t∧(zt (q0Z toks L) (atS toks r)).kind=k∧atS toks q=atS toks r+1∧q <:+ toks)
  ∨ (q0p p r=.inl r∧¬(zt (q0Z toks L) (atS toks r)).kind=k):=by
 rcases q8N L (fun q=>q.kind==k) hg hs hp (by simp[endT,h0.symm])with⟨t,q,a,b,c,d,e,f,g⟩|⟨a,b⟩
 ·exact .inl ⟨t,q,a,b,c,d,by simpa using e,f,g⟩
 ·exact .inr ⟨a,by simpa using b⟩
def HSim {β:Type}(toks:List Tok)(o:Bool × Nat × PNode)(x:q6y β)(f:β→PNode):Prop:=match x with
 | .inl r=>o.1=false∧o.2.1=atS toks r∧r <:+ toks
 | .inr (b,r)=>o=(true,atS toks r,f b)∧r <:+ toks
theorem kind_nil:zp []=0:=rfl
theorem val_nil:q3k []=0:=rfl
def q5U (nd:PNode)(gs:List (By)):PNode:={nd with k0:=zp (gs.getD 0 []),v0:=q3k (gs.getD 0 []),k1:=zp (gs.getD 1 []),v1:=q3k (gs.getD 1 []),cnt:=gs.length}
theorem args_sim {toks r:List Tok}(L:Nat)(hg:q5t toks)(hs:r <:+ toks)(nd:PNode)(h0:nd.k1=0∧nd.v1=0) :
  HSim toks (q7I (q0Z toks L) (atS toks r) nd) (qy (q0p (qx [40]) r) fun _ r=>qy (q0p q5u r) fun a r=>qy (q1J r) fun b r=>qy (q0p (qx [41]) r) fun _ r=>.inr (a.text::b,r)) (q5U nd):=by
 obtain⟨z1,z2⟩:=h0
 unfold q7I
 rcases q1z L 18 hg hs (fun t ht=>(q0z ht).opn) (by decide)with⟨t,q,rfl,_,en,_,ek,ea,hs1⟩|⟨en,ek⟩
 ·rw[en,if_pos ek,←ea]
  simp only[qy]
  rcases q8N L q5H hg hs1 (fun t ht=>(q0z ht).arg ht) rfl with⟨t1,q1,rfl,_,en1,eh1,ek1,ea1,hs2⟩|⟨en1,ek1⟩
  ·rw[en1,if_pos ek1]
   simp only[]
   unfold q7J q1J
   have ea':atS toks q1=atS toks (t::t1::q1)+2:=by omega
   rw[←ea']
   rcases q1z L 20 hg hs2 (fun t ht=>(q0z ht).com) (by decide)with⟨t2,q2,rfl,g2,en2,eh2,ek2,ea2,hs3⟩|⟨en2,ek2⟩
   ·have hh:(hd (t2::q2)==[44])=true:=by
     have:=(q0z g2).com
     rw[eh2]at ek2
     have e2:zp t2.text=20:=ek2
     rw[e2]at this
     simp[qx]at this
     simp[hd,←this]
    rw[if_pos ek2,if_pos hh,en2]
    simp only[qy]
    have ea3:atS toks (t::t1::t2::q2)+3=atS toks q2:=by omega
    rw[ea3]
    rcases q8N L q5H hg hs3 (fun t ht=>(q0z ht).arg ht) rfl with⟨t3,q3,rfl,_,en3,eh3,ek3,ea4,hs4⟩|⟨en3,ek3⟩
    ·rw[en3,if_pos ek3]
     simp only[]
     have ea5:atS toks (t::t1::t2::t3::q3)+4=atS toks q3:=by omega
     rw[ea5]
     rcases q1z L 19 hg hs4 (fun t ht=>(q0z ht).cls) (by decide)with⟨t4,q4,rfl,_,en4,_,ek4,ea6,hs5⟩|⟨en4,ek4⟩
     ·rw[en4,if_pos ek4]
      refine⟨?_,hs5⟩
      rw[show atS toks (t::t1::t2::t3::t4::q4)+5=atS toks q4 from by omega,eh1,eh3]
      rfl
     ·rw[en4,if_neg ek4]
      exact⟨rfl,rfl,hs4⟩
    ·rw[en3,if_neg (by rw[ek3];decide)]
     exact⟨rfl,rfl,hs3⟩
   ·have hh:¬(hd q1==[44])=true:=by
     intro hc
     cases q1 with
     |nil=>exact absurd hc (by decide)
     |cons a b =>
      apply ek2
      rw[j0S L hs2]
      have:=(q0z (q8u hg hs2)).com
      simp[hd]at hc
      rw[hc]at this
      simp[qx]at this
      simp[q2J,q6z,hc,←this]
    rw[if_neg ek2,if_neg hh]
    simp only[]
    rcases q1z L 19 hg hs2 (fun t ht=>(q0z ht).cls) (by decide)with⟨t2,q2,rfl,g2,en3,eh2,ek3,ea2,hs3⟩|⟨en3,ek3⟩
    ·rw[en3,if_pos ek3]
     refine⟨?_,hs3⟩
     rw[show atS toks (t::t1::t2::q2)+3=atS toks q2 from by omega,eh1]
     simp[q5U,q6z,z1,z2,kind_nil,val_nil]
    ·rw[en3,if_neg ek3]
     exact⟨rfl,rfl,hs2⟩
  ·rw[en1,if_neg (by rw[ek1];decide)]
   exact⟨rfl,rfl,hs1⟩
 ·rw[en,if_neg ek]
  exact⟨rfl,rfl,hs⟩
def q3P (nd:PNode)(s:Nat × By × By):PNode:={nd with sat:=s.1,slo:=q3k s.2.1,shi:=q3k s.2.2,sop:=s.2.2==[42]}
theorem span_sim {toks r:List Tok}(L:Nat)(hg:q5t toks)(hs:r <:+ toks)(nd:PNode)(h0:nd.shi=0∧nd.sop=false):HSim toks (q3K (q0Z toks L) (atS toks r) nd) (q2j r) (q3P nd):=by
 obtain⟨z1,z2⟩:=h0
 unfold q3K q2j
 rcases q1z L 21 hg hs (fun t ht=>(q0z ht).osq) (by decide)with⟨t,q,rfl,_,en,eh,ek,ea,hs1⟩|⟨en,ek⟩
 ·rw[en,if_pos ek,←ea]
  simp only[qy]
  rcases q1z L 1 hg hs1 (fun t ht=>(q0z ht).num) (by decide)with⟨t1,q1,rfl,_,en1,eh1,ek1,ea1,hs2⟩|⟨en1,ek1⟩
  ·rw[en1,if_pos ek1,show atS toks (t::t1::q1)+2=atS toks q1 from by omega]
   simp only[]
   rcases q1z L 20 hg hs2 (fun t ht=>(q0z ht).com) (by decide)with⟨t2,q2,rfl,_,en2,eh2,ek2,ea2,hs3⟩|⟨en2,ek2⟩
   ·rw[en2,if_pos ek2,show atS toks (t::t1::t2::q2)+3=atS toks q2 from by omega]
    simp only[]
    rcases q8N L (fun q=>q.kind==23 || q.kind==1) hg hs3 (p:=q3Y) (fun t ht=>by
      unfold q3Y
      have h1:=(q0z ht).star
      unfold qx at h1
      have h2:(t.text==[42])=([42]==t.text):=by rw[Bool.eq_iff_iff];simp;exact⟨fun h=>h.symm,fun h=>h.symm⟩
      rw[h2,h1,(q0z ht).num]
      rfl) rfl with⟨t3,q3,rfl,g3,en3,eh3,ek3,ea3,hs4⟩|⟨en3,ek3⟩
    ·rw[en3]
     simp only[]
     have e4:atS toks (t::t1::t2::t3::q3)+4=atS toks q3:=by omega
     rw[e4]
     have hst:=(q0z g3).star
     unfold qx at hst
     by_cases ks:(zt (q0Z toks L) (atS toks (t3::q3))).kind=23
     ·rw[if_pos ks]
      have e3:t3.text=[42]:=by
       rw[eh3]at ks
       have ks':zp t3.text=23:=ks
       rw[ks']at hst
       simp at hst
       exact hst.symm
      rcases q1z L 22 hg hs4 (fun t ht=>(q0z ht).csq) (by decide)with⟨t4,q4,rfl,_,en4,_,ek4,ea4,hs5⟩|⟨en4,ek4⟩
      ·rw[en4,if_pos ek4,show atS toks (t::t1::t2::t3::t4::q4)+5=atS toks q4 from by omega,eh,eh1]
       refine⟨?_,hs5⟩
       simp[q3P,q6z,e3,z1]
       rfl
      ·rw[en4,if_neg ek4]
       exact⟨rfl,rfl,hs4⟩
     ·rw[if_neg ks]
      have k1:(zt (q0Z toks L) (atS toks (t3::q3))).kind=1:=by
       simp only[Bool.or_eq_true,beq_iff_eq]at ek3
       rcases ek3 with e|e
       ·exact absurd e ks
       ·exact e
      rw[if_pos k1]
      have e3:(t3.text==[42])=false:=by
       rw[eh3]at k1
       have ks':zp t3.text=1:=k1
       rw[ks']at hst
       simp at hst ⊢
       exact fun h=>hst h.symm
      rcases q1z L 22 hg hs4 (fun t ht=>(q0z ht).csq) (by decide)with⟨t4,q4,rfl,_,en4,_,ek4,ea4,hs5⟩|⟨en4,ek4⟩
      ·rw[en4,if_pos ek4,show atS toks (t::t1::t2::t3::t4::q4)+5=atS toks q4 from by omega,eh,eh1,eh3]
       refine⟨?_,hs5⟩
       simp[q3P,q6z,e3,z2]
      ·rw[en4,if_neg ek4]
       exact⟨rfl,rfl,hs4⟩
    ·simp only[Bool.or_eq_false_iff,beq_eq_false_iff_ne]at ek3
     rw[en3,if_neg ek3.1,if_neg ek3.2]
     exact⟨rfl,rfl,hs3⟩
   ·rw[en2,if_neg ek2]
    exact⟨rfl,rfl,hs2⟩
  ·rw[en1,if_neg ek1]
   exact⟨rfl,rfl,hs1⟩
 ·rw[en,if_neg ek]
  exact⟨rfl,rfl,hs⟩
def q3e (ts:List PTok)(F:Nat→Nat→Bool × Nat × List PNode)(m base:Nat)(nd:PNode):Bool × Nat × List PNode:=
 if (zt ts m).kind=18 then
  if (F (m+1) (base+1)).1=true then
   if q4f nd.kind=true then
    if (zt ts (F (m+1) (base+1)).2.1).kind=20 then
     if (F ((F (m+1) (base+1)).2.1+1) (base+1+(F (m+1) (base+1)).2.2.length)).1=true then
      if (zt ts (F ((F (m+1) (base+1)).2.1+1) (base+1+(F (m+1) (base+1)).2.2.length)).2.1).kind=19 then
       (true,(F ((F (m+1) (base+1)).2.1+1) (base+1+(F (m+1) (base+1)).2.2.length)).2.1+1,{nd with fst:=base+1,snd:=base+1+(F (m+1) (base+1)).2.2.length}::((F (m+1) (base+1)).2.2++(F ((F (m+1) (base+1)).2.1+1) (base+1+(F (m+1) (base+1)).2.2.length)).2.2))
      else(false,(F ((F (m+1) (base+1)).2.1+1) (base+1+(F (m+1) (base+1)).2.2.length)).2.1,[])
     else(false,(F ((F (m+1) (base+1)).2.1+1) (base+1+(F (m+1) (base+1)).2.2.length)).2.1,[])
    else(false,(F (m+1) (base+1)).2.1,[])
   else if (zt ts (F (m+1) (base+1)).2.1).kind=19 then(true,(F (m+1) (base+1)).2.1+1,{nd with fst:=base+1}::(F (m+1) (base+1)).2.2)
   else(false,(F (m+1) (base+1)).2.1,[])
  else(false,(F (m+1) (base+1)).2.1,[])
 else(false,m,[])
def q0f (ts:List PTok):Nat→Nat→Nat→Bool × Nat × List PNode
 | 0,nx,_=>(false,nx,[])
 |d+1,nx,base =>
  if (q0Y ts nx).1=true then
   if (q0Y ts nx).2.2.kind=5∨(q0Y ts nx).2.2.kind=2 then(true,(q0Y ts nx).2.1,[(q0Y ts nx).2.2])
   else q3e ts (q0f ts d) (q0Y ts nx).2.1 base (q0Y ts nx).2.2
  else(false,(q0Y ts nx).2.1,[])
def zu:zh→Nat
 | .nil=>0
 | .node _ _ _ l r=>1+zu l+zu r
def exB (t:By):Bool:=t==[101,120,105,115,116,115]
def zz (base:Nat)(p sp:Nat)(y:Pay)(l r:zh):PNode:=
 {kind:=zp y.word,pos:=p,name:=padP y.word
  k0:=if zx y.word then zp (y.args.getD 0 [])else 0
  v0:=if zx y.word then q3k (y.args.getD 0 [])else 0
  k1:=if zx y.word then zp (y.args.getD 1 [])else 0
  v1:=if zx y.word then q3k (y.args.getD 1 [])else 0
  cnt:=if zx y.word then y.args.length else 0
  var:=if exB y.word then zp (y.args.getD 0 [])else 0
  sat:=sp,slo:=q3k y.lo,shi:=q3k y.hi,sop:=y.hi==[42]
  fst:=if zu l=0 then -1 else base+1
  snd:=if zu r=0 then -1 else base+1+zu l}
def q0l:zh→Nat→List PNode
 | .nil,_=>[]
 | .node p sp y l r,base=>zz base p sp y l r::(q0l l (base+1)++q0l r (base+1+zu l))
theorem q1M (F:zh):∀base,(q0l F base).length=zu F:=by
 induction F with
 |nil=>intro base;rfl
 |node p sp y l r ihl ihr=>intro base;simp[q0l,zu,ihl,ihr];omega
def FSim (toks:List Tok)(o:Bool × Nat × List PNode)(x:q6y zh)(base:Nat):Prop:=match x with
 | .inl r=>o.1=false∧o.2.1=atS toks r∧r <:+ toks
 | .inr (F,r)=>o=(true,atS toks r,q0l F base)∧r <:+ toks∧0<zu F
theorem j2D {toks r:List Tok}(L:Nat)(hg:q5t toks)(hs:r <:+ toks)(F:Nat→Nat→Bool × Nat × List PNode)(n base:Nat)(ih:∀r base,r <:+ toks→FSim toks (F (atS toks r) base) (q0x n r) base)(nd:PNode)(h2:q4f nd.kind=false)(p sp:Nat)(y:Pay)
  (hn:∀l:zh,0<zu l→zz base p sp y l .nil={nd with fst:=base+1}) :
  FSim toks (q3e (q0Z toks L) F (atS toks r) base nd) (qy (q0p (qx [40]) r) fun _ r=>qy (q0x n r) fun A r=>qy (q0p (qx [41]) r) fun _ r=>.inr (.node p sp y A .nil,r)) base:=by
 unfold q3e
 rcases q1z L 18 hg hs (fun t ht=>(q0z ht).opn) (by decide)with⟨t,q,rfl,_,en,_,ek,ea,hs1⟩|⟨en,ek⟩
 ·rw[en,if_pos ek,←ea]
  simp only[qy]
  have h:=ih q (base+1) hs1
  generalize F (atS toks q) (base+1)=o at *
  cases hp:q0x n q with
  |inl r1 =>
   rw[hp]at h
   obtain⟨a1,a2,a3⟩:=h
   rw[if_neg (by rw[a1];decide)]
   exact⟨rfl,a2,a3⟩
  |inr z =>
   obtain⟨A,r1⟩:=z
   rw[hp]at h
   obtain⟨rfl,hs2,hz⟩:=h
   simp only[if_true,h2,Bool.false_eq_true,if_false]
   rcases q1z L 19 hg hs2 (fun t ht=>(q0z ht).cls) (by decide)with⟨t2,q2,rfl,_,en2,_,ek2,ea2,hs3⟩|⟨en2,ek2⟩
   ·rw[en2,if_pos ek2,←ea2]
    refine⟨?_,hs3,by simp[zu];omega⟩
    simp only[q0l,List.append_nil]
    rw[hn A hz]
   ·rw[en2,if_neg ek2]
    exact⟨rfl,rfl,hs2⟩
 ·rw[en,if_neg ek]
  exact⟨rfl,rfl,hs⟩
theorem j2E {toks r:List Tok}(L:Nat)(hg:q5t toks)(hs:r <:+ toks)(F:Nat→Nat→Bool × Nat × List PNode)(n base:Nat)(ih:∀r base,r <:+ toks→FSim toks (F (atS toks r) base) (q0x n r) base)(nd:PNode)(h2:q4f nd.kind=true)(p sp:Nat)(y:Pay)
  (hn:∀l r:zh,0<zu l→0<zu r→zz base p sp y l r={nd with fst:=base+1,snd:=base+1+zu l}) :
  FSim toks (q3e (q0Z toks L) F (atS toks r) base nd) (qy (q0p (qx [40]) r) fun _ r=>qy (q0x n r) fun A r=>qy (q0p (qx [44]) r) fun _ r=>qy (q0x n r) fun B r=>qy (q0p (qx [41]) r) fun _ r=>.inr (.node p sp y A B,r)) base:=by
 unfold q3e
 rcases q1z L 18 hg hs (fun t ht=>(q0z ht).opn) (by decide)with⟨t,q,rfl,_,en,_,ek,ea,hs1⟩|⟨en,ek⟩
 ·rw[en,if_pos ek,←ea]
  simp only[qy]
  have h:=ih q (base+1) hs1
  generalize F (atS toks q) (base+1)=o at *
  cases hp:q0x n q with
  |inl r1 =>
   rw[hp]at h
   obtain⟨a1,a2,a3⟩:=h
   rw[if_neg (by rw[a1];decide)]
   exact⟨rfl,a2,a3⟩
  |inr z =>
   obtain⟨A,r1⟩:=z
   rw[hp]at h
   obtain⟨rfl,hs2,hz⟩:=h
   simp only[if_true,h2]
   rcases q1z L 20 hg hs2 (fun t ht=>(q0z ht).com) (by decide)with⟨t2,q2,rfl,_,en2,_,ek2,ea2,hs3⟩|⟨en2,ek2⟩
   ·rw[en2,if_pos ek2,←ea2]
    simp only[]
    have h':=ih q2 (base+1+(q0l A (base+1)).length) hs3
    generalize F (atS toks q2) (base+1+(q0l A (base+1)).length)=o at *
    cases hp2:q0x n q2 with
    |inl r3 =>
     rw[hp2]at h'
     obtain⟨a1,a2,a3⟩:=h'
     rw[if_neg (by rw[a1];decide)]
     exact⟨rfl,a2,a3⟩
    |inr z2 =>
     obtain⟨B,r3⟩:=z2
     rw[hp2]at h'
     obtain⟨rfl,hs4,hz2⟩:=h'
     simp only[if_true]
     rcases q1z L 19 hg hs4 (fun t ht=>(q0z ht).cls) (by decide)with⟨t4,q4,rfl,_,en4,_,ek4,ea4,hs5⟩|⟨en4,ek4⟩
     ·rw[en4,if_pos ek4,←ea4]
      refine⟨?_,hs5,by simp[zu];omega⟩
      simp only[q0l]
      rw[hn A B hz hz2,q1M]
     ·rw[en4,if_neg ek4]
      exact⟨rfl,rfl,hs4⟩
   ·rw[en2,if_neg ek2]
    exact⟨rfl,rfl,hs2⟩
 ·rw[en,if_neg ek]
  exact⟨rfl,rfl,hs⟩
theorem q4L {t:Tok}{q:List Tok}{p:By→Bool}(h:p t.text=true):q0p p (t::q)=.inr (t,q):=by simp[q0p,h]
theorem form_sim {toks:List Tok}(L:Nat)(hg:q5t toks):∀(d:Nat) (r:List Tok) (base:Nat),r <:+ toks→FSim toks (q0f (q0Z toks L) d (atS toks r) base) (q0x d r) base:=by
 intro d
 induction d with
 |zero=>intro r base hs;exact⟨rfl,rfl,hs⟩
 |succ n ih =>
  intro r base hs
  have hh:=j0S L hs
  cases r with
  |nil =>
   have hb:¬q3n (zt (q0Z toks L) (atS toks [])).kind=true:=by rw[hh];show ¬q3n 0=true;decide
   unfold q0f q0Y
   rw[if_neg hb]
   exact⟨rfl,rfl,hs⟩
  |cons t q =>
   have gt:=q8u hg hs
   have K:=q0z gt
   obtain⟨ea,hs1⟩:=at_s hs
   have hk:(zt (q0Z toks L) (atS toks (t::q))).kind=zp t.text:=by rw[hh];rfl
   have hself:qx t.text t.text=true:=by simp[qx]
   have hhd:hd (t::q)=t.text:=rfl
   rw[q0f,q0x]
   simp only[hhd]
   unfold q0Y
   rw[hk]
   by_cases c1:zp t.text=2
   ·have b1:zx t.text=true:=by rw[K.name,c1];rfl
    rw[if_pos b1,if_pos (show q3n (zp t.text)=true by rw[c1];decide),if_pos c1,q4L b1,←ea]
    simp only[qy]
    have h:=args_sim L hg hs1 (q1o (zt (q0Z toks L) (atS toks (t::q)))) ⟨rfl,rfl⟩
    generalize q7I (q0Z toks L) (atS toks q) (q1o (zt (q0Z toks L) (atS toks (t::q))))=o at *
    have key:∀(x:q6y (List (By))) (g:q6y zh),(g=qy x fun gs r=>.inr (.node t.pos 0 ⟨t.text,gs,[],[]⟩ .nil .nil,r))→HSim toks o x (q5U (q1o (zt (q0Z toks L) (atS toks (t::q)))))→FSim toks (if o.1=true then if o.2.2.kind=5∨o.2.2.kind=2 then(true,o.2.1,[o.2.2])else q3e (q0Z toks L) (q0f (q0Z toks L) n) o.2.1 base o.2.2 else(false,o.2.1,[])) g base:=by
     intro x g hg' hx
     subst hg'
     cases x with
     |inl r1 =>
      obtain⟨a1,a2,a3⟩:=hx
      rw[if_neg (by rw[a1];decide)]
      exact⟨rfl,a2,a3⟩
     |inr z =>
      obtain⟨gs,r1⟩:=z
      obtain⟨rfl,a2⟩:=hx
      rw[hh]
      simp only[if_true]
      rw[if_pos (show(q5U (q1o (q2J L (t::q))) gs).kind=5∨(q5U (q1o (q2J L (t::q))) gs).kind=2 from Or.inr c1)]
      refine⟨?_,a2,by simp[zu]⟩
      have hne:exB t.text=false:=by unfold exB;rw[K.ex,c1];rfl
      simp only[q0l,List.append_nil,zz,b1,hne,zu,if_true,q5U,q1o,q2J,q6z]
      rfl
    refine key _ _ ?_ h
    cases q0p (qx [40]) q with
    |inl r1=>rfl
    |inr z =>
     obtain⟨t1,r1⟩:=z
     simp only[qy]
     cases q0p q5u r1 with
     |inl r2=>rfl
     |inr z =>
      obtain⟨t2,r2⟩:=z
      simp only[]
      cases q1J r2 with
      |inl r3=>rfl
      |inr z =>
       obtain⟨bb,r3⟩:=z
       simp only[]
       cases q0p (qx [41]) r3<;>rfl
   ·have b1:¬zx t.text=true:=by rw[K.name];simpa using c1
    rw[if_neg b1]
    by_cases c2:zp t.text=9
    ·have b2:(t.text==[101,120,105,115,116,115])=true:=by rw[K.ex,c2];rfl
     rw[if_pos b2,if_pos (show q3n (zp t.text)=true by rw[c2];decide),if_neg c1,if_pos c2,q4L hself,←ea]
     simp only[qy]
     rcases q8N L (fun q=>q6A q.kind) hg hs1 (p:=q1h) (fun t ht=>(q0z ht).var) rfl with⟨t1,q1,rfl,_,en1,eh1,ek1,ea1,hs2⟩|⟨en1,ek1⟩
     ·rw[en1,if_pos ek1]
      simp only[]
      have e2:atS toks (t::t1::q1)+2=atS toks q1:=by omega
      rw[e2,eh1,hh]
      simp only[if_true]
      rw[if_neg (show ¬((q1o (q2J L (t::t1::q1))).kind=5∨(q1o (q2J L (t::t1::q1))).kind=2) from(by show ¬(zp t.text=5∨zp t.text=2);rw[c2];decide))]
      refine j2D L hg hs2 _ n base ih _ (show q4f (zp t.text)=false by rw[c2];decide) _ _ _ ?_
      intro l hl
      have hz:zu l≠0:=by omega
      have hx:exB t.text=true:=b2
      have b1':zx t.text=false:=by simpa using b1
      simp only[zz,b1',hx,hz,zu,if_true,if_false,q1o,q2J,q6z,Bool.false_eq_true]
      rfl
     ·have ek2:¬q6A (zt (q0Z toks L) (atS toks q)).kind=true:=by have e:q6A (zt (q0Z toks L) (atS toks q)).kind=false:=ek1;rw[e];decide
      rw[en1,if_neg ek2]
      exact⟨rfl,rfl,hs1⟩
    ·have b2:¬(t.text==[101,120,105,115,116,115])=true:=by rw[K.ex];simpa using c2
     have hx:exB t.text=false:=by simpa[exB]using b2
     have b1':zx t.text=false:=by simpa using b1
     rw[if_neg b2]
     cases c3:q3b (zp t.text)with
     |false =>
      have b4:¬qE t.text=true:=by rw[K.one,c3];simp
      have b5:¬qB t.text=true:=by rw[K.two,c3];simp
      cases c4:q4f (zp t.text)with
      |true =>
       have b3:qh t.text=true:=by rw[K.plain,c3,c4];rfl
       have hb:q3n (zp t.text)=true:=by unfold q3n;rw[c4];simp
       have n5:¬(zp t.text=5∨zp t.text=2):=by
        intro h
        rcases h with h|h
        ·rw[h]at c4;exact absurd c4 (by decide)
        ·exact c1 h
       rw[if_pos b3,if_pos hb,if_neg c1,if_neg c2,q4L hself,←ea]
       simp only[qy,Bool.false_eq_true,if_false,if_true]
       rw[hh,if_neg (show ¬((q1o (q2J L (t::q))).kind=5∨(q1o (q2J L (t::q))).kind=2) from n5)]
       refine j2E L hg hs1 _ n base ih _ c4 _ _ _ ?_
       intro l r hl hr
       have hz:zu l≠0:=by omega
       have hz2:zu r≠0:=by omega
       simp only[zz,q7T,b1',hx,hz,hz2,if_false,q1o,q2J,q6z,Bool.false_eq_true]
       rfl
      |false =>
       have b3:¬qh t.text=true:=by rw[K.plain,c3,c4];decide
       rw[if_neg b3,if_neg b4,if_neg b5]
       by_cases c5:zp t.text=5
       ·have b6:qx [116,114,117,101] t.text=true:=by rw[K.tr,c5];rfl
        rw[if_pos (show q3n (zp t.text)=true by rw[c5];decide),if_neg c1,if_neg c2,q4L b6,←ea]
        simp only[qy,Bool.false_eq_true,if_false,if_true]
        rw[hh,if_pos (show((q1o (q2J L (t::q))).kind=5∨(q1o (q2J L (t::q))).kind=2) from .inl c5)]
        refine⟨?_,hs1,by simp[zu]⟩
        simp only[q0l,List.append_nil,zz,q7T,b1',hx,zu,if_true,if_false,q1o,q2J,q6z,Bool.false_eq_true]
        rfl
       ·have b6:qx [116,114,117,101] t.text=false:=by rw[K.tr];simpa using c5
        have hb:¬q3n (zp t.text)=true:=by unfold q3n;rw[c3,c4];simp[c1,c2,c5]
        rw[if_neg hb]
        have e:q0p (qx [116,114,117,101]) (t::q)=.inl (t::q):=by simp[q0p,b6]
        rw[e]
        exact⟨rfl,rfl,hs⟩
     |true =>
      have hb:q3n (zp t.text)=true:=by unfold q3n;rw[c3];simp
      have b3:¬qh t.text=true:=by rw[K.plain,c3];simp
      have n5:¬(zp t.text=5∨zp t.text=2):=by
       intro h
       rcases h with h|h
       ·rw[h]at c3;exact absurd c3 (by decide)
       ·exact c1 h
      have h:=span_sim L hg hs1 (q1o (zt (q0Z toks L) (atS toks (t::q)))) ⟨rfl,rfl⟩
      rw[if_neg b3,if_pos hb,if_neg c1,if_neg c2]
      simp only[if_true]
      rw[←ea]
      cases c4:q4f (zp t.text)with
      |false =>
       have b4:qE t.text=true:=by rw[K.one,c3,c4];rfl
       rw[if_pos b4,q4L hself]
       simp only[qy]
       generalize q3K (q0Z toks L) (atS toks q) (q1o (zt (q0Z toks L) (atS toks (t::q))))=o at *
       cases hp:q2j q with
       |inl r1 =>
        rw[hp]at h
        obtain⟨a1,a2,a3⟩:=h
        rw[if_neg (by rw[a1];decide)]
        exact⟨rfl,a2,a3⟩
       |inr z =>
        obtain⟨sv,r1⟩:=z
        rw[hp]at h
        obtain⟨rfl,hs2⟩:=h
        simp only[if_true]
        rw[hh,if_neg (show ¬((q3P (q1o (q2J L (t::q))) sv).kind=5∨(q3P (q1o (q2J L (t::q))) sv).kind=2) from n5)]
        refine j2D L hg hs2 _ n base ih _ c4 _ _ _ ?_
        intro l hl
        have hz:zu l≠0:=by omega
        simp only[zz,b1',hx,hz,zu,if_true,if_false,q1o,q2J,q6z,q3P,Bool.false_eq_true]
      |true =>
       have b4:¬qE t.text=true:=by rw[K.one,c3,c4];decide
       have b5:qB t.text=true:=by rw[K.two,c3,c4];rfl
       rw[if_neg b4,if_pos b5,q4L hself]
       simp only[qy]
       generalize q3K (q0Z toks L) (atS toks q) (q1o (zt (q0Z toks L) (atS toks (t::q))))=o at *
       cases hp:q2j q with
       |inl r1 =>
        rw[hp]at h
        obtain⟨a1,a2,a3⟩:=h
        rw[if_neg (by rw[a1];decide)]
        exact⟨rfl,a2,a3⟩
       |inr z =>
        obtain⟨sv,r1⟩:=z
        rw[hp]at h
        obtain⟨rfl,hs2⟩:=h
        simp only[if_true]
        rw[hh,if_neg (show ¬((q3P (q1o (q2J L (t::q))) sv).kind=5∨(q3P (q1o (q2J L (t::q))) sv).kind=2) from n5)]
        refine j2E L hg hs2 _ n base ih _ c4 _ _ _ ?_
        intro l r hl hr
        have hz:zu l≠0:=by omega
        have hz2:zu r≠0:=by omega
        simp only[zz,b1',hx,hz,hz2,if_false,q1o,q2J,q6z,q3P,Bool.false_eq_true]
structure NodeOk (y:Pay)(l r:zh):Prop where
 word:KFacts y.word
 args:∀a∈y.args,KFacts a
 lo:q3k y.lo=(q0e y.lo:Int)
 hi:q3k y.hi=(q0e y.hi:Int)
 shape:(zp y.word=2∧l=.nil∧r=.nil∧y.lo=[]∧y.hi=[]∧y.args.length≤2)∨(zp y.word=5∧l=.nil∧r=.nil∧y.lo=[]∧y.hi=[]∧y.args=[])∨(zp y.word=9∧l≠.nil∧r=.nil∧y.lo=[]∧y.hi=[]∧∃v,y.args=[v]∧(v=[120]∨v=[121]))
  ∨ (q3b (zp y.word)=true∧q4f (zp y.word)=false∧l≠.nil∧r=.nil∧y.args=[])∨(q4f (zp y.word)=true∧q3b (zp y.word)=false∧l≠.nil∧r≠.nil∧y.args=[]∧y.lo=[]∧y.hi=[])∨(q4f (zp y.word)=true∧q3b (zp y.word)=true∧l≠.nil∧r≠.nil∧y.args=[])
def q1K:zh→Prop
 | .nil=>True
 | .node _ _ y l r=>NodeOk y l r∧q1K l∧q1K r
theorem j4i {t:Tok}(h:q1u t)(hn:q4b t.text=true):q3k t.text=(q0e t.text:Int):=by
 obtain⟨c,r,e,_⟩:=h
 rw[e]at hn ⊢
 have e2:zQ (c.toNat:Int)=true:=hn
 simp only[q3k]
 rw[if_pos e2]
theorem j8q {t:Tok}(h:q1u t)(hn:q3Y t.text=true):q3k t.text=(q0e t.text:Int):=by
 unfold q3Y at hn
 rw[Bool.or_eq_true]at hn
 rcases hn with hn|hn
 ·have:t.text=[42]:=by simpa using hn
  rw[this]
  decide
 ·exact j4i h hn
theorem q3y {F:zh}{u:List Tok}(h:qG F u):F≠.nil:=by
 intro e
 subst e
 exact h
theorem var_two {v:By}(h:q1h v=true):v=[120]∨v=[121]:=by
 unfold q1h at h
 simpa using h
theorem j5J:∀(F:zh) (u:List Tok),qG F u→q5t u→q1K F:=by
 intro F
 induction F with
 |nil=>intro u h _;trivial
 |node p sp y l r ihl ihr =>
  intro u h hg
  rcases h with⟨hn,e1,e2,rfl,rfl,q1,q2,q3,a,ha,h⟩|⟨hn,hw,e1,e2,rfl,v,q1,q2,q3,ul,hv,ea,hl,rfl⟩|⟨hn,hw,ea,e1,e2,q1,q2,q3,ul,ur,hl,hr,rfl⟩|⟨hn,hw,ea,rfl,hlo,hhi,q1,q2,q3,q4,q5,q6,ul,hl,rfl⟩|⟨hn,hw,ea,hlo,hhi,q1,q2,q3,q4,q5,q6,q7,ul,ur,hl,hr,rfl⟩|⟨hn,hw,ea,e1,e2,rfl,rfl,rfl⟩
  ·have kw:KFacts y.word∧(∀b∈y.args,KFacts b)∧y.args.length≤2:=by
    rcases h with⟨hy,rfl⟩|⟨b,q4,q5,hb,hy,rfl⟩
    ·refine⟨q0z (hg ⟨y.word,p⟩ (by simp)),?_,by rw[hy];simp⟩
     rw[hy]
     intro b hb
     have:=List.mem_singleton.1 hb
     subst this
     exact q0z (hg ⟨b,q2⟩ (by simp))
    ·refine⟨q0z (hg ⟨y.word,p⟩ (by simp)),?_,by rw[hy];simp⟩
     rw[hy]
     intro c hc
     simp only[List.mem_cons,List.not_mem_nil,or_false]at hc
     rcases hc with rfl|rfl
     ·exact q0z (hg ⟨c,q2⟩ (by simp))
     ·exact q0z (hg ⟨c,q5⟩ (by simp))
   have k2:zp y.word=2:=by have:=kw.1.name;rw[hn]at this;simpa using this.symm
   exact⟨⟨kw.1,kw.2.1,by rw[e1];rfl,by rw[e2];rfl,.inl ⟨k2,rfl,rfl,e1,e2,kw.2.2⟩⟩,trivial,trivial⟩
  ·have kw:=q0z (hg ⟨y.word,p⟩ (by simp))
   have kv:=q0z (hg ⟨v,q1⟩ (by simp))
   have k9:zp y.word=9:=by rw[hw];decide
   exact⟨⟨kw,by rw[ea];intro a ha;have:=List.mem_singleton.1 ha;subst this;exact kv,by rw[e1];rfl,by rw[e2];rfl,.inr (.inr (.inl ⟨k9,q3y hl,rfl,e1,e2,v,ea,var_two hv⟩))⟩,ihl ul hl (q0X hg (by intro t ht;simp[ht])),trivial⟩
  ·have kw:=q0z (hg ⟨y.word,p⟩ (by simp))
   have kp:=kw.plain
   simp only[]at kp
   rw[hw]at kp
   have kp':q4f (zp y.word)=true∧q3b (zp y.word)=false:=by simpa using kp.symm
   exact⟨⟨kw,by rw[ea];simp,by rw[e1];rfl,by rw[e2];rfl,.inr (.inr (.inr (.inr (.inl ⟨kp'.1,kp'.2,q3y hl,q3y hr,ea,e1,e2⟩))))⟩,ihl ul hl (q0X hg (by intro t ht;simp[ht])),ihr ur hr (q0X hg (by intro t ht;simp[ht]))⟩
  ·have kw:=q0z (hg ⟨y.word,p⟩ (by simp))
   have kp:=kw.one
   simp only[]at kp
   rw[hw]at kp
   have kp':q3b (zp y.word)=true∧q4f (zp y.word)=false:=by simpa using kp.symm
   exact⟨⟨kw,by rw[ea];simp,j4i (hg ⟨y.lo,q1⟩ (by simp)) hlo,j8q (hg ⟨y.hi,q3⟩ (by simp)) hhi,.inr (.inr (.inr (.inl ⟨kp'.1,kp'.2,q3y hl,rfl,ea⟩)))⟩,ihl ul hl (q0X hg (by intro t ht;simp[ht])),trivial⟩
  ·have kw:=q0z (hg ⟨y.word,p⟩ (by simp))
   have kp:=kw.two
   simp only[]at kp
   rw[hw]at kp
   have kp':q3b (zp y.word)=true∧q4f (zp y.word)=true:=by simpa using kp.symm
   exact⟨⟨kw,by rw[ea];simp,j4i (hg ⟨y.lo,q1⟩ (by simp)) hlo,j8q (hg ⟨y.hi,q3⟩ (by simp)) hhi,.inr (.inr (.inr (.inr (.inr ⟨kp'.2,kp'.1,q3y hl,q3y hr,ea⟩))))⟩,ihl ul hl (q0X hg (by intro t ht;simp[ht])),ihr ur hr (q0X hg (by intro t ht;simp[ht]))⟩
  ·have kw:=q0z (hg ⟨y.word,p⟩ (by simp))
   have k5:zp y.word=5:=by rw[hw];decide
   exact⟨⟨kw,by rw[ea];simp,by rw[e1];rfl,by rw[e2];rfl,.inr (.inl ⟨k5,rfl,rfl,e1,e2,ea⟩)⟩,trivial,trivial⟩
structure PInfo where
 x:Bool
 y:Bool
 reach:Int
def qi (G:zh):PInfo:=⟨zg G [120],zg G [121],zf G⟩
def q2A:PInfo:=⟨false,false,-1⟩
def q4h (nd:PNode)(k:Int):Bool:=(decide (0<nd.cnt)&&nd.k0==k) || (decide (1<nd.cnt)&&nd.k1==k)
def q4e (own inner:Int):Int:=if inner = -1 then own else own+inner
def mxP (a b:PInfo):Int:=if b.reach > a.reach then b.reach else a.reach
def q2X (nd:PNode)(a b:PInfo):PInfo:=
 if nd.kind=2 then⟨q4h nd 3,q4h nd 4,if q1R nd.kind then q4e nd.shi (mxP a b)else mxP a b⟩
 else if nd.kind=9 then⟨(a.x || b.x)&&!(nd.var==3),(a.y || b.y)&&!(nd.var==4),if q1R nd.kind then q4e nd.shi (mxP a b)else mxP a b⟩
 else⟨a.x || b.x,a.y || b.y,if q1R nd.kind then q4e nd.shi (mxP a b)else mxP a b⟩
def j0i (one other:PInfo):Bool:=(other.x || !one.x)&&(other.y || !one.y)
def q9T (nd:PNode)(a b:PInfo):Bool:=
 if nd.kind=8 then(a.x != b.x) || (a.y != b.y)
 else if nd.kind=7 then !j0i b a
 else if nd.kind=14∨nd.kind=15∨nd.kind=16∨nd.kind=17 then !j0i a b
 else if nd.kind=9 then !(nd.var==3&&a.x)&&!(nd.var==4&&a.y)
 else false
def j4u (nd:PNode):Bool:=!nd.sop&&decide (nd.slo > nd.shi)
def openP (nd:PNode):Bool:=nd.sop&&q1R nd.kind
theorem q5K:∀F:zh,-1≤zf F:=by
 intro F
 induction F with
 |nil=>simp[zf]
 |node p sp y l r ihl ihr =>
  simp only[zf,mxI]
  have:(0:Int)≤(q0e y.hi:Int):=by omega
  repeat' split
  all_goals omega
theorem mx_two (l r:zh):mxI (mxI (-1) (zf l)) (zf r)=mxP (qi l) (qi r):=by
 have:=q5K l
 have:=q5K r
 simp only[mxI,mxP,qi]
 repeat' split
 all_goals omega
theorem j5G {y:Pay}{l r:zh}(base p sp:Nat)(h:NodeOk y l r):(if q1R (zz base p sp y l r).kind then q4e (zz base p sp y l r).shi (mxP (qi l) (qi r))else mxP (qi l) (qi r))=zf (.node p sp y l r):=by
 have e1:(zz base p sp y l r).kind=zp y.word:=rfl
 have e2:(zz base p sp y l r).shi=q3k y.hi:=rfl
 rw[e1,e2,h.hi,←h.word.ahead]
 simp only[zf]
 rw[mx_two]
 generalize mxP (qi l) (qi r)=m
 cases q0y y.word with
 |false=>rfl
 |true =>
  simp only[if_true,q4e]
  by_cases hm:m = -1
  ·simp[hm]
  ·simp[hm];omega
theorem j7N (gs:List (By))(x:By)(k:Int)(h2:gs.length≤2)(hx:∀a∈gs,(a==x)=(zp a==k)):(gs.any fun a=>a==x)=((decide (0<(gs.length:Int))&&zp (gs.getD 0 [])==k) || (decide (1<(gs.length:Int))&&zp (gs.getD 1 [])==k)):=by
 match gs,h2 with
 | [],_=>rfl
 | [a],_=>simp[hx a (by simp)]
 | [a,b],_=>simp[hx a (by simp),hx b (by simp)]
theorem q3t {p sp:Nat}{y:Pay}{l r:zh}(x:By)(h:l≠.nil):zg (.node p sp y l r) x=(!(y.word==[101,120,105,115,116,115]&&y.args==[x])&&(zg l x || zg r x)):=by
 cases l with
 |nil=>exact absurd rfl h
 |node=>rfl
theorem info_of {y:Pay}{l r:zh}(base p sp:Nat)(h:NodeOk y l r):q2X (zz base p sp y l r) (qi l) (qi r)=qi (.node p sp y l r):=by
 unfold q2X
 rw[j5G base p sp h]
 have e1:(zz base p sp y l r).kind=zp y.word:=rfl
 rw[e1]
 have hex:=h.word.ex
 have hnm:=h.word.name
 rcases h.shape with⟨k,rfl,rfl,_,_,ha⟩|⟨k,rfl,rfl,_,_,ha⟩|⟨k,hl,rfl,_,_,v,ha,hv⟩|⟨k1,k2,hl,rfl,ha⟩|⟨k1,k2,hl,hr,ha,_⟩|⟨k1,k2,hl,hr,ha⟩
 ·rw[if_pos k]
  rw[k]at hnm
  have hn:zx y.word=true:=hnm
  simp only[qi,zg]
  rw[j7N y.args [120] 3 ha (fun a hm=>(h.args a hm).isX),j7N y.args [121] 4 ha (fun a hm=>(h.args a hm).isY)]
  simp only[q4h,zz,hn,if_true]
 ·rw[if_neg (by rw[k];decide),if_neg (by rw[k];decide)]
  simp only[qi,zg,ha]
  rfl
 ·rw[if_neg (by rw[k];decide),if_pos k]
  have hw:y.word=[101,120,105,115,116,115]:=by rw[k]at hex;simpa using hex
  have hx:exB y.word=true:=by rw[hw];decide
  have hv0:(zz base p sp y l .nil).var=zp v:=by simp only[zz,hx,ha];rfl
  rw[hv0]
  simp only[qi]
  rw[q3t _ hl,q3t _ hl,hw,ha]
  simp only[beq_self_eq_true,Bool.true_and]
  rcases hv with rfl|rfl
  ·rw[show zp [120]=3 by decide]
   simp[zg]
  ·rw[show zp [121]=4 by decide]
   simp[zg]
 ·have n2:¬zp y.word=2:=by intro e;rw[e]at k1;exact absurd k1 (by decide)
  have n9:¬zp y.word=9:=by intro e;rw[e]at k1;exact absurd k1 (by decide)
  rw[if_neg n2,if_neg n9]
  have hw:(y.word==[101,120,105,115,116,115])=false:=by rw[hex];simpa using n9
  simp only[qi]
  rw[q3t _ hl,q3t _ hl,hw]
  simp
 ·have n2:¬zp y.word=2:=by intro e;rw[e]at k1;exact absurd k1 (by decide)
  have n9:¬zp y.word=9:=by intro e;rw[e]at k1;exact absurd k1 (by decide)
  rw[if_neg n2,if_neg n9]
  have hw:(y.word==[101,120,105,115,116,115])=false:=by rw[hex];simpa using n9
  simp only[qi]
  rw[q3t _ hl,q3t _ hl,hw]
  simp
 ·have n2:¬zp y.word=2:=by intro e;rw[e]at k1;exact absurd k1 (by decide)
  have n9:¬zp y.word=9:=by intro e;rw[e]at k1;exact absurd k1 (by decide)
  rw[if_neg n2,if_neg n9]
  have hw:(y.word==[101,120,105,115,116,115])=false:=by rw[hex];simpa using n9
  simp only[qi]
  rw[q3t _ hl,q3t _ hl,hw]
  simp
theorem back_of {y:Pay}{l r:zh}(base p sp:Nat)(h:NodeOk y l r):j4u (zz base p sp y l r)=qv (.node p sp y l r):=by
 unfold j4u qv
 have e1:q2p (.node p sp y l r)=y.word:=rfl
 have e2:q6s (.node p sp y l r)=y:=rfl
 rw[e1,e2,h.word.one,h.word.two]
 have e3:(zz base p sp y l r).sop=(y.hi==[42]):=rfl
 have e4:(zz base p sp y l r).slo=q3k y.lo:=rfl
 have e5:(zz base p sp y l r).shi=q3k y.hi:=rfl
 rw[e3,e4,e5,h.lo,h.hi]
 have e6:decide ((q0e y.lo:Int) > (q0e y.hi:Int))=decide (q0e y.hi<q0e y.lo):=by rw[decide_eq_decide];omega
 rw[e6]
 have key:q3b (zp y.word)=false→y.lo=[]→y.hi=[]→(!(y.hi==[42])&&decide (q0e y.hi<q0e y.lo))=((q3b (zp y.word)&&!q4f (zp y.word) || q3b (zp y.word)&&q4f (zp y.word))&&!(y.hi==[42])&&decide (q0e y.hi<q0e y.lo)):=by
  intro hs a b
  rw[hs,a,b]
  simp
 rcases h.shape with⟨k,rfl,rfl,a,b,_⟩|⟨k,rfl,rfl,a,b,_⟩|⟨k,hl,rfl,a,b,_⟩|⟨k1,k2,_⟩|⟨k1,k2,_,_,_,a,b⟩|⟨k1,k2,_⟩
 ·exact key (by rw[k];decide) a b
 ·exact key (by rw[k];decide) a b
 ·exact key (by rw[k];decide) a b
 ·rw[k1,k2];simp
 ·exact key k2 a b
 ·rw[k1,k2];simp
theorem open_of {y:Pay}{l r:zh}(base p sp:Nat)(h:NodeOk y l r):openP (zz base p sp y l r)=qF (.node p sp y l r):=by
 unfold openP qF
 have e1:q2p (.node p sp y l r)=y.word:=rfl
 have e2:q6s (.node p sp y l r)=y:=rfl
 rw[e1,e2,h.word.ahead,Bool.and_comm]
 rfl
theorem kids_few {p sp:Nat}{y:Pay}{l r:zh}(h:r=.nil):decide ((q1t (.node p sp y l r)).length<2)=true:=by
 subst h
 cases l with
 |nil=>rfl
 |node=>rfl
theorem j2v {p sp:Nat}{y:Pay}{l r:zh}(hl:l≠.nil)(hr:r≠.nil):decide ((q1t (.node p sp y l r)).length<2)=false:=by
 cases l with
 |nil=>exact absurd rfl hl
 |node =>
  cases r with
  |nil=>exact absurd rfl hr
  |node=>rfl
theorem wrong_of {y:Pay}{l r:zh}(base p sp:Nat)(h:NodeOk y l r):q9T (zz base p sp y l r) (qi l) (qi r)=q1e (.node p sp y l r):=by
 unfold q9T
 have e1:(zz base p sp y l r).kind=zp y.word:=rfl
 rw[e1]
 rw[q1e]
 have hex:=h.word.ex
 have hor:=h.word.isOr
 have hbut:=h.word.isBut
 have htwo:=h.word.two
 rw[hex]
 have one:q4f (zp y.word)=false→r=.nil→zp y.word≠9→(if zp y.word=8 then((qi l).x != (qi r).x) || ((qi l).y != (qi r).y)else if zp y.word=7 then !j0i (qi r) (qi l)else if zp y.word=14∨zp y.word=15∨zp y.word=16∨zp y.word=17 then !j0i (qi l) (qi r)else if zp y.word=9 then !((zz base p sp y l r).var==3&&(qi l).x)&&!((zz base p sp y l r).var==4&&(qi l).y)else false)=if (zp y.word==9)=true then !zg l (y.args.headD [])else if (decide ((q1t (.node p sp y l r)).length<2) || y.word==[97,110,100])=true then false else q2k y.word (zg l [120]) (zg r [120]) || q2k y.word (zg l [121]) (zg r [121]):=by
  intro ht hr n9
  have n8:¬zp y.word=8:=by intro e;rw[e]at ht;exact absurd ht (by decide)
  have n7:¬zp y.word=7:=by intro e;rw[e]at ht;exact absurd ht (by decide)
  have n14:¬(zp y.word=14∨zp y.word=15∨zp y.word=16∨zp y.word=17):=by
   intro e
   rcases e with e|e|e|e<;>(rw[e]at ht;exact absurd ht (by decide))
  rw[if_neg n8,if_neg n7,if_neg n14,if_neg n9,if_neg (by simpa using n9),if_pos]
  rw[kids_few hr]
  rfl
 rcases h.shape with⟨k,hl,hr,_⟩|⟨k,hl,hr,_⟩|⟨k,hl,hr,_,_,v,ha,hv⟩|⟨k1,k2,hl,hr,ha⟩|⟨k1,k2,hl,hr,ha,_⟩|⟨k1,k2,hl,hr,ha⟩
 ·exact one (by rw[k];decide) hr (by rw[k];decide)
 ·exact one (by rw[k];decide) hr (by rw[k];decide)
 ·have hw:y.word=[101,120,105,115,116,115]:=by rw[k]at hex;simpa using hex
  have hx:exB y.word=true:=by rw[hw];decide
  have hv0:(zz base p sp y l r).var=zp v:=by simp only[zz,hx,ha];rfl
  rw[hv0,k,ha]
  rw[if_neg (by decide),if_neg (by decide),if_neg (by decide),if_pos rfl,if_pos (show((9:Int)==9)=true by decide)]
  rcases hv with rfl|rfl
  ·have ek:zp [120]=3:=by decide
   rw[ek]
   simp[qi]
  ·have ek:zp [121]=4:=by decide
   rw[ek]
   simp[qi]
 ·exact one k2 hr (by intro e;rw[e]at k1;exact absurd k1 (by decide))
 ·have n9:¬zp y.word=9:=by intro e;rw[e]at k1;exact absurd k1 (by decide)
  have n14:¬(zp y.word=14∨zp y.word=15∨zp y.word=16∨zp y.word=17):=by
   intro e
   rcases e with e|e|e|e<;>(rw[e]at k2;exact absurd k2 (by decide))
  rw[if_neg (show ¬(zp y.word==9)=true by simpa using n9),j2v hl hr,if_neg n14,if_neg n9]
  unfold q2k
  rw[hor,hbut,htwo,k2]
  by_cases a8:zp y.word=8
  ·have hw:y.word=[111,114]:=by rw[a8]at hor;simpa using hor
   rw[if_pos a8,a8,hw]
   simp[qi]
  ·rw[if_neg a8]
   by_cases a7:zp y.word=7
   ·have hw:y.word=[98,117,116]:=by rw[a7]at hbut;simpa using hbut
    rw[if_pos a7,a7,hw]
    simp[qi,j0i]
    cases zg l [120]<;>cases zg r [120]<;>cases zg l [121]<;>cases zg r [121]<;>rfl
   ·rw[if_neg a7]
    simp[a8,a7]
 ·have n9:¬zp y.word=9:=by intro e;rw[e]at k1;exact absurd k1 (by decide)
  have n8:¬zp y.word=8:=by intro e;rw[e]at k2;exact absurd k2 (by decide)
  have n7:¬zp y.word=7:=by intro e;rw[e]at k2;exact absurd k2 (by decide)
  have y14:zp y.word=14∨zp y.word=15∨zp y.word=16∨zp y.word=17:=by
   unfold q4f at k1
   unfold q3b at k2
   simp only[Bool.or_eq_true,beq_iff_eq]at k1 k2
   omega
  have na:(y.word==[97,110,100])=false:=by
   simp only[beq_eq_false_iff_ne]
   intro e
   rw[e]at k2
   exact absurd k2 (by decide)
  rw[if_neg (show ¬(zp y.word==9)=true by simpa using n9),j2v hl hr,if_neg n8,if_neg n7,if_pos y14]
  unfold q2k
  have m8:(zp y.word==8)=false:=by simpa using n8
  have m7:(zp y.word==7)=false:=by simpa using n7
  rw[hor,hbut,htwo,k1,k2,na,m8,m7]
  simp only[qi,j0i]
  cases zg l [120]<;>cases zg r [120]<;>cases zg l [121]<;>cases zg r [121]<;>rfl
theorem q0c (F:zh):(zv F).length=zu F:=by
 induction F with
 |nil=>rfl
 |node p sp y l r ihl ihr=>simp[zv,zu,ihl,ihr];omega
theorem j7P (F:zh):∀(base m:Nat) (G:zh),(zv F)[m]?=some G→∃p sp y l r,G=.node p sp y l r∧(q0l F base)[m]?=some (zz (base+m) p sp y l r)∧(q1K F→q1K G)∧(∀j,j<zu G→(zv F)[m+j]?=(zv G)[j]?):=by
 induction F with
 |nil=>intro base m G h;simp[zv]at h
 |node p sp y l r ihl ihr =>
  intro base m G h
  cases m with
  |zero =>
   have:.node p sp y l r=G:=by simpa[zv]using h
   subst this
   exact⟨p,sp,y,l,r,rfl,rfl,fun h=>h,fun j _=>by rw[Nat.zero_add]⟩
  |succ m =>
   have h':(zv l++zv r)[m]?=some G:=by simpa[zv]using h
   by_cases hm:m<(zv l).length
   ·rw[List.getElem?_append_left hm]at h'
    obtain⟨p',sp',y',l',r',e,h1,h2,h3⟩:=ihl (base+1) m G h'
    refine⟨p',sp',y',l',r',e,?_,fun hf=>h2 hf.2.1,fun j hj=>?_⟩
    ·have hm':m<(q0l l (base+1)).length:=by rw[q1M,←q0c];exact hm
     have e2:base+(m+1)=base+1+m:=by omega
     rw[q0l,List.getElem?_cons_succ,List.getElem?_append_left hm',h1,e2]
    ·have h3':=h3 j hj
     have hs:m+j<(zv l).length:=by
      rw[zG (show j<(zv G).length by rw[q0c];exact hj)]at h3'
      exact(List.getElem?_eq_some_iff.1 h3').1
     have e2:m+1+j=(m+j)+1:=by omega
     rw[e2,zv,List.getElem?_cons_succ,List.getElem?_append_left hs,h3']
   ·rw[List.getElem?_append_right (by omega)]at h'
    obtain⟨p',sp',y',l',r',e,h1,h2,h3⟩:=ihr (base+1+zu l) (m-(zv l).length) G h'
    rw[q0c]at h1 h3 hm
    refine⟨p',sp',y',l',r',e,?_,fun hf=>h2 hf.2.2,fun j hj=>?_⟩
    ·have e2:base+1+zu l+(m-zu l)=base+(m+1):=by omega
     rw[q0l,List.getElem?_cons_succ,List.getElem?_append_right (by rw[q1M];omega),q1M,h1,e2]
    ·have h3':=h3 j hj
     have e2:m+1+j=(m+j)+1:=by omega
     have e3:m+j-(zv l).length=m-zu l+j:=by rw[q0c];omega
     rw[e2,zv,List.getElem?_cons_succ,List.getElem?_append_right (by rw[q0c];omega),e3,h3']
theorem q3A {F:zh}(h:F≠.nil):(zv F)[0]?=some F∧0<zu F:=by
 cases F with
 |nil=>exact absurd rfl h
 |node=>exact⟨rfl,by simp[zu];omega⟩
def q1x (I:List PInfo)(n:Int):PInfo:=if n<0∨(I.length:Int)≤n then q2A else I.getD n.toNat q2A
def q0R (F:zh)(k:Nat):List PInfo:=List.replicate k ⟨false,false,0⟩++((zv F).map qi).drop k
theorem q5w (F:zh)(k:Nat)(h:k≤zu F):(q0R F k).length=zu F:=by
 unfold q0R
 simp[q0c]
 omega
theorem q9u (F:zh)(k m:Nat)(h:k≤m)(G:zh)(hG:(zv F)[m]?=some G):q1x (q0R F k) (m:Int)=qi G:=by
 have hm:m<(zv F).length:=(List.getElem?_eq_some_iff.1 hG).1
 rw[q0c]at hm
 have hl:=q5w F k (by omega)
 unfold q1x
 rw[if_neg (by rw[hl];omega)]
 have e:(q0R F k)[m]?=some (qi G):=by
  unfold q0R
  rw[List.getElem?_append_right (by simpa using h)]
  simp only[List.length_replicate,List.getElem?_drop,List.getElem?_map]
  rw[show k+(m-k)=m by omega,hG]
  rfl
 simp[List.getD,e]
theorem j7f (F:zh)(hF:q1K F)(m:Nat)(hm:m<zu F)(k:Nat)(hk:k≤m+1) :
  ∃p sp y l r,(zv F)[m]?=some (.node p sp y l r)∧(q0l F 0)[m]?=some (zz m p sp y l r)∧NodeOk y l r∧q1x (q0R F k) (zz m p sp y l r).fst=qi l∧q1x (q0R F k) (zz m p sp y l r).snd=qi r:=by
 have hm':m<(zv F).length:=by rw[q0c];exact hm
 obtain⟨p,sp,y,l,r,e,h1,h2,h3⟩:=j7P F 0 m _ (zG hm')
 rw[Nat.zero_add]at h1
 have hG:(zv F)[m]?=some (.node p sp y l r):=by rw[zG hm',e]
 rw[e]at h2 h3
 refine⟨p,sp,y,l,r,hG,h1,(h2 hF).1,?_,?_⟩
 ·have ef:(zz m p sp y l r).fst=if zu l=0 then -1 else(m:Int)+1:=rfl
  rw[ef]
  by_cases hl:l=.nil
  ·subst hl
   rw[if_pos (show zu (.nil:zh)=0 from rfl)]
   unfold q1x
   rw[if_pos (.inl (by decide))]
   rfl
  ·obtain⟨g1,g2⟩:=q3A hl
   rw[if_neg (by omega)]
   have h4:=h3 1 (by simp[zu];omega)
   have h5:(zv (.node p sp y l r))[1]?=some l:=by
    rw[zv,List.getElem?_cons_succ,List.getElem?_append_left (by rw[q0c];exact g2),g1]
   rw[h5]at h4
   exact q9u F k (m+1) hk l h4
 ·have ef:(zz m p sp y l r).snd=if zu r=0 then -1 else(m:Int)+1+zu l:=rfl
  rw[ef]
  by_cases hr:r=.nil
  ·subst hr
   rw[if_pos (show zu (.nil:zh)=0 from rfl)]
   unfold q1x
   rw[if_pos (.inl (by decide))]
   rfl
  ·obtain⟨g1,g2⟩:=q3A hr
   rw[if_neg (by omega)]
   have h4:=h3 (1+zu l) (by simp[zu];omega)
   have h5:(zv (.node p sp y l r))[1+zu l]?=some r:=by
    rw[Nat.add_comm 1,zv,List.getElem?_cons_succ,List.getElem?_append_right (by rw[q0c];omega),q0c,Nat.sub_self,g1]
   rw[h5]at h4
   have h6:=q9u F k (m+(1+zu l)) (by omega) r h4
   rw[←h6]
   congr 1
   omega
theorem j5a (F:zh)(k:Nat)(G:zh)(h:(zv F)[k]?=some G):q0R F k=(q0R F (k+1)).set k (qi G):=by
 have hk:k<(zv F).length:=(List.getElem?_eq_some_iff.1 h).1
 have hG:(zv F)[k]=G:=by rw[zG hk]at h;simpa using h
 unfold q0R
 have hk':k<((zv F).map qi).length:=by simpa using hk
 rw[List.drop_eq_getElem_cons hk',List.replicate_succ',List.append_assoc,List.set_append_right _ _ (by simp)]
 simp[hG]
theorem q9Y (F:zh):q0R F 0=(zv F).map qi:=by simp[q0R]
theorem j6T (F:zh):q0R F (zu F)=List.replicate (zu F) ⟨false,false,0⟩:=by
 unfold q0R
 rw[List.drop_of_length_le (by simp[q0c])]
 simp
end Go.Proofs.YtiamjjonoeaggaaGreatDoor
