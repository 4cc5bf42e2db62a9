import Derived.Test.YtiamjjonoeaggaaGreatDoorGA
import Derived.Test.YtiamjjonoeaggaaGreatDoorG07
import Derived.Test.YtiamjjonoeaggaaGreatDoorG30
import Derived.Lib.ItoaNum
namespace Go.Proofs.YtiamjjonoeaggaaGreatDoor
open Go.RowKit
def j0Q (n:Nat)(t:By):Nat:=t.foldl (fun n c=>10*n+(c.toNat-48)) n
theorem foldV_ge:∀(t:By) (n:Nat),n≤j0Q n t:=by
 intro t
 induction t with
 |nil=>intro n;exact zL _
 |cons c r ih =>
  intro n
  have:=ih (10*n+(c.toNat-48))
  show n≤j0Q (10*n+(c.toNat-48)) r
  omega
theorem q2D {s l:By}{i:Nat}(h:s.drop i=l)(k:Nat):cI s (i+k)=((l.getD k 0).toNat:Int):=by
 unfold cI
 subst h
 simp[List.getD,List.getElem?_drop]
theorem j0n {s l:By}{i:Nat}(h:s.drop i=l)(k:Nat):dI s (i+k)=(l.getD k 0).toNat-48:=by
 unfold dI
 subst h
 simp[List.getD,List.getElem?_drop]
theorem q9m {s a b:By}{i:Nat}(h:s.drop i=a++b):s.drop (i+a.length)=b:=by
 rw[←List.drop_drop,h]
 simp
theorem stF_digs:∀(t s rest:By) (f n i:Nat),s.drop i=t++rest→t.length≤f→(∀c∈t,zQ (c.toNat:Int)=true)→zQ ((rest.getD 0 0).toNat:Int)=false→j0Q n t≤65535→stF s f n i=(true,j0Q n t,i+t.length):=by
 intro t
 induction t with
 |nil =>
  intro s rest f n i h _ _ hr _
  have e:=q2D (k:=0) h
  cases f with
  |zero=>rfl
  |succ f =>
   rw[stF,if_neg]
   ·rfl
   ·rw[show i=i+0 by omega,e]
    simp only[List.nil_append]
    rw[hr]
    decide
 |cons c r ih =>
  intro s rest f n i h hl hd hr hv
  have e:=q2D (k:=0) h
  have e2:=j0n (k:=0) h
  simp only[List.cons_append,List.getD_cons_zero,Nat.add_zero]at e e2
  have hc:=hd c (by simp)
  have hv2:j0Q (10*n+(c.toNat-48)) r≤65535:=hv
  have hge:=foldV_ge r (10*n+(c.toNat-48))
  cases f with
  |zero=>simp at hl
  |succ f =>
   rw[stF,e,e2,if_pos hc,if_neg (by omega)]
   have hdr:s.drop (i+1)=r++rest:=q9m (a:=[c]) h
   rw[ih s rest f _ (i+1) hdr (by simp at hl;omega) (fun d hd'=>hd d (by simp[hd'])) hr hv2]
   simp only[List.length_cons]
   rw[show i+1+r.length=i+(r.length+1)by omega]
   rfl
structure HpL (h:Hp):Prop where
 nm:∃c:UInt8,h.nm=[c]∧q0n (c.toNat:Int)=true
 ds:∃d:Nat,d≤9∧(h.ds=[d]∨∃d':Nat,d'≤9∧h.ds=[d,d'])
theorem q4J {d:Nat}(h:d≤9):(UInt8.ofNat (48+d)).toNat=48+d∧zQ (((UInt8.ofNat (48+d)).toNat:Nat):Int)=true:=by
 have e:(UInt8.ofNat (48+d)).toNat=48+d:=by rw[UInt8.toNat_ofNat_of_lt' (by show 48+d<256;omega)]
 refine⟨e,?_⟩
 rw[e]
 unfold zQ
 simp
 omega
theorem hap_read {s rest:By}{i:Nat}{h:Hp}(hh:HpL h)(hs:s.drop i=32::(q4a h++rest)):q2H s i=(true,i+1+(q4a h).length,h):=by
 obtain⟨nm,ds⟩:=h
 obtain⟨⟨c,rfl,hc⟩,d,hd,hds⟩:=hh
 simp only[]at hds
 have hc2:=hc
 have q0:q0n (40:Int)=false:=by decide
 obtain⟨v1,v2⟩:=q4J hd
 rcases hds with rfl|⟨d',hd',rfl⟩
 ·have hs':s.drop i=32::c::40::UInt8.ofNat (48+d)::41::rest:=by rw[hs];rfl
  have c0:=q2D hs' 0
  have c1:=q2D hs' 1
  have c2:=q2D hs' 2
  have c3:=q2D hs' 3
  have c4:=q2D hs' 4
  have d3:=j0n hs' 3
  simp only[List.getD_cons_zero,List.getD_cons_succ,Nat.add_zero,v1]at c0 c1 c2 c3 c4 d3
  have hn:nmF s 8 (i+1)=i+2:=by
   rw[nmF,c1,if_pos hc,nmF,c2,if_neg (by decide)]
  have hlen:i+2≤s.length:=by
   have:=congrArg List.length hs'
   simp at this
   omega
  have hcut:cut s (i+1) (i+2)=[c]:=by
   unfold cut
   rw[←List.drop_drop,hs',show i+2-(i+1)=1 by omega]
   rfl
  unfold q2H
  rw[c0,if_pos (by rfl),hn,if_pos (by omega),c2,if_pos (by rfl),show i+2+1=i+3 from rfl,c3,if_pos (by rw[←v1];exact v2),hcut]
  unfold q7D
  rw[show i+2+2=i+4 from rfl,c4,if_neg (by decide),if_pos (by rfl),d3]
  have e:48+d-48=d:=by omega
  rw[e]
  simp only[q4a,List.length_append,List.length_cons,List.length_nil]
 ·obtain⟨u1,u2⟩:=q4J hd'
  have hs':s.drop i=32::c::40::UInt8.ofNat (48+d)::44::UInt8.ofNat (48+d')::41::rest:=by rw[hs];rfl
  have c0:=q2D hs' 0
  have c1:=q2D hs' 1
  have c2:=q2D hs' 2
  have c3:=q2D hs' 3
  have c4:=q2D hs' 4
  have c5:=q2D hs' 5
  have c6:=q2D hs' 6
  have d3:=j0n hs' 3
  have d5:=j0n hs' 5
  simp only[List.getD_cons_zero,List.getD_cons_succ,Nat.add_zero,v1,u1]at c0 c1 c2 c3 c4 c5 c6 d3 d5
  have hn:nmF s 8 (i+1)=i+2:=by
   rw[nmF,c1,if_pos hc,nmF,c2,if_neg (by decide)]
  have hcut:cut s (i+1) (i+2)=[c]:=by
   unfold cut
   rw[←List.drop_drop,hs',show i+2-(i+1)=1 by omega]
   rfl
  unfold q2H
  rw[c0,if_pos (by rfl),hn,if_pos (by omega),c2,if_pos (by rfl),show i+2+1=i+3 from rfl,c3,if_pos (by rw[←v1];exact v2),hcut]
  unfold q7D
  rw[show i+2+2=i+4 from rfl,c4,if_pos (by rfl),show i+4+1=i+5 from rfl,c5,if_pos (by rw[←u1];exact u2),show i+4+2=i+6 from rfl,c6,if_pos (by rfl),d3,d5]
  have e:48+d-48=d:=by omega
  have e':48+d'-48=d':=by omega
  rw[e,e']
  simp only[q4a,List.length_append,List.length_cons,List.length_nil]
def q0I (l:List Hp):By:=l.flatMap fun h=>32::q4a h
theorem j8S:∀(l:List Hp) (s:By) (f i:Nat) (acc:List Hp),(∀h∈l,HpL h)→s.drop i=q0I l→i≤s.length→l.length≤f→q2g s f i acc=.inr (acc++l):=by
 intro l
 induction l with
 |nil =>
  intro s f i acc _ hs hi _
  have hl:s.length-i=0:=by
   have:=congrArg List.length hs
   simpa[q0I]using this
  cases f with
  |zero=>simp[q2g]
  |succ f=>rw[q2g,if_neg (by omega)];simp
 |cons h r ih =>
  intro s f i acc hh hs hi hf
  have hs':s.drop i=32::(q4a h++q0I r):=by rw[hs];simp[q0I]
  have hl:s.length-i=1+((q4a h).length+(q0I r).length):=by
   have:=congrArg List.length hs'
   simp only[List.length_drop,List.length_cons,List.length_append]at this
   omega
  cases f with
  |zero=>simp at hf
  |succ f =>
   have hr:=hap_read (hh h (by simp)) hs'
   rw[q2g,if_pos (by omega),hr]
   simp only[if_true]
   rw[ih s f (i+1+(q4a h).length) (acc++[h]) (fun g hg=>hh g (by simp[hg])) (by
    have:=q9m (a:=32::q4a h) (b:=q0I r) (by rw[hs'];rfl)
    rw[←this]
    simp only[List.length_cons]
    rw[show i+1+(q4a h).length=i+((q4a h).length+1)by omega]) (by omega) (by simp at hf;omega)]
   simp
theorem dec_digs (u:Nat):∀c∈Lib.decDigits u,zQ (c.toNat:Int)=true:=by
 induction u using Nat.strongRecOn with
 |ind u ih =>
  rw[Lib.decDigits]
  split
  ·rename_i h
   intro c hc
   rw[List.mem_singleton]at hc
   subst hc
   exact(q4J (d:=u) (by omega)).2
  ·rename_i h
   intro c hc
   rcases List.mem_append.1 hc with hc|hc
   ·exact ih (u / 10) (by omega) c hc
   ·rw[List.mem_singleton]at hc
    subst hc
    exact(q4J (d:=u % 10) (by omega)).2
theorem j7Q (u:Nat):j0Q 0 (Lib.decDigits u)=u:=by
 induction u using Nat.strongRecOn with
 |ind u ih =>
  rw[Lib.decDigits]
  split
  ·rename_i h
   show 10*0+((UInt8.ofNat (48+u)).toNat-48)=u
   rw[(q4J (d:=u) (by omega)).1]
   omega
  ·rename_i h
   unfold j0Q at ih ⊢
   rw[List.foldl_append,ih (u / 10) (by omega)]
   show 10*(u / 10)+((UInt8.ofNat (48+u % 10)).toNat-48)=u
   rw[(q4J (d:=u % 10) (by omega)).1]
   omega
theorem q7f {u:Nat}(h:u≤65535):(Lib.decDigits u).length≤5∧1≤(Lib.decDigits u).length:=by
 rw[Lib.decDigits_length]
 refine⟨?_,Lib.nDigits_pos u⟩
 rcases Nat.lt_or_ge u 10 with g|g
 ·rw[Lib.nDigits_small g];omega
 ·rcases Nat.lt_or_ge u 100 with g2|g2
  ·rw[Lib.nDigits_unique 1 u (by simpa using g) (by simpa using g2)];omega
  ·rcases Nat.lt_or_ge u 1000 with g3|g3
   ·rw[Lib.nDigits_unique 2 u (by simpa using g2) (by simpa using g3)];omega
   ·rcases Nat.lt_or_ge u 10000 with g4|g4
    ·rw[Lib.nDigits_unique 3 u (by simpa using g3) (by simpa using g4)];omega
    ·rw[Lib.nDigits_unique 4 u (by simpa using g4) (by simp;omega)];omega
def q1Q (st:Nat)(l:List Hp):By:=64::(Lib.decDigits st++q0I l)
theorem j6I (l:List Hp):zQ (((q0I l).getD 0 0).toNat:Int)=false:=by
 cases l with
 |nil=>decide
 |cons h r=>show zQ ((32:UInt8).toNat:Int)=false;decide
theorem hapS_len {h:Hp}(hh:HpL h):(q4a h).length≤6:=by
 obtain⟨nm,ds⟩:=h
 obtain⟨⟨c,rfl,hc⟩,d,hd,hds⟩:=hh
 simp only[]at hds
 rcases hds with rfl|⟨d',hd',rfl⟩<;>simp[q4a]
theorem q2t (l:List Hp)(hh:∀h∈l,HpL h):(q0I l).length≤7*l.length∧l.length≤(q0I l).length:=by
 induction l with
 |nil=>exact⟨zL _,zL _⟩
 |cons h r ih =>
  have:=ih (fun g hg=>hh g (by simp[hg]))
  have h6:=hapS_len (hh h (by simp))
  have e:(q0I (h::r)).length=1+(q4a h).length+(q0I r).length:=by simp[q0I];omega
  rw[e,List.length_cons]
  omega
theorem j9k (st:Nat)(l:List Hp)(hst:st≤65535)(hh:∀h∈l,HpL h):q3D (q1Q st l)=.inr (st,l):=by
 have hd:(q1Q st l).drop 1=Lib.decDigits st++q0I l:=rfl
 have hlen:=q7f hst
 have hs:=stF_digs (Lib.decDigits st) (q1Q st l) (q0I l) 5 0 1 hd hlen.1 (dec_digs st) (j6I l) (by rw[j7Q];exact hst)
 rw[j7Q]at hs
 unfold q3D
 rw[if_pos (by rfl),hs]
 simp only[]
 rw[if_pos ⟨trivial,by omega⟩]
 have hl2:(q1Q st l).length=1+((Lib.decDigits st).length+(q0I l).length):=by simp[q1Q];omega
 have hq:=q2t l hh
 rw[j8S l (q1Q st l) _ (1+(Lib.decDigits st).length) [] hh (q9m hd) (by omega) (by omega)]
 rfl
structure LnK where
 stamp:Nat
 time:Nat
 haps:List Hp
theorem toR_last {L:List LPt}{st a:Nat}(hn:0<L.length)(hs:q4C L (L.length-1)=st):toR L a=(a+65536-st) % 65536:=by
 have hl:L.length-1<L.length:=by omega
 unfold toR q4C at *
 rw[zG hl]at hs ⊢
 simp only[]at hs ⊢
 rw[hs]
theorem toR_nil (a:Nat):toR [] a=0:=rfl
theorem j7M (L:List LPt)(a:Lin):(q2G L a).length=L.length+1:=by simp[q2G]
theorem add_tm (L:List LPt)(a:Lin):tmL (q2G L a) L.length=q7B L a.1:=by
 unfold q2G
 rw[j4b]
theorem j2g (L:List LPt)(a:Lin):q4C (q2G L a) L.length=a.1:=by
 unfold q4C q2G
 rw[List.getElem?_append_right (zL _),Nat.sub_self]
 rfl
theorem add_haps (L:List LPt)(a:Lin):q5n (q2G L a) L.length=a.2:=by
 unfold q5n q2G
 rw[List.getElem?_append_right (zL _),Nat.sub_self]
 rfl
theorem j4c {L:List LPt}{i:Nat}(h:¬i<L.length):tmL L i=0∧q5n L i=[]:=by
 unfold tmL q5n
 rw[List.getElem?_eq_none (by omega)]
 exact⟨rfl,rfl⟩
end Go.Proofs.YtiamjjonoeaggaaGreatDoor
