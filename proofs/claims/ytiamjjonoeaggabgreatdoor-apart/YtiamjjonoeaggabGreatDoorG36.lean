import Derived.Test.YtiamjjonoeaggabGreatDoorGA
import Derived.Test.YtiamjjonoeaggabGreatDoorG06
import Derived.Test.YtiamjjonoeaggabGreatDoorG34
import Derived.Lib.ItoaNum
namespace Go.Proofs.YtiamjjonoeaggabGreatDoor
open Go.RowKit
def q8H (n:Nat)(t:By):Nat:=t.foldl (fun n c=>10*n+(c.toNat-48)) n
theorem foldV_ge:∀(t:By) (n:Nat),n≤q8H n t:=by
 intro t
 induction t with
 |nil=>intro n;exact zL _
 |cons c r ih =>
  intro n
  have:=ih (10*n+(c.toNat-48))
  show n≤q8H (10*n+(c.toNat-48)) r
  omega
theorem q2L {s l:By}{i:Nat}(h:s.drop i=l)(k:Nat):cI s (i+k)=((l.getD k 0).toNat:Int):=by
 unfold cI
 subst h
 simp[List.getD,List.getElem?_drop]
theorem j0E {s l:By}{i:Nat}(h:s.drop i=l)(k:Nat):dI s (i+k)=(l.getD k 0).toNat-48:=by
 unfold dI
 subst h
 simp[List.getD,List.getElem?_drop]
theorem q9C {s a b:By}{i:Nat}(h:s.drop i=a++b):s.drop (i+a.length)=b:=by
 rw[←List.drop_drop,h]
 simp
theorem j6p:∀(t s rest:By) (f n i:Nat),s.drop i=t++rest→t.length≤f→(∀c∈t,qd (c.toNat:Int)=true)→qd ((rest.getD 0 0).toNat:Int)=false→q8H n t≤65535→stF s f n i=(true,q8H n t,i+t.length):=by
 intro t
 induction t with
 |nil =>
  intro s rest f n i h _ _ hr _
  have e:=q2L (k:=0) h
  cases f with
  |zero=>rfl
  |succ f =>
   rw[stF,if_neg]
   ·rfl
   ·rw[show i=i+0 by omega,e]
    simp only[List.nil_append]
    rw[hr]
    decide
 |cons c r ih =>
  intro s rest f n i h hl hd hr hv
  have e:=q2L (k:=0) h
  have e2:=j0E (k:=0) h
  simp only[List.cons_append,List.getD_cons_zero,Nat.add_zero]at e e2
  have hc:=hd c (by simp)
  have hv2:q8H (10*n+(c.toNat-48)) r≤65535:=hv
  have hge:=foldV_ge r (10*n+(c.toNat-48))
  cases f with
  |zero=>simp at hl
  |succ f =>
   rw[stF,e,e2,if_pos hc,if_neg (by omega)]
   have hdr:s.drop (i+1)=r++rest:=q9C (a:=[c]) h
   rw[ih s rest f _ (i+1) hdr (by simp at hl;omega) (fun d hd'=>hd d (by simp[hd'])) hr hv2]
   simp only[List.length_cons]
   rw[show i+1+r.length=i+(r.length+1)by omega]
   rfl
structure HpL (h:Hp):Prop where
 nm:∃c:UInt8,h.nm=[c]∧q0s (c.toNat:Int)=true
 ds:∃d:Nat,d≤9∧(h.ds=[d]∨∃d':Nat,d'≤9∧h.ds=[d,d'])
theorem q2a {d:Nat}(h:d≤9):(UInt8.ofNat (48+d)).toNat=48+d∧qd (((UInt8.ofNat (48+d)).toNat:Nat):Int)=true:=by
 have e:(UInt8.ofNat (48+d)).toNat=48+d:=by rw[UInt8.toNat_ofNat_of_lt' (by show 48+d<256;omega)]
 refine⟨e,?_⟩
 rw[e]
 unfold qd
 simp
 omega
theorem hap_read {s rest:By}{i:Nat}{h:Hp}(hh:HpL h)(hs:s.drop i=32::(q4l h++rest)):q2R s i=(true,i+1+(q4l h).length,h):=by
 obtain⟨nm,ds⟩:=h
 obtain⟨⟨c,rfl,hc⟩,d,hd,hds⟩:=hh
 simp only[]at hds
 have hc2:=hc
 have q0:q0s (40:Int)=false:=by decide
 obtain⟨v1,v2⟩:=q2a hd
 rcases hds with rfl|⟨d',hd',rfl⟩
 ·have hs':s.drop i=32::c::40::UInt8.ofNat (48+d)::41::rest:=by rw[hs];rfl
  have c0:=q2L hs' 0
  have c1:=q2L hs' 1
  have c2:=q2L hs' 2
  have c3:=q2L hs' 3
  have c4:=q2L hs' 4
  have d3:=j0E hs' 3
  simp only[List.getD_cons_zero,List.getD_cons_succ,Nat.add_zero,v1]at c0 c1 c2 c3 c4 d3
  have hn:nmF s 8 (i+1)=i+2:=by
   rw[nmF,c1,if_pos hc,nmF,c2,if_neg (by decide)]
  have hlen:i+2≤s.length:=by
   have:=congrArg List.length hs'
   simp at this
   omega
  have hcut:cut s (i+1) (i+2)=[c]:=by
   unfold cut
   rw[←List.drop_drop,hs',show i+2-(i+1)=1 by omega]
   rfl
  unfold q2R
  rw[c0,if_pos (by rfl),hn,if_pos (by omega),c2,if_pos (by rfl),show i+2+1=i+3 from rfl,c3,if_pos (by rw[←v1];exact v2),hcut]
  unfold q7U
  rw[show i+2+2=i+4 from rfl,c4,if_neg (by decide),if_pos (by rfl),d3]
  have e:48+d-48=d:=by omega
  rw[e]
  simp only[q4l,List.length_append,List.length_cons,List.length_nil]
 ·obtain⟨u1,u2⟩:=q2a hd'
  have hs':s.drop i=32::c::40::UInt8.ofNat (48+d)::44::UInt8.ofNat (48+d')::41::rest:=by rw[hs];rfl
  have c0:=q2L hs' 0
  have c1:=q2L hs' 1
  have c2:=q2L hs' 2
  have c3:=q2L hs' 3
  have c4:=q2L hs' 4
  have c5:=q2L hs' 5
  have c6:=q2L hs' 6
  have d3:=j0E hs' 3
  have d5:=j0E hs' 5
  simp only[List.getD_cons_zero,List.getD_cons_succ,Nat.add_zero,v1,u1]at c0 c1 c2 c3 c4 c5 c6 d3 d5
  have hn:nmF s 8 (i+1)=i+2:=by
   rw[nmF,c1,if_pos hc,nmF,c2,if_neg (by decide)]
  have hcut:cut s (i+1) (i+2)=[c]:=by
   unfold cut
   rw[←List.drop_drop,hs',show i+2-(i+1)=1 by omega]
   rfl
  unfold q2R
  rw[c0,if_pos (by rfl),hn,if_pos (by omega),c2,if_pos (by rfl),show i+2+1=i+3 from rfl,c3,if_pos (by rw[←v1];exact v2),hcut]
  unfold q7U
  rw[show i+2+2=i+4 from rfl,c4,if_pos (by rfl),show i+4+1=i+5 from rfl,c5,if_pos (by rw[←u1];exact u2),show i+4+2=i+6 from rfl,c6,if_pos (by rfl),d3,d5]
  have e:48+d-48=d:=by omega
  have e':48+d'-48=d':=by omega
  rw[e,e']
  simp only[q4l,List.length_append,List.length_cons,List.length_nil]
def q0H (l:List Hp):By:=l.flatMap fun h=>32::q4l h
theorem j2G:∀(l:List Hp) (s:By) (f i:Nat) (acc:List Hp),(∀h∈l,HpL h)→s.drop i=q0H l→i≤s.length→l.length≤f→q2n s f i acc=.inr (acc++l):=by
 intro l
 induction l with
 |nil =>
  intro s f i acc _ hs hi _
  have hl:s.length-i=0:=by
   have:=congrArg List.length hs
   simpa[q0H]using this
  cases f with
  |zero=>simp[q2n]
  |succ f=>rw[q2n,if_neg (by omega)];simp
 |cons h r ih =>
  intro s f i acc hh hs hi hf
  have hs':s.drop i=32::(q4l h++q0H r):=by rw[hs];simp[q0H]
  have hl:s.length-i=1+((q4l h).length+(q0H r).length):=by
   have:=congrArg List.length hs'
   simp only[List.length_drop,List.length_cons,List.length_append]at this
   omega
  cases f with
  |zero=>simp at hf
  |succ f =>
   have hr:=hap_read (hh h (by simp)) hs'
   rw[q2n,if_pos (by omega),hr]
   simp only[if_true]
   rw[ih s f (i+1+(q4l h).length) (acc++[h]) (fun g hg=>hh g (by simp[hg])) (by
    have:=q9C (a:=32::q4l h) (b:=q0H r) (by rw[hs'];rfl)
    rw[←this]
    simp only[List.length_cons]
    rw[show i+1+(q4l h).length=i+((q4l h).length+1)by omega]) (by omega) (by simp at hf;omega)]
   simp
theorem dec_digs (u:Nat):∀c∈Lib.decDigits u,qd (c.toNat:Int)=true:=by
 induction u using Nat.strongRecOn with
 |ind u ih =>
  rw[Lib.decDigits]
  split
  ·rename_i h
   intro c hc
   rw[List.mem_singleton]at hc
   subst hc
   exact(q2a (d:=u) (by omega)).2
  ·rename_i h
   intro c hc
   rcases List.mem_append.1 hc with hc|hc
   ·exact ih (u / 10) (by omega) c hc
   ·rw[List.mem_singleton]at hc
    subst hc
    exact(q2a (d:=u % 10) (by omega)).2
theorem j8g (u:Nat):q8H 0 (Lib.decDigits u)=u:=by
 induction u using Nat.strongRecOn with
 |ind u ih =>
  rw[Lib.decDigits]
  split
  ·rename_i h
   show 10*0+((UInt8.ofNat (48+u)).toNat-48)=u
   rw[(q2a (d:=u) (by omega)).1]
   omega
  ·rename_i h
   unfold q8H at ih ⊢
   rw[List.foldl_append,ih (u / 10) (by omega)]
   show 10*(u / 10)+((UInt8.ofNat (48+u % 10)).toNat-48)=u
   rw[(q2a (d:=u % 10) (by omega)).1]
   omega
theorem q7t {u:Nat}(h:u≤65535):(Lib.decDigits u).length≤5∧1≤(Lib.decDigits u).length:=by
 rw[Lib.decDigits_length]
 refine⟨?_,Lib.nDigits_pos u⟩
 rcases Nat.lt_or_ge u 10 with g|g
 ·rw[Lib.nDigits_small g];omega
 ·rcases Nat.lt_or_ge u 100 with g2|g2
  ·rw[Lib.nDigits_unique 1 u (by simpa using g) (by simpa using g2)];omega
  ·rcases Nat.lt_or_ge u 1000 with g3|g3
   ·rw[Lib.nDigits_unique 2 u (by simpa using g2) (by simpa using g3)];omega
   ·rcases Nat.lt_or_ge u 10000 with g4|g4
    ·rw[Lib.nDigits_unique 3 u (by simpa using g3) (by simpa using g4)];omega
    ·rw[Lib.nDigits_unique 4 u (by simpa using g4) (by simp;omega)];omega
def q1W (st:Nat)(l:List Hp):By:=64::(Lib.decDigits st++q0H l)
theorem j6Z (l:List Hp):qd (((q0H l).getD 0 0).toNat:Int)=false:=by
 cases l with
 |nil=>decide
 |cons h r=>show qd ((32:UInt8).toNat:Int)=false;decide
theorem hapS_len {h:Hp}(hh:HpL h):(q4l h).length≤6:=by
 obtain⟨nm,ds⟩:=h
 obtain⟨⟨c,rfl,hc⟩,d,hd,hds⟩:=hh
 simp only[]at hds
 rcases hds with rfl|⟨d',hd',rfl⟩<;>simp[q4l]
theorem q2C (l:List Hp)(hh:∀h∈l,HpL h):(q0H l).length≤7*l.length∧l.length≤(q0H l).length:=by
 induction l with
 |nil=>exact⟨zL _,zL _⟩
 |cons h r ih =>
  have:=ih (fun g hg=>hh g (by simp[hg]))
  have h6:=hapS_len (hh h (by simp))
  have e:(q0H (h::r)).length=1+(q4l h).length+(q0H r).length:=by simp[q0H];omega
  rw[e,List.length_cons]
  omega
theorem j9D (st:Nat)(l:List Hp)(hst:st≤65535)(hh:∀h∈l,HpL h):q2N (q1W st l)=.inr (st,l):=by
 have hd:(q1W st l).drop 1=Lib.decDigits st++q0H l:=rfl
 have hlen:=q7t hst
 have hs:=j6p (Lib.decDigits st) (q1W st l) (q0H l) 5 0 1 hd hlen.1 (dec_digs st) (j6Z l) (by rw[j8g];exact hst)
 rw[j8g]at hs
 unfold q2N
 rw[if_pos (by rfl),hs]
 simp only[]
 rw[if_pos ⟨trivial,by omega⟩]
 have hl2:(q1W st l).length=1+((Lib.decDigits st).length+(q0H l).length):=by simp[q1W];omega
 have hq:=q2C l hh
 rw[j2G l (q1W st l) _ (1+(Lib.decDigits st).length) [] hh (q9C hd) (by omega) (by omega)]
 rfl
theorem line_len (st:Nat)(l:List Hp)(hst:st≤65535)(hh:∀h∈l,HpL h)(hl:l.length≤4):(q1W st l).length≤80:=by
 have hlen:=q7t hst
 have hq:=q2C l hh
 simp only[q1W,List.length_cons,List.length_append]
 omega
def nmL (k:Nat):By:=if k=0 then [112]else if k=1 then [113]else if k=2 then [114]else [120]
def q8L (s:By)(i:Nat):Hp × Nat:=
 let a:=zk s i 4
 let b:=zk s a.2 4
 let c:=zk s b.2 2
 let d:=zk s c.2 4
 if c.1=1 then(⟨nmL a.1,[b.1,d.1]⟩,d.2)else(⟨nmL a.1,[b.1]⟩,c.2)
theorem q8M (s:By)(i:Nat):HpL (q8L s i).1:=by
 unfold q8L
 simp only[]
 have ha:=ql s i (n:=4) (by omega)
 generalize zk s i 4=ra at *
 have hb:=ql s ra.2 (n:=4) (by omega)
 generalize zk s ra.2 4=rb at *
 generalize zk s rb.2 2=rc at *
 have hd:=ql s rc.2 (n:=4) (by omega)
 generalize zk s rc.2 4=rd at *
 have hn:∃c:UInt8,nmL ra.1=[c]∧q0s (c.toNat:Int)=true:=by
  unfold nmL
  split
  ·exact⟨112,rfl,by decide⟩
  ·split
   ·exact⟨113,rfl,by decide⟩
   ·split
    ·exact⟨114,rfl,by decide⟩
    ·exact⟨120,rfl,by decide⟩
 split
 ·exact⟨hn,rb.1,by omega,.inr ⟨rd.1,by omega,rfl⟩⟩
 ·exact⟨hn,rb.1,by omega,.inl rfl⟩
def q3p (s:By):Nat→Nat→List Hp × Nat
 | 0,i=>([],i)
 |k+1,i=>((q8L s i).1::(q3p s k (q8L s i).2).1,(q3p s k (q8L s i).2).2)
theorem hapsK_ok (s:By):∀k i,(∀h∈(q3p s k i).1,HpL h)∧(q3p s k i).1.length=k:=by
 intro k
 induction k with
 |zero=>intro i;exact⟨fun h hh=>by simp[q3p]at hh,rfl⟩
 |succ k ih =>
  intro i
  obtain⟨h1,h2⟩:=ih (q8L s i).2
  refine⟨fun h hh=>?_,by simp[q3p,h2]⟩
  simp only[q3p,List.mem_cons]at hh
  rcases hh with rfl|hh
  ·exact q8M s i
  ·exact h1 h hh
def q8q (s:By)(i:Nat):Nat × Nat:=
 let d:=zk s i 5
 let e:=zk s d.2 16
 let g:=zk s e.2 256
 if e.1=1 then(128*g.1,g.2)else(d.1,e.2)
theorem j8o (s:By)(i:Nat):(q8q s i).1<32768:=by
 unfold q8q
 simp only[]
 have hd:=ql s i (n:=5) (by omega)
 have hg:=ql s (zk s (zk s i 5).2 16).2 (n:=256) (by omega)
 split
 ·simp only[];omega
 ·simp only[];omega
structure LnK where
 stamp:Nat
 time:Nat
 haps:List Hp
def lnK (s:By)(i k:Nat)(st t:Nat):LnK × Nat:=
 let g:=q8q s i
 let n:=zk s g.2 5
 let h:=q3p s n.1 n.2
 (⟨if 0<k then(st+g.1) % 65536 else st,if 0<k then t+g.1 else t,h.1⟩,h.2)
def q8W (s:By):Nat→Nat→Nat→Nat→Nat→List LnK
 | 0,_,_,_,_=>[]
 |n+1,i,k,st,t=>(lnK s i k st t).1::q8W s n (lnK s i k st t).2 (k+1) (lnK s i k st t).1.stamp (lnK s i k st t).1.time
def q1v (s:By)(sh:Nat):List LnK:=
 let a:=zk s 0 8
 let n:=zk s a.2 13
 q8W s n.1 n.2 0 ((65530+a.1+sh) % 65536) 0
def qu (l:LnK):Lin:=(l.stamp,l.haps)
def j4y:Nat→Nat→Nat→List LnK→Prop
 |_,_,_,[]=>True
 |k,st,t,l::r=>(l.stamp≤65535∧(∀h∈l.haps,HpL h)∧l.haps.length≤4)∧(0<k→∃d,d<32768∧l.stamp=(st+d) % 65536∧l.time=t+d)∧(k=0→l.stamp=st∧l.time=t)∧j4y (k+1) l.stamp l.time r
theorem j9E (s:By):∀(n i k st t:Nat),st≤65535→j4y k st t (q8W s n i k st t):=by
 intro n
 induction n with
 |zero=>intro i k st t _;exact trivial
 |succ n ih =>
  intro i k st t hst
  rw[q8W]
  have hg:=j8o s i
  have hst':(lnK s i k st t).1.stamp≤65535:=by
   unfold lnK
   simp only[]
   split<;>omega
  have hh:=hapsK_ok s (zk s (q8q s i).2 5).1 (zk s (q8q s i).2 5).2
  have h5:=ql s (q8q s i).2 (n:=5) (by omega)
  refine⟨⟨hst',hh.1,?_⟩,fun hk=>⟨(q8q s i).1,hg,?_,?_⟩,fun hk=>⟨?_,?_⟩,ih _ _ _ _ hst'⟩
  ·show(q3p s (zk s (q8q s i).2 5).1 (zk s (q8q s i).2 5).2).1.length≤4
   rw[hh.2]
   omega
  ·show(if 0<k then(st+(q8q s i).1) % 65536 else st)=_
   rw[if_pos hk]
  ·show(if 0<k then t+(q8q s i).1 else t)=_
   rw[if_pos hk]
  ·show(if 0<k then(st+(q8q s i).1) % 65536 else st)=_
   rw[if_neg (by omega)]
  ·show(if 0<k then t+(q8q s i).1 else t)=_
   rw[if_neg (by omega)]
theorem lns_len (s:By):∀(n i k st t:Nat),(q8W s n i k st t).length=n:=by
 intro n
 induction n with
 |zero=>intros;rfl
 |succ n ih=>intro i k st t;rw[q8W,List.length_cons,ih]
theorem q7C (s:By)(sh:Nat):(q1v s sh).length≤12:=by
 unfold q1v
 simp only[]
 rw[lns_len]
 have:=ql s (zk s 0 8).2 (n:=13) (by omega)
 omega
theorem q7B (s:By)(sh:Nat):∃st,st≤65535∧j4y 0 st 0 (q1v s sh):=⟨_,by omega,j9E s _ _ _ _ _ (by omega)⟩
theorem q9r {L:List LPt}{st a:Nat}(hn:0<L.length)(hs:q1Y L (L.length-1)=st):toR L a=(a+65536-st) % 65536:=by
 have hl:L.length-1<L.length:=by omega
 unfold toR q1Y at *
 rw[zG hl]at hs ⊢
 simp only[]at hs ⊢
 rw[hs]
theorem j8H (a:Nat):toR [] a=0:=rfl
theorem j8c (L:List LPt)(a:Lin):(q2Q L a).length=L.length+1:=by simp[q2Q]
theorem add_tm (L:List LPt)(a:Lin):tmL (q2Q L a) L.length=q7S L a.1:=by
 unfold q2Q
 rw[j4h]
theorem q5L (L:List LPt)(a:Lin):q1Y (q2Q L a) L.length=a.1:=by
 unfold q1Y q2Q
 rw[List.getElem?_append_right (zL _),Nat.sub_self]
 rfl
theorem add_haps (L:List LPt)(a:Lin):q5y (q2Q L a) L.length=a.2:=by
 unfold q5y q2Q
 rw[List.getElem?_append_right (zL _),Nat.sub_self]
 rfl
theorem q8C:∀(X:List LnK) (k st t:Nat) (L:List LPt),st≤65535→j4y k st t X→LogOk L→L.length=k→(0<k→q1Y L (k-1)=st∧tmL L (k-1)=t)→(k=0→t=0)→k+X.length≤40 →
  (∀j (h:j<X.length),LinOk (((X.take j).map qu).foldl q2Q L) (q1W X[j].stamp X[j].haps) (qu X[j])) ∧
  (∀j (h:j<X.length),tmL ((X.map qu).foldl q2Q L) (k+j)=X[j].time∧q5y ((X.map qu).foldl q2Q L) (k+j)=X[j].haps∧q1Y ((X.map qu).foldl q2Q L) (k+j)=X[j].stamp):=by
 intro X
 induction X with
 |nil=>intro k st t L _ _ _ _ _ _ _;exact⟨fun j h=>by simp at h,fun j h=>by simp at h⟩
 |cons x r ih =>
  intro k st t L hst hc hL hlen hlast h0 h40
  obtain⟨⟨c1,c2,c3⟩,c4,c5,c6⟩:=hc
  simp only[List.length_cons]at h40
  have hto:toR L x.stamp<32768∧q7S L x.stamp=x.time:=by
   by_cases hk:0<k
   ·obtain⟨d,d1,d2,d3⟩:=c4 hk
    obtain⟨l1,l2⟩:=hlast hk
    have e:toR L x.stamp=d:=by
     rw[q9r (st:=st) (by omega) (by rw[hlen];exact l1),d2]
     omega
    refine⟨by omega,?_⟩
    rw[j8b hL _ (by omega),hlen,l2,e,d3]
   ·have hk0:k=0:=by omega
    have hn:L=[]:=List.length_eq_zero_iff.1 (by omega)
    subst hn
    refine⟨by rw[j8H];omega,?_⟩
    obtain⟨_,e⟩:=c5 hk0
    rw[e,h0 hk0]
    rfl
  have hL':LogOk (q2Q L (qu x)):=hL.add x.stamp x.haps
  obtain⟨i1,i2⟩:=ih (k+1) x.stamp x.time (q2Q L (qu x)) c1 c6 hL' (by rw[j8c,hlen]) (fun _=>by
   rw[show k+1-1=L.length by omega,q5L,add_tm]
   exact⟨rfl,hto.2⟩) (fun e=>by omega) (by omega)
  constructor
  ·intro j hj
   cases j with
   |zero=>exact⟨j9D _ _ c1 c2,line_len _ _ c1 c2 c3,hto.1,by show L.length<40;omega⟩
   |succ j=>exact i1 j (by simpa using hj)
  ·intro j hj
   cases j with
   |zero =>
    have hpre:=j0R (q2Q L (qu x)) (r.map qu)
    obtain⟨M,e,_⟩:=hpre
    have e':((x::r).map qu).foldl q2Q L=q2Q L (qu x)++M:=e
    have hlt:k<(q2Q L (qu x)).length:=by rw[j8c];omega
    rw[e',Nat.add_zero,q3D hlt,j4W hlt,j3l hlt,←hlen,add_tm,add_haps,q5L]
    exact⟨hto.2,rfl,rfl⟩
   |succ j =>
    have:=i2 j (by simpa using hj)
    rw[show k+(j+1)=k+1+j by omega]
    exact this
def q4p (X:List LnK):List LPt:=qa (X.map qu)
theorem q6A (X:List LnK):(q4p X).length=X.length:=by
 unfold q4p
 rw[q2o,List.length_map]
end Go.Proofs.YtiamjjonoeaggabGreatDoor
