import Derived.Test.YtiamjjonoeaggaaGreatDoorGA
import Derived.Test.YtiamjjonoeaggaaGreatDoorG01
namespace Go.Proofs.YtiamjjonoeaggaaGreatDoor
open Go.RowKit
def q4k (t:By):Bool:=t==[40] || t==[91]
def q4j (t:By):Bool:=t==[41] || t==[93]
def q9c (t:By):Bool:=t==[44] || t==[41]
def depth (t:By)(d:Int):Int:=(if q4k t then d+1 else d)-(if q4j t then 1 else 0)
def q2J:List Tok→Nat→Nat→Int→List (Nat × Nat)
 | [],_,_,_=>[]
 |t::r,i,a,d=>if d==0&&q9c t.text then(a,i)::q2J r (i+1) (i+1) (depth t.text d)else q2J r (i+1) a (depth t.text d)
def plain (t:By):Bool:=!(q4k t || q4j t || q9c t)
theorem q0A {t:Tok}(h:plain t.text=true)(r:List Tok)(i a:Nat)(d:Int):q2J (t::r) i a d=q2J r (i+1) a d:=by
 unfold plain at h
 simp only[Bool.not_eq_true',Bool.or_eq_false_iff]at h
 rw[q2J,h.2,Bool.and_false,if_neg (by simp)]
 unfold depth
 rw[h.1.1,h.1.2]
 simp
theorem q3I {t:Tok}(h:q4k t.text=true)(r:List Tok)(i a:Nat)(d:Int):q2J (t::r) i a d=q2J r (i+1) a (d+1):=by
 have:t.text=[40]∨t.text=[91]:=by simpa[q4k]using h
 rw[q2J]
 rcases this with h|h<;>rw[h]<;>simp[q9c,depth,q4k,q4j]
theorem q3H {t:Tok}(h:q4j t.text=true)(r:List Tok)(i a:Nat)(d:Int)(hd:0≤d):q2J (t::r) i a (d+1)=q2J r (i+1) a d:=by
 have:t.text=[41]∨t.text=[93]:=by simpa[q4j]using h
 have hz:(d+1==0)=false:=by simp;omega
 rw[q2J,hz,Bool.false_and,if_neg (by simp)]
 unfold depth
 rcases this with h|h<;>rw[h]<;>simp[q4k,q4j]
theorem q6b {t:Tok}(h:t.text=[44])(r:List Tok)(i a:Nat)(d:Int)(hd:0≤d):q2J (t::r) i a (d+1)=q2J r (i+1) a (d+1):=by
 have hz:(d+1==0)=false:=by simp;omega
 rw[q2J,hz,Bool.false_and,if_neg (by simp),h]
 simp[depth,q4k,q4j]
theorem q4W {c:UInt8}{r:By}(h:c.toNat≠40∧c.toNat≠41∧c.toNat≠44∧c.toNat≠91∧c.toNat≠93):plain (c::r)=true:=by
 have n:∀k:UInt8,c.toNat≠k.toNat→(c::r==[k])=false:=fun k hk=>by
  rw[beq_eq_false_iff_ne]
  intro e
  simp at e
  exact hk (by rw[e.1])
 unfold plain q4k q4j q9c
 rw[n 40 h.1,n 41 h.2.1,n 44 h.2.2.1,n 91 h.2.2.2.1,n 93 h.2.2.2.2]
 rfl
theorem j0q {t:By}(h:zv t=true):plain t=true:=by
 cases t with
 |nil=>simp[zv]at h
 |cons c r =>
  simp[zv,q0e]at h
  exact q4W (by omega)
theorem q5k {t:By}(h:q4o t=true):plain t=true:=by
 cases t with
 |nil=>simp[q4o]at h
 |cons c r =>
  simp[q4o,qp]at h
  exact q4W (by omega)
theorem q8F {t:By}(h:q1J t=true):plain t=true:=by
 have:t=[120]∨t=[121]:=by simpa[q1J]using h
 rcases this with rfl|rfl<;>decide
theorem q8E {t:By}(h:q3Q t=true):plain t=true:=by
 unfold q3Q at h
 rw[Bool.or_eq_true]at h
 rcases h with h|h
 ·obtain⟨c,rfl,h1,h2⟩:=q6C h
  exact q4W (by omega)
 ·exact q8F h
theorem q6D {t:By}(h:q4B t=true):plain t=true:=by
 unfold q4B at h
 rw[Bool.or_eq_true]at h
 rcases h with h|h
 ·have:t=[42]:=by simpa using h
  subst this
  decide
 ·exact q5k h
theorem q5l {t:By}(h:q1K t=true):plain t=true:=by
 have hc:=q6f h
 simp only[List.mem_cons,List.not_mem_nil,or_false]at hc
 rcases hc with rfl|rfl|rfl|rfl|rfl|rfl|rfl|rfl|rfl|rfl|rfl|rfl<;>decide
theorem j0g {t:By}(h:q0o t=true):q1K t=true:=by unfold q1K;rw[h];simp
theorem j2u {t:By}(h:q0Q t=true):q1K t=true:=by unfold q1K;rw[h];simp
theorem j2v {t:By}(h:q0J t=true):q1K t=true:=by unfold q1K;rw[h];simp
theorem q9N:∀(F:zl) (u:List Tok),qz F u→∀(rest:List Tok) (i a:Nat) (d:Int),0≤d→q2J (u++rest) i a d=q2J rest (i+u.length) a d:=by
 intro F
 induction F with
 |nil=>intro u h;exact h.elim
 |node p sp y l r ihl ihr =>
  intro u h rest i a d hd
  have hd1:0≤d+1:=by omega
  rcases h with⟨hn,_,_,_,_,q1,q2,q3,x,hx,hb⟩|⟨_,hw,_,_,_,v,q1,q2,q3,ul,hv,_,hl,rfl⟩|⟨_,hw,_,_,_,q1,q2,q3,ul,ur,hl,hr,rfl⟩|⟨_,hw,_,_,hlo,hhi,q1,q2,q3,q4,q5,q6,ul,hl,rfl⟩|⟨_,hw,_,hlo,hhi,q1,q2,q3,q4,q5,q6,q7,ul,ur,hl,hr,rfl⟩|⟨_,hw,_,_,_,_,_,rfl⟩
  ·rcases hb with⟨_,rfl⟩|⟨z,q4,q5,hz,_,rfl⟩
   ·simp only[List.cons_append,List.nil_append]
    rw[q0A (j0q hn),q3I rfl,q0A (q8E hx),q3H rfl _ _ _ _ hd]
    simp
   ·simp only[List.cons_append,List.nil_append]
    rw[q0A (j0q hn),q3I rfl,q0A (q8E hx),q6b rfl _ _ _ _ hd,q0A (q8E hz),q3H rfl _ _ _ _ hd]
    simp
  ·simp only[List.cons_append,List.append_assoc,List.nil_append]
   rw[q0A (by show plain y.word=true;rw[hw];decide),q0A (q8F hv),q3I rfl,ihl ul hl _ _ _ _ hd1,q3H rfl _ _ _ _ hd]
   simp only[List.length_cons,List.length_append,List.length_nil]
   congr 1
   omega
  ·simp only[List.cons_append,List.append_assoc,List.nil_append]
   rw[q0A (q5l (j0g hw)),q3I rfl,ihl ul hl _ _ _ _ hd1,q6b rfl _ _ _ _ hd,ihr ur hr _ _ _ _ hd1,q3H rfl _ _ _ _ hd]
   simp only[List.length_cons,List.length_append,List.length_nil]
   congr 1
   omega
  ·simp only[List.cons_append,List.append_assoc,List.nil_append]
   rw[q0A (q5l (j2u hw)),q3I rfl,q0A (q5k hlo),q6b rfl _ _ _ _ hd,q0A (q6D hhi),q3H rfl _ _ _ _ hd,q3I rfl,ihl ul hl _ _ _ _ hd1,q3H rfl _ _ _ _ hd]
   simp only[List.length_cons,List.length_append,List.length_nil]
   congr 1
   omega
  ·simp only[List.cons_append,List.append_assoc,List.nil_append]
   rw[q0A (q5l (j2v hw)),q3I rfl,q0A (q5k hlo),q6b rfl _ _ _ _ hd,q0A (q6D hhi),q3H rfl _ _ _ _ hd,q3I rfl,ihl ul hl _ _ _ _ hd1,q6b rfl _ _ _ _ hd,ihr ur hr _ _ _ _ hd1,q3H rfl _ _ _ _ hd]
   simp only[List.length_cons,List.length_append,List.length_nil]
   congr 1
   omega
  ·simp only[List.cons_append,List.nil_append]
   rw[q0A (by show plain y.word=true;rw[hw];decide)]
   simp
def q1u (u:List Tok):Nat:=u.findIdx fun t=>t.text==[40]
def q1g:zl→List zl
 | .nil=>[]
 | .node _ _ _ .nil _=>[]
 | .node _ _ _ l .nil=>[l]
 | .node _ _ _ l r=>[l,r]
theorem q0C {t:Tok}{r:List Tok}(h:(t.text==[40])=false):q1u (t::r)=q1u r+1:=by
 unfold q1u
 rw[List.findIdx_cons,h]
 rfl
theorem q5I {t:Tok}{r:List Tok}(h:t.text=[40]):q1u (t::r)=0:=by
 unfold q1u
 rw[List.findIdx_cons,h]
 rfl
theorem q3j {t:By}(h:plain t=true):(t==[40])=false:=by
 cases g:(t==[40])with
 |false=>rfl
 |true =>
  have:t=[40]:=by simpa using g
  subst this
  exact absurd h (by decide)
theorem q2l {p sp:Nat}{y:Pay}{l:zl}{ul:List Tok}(h:qz l ul):q1g (.node p sp y l .nil)=[l]:=by
 cases l with
 |nil=>exact h.elim
 |node=>rfl
theorem q3J {p sp:Nat}{y:Pay}{l r:zl}{ul ur:List Tok}(h:qz l ul)(h':qz r ur):q1g (.node p sp y l r)=[l,r]:=by
 cases l with
 |nil=>exact h.elim
 |node =>
  cases r with
  |nil=>exact h'.elim
  |node=>rfl
theorem cut1 {F:zl}{ul:List Tok}(h:qz F ul)(q a:Nat):q2J (ul++[⟨[41],q⟩]) a a 0=[(a,a+ul.length)]:=by
 rw[q9N F ul h _ _ _ _ (Int.le_refl _),q2J]
 rfl
theorem cut2 {F G:zl}{ul ur:List Tok}(h:qz F ul)(h':qz G ur)(q q' a:Nat):q2J (ul++⟨[44],q⟩::(ur++[⟨[41],q'⟩])) a a 0=[(a,a+ul.length),(a+ul.length+1,a+ul.length+1+ur.length)]:=by
 rw[q9N F ul h _ _ _ _ (Int.le_refl _),q2J,if_pos (show((0:Int)==0&&q9c (Tok.mk [44] q).text)=true from rfl)]
 have e:depth (Tok.mk [44] q).text 0=0:=rfl
 rw[e,cut1 h']
theorem j3c (pre ul:List Tok)(t:Tok)(ur z:List Tok)(n:Nat)(hn:n=pre.length+ul.length+1):((pre++(ul++t::(ur++z))).drop n).take ur.length=ur:=by
 have e:pre++(ul++t::(ur++z))=(pre++ul++[t])++(ur++z):=by simp
 rw[e,List.drop_left' (by simp;omega),List.take_left' rfl]
def q3Z (t:By):Bool:=t==[116,114,117,101] || zv t
theorem q5F {F:zl}{u:List Tok}(h:qz F u)(hlf:q3Z (hd u)=false) :
  (∃l ul a,q1g F=[l]∧qz l ul∧q2J (u.drop (q1u u+1)) (q1u u+1) (q1u u+1) 0=[(a,a+ul.length)]∧(u.drop a).take ul.length=ul∧a+ul.length<u.length∧0<a) ∨
  (∃l r ul ur a a',q1g F=[l,r]∧qz l ul∧qz r ur∧q2J (u.drop (q1u u+1)) (q1u u+1) (q1u u+1) 0=[(a,a+ul.length),(a',a'+ur.length)]∧(u.drop a).take ul.length=ul∧(u.drop a').take ur.length=ur∧a+ul.length<a'∧a'+ur.length<u.length∧0<a):=by
 cases F with
 |nil=>exact h.elim
 |node p sp y l r =>
  rcases h with⟨hn,_,_,_,_,q1,q2,q3,x,hx,hb⟩|⟨_,hw,_,_,hrn,v,q1,q2,q3,ul,hv,_,hl,rfl⟩|⟨_,hw,_,_,_,q1,q2,q3,ul,ur,hl,hr,rfl⟩|⟨_,hw,_,hrn,hlo,hhi,q1,q2,q3,q4,q5,q6,ul,hl,rfl⟩|⟨_,hw,_,hlo,hhi,q1,q2,q3,q4,q5,q6,q7,ul,ur,hl,hr,rfl⟩|⟨_,hw,_,_,_,_,_,rfl⟩
  ·exfalso
   rcases hb with⟨_,rfl⟩|⟨z,q4,q5,hz,_,rfl⟩<;>simp[hd,q3Z,hn]at hlf
  ·subst hrn
   refine .inl ⟨l,ul,3,q2l hl,hl,?_,?_,?_,by omega⟩
   ·rw[q0C (q3j (by show plain y.word=true;rw[hw];decide)),q0C (q3j (q8F hv)),q5I rfl]
    exact cut1 hl _ _
   ·simp
   ·simp;omega
  ·refine .inr ⟨l,r,ul,ur,2,2+ul.length+1,q3J hl hr,hl,hr,?_,?_,?_,by omega,?_,by omega⟩
   ·rw[q0C (q3j (q5l (j0g hw))),q5I rfl]
    exact cut2 hl hr _ _ _
   ·simp
   ·exact j3c [_,_] ul _ ur _ _ (by simp)
   ·simp;omega
  ·subst hrn
   refine .inl ⟨l,ul,7,q2l hl,hl,?_,?_,?_,by omega⟩
   ·rw[q0C (q3j (q5l (j2u hw))),q0C rfl,q0C (q3j (q5k hlo)),q0C rfl,q0C (q3j (q6D hhi)),q0C rfl,q5I rfl]
    exact cut1 hl _ _
   ·simp
   ·simp;omega
  ·refine .inr ⟨l,r,ul,ur,7,7+ul.length+1,q3J hl hr,hl,hr,?_,?_,?_,by omega,?_,by omega⟩
   ·rw[q0C (q3j (q5l (j2v hw))),q0C rfl,q0C (q3j (q5k hlo)),q0C rfl,q0C (q3j (q6D hhi)),q0C rfl,q5I rfl]
    exact cut2 hl hr _ _ _
   ·simp
   ·exact j3c [_,_,_,_,_,_,_] ul _ ur _ _ (by simp)
   ·simp;omega
  ·exfalso
   simp[hd,q3Z,hw]at hlf
end Go.Proofs.YtiamjjonoeaggaaGreatDoor
