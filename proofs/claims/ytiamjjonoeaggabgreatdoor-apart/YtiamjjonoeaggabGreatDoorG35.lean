import Derived.Test.YtiamjjonoeaggabGreatDoorGA
import Derived.Test.YtiamjjonoeaggabGreatDoorGB
import Derived.Test.YtiamjjonoeaggabGreatDoorG18
import Derived.Test.YtiamjjonoeaggabGreatDoorG32
import Derived.Test.YtiamjjonoeaggabGreatDoorG34
import Derived.Laws.AppendOwn
import Derived.Laws.AppendOwnNone
set_option maxRecDepth 100000
set_option maxHeartbeats 16000000
namespace Go.Proofs.YtiamjjonoeaggabGreatDoor
open Go.RowKit
theorem ver_ones (l:List Ver):∀u∈zV l,u.oneCell'=true:=by
 intro u hu
 simp only[zV,List.mem_flatMap]at hu
 obtain⟨v,_,hu⟩:=hu
 simp only[q3O,List.mem_cons,List.not_mem_nil,or_false]at hu
 rcases hu with rfl|rfl|rfl|rfl|rfl|rfl|rfl|rfl|rfl|rfl|rfl|rfl<;>rfl
theorem ver_len (l:List Ver):(zV l).length=l.length*12:=by
 induction l with
 |nil=>rfl
 |cons a r ih =>
  have e:zV (a::r)=q3O a++zV r:=rfl
  rw[e,List.length_append,ih]
  simp
  omega
theorem j4w {ops:Array Oper}{rest:List Oper}{o:Oper}{a:Act}{Q:Exit→Act→World→Prop}(hgd:o.guard=none)(x y:Operand)
  (ho:o.op=.call {callee:=.builtin .append,args:=#[x,y],argTypes:=#[33,33]})(W:World)(vx vy:Value)(X Y:List Ver)(hx:a.eval x=vx)(hy:a.eval y=vy)(base base':Nat)
  (hX:W.ownsRow base 45 12 vx X.length (zV X))(hY:W.ownsRow base' 45 12 vy Y.length (zV Y))(hn:X.length+Y.length≤1000)(hb:base≤W.heap.size)
  (h:∀v' w1,w1.ownsRow base 45 12 v' (X++Y).length (zV (X++Y))→OnlyB vx.ownBlock.toList W w1→wpList Tryz.prog ops Q rest (a.put o.dst v') w1):wpList Tryz.prog ops Q (o::rest) a W:=by
 obtain⟨i,hi,hz0,hz1,hz2⟩:=info_parts j5h
 rcases hY.2 with⟨h1,h2⟩|⟨g,cap,cur,e,h2,h3,h4⟩
 ·have hY0:Y=[]:=List.length_eq_zero_iff.1 h2
  subst hY0
  rw[h1]at hy
  refine wpList_append_own_none hgd x y 33 ho base 45 i 12 Tryz.underlying33 hi vx X.length (zV X) hx hX hy ?_
  exact h vx W (by rw[List.append_nil];exact hX) (OnlyB.refl _ _)
 ·subst e
  refine wpList_append_own W hgd x y 33 ho base 45 i _ 12 32 Tryz.underlying33 hi hz0 hz1 hz2 rfl (by decide) vx X.length (zV X) hx hX ⟨g,0,none⟩ Y.length cap (zV Y) hy (ver_len Y) (hY.cells rfl) (ver_ones Y) (by unfold maxLen;omega) (by omega) hb ?_
  intro v' w' own gr _
  refine h v' w' (by rw[List.length_append,q6N];exact own) ⟨gr.os,gr.tape,gr.output,gr.size,fun k hk hn=>gr.block k hk (fun e=>hn (by rw[←e];simp))⟩
def KV (bl:List Nat)(w:World):Prop:=∀k∈bl,∃cs,w.heap[k]?=some (.cells cs 45 (0,0))
theorem kv_row {w:World}{base:Nat}{size:Nat}{v:Value}{n:Nat}{xs:List Value}(h:w.ownsRow base 45 size v n xs):KV v.ownBlock.toList w:=by
 intro k hk
 rcases h.2 with⟨h1,_⟩|⟨g,cap,cur,rfl,_,h3,_⟩
 ·rw[h1]at hk;simp[Value.ownBlock]at hk
 ·simp[Value.ownBlock]at hk
  subst hk
  exact⟨_,h3⟩
theorem j0L {w:World}{base:Nat}{e:TypeId}{size:Nat}{v:Value}{n:Nat}{xs:List Value}(h:w.ownsRow base e size v n xs):∀k∈v.ownBlock.toList,base≤k:=by
 intro k hk
 rcases h.2 with⟨h1,_⟩|⟨g,cap,cur,rfl,h2,_,_⟩
 ·rw[h1]at hk;simp[Value.ownBlock]at hk
 ·simp[Value.ownBlock]at hk
  subst hk
  exact h2
theorem q6a {w w':World}{bl:List Nat}{base:Nat}{e:TypeId}{size:Nat}{v:Value}{n:Nat}{xs:List Value}(h:w.ownsRow base e size v n xs)(ho:OnlyB bl w w')(hk:KV bl w)(h1:e≠45):w'.ownsRow base e size v n xs:=
 q7j h ho (fun k hv hm=>by
  obtain⟨cs,hc⟩:=hk k hm
  exact q8v hc h (Ne.symm h1) hv.symm)
theorem MonAt.keepV {w w':World}{b gn cn:Nat}{ao:OA}{cap:Nat}{F:zg}{PL:List PPt}{told:Nat}{ended:Bool}{bl:List Nat}(h:MonAt w b gn cn ao cap F PL told ended)(ho:OnlyB bl w w')(hk:KV bl w):MonAt w' b gn cn ao cap F PL told ended:=by
 have hb:b∉bl:=fun hm=>by
  obtain⟨cs,hc⟩:=hk b hm
  rw[h.blk]at hc
  simp at hc
 refine⟨(ho.block b h.lt hb).trans h.blk,q6a h.nodes ho hk (by decide),?_,fun p hp=>⟨q6a (h.haps p hp).1 ho hk (by decide),(h.haps p hp).2⟩,h.few⟩
 exact⟨by rw[ho.cell h.lt hb];exact h.log.cell,zT h.lt ho.size,q6a h.log.row ho hk (by decide),h.log.small,h.log.times⟩
theorem q7N {L:List LPt}(h:LogOk L)(a:Lin)(rc:Int):qp L rc≤qp (q2Q L a) rc:=by
 have h2:LogOk (q2Q L a):=h.add a.1 a.2
 have hlen:(q2Q L a).length=L.length+1:=by simp[q2Q]
 have hap:∀i,i<L.length→tmL (q2Q L a) i=tmL L i:=fun i hi=>q3D hi
 generalize q2Q L a=L2 at *
 have hle:=q3t L rc
 rcases Nat.eq_zero_or_pos (qp L rc)with g|g
 ·omega
 ·have hi:qp L rc-1<L.length:=by omega
  have e1:=(q9m h.mono rc hi).2 (by omega)
  have hm:=h2.mono (L.length-1) L.length (by omega) (by omega)
  rw[hap _ (by omega)]at hm
  have e2:rc<(tmL L2 (L2.length-1):Int)-(tmL L2 (qp L rc-1):Int):=by
   rw[hap _ hi,show L2.length-1=L.length by omega]
   omega
  have e3:=(q9m h2.mono rc (c:=qp L rc-1) (by omega)).1 e2
  omega
theorem mon_new {w w1:World}{s:By}{b:Nat}{nv:Value}(h:(zA s).1=0)
  (e1:w1.heap[b]?=some (.cells (j2O nv (q2s s).x (q2s s).y (q2s s).reach (.slice none 0 0) 0 false) 93 (0,0)))(e2:w1.ownsRow w.heap.size 166 22 nv (zv (qb s)) (qw (q0p (qb s) 0))) :
  ∃gn cn,MonAt w1 b gn cn none 0 (qb s) [] 0 false:=by
 obtain⟨g1,_,g4⟩:=q2M h
 have hpos:0<zv (qb s):=(q3N g1.nn).2
 obtain⟨gn,cn,rfl⟩:=zJ e2 hpos
 rw[g4]at e1
 refine⟨gn,cn,e1,j1E (zZ _) e2,?_,fun p hp=>by simp at hp,zL _⟩
 refine⟨?_,zd e1,zW _ _ _ _,by simp,by intro p hp;simp at hp⟩
 rw[zC _ _ 4 _ _ _ e1]
 rfl
theorem j2K (s:By)(hs:(zA s).1=0)(hs64:s.length≤maxLen)(w:World) :
  Calls Tryz.prog 7 #[bs s] w fun e w'=>∃b gn cn,e=.returned (.tuple #[.pointer (some ⟨b,0,none⟩),.bool true])∧w.heap.size≤b∧MonAt w' b gn cn none 0 (qb s) [] 0 false∧Below w.heap.size w w':=by
 have HN:Hid (Calls Tryz.prog 29 #[bs s] w fun e w'=>∃b gn cn,e=.returned (.tuple #[.pointer (some ⟨b,0,none⟩),.int .i64 0,.int .i64 0])∧w.heap.size≤b∧MonAt w' b gn cn none 0 (qb s) [] 0 false∧Below w.heap.size w w'):=zb (by
  refine(j6E s hs64 w).mono ?_
  rintro e w' ⟨p,rfl,_,h2,h3⟩
  obtain⟨b,nv,rfl,hb,e1,e2⟩:=h2 hs
  obtain⟨gn,cn,hM⟩:=mon_new (w:=w) hs e1 e2
  exact⟨b,gn,cn,by rw[hs,q5t hs],hb,hM,h3⟩)
 go_enter Tryz.func7,Tryz.ntmps7
 go_wp2_with fail
 refine HN.out.mono ?_
 rintro e w1 ⟨b,gn,cn,rfl,h1,h2,h3⟩
 have H2:=zb h2
 have H3:=zb h3
 clear h2 h3 HN
 go_wp2_with fail
 go_ret2
 exact⟨b,gn,cn,rfl,h1,H2.out,H3.out⟩
abbrev LnV:=Nat × Nat × By × By
abbrev lnCs (l:LnV):List Value:=[.int .u16 l.1,.int .i64 l.2.1,bs l.2.2.1,bs l.2.2.2]
def q0O (l:List LnV):List Value:=l.flatMap lnCs
theorem j5z (l:List LnV):∀(k:Nat) (h:k<l.length) (j:Nat),j<4→(q0O l)[k*4+j]?=(lnCs l[k])[j]?:=by
 induction l with
 |nil=>intro k h;simp at h
 |cons a r ih =>
  intro k h j hj
  have e:q0O (a::r)=lnCs a++q0O r:=rfl
  rw[e]
  cases k with
  |zero=>rw[Nat.zero_mul,Nat.zero_add,List.getElem?_append_left (by simpa using hj)];rfl
  |succ k =>
   rw[List.getElem?_append_right (by simp;omega)]
   have:=ih k (by simpa using h) j hj
   rw[show(k+1)*4+j-(lnCs a).length=k*4+j by simp;omega,this]
   rfl
theorem q6b {wr:World}{F:zg}(hF:FormGood F)(ha:q2d F=true){ls:List Lin}{b gn cn:Nat}{ao:OA}{cap:Nat}{PL:List PPt}{k:Nat}(hk:k<ls.length){s:By}(hok:LinOk (qa (ls.take k)) s ls[k])(hM:MonAt wr b gn cn ao cap F PL (qp (qa (ls.take k)) (zf F)) false)(hP:zz PL=qa (ls.take k)) :
  Calls Tryz.prog 10 #[.pointer (some ⟨b,0,none⟩),bs s] wr fun e w'=>∃v,e=.returned (.tuple #[v,.int .i64 0,.int .i64 0]) ∧
   w'.ownsRow wr.heap.size 45 12 v (qI F (qa ls) (qp (qa (ls.take k)) (zf F)) (qp (qa (ls.take (k+1))) (zf F))).length (zV (qI F (qa ls) (qp (qa (ls.take k)) (zf F)) (qp (qa (ls.take (k+1))) (zf F)))) ∧
   ∃ao' cap' PL',MonAt w' b gn cn ao' cap' F PL' (qp (qa (ls.take (k+1))) (zf F)) false∧zz PL'=qa (ls.take (k+1))∧OnlyB (b::q0P ao) wr w'∧∀q∈q0P ao',q∈q0P ao∨wr.heap.size≤q:=by
 have hlen:=hok.len
 refine(q6h b gn cn ao cap F hF PL (qp (qa (ls.take k)) (zf F)) false s (by unfold maxLen;omega) wr hM).mono ?_
 rintro e w' ⟨v,rfl,h2,ao',cap',PL',h3,h4,h5,h6⟩
 rw[hP]at h2 h3 h4 ⊢
 obtain⟨f1,f2,f3,f4⟩:=feed_ok hok F (qp (qa (ls.take k)) (zf F))
 rw[f1]
 rw[f2]at h4
 rw[f3]at h3
 rw[f4]at h2
 rw[←q3H ls k hk]at h2 h3 h4
 have hmo:=q7N (q7A (ls.take k)) ls[k] (zf F)
 rw[←q3H ls k hk]at hmo
 rw[Nat.max_eq_right hmo]at h3
 obtain⟨M,hM2⟩:=j5A ls (k+1)
 have hext:=tell_ext hF.ok ha (L:=qa (ls.take (k+1))) (M:=M) (by rw[←hM2];exact(q7A ls).mono) (qp (qa (ls.take k)) (zf F)) _ (zL _)
 rw[←hM2]at hext
 rw[hext]at h2
 exact⟨v,rfl,h2,ao',cap',PL',h3,h4,h5,h6⟩
def RnRel (w:World)(F:zg)(ls:List Lin)(b gn cn:Nat)(g:Nat)(vo vi:Value)(wr:World):Prop:=
 ∃(k:Nat) (ao:OA) (cap:Nat) (PL:List PPt),k≤ls.length∧ls.length-k≤g∧vi=.int .i64 k∧MonAt wr b gn cn ao cap F PL (qp (qa (ls.take k)) (zf F)) false∧zz PL=qa (ls.take k)∧(∀q∈q0P ao,w.heap.size≤q) ∧
  wr.ownsRow w.heap.size 45 12 vo (qI F (qa ls) 0 (qp (qa (ls.take k)) (zf F))).length (zV (qI F (qa ls) 0 (qp (qa (ls.take k)) (zf F))))∧Below w.heap.size w wr
theorem j6j {wr w':World}{b gn cn:Nat}{ao:OA}{cap:Nat}{F:zg}{PL:List PPt}{told:Nat}{base:Nat}{v:Value}{X:List Ver}(hM:MonAt wr b gn cn ao cap F PL told false)(ho:OnlyB (b::q0P ao) wr w')(hX:wr.ownsRow base 45 12 v X.length (zV X)):w'.ownsRow base 45 12 v X.length (zV X):=
 q0E hX ho hM.kinds (by decide) (by decide)
theorem kep_run (s:By)(hs:(zA s).1=0)(hs64:s.length≤maxLen)(TX:List LnV)(ls:List Lin)(hl:TX.length=ls.length)(hok:∀k (h:k<ls.length),LinOk (qa (ls.take k)) (TX[k]'(by omega)).2.2.2 ls[k])(hn:ls.length≤40)(base:Nat)(v:Value)(w:World)(hv:w.ownsRow base 41 4 v TX.length (q0O TX)) :
  Calls Tryz.prog 16 #[bs s,v] w fun e w'=>∃u,e=.returned (.tuple #[u,.bool true])∧w'.ownsRow w.heap.size 45 12 u ls.length (zV (qI (qb s) (qa ls) 0 ls.length))∧Below w.heap.size w w':=by
 obtain⟨hF,ha,_⟩:=q2M hs
 have HB:=zb (j2K s hs hs64)
 have HFD:=zb (fun wr b gn cn ao cap PL k hk hM hP=>q6b (wr:=wr) (b:=b) (gn:=gn) (cn:=cn) (ao:=ao) (cap:=cap) (PL:=PL) hF ha (k:=k) hk (hok k hk) hM hP)
 have HED:=zb (fun b gn cn ao cap PL told W h=>j0Q b gn cn ao cap (qb s) hF PL told false W h)
 generalize qb s=F at *
 obtain⟨va,vc,rfl⟩:=qn hv
 have HV:=zb hv
 have HOK:=zb hok
 have hTL:=hl
 rw[hl]
 clear hok hv hF ha
 go_enter Tryz.func16,Tryz.ntmps16
 go_wp2_with fail
 refine(HB.out _).mono ?_
 rintro e w1 ⟨b,gn,cn,rfl,hb,hM1,hb1⟩
 have HM1:=zb hM1
 have HB1:=zb hb1
 clear hM1 hb1 HB
 go_wp2_with fail
 go_loopg [8,9] ls.length (fun g vo vi wr=>RnRel w F ls b gn cn g vo vi wr)
 case atStart=>exact⟨0,none,0,[],zZ _,by omega,rfl,HM1.out,rfl,by simp[q0P],zW _ _ _ _,HB1.out⟩
 case round =>
  obtain⟨k,ao,cap,PL,hk,hg,rfl,hM,hP,hq,hO,hbr⟩:=hrel
  have HG:=zb hg
  have HM:=zb hM
  have HP:=zb hP
  have HQ:=zb hq
  have HO:=zb hO
  have HBR:=zb hbr
  clear hg hM hP hq hO hbr HM1 HB1
  by_cases hkn:k<ls.length
  ·have hrow:=zp HV.out HBR.out
   obtain⟨g,c,ea⟩:=zJ hrow (by omega)
   obtain⟨rfl,rfl⟩:va=some ⟨g,0,none⟩∧vc=c:=by simpa using ea
   have c3:=hrow.cells (g:=g) rfl (k*4+3) _ ((j5z TX k (by omega) 3 (by omega)).trans rfl)
   rw[q4x,Nat.zero_add]at c3
   have hgl:=World.block_lt_of_cell? wr _ c3
   have hroom:TX.length≤vc:=by
    rcases hrow.2 with⟨h1,h2⟩|⟨g',cap',cur,h1,h2,h3,h4⟩
    ·omega
    ·simp only[Value.slice.injEq]at h1
     omega
   have HF1:=zb (HFD.out wr b gn cn ao cap PL k hkn HM.out HP.out)
   generalize hTX:(TX[k]'(by omega)).2.2.2=tx at *
   clear hrow ea HFD
   have HB0:=zb hb
   have ht1:(qI F (qa ls) 0 (qp (qa (ls.take k)) (zf F))).length+(qI F (qa ls) (qp (qa (ls.take k)) (zf F)) (qp (qa (ls.take (k+1))) (zf F))).length≤1000:=by
    have q1:=q3t (qa (ls.take k)) (zf F)
    have q2:=q3t (qa (ls.take (k+1))) (zf F)
    rw[q2o,List.length_take]at q1 q2
    rw[q0q,q0q]
    omega
   have hjn:qI F (qa ls) 0 (qp (qa (ls.take k)) (zf F))++qI F (qa ls) (qp (qa (ls.take k)) (zf F)) (qp (qa (ls.take (k+1))) (zf F))=qI F (qa ls) 0 (qp (qa (ls.take (k+1))) (zf F)):=by
    refine j3p _ _ _ _ _ (zZ _) ?_
    have:=q7N (q7A (ls.take k)) ls[k] (zf F)
    rw[←q3H ls k hkn]at this
    exact this
   have HJN:=zb hjn
   have HT1:=zb ht1
   clear hjn ht1 hb
   obtain⟨oa,oc,rfl⟩:=qn HO.out
   generalize qI F (qa ls) 0 (qp (qa (ls.take k)) (zf F))=X at *
   generalize qI F (qa ls) (qp (qa (ls.take k)) (zf F)) (qp (qa (ls.take (k+1))) (zf F))=Y at *
   go_wp2_with fail
   refine HF1.out.mono ?_
   rintro e w2 ⟨v2,rfl,hv2,ao',cap',PL',m1,m2,m3,m4⟩
   obtain⟨la,lc,rfl⟩:=qn hv2
   have hO2:=j6j HM.out m3 HO.out
   have hB2:Below w.heap.size w w2:=HBR.out.trans (m3.below HBR.out.size (fun q hq=>by
    rcases List.mem_cons.1 hq with rfl|h
    ·exact HB0.out
    ·exact HQ.out q h))
   have HV2:=zb hv2
   have HO2:=zb hO2
   have HB2:=zb hB2
   have HM2:=zb m1
   have HP2:=zb m2
   have HQ2:Hid (∀q∈q0P ao',w.heap.size≤q):=zb (fun q hq=>by
    rcases m4 q hq with h|h
    ·exact HQ.out q h
    ·have:=HBR.out.size;omega)
   clear hv2 hO2 hB2 m1 m2 m3 m4 HF1 c3
   go_wp2_with (at_builtin;refine j4w rfl (.tmp 45) (.tmp 46) rfl w2 (.slice oa X.length oc) (.slice la Y.length lc) X Y rfl rfl w.heap.size wr.heap.size HO2.out HV2.out HT1.out HB2.out.size ?_;intro v3 w3 o3 n3)
   rw[HJN.out]at o3
   have hM3:=HM2.out.keepV n3 (kv_row HO2.out)
   have hB3:Below w.heap.size w w3:=HB2.out.trans (n3.below HB2.out.size (j0L HO2.out))
   have HO3:=zb o3
   have HM3:=zb hM3
   have HB3:=zb hB3
   clear o3 n3 hM3 hB3
   go_wp2_with fail
   have hg1:0<gk:=by have:=HG.out;omega
   go_roundg (gk-1)
   case measure=>omega
   case rel=>exact⟨k+1,ao',cap',PL',by omega,by have:=HG.out;omega,by go_num,HM3.out,HP2.out,HQ2.out,HO3.out,HB3.out⟩
  ·have hke:k=ls.length:=by omega
   subst hke
   rw[List.take_length]at HM HP HO
   have HB0:=zb hb
   have hsl:=q3t (qa ls) (zf F)
   rw[q2o]at hsl
   have HE:=zb (HED.out b gn cn ao cap PL _ wr HM.out)
   unfold endV endE at HE
   simp only[Bool.false_eq_true,if_false]at HE
   rw[HP.out,q2o]at HE
   have ht1:(qI F (qa ls) 0 (qp (qa ls) (zf F))).length+(qI F (qa ls) (qp (qa ls) (zf F)) ls.length).length≤1000:=by
    rw[q0q,q0q]
    omega
   have hjn:qI F (qa ls) 0 (qp (qa ls) (zf F))++qI F (qa ls) (qp (qa ls) (zf F)) ls.length=qI F (qa ls) 0 ls.length:=j3p _ _ _ _ _ (zZ _) hsl
   have hlen:(qI F (qa ls) 0 ls.length).length=ls.length:=by rw[q0q];omega
   have HJN:=zb hjn
   have HT1:=zb ht1
   have HLN:=zb hlen
   clear hjn ht1 hlen hb HFD HED
   obtain⟨oa,oc,rfl⟩:=qn HO.out
   generalize qI F (qa ls) 0 (qp (qa ls) (zf F))=X at *
   generalize qI F (qa ls) (qp (qa ls) (zf F)) ls.length=Y at *
   go_wp2_with fail
   refine HE.out.mono ?_
   rintro e w2 ⟨v2,rfl,hv2,ao',cap',PL',m1,m2,m3,m4⟩
   obtain⟨la,lc,rfl⟩:=qn hv2
   have hO2:=j6j HM.out m3 HO.out
   have hB2:Below w.heap.size w w2:=HBR.out.trans (m3.below HBR.out.size (fun q hq=>by
    rcases List.mem_cons.1 hq with rfl|h
    ·exact HB0.out
    ·exact HQ.out q h))
   have HV2:=zb hv2
   have HO2:=zb hO2
   have HB2:=zb hB2
   clear hv2 hO2 hB2 m1 m2 m3 m4 HE
   go_wp2_with (at_builtin;refine j4w rfl (.tmp 53) (.tmp 54) rfl w2 (.slice oa X.length oc) (.slice la Y.length lc) X Y rfl rfl w.heap.size wr.heap.size HO2.out HV2.out HT1.out HB2.out.size ?_;intro v3 w3 o3 n3;rw[HJN.out,HLN.out]at o3;obtain⟨za,zc,rfl⟩:=qn o3)
   have hB3:Below w.heap.size w w3:=HB2.out.trans (n3.below HB2.out.size (j0L HO2.out))
   have HO3:=zb o3
   have HB3:=zb hB3
   clear o3 n3 hB3
   go_wp2_with fail
   go_ret2
   exact⟨.slice za ls.length zc,rfl,HO3.out,HB3.out⟩
theorem j1d {P:Program}{oi:Oper}{a:Act}{w:World}(ty:TypeId)(x:Operand)(ho:oi.op=.load ty x)(ad:Addr)(v:Value)(hx:a.eval x=.pointer (some ad))(hr:(Instr.loadAt ty (.pointer (some ad))).run P w=.ok v w):(execOp a.eval oi).run P w=.ok (.value v) w:=by
 unfold execOp
 simp only[ho,hx,hr,Sem.run_bind,Sem.run_pure,Result.andThen_ok]
theorem j2m (l:List Ver):∀(k:Nat) (h:k<l.length) (j:Nat),j<12→(zV l)[k*12+j]?=(q3O l[k])[j]?:=by
 induction l with
 |nil=>intro k h;simp at h
 |cons a r ih =>
  intro k h j hj
  have e:zV (a::r)=q3O a++zV r:=rfl
  rw[e]
  cases k with
  |zero=>rw[Nat.zero_mul,Nat.zero_add,List.getElem?_append_left (by simpa using hj)];rfl
  |succ k =>
   rw[List.getElem?_append_right (by simp;omega)]
   have:=ih k (by simpa using h) j hj
   rw[show(k+1)*12+j-(q3O a).length=k*12+j by simp;omega,this]
   rfl
end Go.Proofs.YtiamjjonoeaggabGreatDoor
