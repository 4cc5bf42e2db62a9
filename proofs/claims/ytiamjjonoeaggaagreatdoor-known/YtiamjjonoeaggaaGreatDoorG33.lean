import Derived.Test.YtiamjjonoeaggaaGreatDoorGA
import Derived.Test.YtiamjjonoeaggaaGreatDoorGB
import Derived.Test.YtiamjjonoeaggaaGreatDoorG00
import Derived.Test.YtiamjjonoeaggaaGreatDoorG06
import Derived.Test.YtiamjjonoeaggaaGreatDoorG26
import Derived.Test.YtiamjjonoeaggaaGreatDoorG29
import Derived.Test.YtiamjjonoeaggaaGreatDoorG30
import Derived.Test.YtiamjjonoeaggaaGreatDoorG31
import Derived.Test.YtiamjjonoeaggaaGreatDoorG32
import Derived.Laws.AppendOwn
import Derived.Laws.AppendOwnNone
set_option maxRecDepth 100000
set_option maxHeartbeats 16000000
namespace Go.Proofs.YtiamjjonoeaggaaGreatDoor
open Go.RowKit
theorem ver_ones (l:List Ver):∀u∈qn l,u.oneCell'=true:=by
 intro u hu
 simp only[qn,List.mem_flatMap]at hu
 obtain⟨v,_,hu⟩:=hu
 simp only[j0g,List.mem_cons,List.not_mem_nil,or_false]at hu
 rcases hu with rfl|rfl|rfl|rfl|rfl|rfl|rfl|rfl|rfl|rfl|rfl|rfl<;>rfl
theorem ver_len (l:List Ver):(qn l).length=l.length*12:=by
 induction l with
 |nil=>rfl
 |cons a r ih =>
  have e:qn (a::r)=j0g a++qn r:=rfl
  rw[e,List.length_append,ih]
  simp
  omega
theorem j8u {ops:Array Oper}{rest:List Oper}{o:Oper}{a:Act}{Q:Exit→Act→World→Prop}(hgd:o.guard=none)(x y:Operand)
  (ho:o.op=.call {callee:=.builtin .append,args:=#[x,y],argTypes:=#[38,38]})(W:World)(vx vy:Value)(X Y:List Ver)(hx:a.eval x=vx)(hy:a.eval y=vy)(base base':Nat)
  (hX:W.ownsRow base 49 12 vx X.length (qn X))(hY:W.ownsRow base' 49 12 vy Y.length (qn Y))(hn:X.length+Y.length≤1000)(hb:base≤W.heap.size)
  (h:∀v' w1,w1.ownsRow base 49 12 v' (X++Y).length (qn (X++Y))→OnlyB vx.ownBlock.toList W w1→wpList Tryz.prog ops Q rest (a.put o.dst v') w1):wpList Tryz.prog ops Q (o::rest) a W:=by
 obtain⟨i,hi,hz0,hz1,hz2⟩:=info_parts j4Z
 rcases hY.2 with⟨h1,h2⟩|⟨g,cap,cur,e,h2,h3,h4⟩
 ·have hY0:Y=[]:=List.length_eq_zero_iff.1 h2
  subst hY0
  rw[h1]at hy
  refine wpList_append_own_none hgd x y 38 ho base 49 i 12 Tryz.underlying38 hi vx X.length (qn X) hx hX hy ?_
  exact h vx W (by rw[List.append_nil];exact hX) (OnlyB.refl _ _)
 ·subst e
  refine wpList_append_own W hgd x y 38 ho base 49 i _ 12 32 Tryz.underlying38 hi hz0 hz1 hz2 rfl (by decide) vx X.length (qn X) hx hX ⟨g,0,none⟩ Y.length cap (qn Y) hy (ver_len Y) (hY.cells rfl) (ver_ones Y) (by unfold maxLen;omega) (by omega) hb ?_
  intro v' w' own gr _
  refine h v' w' (by rw[List.length_append,q6x];exact own) ⟨gr.os,gr.tape,gr.output,gr.size,fun k hk hn=>gr.block k hk (fun e=>hn (by rw[←e];simp))⟩
def KV (bl:List Nat)(w:World):Prop:=∀k∈bl,∃cs,w.heap[k]?=some (.cells cs 49 (0,0))
theorem kv_row {w:World}{base:Nat}{size:Nat}{v:Value}{n:Nat}{xs:List Value}(h:w.ownsRow base 49 size v n xs):KV v.ownBlock.toList w:=by
 intro k hk
 rcases h.2 with⟨h1,_⟩|⟨g,cap,cur,rfl,_,h3,_⟩
 ·rw[h1]at hk;simp[Value.ownBlock]at hk
 ·simp[Value.ownBlock]at hk
  subst hk
  exact⟨_,h3⟩
theorem j3G {w:World}{base:Nat}{e:TypeId}{size:Nat}{v:Value}{n:Nat}{xs:List Value}(h:w.ownsRow base e size v n xs):∀k∈v.ownBlock.toList,base≤k:=by
 intro k hk
 rcases h.2 with⟨h1,_⟩|⟨g,cap,cur,rfl,h2,_,_⟩
 ·rw[h1]at hk;simp[Value.ownBlock]at hk
 ·simp[Value.ownBlock]at hk
  subst hk
  exact h2
theorem q9K {w w':World}{bl:List Nat}{base:Nat}{e:TypeId}{size:Nat}{v:Value}{n:Nat}{xs:List Value}(h:w.ownsRow base e size v n xs)(ho:OnlyB bl w w')(hk:KV bl w)(h1:e≠49):w'.ownsRow base e size v n xs:=
 q8T h ho (fun k hv hm=>by
  obtain⟨cs,hc⟩:=hk k hm
  exact q8f hc h (Ne.symm h1) hv.symm)
theorem MonAt.keepV {w w':World}{b gn cn:Nat}{ao:OA}{cap:Nat}{F:zh}{PL:List PPt}{told:Nat}{ended:Bool}{bl:List Nat}(h:MonAt w b gn cn ao cap F PL told ended)(ho:OnlyB bl w w')(hk:KV bl w):MonAt w' b gn cn ao cap F PL told ended:=by
 have hb:b∉bl:=fun hm=>by
  obtain⟨cs,hc⟩:=hk b hm
  rw[h.blk]at hc
  simp at hc
 refine⟨(ho.block b h.lt hb).trans h.blk,q9K h.nodes ho hk (by decide),?_,fun p hp=>⟨q9K (h.haps p hp).1 ho hk (by decide),(h.haps p hp).2⟩,h.few⟩
 exact⟨by rw[ho.cell h.lt hb];exact h.log.cell,zT h.lt ho.size,q9K h.log.row ho hk (by decide),h.log.small,h.log.times⟩
theorem j2R {L:List LPt}(h:LogOk L)(a:Lin)(rc:Int):q0u L rc≤q0u (q2G L a) rc:=by
 have h2:LogOk (q2G L a):=h.add a.1 a.2
 have hlen:(q2G L a).length=L.length+1:=by simp[q2G]
 have hap:∀i,i<L.length→tmL (q2G L a) i=tmL L i:=fun i hi=>q3N hi
 generalize q2G L a=L2 at *
 have hle:=q5O L rc
 rcases Nat.eq_zero_or_pos (q0u L rc)with g|g
 ·omega
 ·have hi:q0u L rc-1<L.length:=by omega
  have e1:=(j3V h.mono rc hi).2 (by omega)
  have hm:=h2.mono (L.length-1) L.length (by omega) (by omega)
  rw[hap _ (by omega)]at hm
  have e2:rc<(tmL L2 (L2.length-1):Int)-(tmL L2 (q0u L rc-1):Int):=by
   rw[hap _ hi,show L2.length-1=L.length by omega]
   omega
  have e3:=(j3V h2.mono rc (c:=q0u L rc-1) (by omega)).1 e2
  omega
theorem mon_new {w w1:World}{s:By}{b:Nat}{nv:Value}(h:(qe s).1=0)
  (e1:w1.heap[b]?=some (.cells (j2A nv (q3R s).x (q3R s).y (q3R s).reach (.slice none 0 0) 0 false) 89 (0,0)))(e2:w1.ownsRow w.heap.size 168 22 nv (zu (qK s)) (qr (q0l (qK s) 0))) :
  ∃gn cn,MonAt w1 b gn cn none 0 (qK s) [] 0 false:=by
 obtain⟨g1,_,g4⟩:=j3t h
 have hpos:0<zu (qK s):=(q3A g1.nn).2
 obtain⟨gn,cn,rfl⟩:=zJ e2 hpos
 rw[g4]at e1
 refine⟨gn,cn,e1,j5w (zZ _) e2,?_,fun p hp=>by simp at hp,zL _⟩
 refine⟨?_,zd e1,zW _ _ _ _,by simp,by intro p hp;simp at hp⟩
 rw[zC _ _ 4 _ _ _ e1]
 rfl
theorem j9c (s:By)(hs:(qe s).1=0)(hs64:s.length≤maxLen)(w:World) :
  Calls Tryz.prog 14 #[bs s] w fun e w'=>∃b gn cn,e=.returned (.tuple #[.pointer (some ⟨b,0,none⟩),.bool true])∧w.heap.size≤b∧MonAt w' b gn cn none 0 (qK s) [] 0 false∧Below w.heap.size w w':=by
 have HN:Hid (Calls Tryz.prog 37 #[bs s] w fun e w'=>∃b gn cn,e=.returned (.tuple #[.pointer (some ⟨b,0,none⟩),.int .i64 0,.int .i64 0])∧w.heap.size≤b∧MonAt w' b gn cn none 0 (qK s) [] 0 false∧Below w.heap.size w w'):=zb (by
  refine(j6r s hs64 w).mono ?_
  rintro e w' ⟨p,rfl,_,h2,h3⟩
  obtain⟨b,nv,rfl,hb,e1,e2⟩:=h2 hs
  obtain⟨gn,cn,hM⟩:=mon_new (w:=w) hs e1 e2
  exact⟨b,gn,cn,by rw[hs,q5i hs],hb,hM,h3⟩)
 go_enter Tryz.func14,Tryz.ntmps14
 go_wp2_with fail
 refine HN.out.mono ?_
 rintro e w1 ⟨b,gn,cn,rfl,h1,h2,h3⟩
 have H2:=zb h2
 have H3:=zb h3
 clear h2 h3 HN
 go_wp2_with fail
 go_ret2
 exact⟨b,gn,cn,rfl,h1,H2.out,H3.out⟩
abbrev LnV:=Nat × Nat × By × By
abbrev lnCs (l:LnV):List Value:=[.int .u16 l.1,.int .i64 l.2.1,bs l.2.2.1,bs l.2.2.2]
def q1U (l:List LnV):List Value:=l.flatMap lnCs
theorem ln_at (l:List LnV):∀(k:Nat) (h:k<l.length) (j:Nat),j<4→(q1U l)[k*4+j]?=(lnCs l[k])[j]?:=by
 induction l with
 |nil=>intro k h;simp at h
 |cons a r ih =>
  intro k h j hj
  have e:q1U (a::r)=lnCs a++q1U r:=rfl
  rw[e]
  cases k with
  |zero=>rw[Nat.zero_mul,Nat.zero_add,List.getElem?_append_left (by simpa using hj)];rfl
  |succ k =>
   rw[List.getElem?_append_right (by simp;omega)]
   have:=ih k (by simpa using h) j hj
   rw[show(k+1)*4+j-(lnCs a).length=k*4+j by simp;omega,this]
   rfl
theorem run_feed {wr:World}{F:zh}(hF:FormGood F)(ha:q2B F=true){ls:List Lin}{b gn cn:Nat}{ao:OA}{cap:Nat}{PL:List PPt}{k:Nat}(hk:k<ls.length){s:By}(hok:LinOk (q0A (ls.take k)) s ls[k])(hM:MonAt wr b gn cn ao cap F PL (q0u (q0A (ls.take k)) (zf F)) false)(hP:zA PL=q0A (ls.take k)) :
  Calls Tryz.prog 16 #[.pointer (some ⟨b,0,none⟩),bs s] wr fun e w'=>∃v,e=.returned (.tuple #[v,.int .i64 0,.int .i64 0]) ∧
   w'.ownsRow wr.heap.size 49 12 v (q0D F (q0A ls) (q0u (q0A (ls.take k)) (zf F)) (q0u (q0A (ls.take (k+1))) (zf F))).length (qn (q0D F (q0A ls) (q0u (q0A (ls.take k)) (zf F)) (q0u (q0A (ls.take (k+1))) (zf F)))) ∧
   ∃ao' cap' PL',MonAt w' b gn cn ao' cap' F PL' (q0u (q0A (ls.take (k+1))) (zf F)) false∧zA PL'=q0A (ls.take (k+1))∧OnlyB (b::q1Z ao) wr w'∧∀q∈q1Z ao',q∈q1Z ao∨wr.heap.size≤q:=by
 have hlen:=hok.len
 refine(vig_Feed b gn cn ao cap F hF PL (q0u (q0A (ls.take k)) (zf F)) false s (by unfold maxLen;omega) wr hM).mono ?_
 rintro e w' ⟨v,rfl,h2,ao',cap',PL',h3,h4,h5,h6⟩
 rw[hP]at h2 h3 h4 ⊢
 obtain⟨f1,f2,f3,f4⟩:=feed_ok hok F (q0u (q0A (ls.take k)) (zf F))
 rw[f1]
 rw[f2]at h4
 rw[f3]at h3
 rw[f4]at h2
 rw[←q9v ls k hk]at h2 h3 h4
 have hmo:=j2R (j3I (ls.take k)) ls[k] (zf F)
 rw[←q9v ls k hk]at hmo
 rw[Nat.max_eq_right hmo]at h3
 obtain⟨M,hM2⟩:=logF_pre ls (k+1)
 have hext:=tell_ext hF.ok ha (L:=q0A (ls.take (k+1))) (M:=M) (by rw[←hM2];exact(j3I ls).mono) (q0u (q0A (ls.take k)) (zf F)) _ (zL _)
 rw[←hM2]at hext
 rw[hext]at h2
 exact⟨v,rfl,h2,ao',cap',PL',h3,h4,h5,h6⟩
def RnRel (w:World)(F:zh)(ls:List Lin)(b gn cn:Nat)(g:Nat)(vo vi:Value)(wr:World):Prop:=
 ∃(k:Nat) (ao:OA) (cap:Nat) (PL:List PPt),k≤ls.length∧ls.length-k≤g∧vi=.int .i64 k∧MonAt wr b gn cn ao cap F PL (q0u (q0A (ls.take k)) (zf F)) false∧zA PL=q0A (ls.take k)∧(∀q∈q1Z ao,w.heap.size≤q) ∧
  wr.ownsRow w.heap.size 49 12 vo (q0D F (q0A ls) 0 (q0u (q0A (ls.take k)) (zf F))).length (qn (q0D F (q0A ls) 0 (q0u (q0A (ls.take k)) (zf F))))∧Below w.heap.size w wr
theorem j5Y {wr w':World}{b gn cn:Nat}{ao:OA}{cap:Nat}{F:zh}{PL:List PPt}{told:Nat}{base:Nat}{v:Value}{X:List Ver}(hM:MonAt wr b gn cn ao cap F PL told false)(ho:OnlyB (b::q1Z ao) wr w')(hX:wr.ownsRow base 49 12 v X.length (qn X)):w'.ownsRow base 49 12 v X.length (qn X):=
 q6V hX ho hM.kinds (by decide) (by decide)
theorem kep_run (s:By)(hs:(qe s).1=0)(hs64:s.length≤maxLen)(TX:List LnV)(ls:List Lin)(hl:TX.length=ls.length)(hok:∀k (h:k<ls.length),LinOk (q0A (ls.take k)) (TX[k]'(by omega)).2.2.2 ls[k])(hn:ls.length≤40)(base:Nat)(v:Value)(w:World)(hv:w.ownsRow base 44 4 v TX.length (q1U TX)) :
  Calls Tryz.prog 24 #[bs s,v] w fun e w'=>∃u,e=.returned (.tuple #[u,.bool true])∧w'.ownsRow w.heap.size 49 12 u ls.length (qn (q0D (qK s) (q0A ls) 0 ls.length))∧Below w.heap.size w w':=by
 obtain⟨hF,ha,_⟩:=j3t hs
 have HB:=zb (j9c s hs hs64)
 have HFD:=zb (fun wr b gn cn ao cap PL k hk hM hP=>run_feed (wr:=wr) (b:=b) (gn:=gn) (cn:=cn) (ao:=ao) (cap:=cap) (PL:=PL) hF ha (k:=k) hk (hok k hk) hM hP)
 have HED:=zb (fun b gn cn ao cap PL told W h=>vig_End b gn cn ao cap (qK s) hF PL told false W h)
 generalize qK s=F at *
 obtain⟨va,vc,rfl⟩:=ql hv
 have HV:=zb hv
 have HOK:=zb hok
 have hTL:=hl
 rw[hl]
 clear hok hv hF ha
 go_enter Tryz.func24,Tryz.ntmps24
 go_wp2_with fail
 refine(HB.out _).mono ?_
 rintro e w1 ⟨b,gn,cn,rfl,hb,hM1,hb1⟩
 have HM1:=zb hM1
 have HB1:=zb hb1
 clear hM1 hb1 HB
 go_wp2_with fail
 go_loopg [8,9] ls.length (fun g vo vi wr=>RnRel w F ls b gn cn g vo vi wr)
 case atStart=>exact⟨0,none,0,[],zZ _,by omega,rfl,HM1.out,rfl,by simp[q1Z],zW _ _ _ _,HB1.out⟩
 case round =>
  obtain⟨k,ao,cap,PL,hk,hg,rfl,hM,hP,hq,hO,hbr⟩:=hrel
  have HG:=zb hg
  have HM:=zb hM
  have HP:=zb hP
  have HQ:=zb hq
  have HO:=zb hO
  have HBR:=zb hbr
  clear hg hM hP hq hO hbr HM1 HB1
  by_cases hkn:k<ls.length
  ·have hrow:=zo HV.out HBR.out
   obtain⟨g,c,ea⟩:=zJ hrow (by omega)
   obtain⟨rfl,rfl⟩:va=some ⟨g,0,none⟩∧vc=c:=by simpa using ea
   have c3:=hrow.cells (g:=g) rfl (k*4+3) _ ((ln_at TX k (by omega) 3 (by omega)).trans rfl)
   rw[q4l,Nat.zero_add]at c3
   have hgl:=World.block_lt_of_cell? wr _ c3
   have hroom:TX.length≤vc:=by
    rcases hrow.2 with⟨h1,h2⟩|⟨g',cap',cur,h1,h2,h3,h4⟩
    ·omega
    ·simp only[Value.slice.injEq]at h1
     omega
   have HF1:=zb (HFD.out wr b gn cn ao cap PL k hkn HM.out HP.out)
   generalize hTX:(TX[k]'(by omega)).2.2.2=tx at *
   clear hrow ea HFD
   have HB0:=zb hb
   have ht1:(q0D F (q0A ls) 0 (q0u (q0A (ls.take k)) (zf F))).length+(q0D F (q0A ls) (q0u (q0A (ls.take k)) (zf F)) (q0u (q0A (ls.take (k+1))) (zf F))).length≤1000:=by
    have q1:=q5O (q0A (ls.take k)) (zf F)
    have q2:=q5O (q0A (ls.take (k+1))) (zf F)
    rw[q8G,List.length_take]at q1 q2
    rw[q1W,q1W]
    omega
   have hjn:q0D F (q0A ls) 0 (q0u (q0A (ls.take k)) (zf F))++q0D F (q0A ls) (q0u (q0A (ls.take k)) (zf F)) (q0u (q0A (ls.take (k+1))) (zf F))=q0D F (q0A ls) 0 (q0u (q0A (ls.take (k+1))) (zf F)):=by
    refine j3c _ _ _ _ _ (zZ _) ?_
    have:=j2R (j3I (ls.take k)) ls[k] (zf F)
    rw[←q9v ls k hkn]at this
    exact this
   have HJN:=zb hjn
   have HT1:=zb ht1
   clear hjn ht1 hb
   obtain⟨oa,oc,rfl⟩:=ql HO.out
   generalize q0D F (q0A ls) 0 (q0u (q0A (ls.take k)) (zf F))=X at *
   generalize q0D F (q0A ls) (q0u (q0A (ls.take k)) (zf F)) (q0u (q0A (ls.take (k+1))) (zf F))=Y at *
   go_wp2_with fail
   refine HF1.out.mono ?_
   rintro e w2 ⟨v2,rfl,hv2,ao',cap',PL',m1,m2,m3,m4⟩
   obtain⟨la,lc,rfl⟩:=ql hv2
   have hO2:=j5Y HM.out m3 HO.out
   have hB2:Below w.heap.size w w2:=HBR.out.trans (m3.below HBR.out.size (fun q hq=>by
    rcases List.mem_cons.1 hq with rfl|h
    ·exact HB0.out
    ·exact HQ.out q h))
   have HV2:=zb hv2
   have HO2:=zb hO2
   have HB2:=zb hB2
   have HM2:=zb m1
   have HP2:=zb m2
   have HQ2:Hid (∀q∈q1Z ao',w.heap.size≤q):=zb (fun q hq=>by
    rcases m4 q hq with h|h
    ·exact HQ.out q h
    ·have:=HBR.out.size;omega)
   clear hv2 hO2 hB2 m1 m2 m3 m4 HF1 c3
   go_wp2_with (at_builtin;refine j8u rfl (.tmp 45) (.tmp 46) rfl w2 (.slice oa X.length oc) (.slice la Y.length lc) X Y rfl rfl w.heap.size wr.heap.size HO2.out HV2.out HT1.out HB2.out.size ?_;intro v3 w3 o3 n3)
   rw[HJN.out]at o3
   have hM3:=HM2.out.keepV n3 (kv_row HO2.out)
   have hB3:Below w.heap.size w w3:=HB2.out.trans (n3.below HB2.out.size (j3G HO2.out))
   have HO3:=zb o3
   have HM3:=zb hM3
   have HB3:=zb hB3
   clear o3 n3 hM3 hB3
   go_wp2_with fail
   have hg1:0<gk:=by have:=HG.out;omega
   go_roundg (gk-1)
   case measure=>omega
   case rel=>exact⟨k+1,ao',cap',PL',by omega,by have:=HG.out;omega,by go_num,HM3.out,HP2.out,HQ2.out,HO3.out,HB3.out⟩
  ·have hke:k=ls.length:=by omega
   subst hke
   rw[List.take_length]at HM HP HO
   have HB0:=zb hb
   have hsl:=q5O (q0A ls) (zf F)
   rw[q8G]at hsl
   have HE:=zb (HED.out b gn cn ao cap PL _ wr HM.out)
   unfold endV endE at HE
   simp only[Bool.false_eq_true,if_false]at HE
   rw[HP.out,q8G]at HE
   have ht1:(q0D F (q0A ls) 0 (q0u (q0A ls) (zf F))).length+(q0D F (q0A ls) (q0u (q0A ls) (zf F)) ls.length).length≤1000:=by
    rw[q1W,q1W]
    omega
   have hjn:q0D F (q0A ls) 0 (q0u (q0A ls) (zf F))++q0D F (q0A ls) (q0u (q0A ls) (zf F)) ls.length=q0D F (q0A ls) 0 ls.length:=j3c _ _ _ _ _ (zZ _) hsl
   have hlen:(q0D F (q0A ls) 0 ls.length).length=ls.length:=by rw[q1W];omega
   have HJN:=zb hjn
   have HT1:=zb ht1
   have HLN:=zb hlen
   clear hjn ht1 hlen hb HFD HED
   obtain⟨oa,oc,rfl⟩:=ql HO.out
   generalize q0D F (q0A ls) 0 (q0u (q0A ls) (zf F))=X at *
   generalize q0D F (q0A ls) (q0u (q0A ls) (zf F)) ls.length=Y at *
   go_wp2_with fail
   refine HE.out.mono ?_
   rintro e w2 ⟨v2,rfl,hv2,ao',cap',PL',m1,m2,m3,m4⟩
   obtain⟨la,lc,rfl⟩:=ql hv2
   have hO2:=j5Y HM.out m3 HO.out
   have hB2:Below w.heap.size w w2:=HBR.out.trans (m3.below HBR.out.size (fun q hq=>by
    rcases List.mem_cons.1 hq with rfl|h
    ·exact HB0.out
    ·exact HQ.out q h))
   have HV2:=zb hv2
   have HO2:=zb hO2
   have HB2:=zb hB2
   clear hv2 hO2 hB2 m1 m2 m3 m4 HE
   go_wp2_with (at_builtin;refine j8u rfl (.tmp 53) (.tmp 54) rfl w2 (.slice oa X.length oc) (.slice la Y.length lc) X Y rfl rfl w.heap.size wr.heap.size HO2.out HV2.out HT1.out HB2.out.size ?_;intro v3 w3 o3 n3;rw[HJN.out,HLN.out]at o3;obtain⟨za,zc,rfl⟩:=ql o3)
   have hB3:Below w.heap.size w w3:=HB2.out.trans (n3.below HB2.out.size (j3G HO2.out))
   have HO3:=zb o3
   have HB3:=zb hB3
   clear o3 n3 hB3
   go_wp2_with fail
   go_ret2
   exact⟨.slice za ls.length zc,rfl,HO3.out,HB3.out⟩
def bitsK (s:By):Nat→Nat→List (Bool × Bool) × Nat
 | 0,i=>([],i)
 |n+1,i=>((decide ((zk s i 2).1=1),decide ((zk s (zk s i 2).2 3).1=1))::(bitsK s n (zk s (zk s i 2).2 3).2).1,(bitsK s n (zk s (zk s i 2).2 3).2).2)
theorem bitsK_len (s:By):∀n i,(bitsK s n i).1.length=n:=by
 intro n
 induction n with
 |zero=>intro i;rfl
 |succ n ih=>intro i;simp[bitsK,ih]
def btH (v:Nat):List (Bool × Bool)→List Hp
 | []=>[]
 |pq::r=>((if pq.1 then [⟨[112],[v]⟩]else [])++(if pq.2 then [⟨[113],[v]⟩]else []))++btH (v+1) r
theorem btH_ok:∀(l:List (Bool × Bool)) (v:Nat),v+l.length≤10→(∀h∈btH v l,HpL h)∧(btH v l).length≤2*l.length:=by
 intro l
 induction l with
 |nil=>intro v _;exact⟨fun h hh=>by simp[btH]at hh,zL _⟩
 |cons pq r ih =>
  intro v hv
  simp only[List.length_cons]at hv
  obtain⟨h1,h2⟩:=ih (v+1) (by omega)
  have hp:HpL ⟨[112],[v]⟩:=⟨⟨112,rfl,by decide⟩,v,by omega,.inl rfl⟩
  have hq:HpL ⟨[113],[v]⟩:=⟨⟨113,rfl,by decide⟩,v,by omega,.inl rfl⟩
  obtain⟨p,q⟩:=pq
  constructor
  ·intro h hh
   simp only[btH,List.mem_append]at hh
   rcases hh with(hh|hh)|hh
   ·cases p
    ·simp at hh
    ·simp at hh;rw[hh];exact hp
   ·cases q
    ·simp at hh
    ·simp at hh;rw[hh];exact hq
   ·exact h1 h hh
  ·simp only[btH,List.length_append,List.length_cons]
   cases p<;>cases q<;>simp<;>omega
structure Bt where
 time:Nat
 bits:List (Bool × Bool)
def btsK (s:By):Nat→Nat→Nat→List Bt
 | 0,_,_=>[]
 |n+1,i,t=>⟨t+(zk s i 4).1,(bitsK s 4 (zk s i 4).2).1⟩::btsK s n (bitsK s 4 (zk s i 4).2).2 (t+(zk s i 4).1)
def beatsK (s:By):List Bt:=btsK s (zk s 0 11).1 (zk s 0 11).2 0
theorem bts_len (s:By):∀n i t,(btsK s n i t).length=n:=by
 intro n
 induction n with
 |zero=>intros;rfl
 |succ n ih=>intro i t;simp[btsK,ih]
theorem beats_len (s:By):(beatsK s).length≤10:=by
 unfold beatsK
 rw[bts_len]
 have:=qj s 0 (n:=11) (by omega)
 omega
def BtOk:Nat→List Bt→Prop
 |_,[]=>True
 |t,b::r=>t≤b.time∧b.time≤t+3∧b.bits.length=4∧BtOk b.time r
theorem bts_ok (s:By):∀n i t,BtOk t (btsK s n i t):=by
 intro n
 induction n with
 |zero=>intros;exact trivial
 |succ n ih =>
  intro i t
  have:=qj s i (n:=4) (by omega)
  exact⟨by simp only[];omega,by simp only[];omega,bitsK_len s 4 _,ih _ _⟩
def linB (b:Bt):Lin:=(b.time,btH 0 b.bits)
def txB (b:Bt):LnV:=(b.time,b.time,[],q1Q b.time (btH 0 b.bits))
theorem line_len8 (st:Nat)(l:List Hp)(hst:st≤65535)(hh:∀h∈l,HpL h)(hl:l.length≤8):(q1Q st l).length≤80:=by
 have hlen:=q7f hst
 have hq:=q2t l hh
 simp only[q1Q,List.length_cons,List.length_append]
 omega
theorem bt_chain:∀(X:List Bt) (k t t0:Nat) (L:List LPt),BtOk t X→LogOk L→L.length=k→t≤1000-3*X.length→3*X.length≤1000→(0<k→q4C L (k-1)=t∧tmL L (k-1)=t-t0∧t0≤t)→k+X.length≤40 →
  (∀j (h:j<X.length),LinOk (((X.take j).map linB).foldl q2G L) (q1Q X[j].time (btH 0 X[j].bits)) (linB X[j])) ∧
  ((0<k∨∀h:0<X.length,t0=X[0].time)→∀j (h:j<X.length),tmL ((X.map linB).foldl q2G L) (k+j)=X[j].time-t0∧q5n ((X.map linB).foldl q2G L) (k+j)=btH 0 X[j].bits∧t0≤X[j].time):=by
 intro X
 induction X with
 |nil=>intro k t t0 L _ _ _ _ _ _ _;exact⟨fun j h=>by simp at h,fun _ j h=>by simp at h⟩
 |cons x r ih =>
  intro k t t0 L hc hL hlen ht hX hlast h40
  obtain⟨c1,c2,c3,c4⟩:=hc
  simp only[List.length_cons]at h40 ht hX
  obtain⟨hh,hl⟩:=btH_ok x.bits 0 (by omega)
  rw[c3]at hl
  have hst:x.time≤65535:=by omega
  have hto:toR L x.time<32768∧(0<k→q7B L x.time=x.time-t0)∧(k=0→q7B L x.time=0):=by
   by_cases hk:0<k
   ·obtain⟨l1,l2,l3⟩:=hlast hk
    have e:toR L x.time=x.time-t:=by
     rw[toR_last (st:=t) (by omega) (by rw[hlen];exact l1)]
     omega
    refine⟨by omega,fun _=>?_,fun h=>absurd h (by omega)⟩
    rw[j7L hL _ (by omega),hlen,l2,e]
    omega
   ·have hn:L=[]:=List.length_eq_zero_iff.1 (by omega)
    subst hn
    exact⟨by rw[toR_nil];omega,fun h=>absurd h hk,fun _=>rfl⟩
  have hL':LogOk (q2G L (linB x)):=hL.add x.time (btH 0 x.bits)
  have hlin:LinOk L (q1Q x.time (btH 0 x.bits)) (linB x):=⟨j9k _ _ hst hh,line_len8 _ _ hst hh (by omega),hto.1,by omega⟩
  constructor
  ·intro j hj
   cases j with
   |zero=>exact hlin
   |succ j =>
    obtain⟨i1,_⟩:=ih (k+1) x.time (if 0<k then t0 else x.time) (q2G L (linB x)) c4 hL' (by rw[j7M,hlen]) (by omega) (by omega) (fun _=>by
     rw[show k+1-1=L.length by omega,j2g,add_tm]
     refine⟨rfl,?_,?_⟩
     ·by_cases hk:0<k
      ·rw[if_pos hk];exact hto.2.1 hk
      ·rw[if_neg hk];show q7B L x.time=_;rw[hto.2.2 (by omega)];omega
     ·by_cases hk:0<k
      ·rw[if_pos hk];have:=(hlast hk).2.2;omega
      ·rw[if_neg hk];exact zL _) (by omega)
    exact i1 j (by simpa using hj)
  ·intro h0 j hj
   have ht0:t0≤x.time∧q7B L x.time=x.time-t0:=by
    by_cases hk:0<k
    ·exact⟨by have:=(hlast hk).2.2;omega,hto.2.1 hk⟩
    ·have e:t0=x.time:=by
      rcases h0 with h|h
      ·exact absurd h hk
      ·exact h (by simp)
     exact⟨by omega,by rw[hto.2.2 (by omega)];omega⟩
   cases j with
   |zero =>
    obtain⟨M,e,_⟩:=j0A (q2G L (linB x)) (r.map linB)
    have e':((x::r).map linB).foldl q2G L=q2G L (linB x)++M:=e
    have hlt:k<(q2G L (linB x)).length:=by rw[j7M];omega
    rw[e',Nat.add_zero,q3N hlt,j4O hlt,←hlen,add_tm,add_haps]
    exact⟨ht0.2,rfl,ht0.1⟩
   |succ j =>
    obtain⟨_,i2⟩:=ih (k+1) x.time t0 (q2G L (linB x)) c4 hL' (by rw[j7M,hlen]) (by omega) (by omega) (fun _=>by
     rw[show k+1-1=L.length by omega,j2g,add_tm]
     exact⟨rfl,ht0.2,ht0.1⟩) (by omega)
    have:=i2 (.inl (by omega)) j (by simpa using hj)
    rw[show k+(j+1)=k+1+j by omega]
    exact this
theorem j7D (l:List Ver):∀(k:Nat) (h:k<l.length) (j:Nat),j<12→(qn l)[k*12+j]?=(j0g l[k])[j]?:=by
 induction l with
 |nil=>intro k h;simp at h
 |cons a r ih =>
  intro k h j hj
  have e:qn (a::r)=j0g a++qn r:=rfl
  rw[e]
  cases k with
  |zero=>rw[Nat.zero_mul,Nat.zero_add,List.getElem?_append_left (by simpa using hj)];rfl
  |succ k =>
   rw[List.getElem?_append_right (by simp;omega)]
   have:=ih k (by simpa using h) j hj
   rw[show(k+1)*12+j-(j0g a).length=k*12+j by simp;omega,this]
   rfl
theorem q9c {w:World}{base g c:Nat}{X:List Ver}(h:w.ownsRow base 49 12 (.slice (some ⟨g,0,none⟩) X.length c) X.length (qn X)){k:Nat}(hk:k<X.length):(Instr.loadAt 47 (.pointer (some ⟨g,k*12+2,none⟩))).run Tryz.prog w=.ok (zr (zm X[k].2.2)) w:=by
 refine run_loadAt_mid w g (k*12+2) 47 [.int .u16 (zm X[k].2.2 0),.int .u16 (zm X[k].2.2 1),.int .u16 (zm X[k].2.2 2),.int .u16 (zm X[k].2.2 3),.int .u16 (zm X[k].2.2 4),.int .u16 (zm X[k].2.2 5),.int .u16 (zm X[k].2.2 6),.int .u16 (zm X[k].2.2 7),.int .u16 (zm X[k].2.2 8),.int .u16 (zm X[k].2.2 9)] _ (fun j v hv=>?_) Tryz.underlying47 rfl (by kernel_rfl)
 have hj:j<10:=(List.getElem?_eq_some_iff.1 hv).1
 rw[show k*12+2+j=k*12+(2+j)by omega,h.cellAt _ (by omega),j7D X k hk (2+j) (by omega),show 2+j=j+2 by omega]
 exact hv
theorem q9b {w:World}{base g c:Nat}{X:List Ver}(h:w.ownsRow base 49 12 (.slice (some ⟨g,0,none⟩) X.length c) X.length (qn X)){k:Nat}(hk:k<X.length):w.cell? ⟨g,k*12,none⟩=some (.int .i64 X[k].1)∧w.cell? ⟨g,k*12+1,none⟩=some (.int .u16 X[k].2.1):=by
 constructor
 ·rw[show k*12=k*12+0 by omega,h.cellAt _ (by omega),j7D X k hk 0 (by omega)]
  rfl
 ·rw[h.cellAt _ (by omega),j7D X k hk 1 (by omega)]
  rfl
def AkRel (n:Nat)(w:World)(g:Nat)(vi:Value)(wr:World):Prop:=∃k:Nat,k≤n∧n-k≤g∧vi=.int .i64 k∧Below w.heap.size w wr
theorem kep_pick (c:Int)(hc:-9223372036854775808≤c∧c≤9223372036854775807)(n:Nat)(hn:0<n)(w:World) :
  Calls Tryz.prog 21 #[.int .i64 c,.int .i64 n] w fun e w'=>e=.returned (.int .i64 (q6t c n))∧w'=w:=by
 obtain⟨hc1,hc2⟩:=hc
 have hn0:¬(n:Int)=0:=by omega
 by_cases h:c<0
 ·have h1:IntKind.i64.wrap (c+1)=c+1:=by rw[IntKind.wrap_i64];omega
  have h2:IntKind.i64.wrap (-(c+1)) = -(c+1):=by rw[IntKind.wrap_i64];omega
  go_enter Tryz.func21,Tryz.ntmps21
  go_wp2_with fail
  go_ret
  exact⟨q1m (j2G h n),rfl⟩
 ·go_enter Tryz.func21,Tryz.ntmps21
  go_wp2_with fail
  go_ret
  exact⟨q1m (by rw[←j2H (c:=c) (by omega) n,Int.tmod_eq_emod_of_nonneg (by omega)]),rfl⟩
def q4I (l:LnK):LnV:=(l.stamp,l.time,q0I l.haps,q1Q l.stamp l.haps)
theorem q3u (D:List Hp)(h:Hp):q0I (D++[h])=q0I D++32::q4a h:=by simp[q0I]
structure LgAt (w W:World)(s:By)(i:Nat)(vo:Value)(D:List LnK):Prop where
 feed:FeedAt W w.heap.size s i
 row:W.ownsRow w.heap.size 44 4 vo D.length (q1U (D.map q4I))
 bel:Below w.heap.size w W
theorem LgAt.next {w W W':World}{s:By}{i j:Nat}{vo:Value}{D:List LnK}(h:LgAt w W s i vo D)(f:FeedAt W' w.heap.size s j)(o:OnlyB [w.heap.size] W W'):LgAt w W' s j vo D:=
 ⟨f,q8T h.row o (fun k hv hm=>by
  simp only[List.mem_singleton]at hm
  subst hm
  exact q8f h.feed.blk h.row (by decide) hv.symm),h.bel.trans (o.below h.bel.size (fun q hq=>by simp at hq;omega))⟩
theorem LgAt.below {w W W':World}{s:By}{i:Nat}{vo:Value}{D:List LnK}(h:LgAt w W s i vo D)(hb:Below W.heap.size W W'):LgAt w W' s i vo D:=
 ⟨h.feed.below hb,zo h.row hb,h.bel.trans (hb.mono h.bel.size)⟩
theorem mk4 (a b c d:By):ByteArray.mk a.toArray++ByteArray.mk b.toArray++ByteArray.mk c.toArray++ByteArray.mk d.toArray=ByteArray.mk (a++b++c++d).toArray:=by rw[←qD,←qD,←qD]
theorem j0t:(Tryz.prog.info? 44).map (fun i=>(i.zero,i.size,i.bytes))=some (some (.agg #[.int .u16 0,.int .i64 0,bs [],bs []]),4,48):=by kernel_rfl
theorem q7i {w1:World}{a b c d:Value}{e:TypeId}:∀(j:Nat) (v:Value),[a,b,c,d][j]?=some v→(w1.alloc (.cells #[a,b,c,d] e)).cell? ((⟨w1.heap.size,0,none⟩:Addr).add j)=some v:=by
 intro j v hj
 rw[q4l,Nat.zero_add,zC _ _ j _ _ _ (zN w1 _)]
 simpa using hj
theorem LgAt.app {w W W':World}{s:By}{i:Nat}{vo v':Value}{D:List LnK}{l:LnK}(h:LgAt w W s i vo D)(gr:W.grownBy W' vo.ownBlock)(own:W'.ownsRow w.heap.size 44 4 v' (D.length+1) (q1U (D.map q4I)++lnCs (q4I l))):LgAt w W' s i v' (D++[l]):=by
 have hne:some w.heap.size≠vo.ownBlock:=fun e=>q8f h.feed.blk h.row (by decide) e
 refine⟨⟨(gr.block _ h.feed.lt hne).trans h.feed.blk,h.feed.le,h.feed.sm⟩,?_,h.bel.trans ⟨gr.os,gr.tape,gr.output,gr.size,fun k hk=>gr.block k (zT hk h.bel.size) (fun e=>?_)⟩⟩
 ·rw[List.length_append,List.map_append]
  have e:q1U (D.map q4I++[l].map q4I)=q1U (D.map q4I)++lnCs (q4I l):=by simp[q1U]
  rw[e]
  exact own
 ·have:=j3G h.row k (by rw[←e];simp)
  omega
theorem j9Z {F G:zh}(h:q1f G=q1f F)(L:List LPt)(a c:Nat):q0D G L a c=q0D F L a c:=by
 unfold q0D verR qi
 rw[q8m h,q8m h,j1V h]
theorem row_le1 {f:Nat→Bool}(h:∀y,0<y→y<10→f y=false):q1s f≤1:=by
 have e:q1s f=q1s (fun y=>decide (y=0)&&f 0):=q3r (fun y hy=>by
  by_cases h0:y=0
  ·subst h0;simp
  ·rw[h y (by omega) hy,decide_eq_false h0];rfl)
 rw[e]
 cases f 0
 ·have:q1s (fun y=>decide (y=0)&&false)=0:=by decide
  omega
 ·have:q1s (fun y=>decide (y=0)&&true)=1:=by decide
  omega
structure FitH (fx fy:Bool)(h:Nat→Int):Prop where
 lt:∀x,x<10→0≤h x∧h x<1024
 zero:fx=false→∀x,0<x→x<10→h x=0
 one:fy=false→∀x,x<10→h x≤1
theorem fit_nar (fx fy:Bool)(s:Nat→Nat→Bool):FitH fx fy (zm (q6M fx fy s)):=by
 refine⟨fun x hx=>?_,fun hf x h0 hx=>?_,fun hf x hx=>?_⟩
 ·have:=q4j (q6M fx fy s x)
  show 0≤((q1s (q6M fx fy s x):Nat):Int)∧((q1s (q6M fx fy s x):Nat):Int)<1024
  omega
 ·have:q1s (q6M fx fy s x)=0:=q4M.2 (fun y hy=>by
   unfold q6M
   rw[hf,show(x==0)=false by simp;omega]
   simp)
  show((q1s (q6M fx fy s x):Nat):Int)=0
  omega
 ·have:=row_le1 (f:=q6M fx fy s x) (fun y h0 hy=>by
   unfold q6M
   rw[hf,show(y==0)=false by simp;omega]
   simp)
  show((q1s (q6M fx fy s x):Nat):Int)≤1
  omega
end Go.Proofs.YtiamjjonoeaggaaGreatDoor
