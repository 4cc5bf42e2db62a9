import Derived.Test.YtiamjjonoeaggaaGreatDoorGA
import Derived.Test.YtiamjjonoeaggaaGreatDoorGB
import Derived.Test.YtiamjjonoeaggaaGreatDoorG15
import Derived.Test.YtiamjjonoeaggaaGreatDoorG30
import Derived.Test.YtiamjjonoeaggaaGreatDoorG33
import Derived.Laws.AppendOwn
import Derived.Laws.AppendOwnNone
set_option maxRecDepth 100000
set_option maxHeartbeats 16000000
namespace Go.Proofs.YtiamjjonoeaggaaGreatDoor
open Go.RowKit
theorem ver_ones (l:List Ver):∀u∈qn l,u.oneCell'=true:=by
 intro u hu
 simp only[qn,List.mem_flatMap]at hu
 obtain⟨v,_,hu⟩:=hu
 simp only[j0g,List.mem_cons,List.not_mem_nil,or_false]at hu
 rcases hu with rfl|rfl|rfl|rfl|rfl|rfl|rfl|rfl|rfl|rfl|rfl|rfl<;>rfl
theorem ver_len (l:List Ver):(qn l).length=l.length*12:=by
 induction l with
 |nil=>rfl
 |cons a r ih =>
  have e:qn (a::r)=j0g a++qn r:=rfl
  rw[e,List.length_append,ih]
  simp
  omega
theorem j8u {ops:Array Oper}{rest:List Oper}{o:Oper}{a:Act}{Q:Exit→Act→World→Prop}(hgd:o.guard=none)(x y:Operand)
  (ho:o.op=.call {callee:=.builtin .append,args:=#[x,y],argTypes:=#[38,38]})(W:World)(vx vy:Value)(X Y:List Ver)(hx:a.eval x=vx)(hy:a.eval y=vy)(base base':Nat)
  (hX:W.ownsRow base 49 12 vx X.length (qn X))(hY:W.ownsRow base' 49 12 vy Y.length (qn Y))(hn:X.length+Y.length≤1000)(hb:base≤W.heap.size)
  (h:∀v' w1,w1.ownsRow base 49 12 v' (X++Y).length (qn (X++Y))→OnlyB vx.ownBlock.toList W w1→wpList Tryz.prog ops Q rest (a.put o.dst v') w1):wpList Tryz.prog ops Q (o::rest) a W:=by
 obtain⟨i,hi,hz0,hz1,hz2⟩:=info_parts j4Z
 rcases hY.2 with⟨h1,h2⟩|⟨g,cap,cur,e,h2,h3,h4⟩
 ·have hY0:Y=[]:=List.length_eq_zero_iff.1 h2
  subst hY0
  rw[h1]at hy
  refine wpList_append_own_none hgd x y 38 ho base 49 i 12 Tryz.underlying38 hi vx X.length (qn X) hx hX hy ?_
  exact h vx W (by rw[List.append_nil];exact hX) (OnlyB.refl _ _)
 ·subst e
  refine wpList_append_own W hgd x y 38 ho base 49 i _ 12 32 Tryz.underlying38 hi hz0 hz1 hz2 rfl (by decide) vx X.length (qn X) hx hX ⟨g,0,none⟩ Y.length cap (qn Y) hy (ver_len Y) (hY.cells rfl) (ver_ones Y) (by unfold maxLen;omega) (by omega) hb ?_
  intro v' w' own gr _
  refine h v' w' (by rw[List.length_append,q6x];exact own) ⟨gr.os,gr.tape,gr.output,gr.size,fun k hk hn=>gr.block k hk (fun e=>hn (by rw[←e];simp))⟩
def KV (bl:List Nat)(w:World):Prop:=∀k∈bl,∃cs,w.heap[k]?=some (.cells cs 49 (0,0))
theorem kv_row {w:World}{base:Nat}{size:Nat}{v:Value}{n:Nat}{xs:List Value}(h:w.ownsRow base 49 size v n xs):KV v.ownBlock.toList w:=by
 intro k hk
 rcases h.2 with⟨h1,_⟩|⟨g,cap,cur,rfl,_,h3,_⟩
 ·rw[h1]at hk;simp[Value.ownBlock]at hk
 ·simp[Value.ownBlock]at hk
  subst hk
  exact⟨_,h3⟩
theorem j3G {w:World}{base:Nat}{e:TypeId}{size:Nat}{v:Value}{n:Nat}{xs:List Value}(h:w.ownsRow base e size v n xs):∀k∈v.ownBlock.toList,base≤k:=by
 intro k hk
 rcases h.2 with⟨h1,_⟩|⟨g,cap,cur,rfl,h2,_,_⟩
 ·rw[h1]at hk;simp[Value.ownBlock]at hk
 ·simp[Value.ownBlock]at hk
  subst hk
  exact h2
theorem q9K {w w':World}{bl:List Nat}{base:Nat}{e:TypeId}{size:Nat}{v:Value}{n:Nat}{xs:List Value}(h:w.ownsRow base e size v n xs)(ho:OnlyB bl w w')(hk:KV bl w)(h1:e≠49):w'.ownsRow base e size v n xs:=
 q8T h ho (fun k hv hm=>by
  obtain⟨cs,hc⟩:=hk k hm
  exact q8f hc h (Ne.symm h1) hv.symm)
theorem MonAt.keepV {w w':World}{b gn cn:Nat}{ao:OA}{cap:Nat}{F:zh}{PL:List PPt}{told:Nat}{ended:Bool}{bl:List Nat}(h:MonAt w b gn cn ao cap F PL told ended)(ho:OnlyB bl w w')(hk:KV bl w):MonAt w' b gn cn ao cap F PL told ended:=by
 have hb:b∉bl:=fun hm=>by
  obtain⟨cs,hc⟩:=hk b hm
  rw[h.blk]at hc
  simp at hc
 refine⟨(ho.block b h.lt hb).trans h.blk,q9K h.nodes ho hk (by decide),?_,fun p hp=>⟨q9K (h.haps p hp).1 ho hk (by decide),(h.haps p hp).2⟩,h.few⟩
 exact⟨by rw[ho.cell h.lt hb];exact h.log.cell,zT h.lt ho.size,q9K h.log.row ho hk (by decide),h.log.small,h.log.times⟩
theorem j2R {L:List LPt}(h:LogOk L)(a:Lin)(rc:Int):q0u L rc≤q0u (q2G L a) rc:=by
 have h2:LogOk (q2G L a):=h.add a.1 a.2
 have hlen:(q2G L a).length=L.length+1:=by simp[q2G]
 have hap:∀i,i<L.length→tmL (q2G L a) i=tmL L i:=fun i hi=>q3N hi
 generalize q2G L a=L2 at *
 have hle:=q5O L rc
 rcases Nat.eq_zero_or_pos (q0u L rc)with g|g
 ·omega
 ·have hi:q0u L rc-1<L.length:=by omega
  have e1:=(j3V h.mono rc hi).2 (by omega)
  have hm:=h2.mono (L.length-1) L.length (by omega) (by omega)
  rw[hap _ (by omega)]at hm
  have e2:rc<(tmL L2 (L2.length-1):Int)-(tmL L2 (q0u L rc-1):Int):=by
   rw[hap _ hi,show L2.length-1=L.length by omega]
   omega
  have e3:=(j3V h2.mono rc (c:=q0u L rc-1) (by omega)).1 e2
  omega
theorem mon_new {w w1:World}{s:By}{b:Nat}{nv:Value}(h:(qe s).1=0)
  (e1:w1.heap[b]?=some (.cells (j2A nv (q3R s).x (q3R s).y (q3R s).reach (.slice none 0 0) 0 false) 89 (0,0)))(e2:w1.ownsRow w.heap.size 168 22 nv (zu (qK s)) (qr (q0l (qK s) 0))) :
  ∃gn cn,MonAt w1 b gn cn none 0 (qK s) [] 0 false:=by
 obtain⟨g1,_,g4⟩:=j3t h
 have hpos:0<zu (qK s):=(q3A g1.nn).2
 obtain⟨gn,cn,rfl⟩:=zJ e2 hpos
 rw[g4]at e1
 refine⟨gn,cn,e1,j5w (zZ _) e2,?_,fun p hp=>by simp at hp,zL _⟩
 refine⟨?_,zd e1,zW _ _ _ _,by simp,by intro p hp;simp at hp⟩
 rw[zC _ _ 4 _ _ _ e1]
 rfl
theorem j9c (s:By)(hs:(qe s).1=0)(hs64:s.length≤maxLen)(w:World) :
  Calls Tryz.prog 14 #[bs s] w fun e w'=>∃b gn cn,e=.returned (.tuple #[.pointer (some ⟨b,0,none⟩),.bool true])∧w.heap.size≤b∧MonAt w' b gn cn none 0 (qK s) [] 0 false∧Below w.heap.size w w':=by
 have HN:Hid (Calls Tryz.prog 37 #[bs s] w fun e w'=>∃b gn cn,e=.returned (.tuple #[.pointer (some ⟨b,0,none⟩),.int .i64 0,.int .i64 0])∧w.heap.size≤b∧MonAt w' b gn cn none 0 (qK s) [] 0 false∧Below w.heap.size w w'):=zb (by
  refine(j6r s hs64 w).mono ?_
  rintro e w' ⟨p,rfl,_,h2,h3⟩
  obtain⟨b,nv,rfl,hb,e1,e2⟩:=h2 hs
  obtain⟨gn,cn,hM⟩:=mon_new (w:=w) hs e1 e2
  exact⟨b,gn,cn,by rw[hs,q5i hs],hb,hM,h3⟩)
 go_enter Tryz.func14,Tryz.ntmps14
 go_wp2_with fail
 refine HN.out.mono ?_
 rintro e w1 ⟨b,gn,cn,rfl,h1,h2,h3⟩
 have H2:=zb h2
 have H3:=zb h3
 clear h2 h3 HN
 go_wp2_with fail
 go_ret2
 exact⟨b,gn,cn,rfl,h1,H2.out,H3.out⟩
abbrev LnV:=Nat × Nat × By × By
abbrev lnCs (l:LnV):List Value:=[.int .u16 l.1,.int .i64 l.2.1,bs l.2.2.1,bs l.2.2.2]
def q1U (l:List LnV):List Value:=l.flatMap lnCs
theorem ln_at (l:List LnV):∀(k:Nat) (h:k<l.length) (j:Nat),j<4→(q1U l)[k*4+j]?=(lnCs l[k])[j]?:=by
 induction l with
 |nil=>intro k h;simp at h
 |cons a r ih =>
  intro k h j hj
  have e:q1U (a::r)=lnCs a++q1U r:=rfl
  rw[e]
  cases k with
  |zero=>rw[Nat.zero_mul,Nat.zero_add,List.getElem?_append_left (by simpa using hj)];rfl
  |succ k =>
   rw[List.getElem?_append_right (by simp;omega)]
   have:=ih k (by simpa using h) j hj
   rw[show(k+1)*4+j-(lnCs a).length=k*4+j by simp;omega,this]
   rfl
theorem run_feed {wr:World}{F:zh}(hF:FormGood F)(ha:q2B F=true){ls:List Lin}{b gn cn:Nat}{ao:OA}{cap:Nat}{PL:List PPt}{k:Nat}(hk:k<ls.length){s:By}(hok:LinOk (q0A (ls.take k)) s ls[k])(hM:MonAt wr b gn cn ao cap F PL (q0u (q0A (ls.take k)) (zf F)) false)(hP:zA PL=q0A (ls.take k)) :
  Calls Tryz.prog 16 #[.pointer (some ⟨b,0,none⟩),bs s] wr fun e w'=>∃v,e=.returned (.tuple #[v,.int .i64 0,.int .i64 0]) ∧
   w'.ownsRow wr.heap.size 49 12 v (q0D F (q0A ls) (q0u (q0A (ls.take k)) (zf F)) (q0u (q0A (ls.take (k+1))) (zf F))).length (qn (q0D F (q0A ls) (q0u (q0A (ls.take k)) (zf F)) (q0u (q0A (ls.take (k+1))) (zf F)))) ∧
   ∃ao' cap' PL',MonAt w' b gn cn ao' cap' F PL' (q0u (q0A (ls.take (k+1))) (zf F)) false∧zA PL'=q0A (ls.take (k+1))∧OnlyB (b::q1Z ao) wr w'∧∀q∈q1Z ao',q∈q1Z ao∨wr.heap.size≤q:=by
 have hlen:=hok.len
 refine(vig_Feed b gn cn ao cap F hF PL (q0u (q0A (ls.take k)) (zf F)) false s (by unfold maxLen;omega) wr hM).mono ?_
 rintro e w' ⟨v,rfl,h2,ao',cap',PL',h3,h4,h5,h6⟩
 rw[hP]at h2 h3 h4 ⊢
 obtain⟨f1,f2,f3,f4⟩:=feed_ok hok F (q0u (q0A (ls.take k)) (zf F))
 rw[f1]
 rw[f2]at h4
 rw[f3]at h3
 rw[f4]at h2
 rw[←q9v ls k hk]at h2 h3 h4
 have hmo:=j2R (j3I (ls.take k)) ls[k] (zf F)
 rw[←q9v ls k hk]at hmo
 rw[Nat.max_eq_right hmo]at h3
 obtain⟨M,hM2⟩:=logF_pre ls (k+1)
 have hext:=tell_ext hF.ok ha (L:=q0A (ls.take (k+1))) (M:=M) (by rw[←hM2];exact(j3I ls).mono) (q0u (q0A (ls.take k)) (zf F)) _ (zL _)
 rw[←hM2]at hext
 rw[hext]at h2
 exact⟨v,rfl,h2,ao',cap',PL',h3,h4,h5,h6⟩
def RnRel (w:World)(F:zh)(ls:List Lin)(b gn cn:Nat)(g:Nat)(vo vi:Value)(wr:World):Prop:=
 ∃(k:Nat) (ao:OA) (cap:Nat) (PL:List PPt),k≤ls.length∧ls.length-k≤g∧vi=.int .i64 k∧MonAt wr b gn cn ao cap F PL (q0u (q0A (ls.take k)) (zf F)) false∧zA PL=q0A (ls.take k)∧(∀q∈q1Z ao,w.heap.size≤q) ∧
  wr.ownsRow w.heap.size 49 12 vo (q0D F (q0A ls) 0 (q0u (q0A (ls.take k)) (zf F))).length (qn (q0D F (q0A ls) 0 (q0u (q0A (ls.take k)) (zf F))))∧Below w.heap.size w wr
theorem j5Y {wr w':World}{b gn cn:Nat}{ao:OA}{cap:Nat}{F:zh}{PL:List PPt}{told:Nat}{base:Nat}{v:Value}{X:List Ver}(hM:MonAt wr b gn cn ao cap F PL told false)(ho:OnlyB (b::q1Z ao) wr w')(hX:wr.ownsRow base 49 12 v X.length (qn X)):w'.ownsRow base 49 12 v X.length (qn X):=
 q6V hX ho hM.kinds (by decide) (by decide)
theorem kep_run (s:By)(hs:(qe s).1=0)(hs64:s.length≤maxLen)(TX:List LnV)(ls:List Lin)(hl:TX.length=ls.length)(hok:∀k (h:k<ls.length),LinOk (q0A (ls.take k)) (TX[k]'(by omega)).2.2.2 ls[k])(hn:ls.length≤40)(base:Nat)(v:Value)(w:World)(hv:w.ownsRow base 44 4 v TX.length (q1U TX)) :
  Calls Tryz.prog 24 #[bs s,v] w fun e w'=>∃u,e=.returned (.tuple #[u,.bool true])∧w'.ownsRow w.heap.size 49 12 u ls.length (qn (q0D (qK s) (q0A ls) 0 ls.length))∧Below w.heap.size w w':=by
 obtain⟨hF,ha,_⟩:=j3t hs
 have HB:=zb (j9c s hs hs64)
 have HFD:=zb (fun wr b gn cn ao cap PL k hk hM hP=>run_feed (wr:=wr) (b:=b) (gn:=gn) (cn:=cn) (ao:=ao) (cap:=cap) (PL:=PL) hF ha (k:=k) hk (hok k hk) hM hP)
 have HED:=zb (fun b gn cn ao cap PL told W h=>vig_End b gn cn ao cap (qK s) hF PL told false W h)
 generalize qK s=F at *
 obtain⟨va,vc,rfl⟩:=ql hv
 have HV:=zb hv
 have HOK:=zb hok
 have hTL:=hl
 rw[hl]
 clear hok hv hF ha
 go_enter Tryz.func24,Tryz.ntmps24
 go_wp2_with fail
 refine(HB.out _).mono ?_
 rintro e w1 ⟨b,gn,cn,rfl,hb,hM1,hb1⟩
 have HM1:=zb hM1
 have HB1:=zb hb1
 clear hM1 hb1 HB
 go_wp2_with fail
 go_loopg [8,9] ls.length (fun g vo vi wr=>RnRel w F ls b gn cn g vo vi wr)
 case atStart=>exact⟨0,none,0,[],zZ _,by omega,rfl,HM1.out,rfl,by simp[q1Z],zW _ _ _ _,HB1.out⟩
 case round =>
  obtain⟨k,ao,cap,PL,hk,hg,rfl,hM,hP,hq,hO,hbr⟩:=hrel
  have HG:=zb hg
  have HM:=zb hM
  have HP:=zb hP
  have HQ:=zb hq
  have HO:=zb hO
  have HBR:=zb hbr
  clear hg hM hP hq hO hbr HM1 HB1
  by_cases hkn:k<ls.length
  ·have hrow:=zo HV.out HBR.out
   obtain⟨g,c,ea⟩:=zJ hrow (by omega)
   obtain⟨rfl,rfl⟩:va=some ⟨g,0,none⟩∧vc=c:=by simpa using ea
   have c3:=hrow.cells (g:=g) rfl (k*4+3) _ ((ln_at TX k (by omega) 3 (by omega)).trans rfl)
   rw[q4l,Nat.zero_add]at c3
   have hgl:=World.block_lt_of_cell? wr _ c3
   have hroom:TX.length≤vc:=by
    rcases hrow.2 with⟨h1,h2⟩|⟨g',cap',cur,h1,h2,h3,h4⟩
    ·omega
    ·simp only[Value.slice.injEq]at h1
     omega
   have HF1:=zb (HFD.out wr b gn cn ao cap PL k hkn HM.out HP.out)
   generalize hTX:(TX[k]'(by omega)).2.2.2=tx at *
   clear hrow ea HFD
   have HB0:=zb hb
   have ht1:(q0D F (q0A ls) 0 (q0u (q0A (ls.take k)) (zf F))).length+(q0D F (q0A ls) (q0u (q0A (ls.take k)) (zf F)) (q0u (q0A (ls.take (k+1))) (zf F))).length≤1000:=by
    have q1:=q5O (q0A (ls.take k)) (zf F)
    have q2:=q5O (q0A (ls.take (k+1))) (zf F)
    rw[q8G,List.length_take]at q1 q2
    rw[q1W,q1W]
    omega
   have hjn:q0D F (q0A ls) 0 (q0u (q0A (ls.take k)) (zf F))++q0D F (q0A ls) (q0u (q0A (ls.take k)) (zf F)) (q0u (q0A (ls.take (k+1))) (zf F))=q0D F (q0A ls) 0 (q0u (q0A (ls.take (k+1))) (zf F)):=by
    refine j3c _ _ _ _ _ (zZ _) ?_
    have:=j2R (j3I (ls.take k)) ls[k] (zf F)
    rw[←q9v ls k hkn]at this
    exact this
   have HJN:=zb hjn
   have HT1:=zb ht1
   clear hjn ht1 hb
   obtain⟨oa,oc,rfl⟩:=ql HO.out
   generalize q0D F (q0A ls) 0 (q0u (q0A (ls.take k)) (zf F))=X at *
   generalize q0D F (q0A ls) (q0u (q0A (ls.take k)) (zf F)) (q0u (q0A (ls.take (k+1))) (zf F))=Y at *
   go_wp2_with fail
   refine HF1.out.mono ?_
   rintro e w2 ⟨v2,rfl,hv2,ao',cap',PL',m1,m2,m3,m4⟩
   obtain⟨la,lc,rfl⟩:=ql hv2
   have hO2:=j5Y HM.out m3 HO.out
   have hB2:Below w.heap.size w w2:=HBR.out.trans (m3.below HBR.out.size (fun q hq=>by
    rcases List.mem_cons.1 hq with rfl|h
    ·exact HB0.out
    ·exact HQ.out q h))
   have HV2:=zb hv2
   have HO2:=zb hO2
   have HB2:=zb hB2
   have HM2:=zb m1
   have HP2:=zb m2
   have HQ2:Hid (∀q∈q1Z ao',w.heap.size≤q):=zb (fun q hq=>by
    rcases m4 q hq with h|h
    ·exact HQ.out q h
    ·have:=HBR.out.size;omega)
   clear hv2 hO2 hB2 m1 m2 m3 m4 HF1 c3
   go_wp2_with (at_builtin;refine j8u rfl (.tmp 45) (.tmp 46) rfl w2 (.slice oa X.length oc) (.slice la Y.length lc) X Y rfl rfl w.heap.size wr.heap.size HO2.out HV2.out HT1.out HB2.out.size ?_;intro v3 w3 o3 n3)
   rw[HJN.out]at o3
   have hM3:=HM2.out.keepV n3 (kv_row HO2.out)
   have hB3:Below w.heap.size w w3:=HB2.out.trans (n3.below HB2.out.size (j3G HO2.out))
   have HO3:=zb o3
   have HM3:=zb hM3
   have HB3:=zb hB3
   clear o3 n3 hM3 hB3
   go_wp2_with fail
   have hg1:0<gk:=by have:=HG.out;omega
   go_roundg (gk-1)
   case measure=>omega
   case rel=>exact⟨k+1,ao',cap',PL',by omega,by have:=HG.out;omega,by go_num,HM3.out,HP2.out,HQ2.out,HO3.out,HB3.out⟩
  ·have hke:k=ls.length:=by omega
   subst hke
   rw[List.take_length]at HM HP HO
   have HB0:=zb hb
   have hsl:=q5O (q0A ls) (zf F)
   rw[q8G]at hsl
   have HE:=zb (HED.out b gn cn ao cap PL _ wr HM.out)
   unfold endV endE at HE
   simp only[Bool.false_eq_true,if_false]at HE
   rw[HP.out,q8G]at HE
   have ht1:(q0D F (q0A ls) 0 (q0u (q0A ls) (zf F))).length+(q0D F (q0A ls) (q0u (q0A ls) (zf F)) ls.length).length≤1000:=by
    rw[q1W,q1W]
    omega
   have hjn:q0D F (q0A ls) 0 (q0u (q0A ls) (zf F))++q0D F (q0A ls) (q0u (q0A ls) (zf F)) ls.length=q0D F (q0A ls) 0 ls.length:=j3c _ _ _ _ _ (zZ _) hsl
   have hlen:(q0D F (q0A ls) 0 ls.length).length=ls.length:=by rw[q1W];omega
   have HJN:=zb hjn
   have HT1:=zb ht1
   have HLN:=zb hlen
   clear hjn ht1 hlen hb HFD HED
   obtain⟨oa,oc,rfl⟩:=ql HO.out
   generalize q0D F (q0A ls) 0 (q0u (q0A ls) (zf F))=X at *
   generalize q0D F (q0A ls) (q0u (q0A ls) (zf F)) ls.length=Y at *
   go_wp2_with fail
   refine HE.out.mono ?_
   rintro e w2 ⟨v2,rfl,hv2,ao',cap',PL',m1,m2,m3,m4⟩
   obtain⟨la,lc,rfl⟩:=ql hv2
   have hO2:=j5Y HM.out m3 HO.out
   have hB2:Below w.heap.size w w2:=HBR.out.trans (m3.below HBR.out.size (fun q hq=>by
    rcases List.mem_cons.1 hq with rfl|h
    ·exact HB0.out
    ·exact HQ.out q h))
   have HV2:=zb hv2
   have HO2:=zb hO2
   have HB2:=zb hB2
   clear hv2 hO2 hB2 m1 m2 m3 m4 HE
   go_wp2_with (at_builtin;refine j8u rfl (.tmp 53) (.tmp 54) rfl w2 (.slice oa X.length oc) (.slice la Y.length lc) X Y rfl rfl w.heap.size wr.heap.size HO2.out HV2.out HT1.out HB2.out.size ?_;intro v3 w3 o3 n3;rw[HJN.out,HLN.out]at o3;obtain⟨za,zc,rfl⟩:=ql o3)
   have hB3:Below w.heap.size w w3:=HB2.out.trans (n3.below HB2.out.size (j3G HO2.out))
   have HO3:=zb o3
   have HB3:=zb hB3
   clear o3 n3 hB3
   go_wp2_with fail
   go_ret2
   exact⟨.slice za ls.length zc,rfl,HO3.out,HB3.out⟩
theorem q6b {P:Program}{oi:Oper}{a:Act}{w:World}(ty:TypeId)(x:Operand)(ho:oi.op=.load ty x)(ad:Addr)(v:Value)(hx:a.eval x=.pointer (some ad))(hr:(Instr.loadAt ty (.pointer (some ad))).run P w=.ok v w):(execOp a.eval oi).run P w=.ok (.value v) w:=by
 unfold execOp
 simp only[ho,hx,hr,Sem.run_bind,Sem.run_pure,Result.andThen_ok]
theorem j1X {oi:Oper}{a:Act}{w:World}(x y:Operand)(z:TypeId)(ho:oi.op=.binOp .neq 47 x y z)(V:Value)(r:Nat→Int)(hV:V=zr r)(hx:a.eval x=V)(hy:a.eval y=V):(execOp a.eval oi).run Tryz.prog w=.ok (.value (.bool false)) w:=by
 subst hV
 unfold execOp
 simp only[ho,hx,hy,Sem.run_bind,run_eqGuard_agg w _ _ _ _ _ _ (show Tryz.prog.eqGuardType Tryz.prog.depth 47=false by kernel_rfl),Result.andThen_ok,run_neq_struct,j5Q,Sem.run_pure]
 rfl
theorem j7D (l:List Ver):∀(k:Nat) (h:k<l.length) (j:Nat),j<12→(qn l)[k*12+j]?=(j0g l[k])[j]?:=by
 induction l with
 |nil=>intro k h;simp at h
 |cons a r ih =>
  intro k h j hj
  have e:qn (a::r)=j0g a++qn r:=rfl
  rw[e]
  cases k with
  |zero=>rw[Nat.zero_mul,Nat.zero_add,List.getElem?_append_left (by simpa using hj)];rfl
  |succ k =>
   rw[List.getElem?_append_right (by simp;omega)]
   have:=ih k (by simpa using h) j hj
   rw[show(k+1)*12+j-(j0g a).length=k*12+j by simp;omega,this]
   rfl
theorem q9c {w:World}{base g c:Nat}{X:List Ver}(h:w.ownsRow base 49 12 (.slice (some ⟨g,0,none⟩) X.length c) X.length (qn X)){k:Nat}(hk:k<X.length):(Instr.loadAt 47 (.pointer (some ⟨g,k*12+2,none⟩))).run Tryz.prog w=.ok (zr (zm X[k].2.2)) w:=by
 refine run_loadAt_mid w g (k*12+2) 47 [.int .u16 (zm X[k].2.2 0),.int .u16 (zm X[k].2.2 1),.int .u16 (zm X[k].2.2 2),.int .u16 (zm X[k].2.2 3),.int .u16 (zm X[k].2.2 4),.int .u16 (zm X[k].2.2 5),.int .u16 (zm X[k].2.2 6),.int .u16 (zm X[k].2.2 7),.int .u16 (zm X[k].2.2 8),.int .u16 (zm X[k].2.2 9)] _ (fun j v hv=>?_) Tryz.underlying47 rfl (by kernel_rfl)
 have hj:j<10:=(List.getElem?_eq_some_iff.1 hv).1
 rw[show k*12+2+j=k*12+(2+j)by omega,h.cellAt _ (by omega),j7D X k hk (2+j) (by omega),show 2+j=j+2 by omega]
 exact hv
theorem q9b {w:World}{base g c:Nat}{X:List Ver}(h:w.ownsRow base 49 12 (.slice (some ⟨g,0,none⟩) X.length c) X.length (qn X)){k:Nat}(hk:k<X.length):w.cell? ⟨g,k*12,none⟩=some (.int .i64 X[k].1)∧w.cell? ⟨g,k*12+1,none⟩=some (.int .u16 X[k].2.1):=by
 constructor
 ·rw[show k*12=k*12+0 by omega,h.cellAt _ (by omega),j7D X k hk 0 (by omega)]
  rfl
 ·rw[h.cellAt _ (by omega),j7D X k hk 1 (by omega)]
  rfl
def AkRel (n:Nat)(w:World)(g:Nat)(vi:Value)(wr:World):Prop:=∃k:Nat,k≤n∧n-k≤g∧vi=.int .i64 k∧Below w.heap.size w wr
theorem j2u (X Y:List Ver)(hl:Y.length=X.length)(hp:∀i (h:i<X.length),X[i].1=i∧(Y[i]'(by omega)).1=i∧X[i].2.2=(Y[i]'(by omega)).2.2)(base base':Nat)(va vb:Value)(w:World)(hX:w.ownsRow base 49 12 va X.length (qn X))(hY:w.ownsRow base' 49 12 vb Y.length (qn Y)) :
  Calls Tryz.prog 28 #[va,vb] w fun e w'=>e=.returned (.bool true)∧Below w.heap.size w w':=by
 obtain⟨xa,xc,rfl⟩:=ql hX
 obtain⟨ya,yc,rfl⟩:=ql hY
 have HX:=zb hX
 have HY:=zb hY
 have HP:=zb hp
 clear hp
 rw[hl]
 go_enter Tryz.func28,Tryz.ntmps28
 go_wp2_with fail
 go_loopg [5] X.length (fun g vi wr=>AkRel X.length w g vi wr)
 case atStart=>exact⟨0,zZ _,by omega,rfl,zB _ _⟩
 case round =>
  obtain⟨k,hk,hg,rfl,hb⟩:=hrel
  have HB:=zb hb
  have HG:=zb hg
  clear hb hg
  by_cases hkn:k<X.length
  ·obtain⟨ga,ca,ea⟩:=zJ HX.out (by omega)
   obtain⟨gb,cb,eb⟩:=zJ HY.out (by omega)
   obtain⟨rfl,rfl⟩:xa=some ⟨ga,0,none⟩∧xc=ca:=by simpa using ea
   obtain⟨rfl,rfl⟩:ya=some ⟨gb,0,none⟩∧yc=cb:=by simpa using eb
   obtain⟨_,_,a1,a2,_⟩:=q7p HX.out
   obtain⟨_,_,b1,b2,_⟩:=q7p HY.out
   rw[hl]at b1
   have hn:X.length≤9223372036854775807:=by unfold maxLen at a2;omega
   obtain⟨p1,p2,p3⟩:=HP.out k hkn
   obtain⟨V,hV⟩:∃V,V=zr (zm X[k].2.2):=⟨_,rfl⟩
   have HV:=zb hV
   have HSS:Hid (∀w',Below w.heap.size w w'→w'.cell? ⟨ga,k*12,none⟩=some (.int .i64 k)∧w'.cell? ⟨gb,k*12,none⟩=some (.int .i64 k)∧(Instr.loadAt 47 (.pointer (some ⟨ga,k*12+2,none⟩))).run Tryz.prog w'=.ok V w'∧(Instr.loadAt 47 (.pointer (some ⟨gb,k*12+2,none⟩))).run Tryz.prog w'=.ok V w'):=zb (fun w' hw=>by
    have rx:=zo HX.out hw
    have ry:=zo HY.out hw
    refine⟨?_,?_,?_,?_⟩
    ·rw[(q9b rx hkn).1,p1]
    ·rw[(q9b ry (k:=k) (by omega)).1,p2]
    ·rw[hV];exact q9c rx hkn
    ·rw[hV,p3];exact q9c ry (by omega))
   have hga:ga<wr.heap.size:=by have:=World.block_lt_of_cell? wr _ (HSS.out wr HB.out).1;exact this
   have hgb:gb<wr.heap.size:=by have:=World.block_lt_of_cell? wr _ (HSS.out wr HB.out).2.1;exact this
   have hC0:=HSS.out _ (HB.out.drew)
   clear hV p1 p2 p3 ea eb a2 b2 hX hY
   go_wp2_with fail
   refine wp_region_held_drew (S:=fun w'=>w'.cell? ⟨ga,k*12,none⟩=some (.int .i64 k)∧w'.cell? ⟨gb,k*12,none⟩=some (.int .i64 k)∧(Instr.loadAt 47 (.pointer (some ⟨ga,k*12+2,none⟩))).run Tryz.prog w'=.ok V w'∧(Instr.loadAt 47 (.pointer (some ⟨gb,k*12+2,none⟩))).run Tryz.prog w'=.ok V w') (by kernel_rfl) hC0 (fun hS0=>?_)
   simp only[rz,Nat.zero_add,Nat.reduceAdd]
   refine tq 0 17 ?_
   simp only[Act.put,pz]
   refine tq 1 18 ?_
   simp only[Act.put,pz]
   refine tq 2 19 ?_
   simp only[Act.put,pz]
   refine tq 3 20 ?_
   simp only[Act.put,pz]
   refine tq 4 21 ?_
   simp only[Act.put,pz]
   refine tq 5 22 ?_
   simp only[Act.put,pz]
   refine tq 6 23 ?_
   simp only[Act.put,pz]
   refine tq 7 24 ?_
   simp only[Act.put,pz]
   refine tq 8 25 ?_
   simp only[Act.put,pz]
   refine tq 9 26 ?_
   simp only[Act.put,pz]
   refine tq 10 27 ?_
   simp only[Act.put,pz]
   refine tq 11 28 ?_
   simp only[Act.put,pz]
   refine tq 12 29 ?_
   simp only[Act.put,pz]
   refine tq 13 30 ?_
   simp only[Act.put,pz]
   refine tq 14 31 ?_
   simp only[Act.put,pz]
   refine tq 15 32 ?_
   simp only[Act.put,pz]
   refine tq 16 33 ?_
   simp only[Act.put,pz]
   refine tq 17 34 ?_
   simp only[Act.put,pz]
   refine tq 18 35 ?_
   simp only[Act.put,pz]
   refine tq 19 36 ?_
   simp only[Act.put,pz]
   refine tq 20 37 ?_
   simp only[Act.put,pz]
   refine q0V (i:=21) (v:=V) 38 rfl rfl (by kernel_rfl) (by kernel_rfl) (by kernel_rfl) (fun _ _ _ h=>h) (by rfl) (by assumption) ?_ ?_
   ·intro W hSw;exact q6b 47 (.tmp 37) rfl ⟨ga,k*12+2,none⟩ _ rfl hSw.2.2.1
   simp only[Act.put,pz]
   refine tq 22 39 ?_
   simp only[Act.put,pz]
   refine tq 23 40 ?_
   simp only[Act.put,pz]
   refine tq 24 41 ?_
   simp only[Act.put,pz]
   refine tq 25 42 ?_
   simp only[Act.put,pz]
   refine q0V (i:=26) (v:=V) 43 rfl rfl (by kernel_rfl) (by kernel_rfl) (by kernel_rfl) (fun _ _ _ h=>h) (by rfl) (by assumption) ?_ ?_
   ·intro W hSw;exact q6b 47 (.tmp 42) rfl ⟨gb,k*12+2,none⟩ _ rfl hSw.2.2.2
   simp only[Act.put,pz]
   refine q0V (i:=27) (v:=.bool false) 44 rfl rfl (by kernel_rfl) (by kernel_rfl) (by kernel_rfl) (fun _ _ _ h=>h) (by rfl) (by assumption) ?_ ?_
   ·intro W _;exact j1X (.tmp 38) (.tmp 43) _ rfl V _ HV.out rfl rfl
   simp only[Act.put,pz]
   refine tq 28 45 ?_
   simp only[Act.put,pz]
   refine zD (by kernel_rfl) ?_ _
   clear hS0 hC0
   go_wp2_with fail
   have hg1:0<gk:=by have:=HG.out;omega
   go_roundg (gk-1)
   case measure=>omega
   case rel=>exact⟨k+1,by omega,by have:=HG.out;omega,by go_num,HB.out.drew⟩
  ·go_wp2_with fail
   go_ret
   exact⟨rfl,HB.out⟩
end Go.Proofs.YtiamjjonoeaggaaGreatDoor
