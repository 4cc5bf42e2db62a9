import Derived.Test.YtiamjjonoeaggabGreatDoorGA
import Derived.Test.YtiamjjonoeaggabGreatDoorG01
import Derived.Test.YtiamjjonoeaggabGreatDoorG03
import Derived.Deep.LoopGhost
import Derived.Laws.AppendOwnNone
set_option maxRecDepth 100000
set_option maxHeartbeats 16000000
namespace Go.Proofs.YtiamjjonoeaggabGreatDoor
open Go.RowKit
def q3Y (w:World)(v:Value)(l:List Tok):Prop:=
 (v=.slice none 0 0∧l=[])∨∃b o cap,v=.slice (some ⟨b,o,none⟩) l.length cap∧l.length≤cap∧cap≤maxLen∧b<w.heap.size∧∀i (h:i<l.length),w.cell? ⟨b,o+i*2,none⟩=some (bs (l[i]).text)∧w.cell? ⟨b,o+i*2+1,none⟩=some (.int .i64 (l[i]).pos)
theorem q3Y.below {w w':World}{v:Value}{l:List Tok}{B:Nat}(h:q3Y w v l)(hb:Below B w w')(hB:w.heap.size≤B):q3Y w' v l:=by
 rcases h with h|⟨b,o,cap,e,h1,h2,h3,h4⟩
 ·exact .inl h
 ·refine .inr ⟨b,o,cap,e,h1,h2,zT h3 hb.size,fun i hi=>?_⟩
  rw[zo hb b _ (by omega),zo hb b _ (by omega)]
  exact h4 i hi
theorem tokSl_of {w:World}{base:Nat}{v:Value}{l:List Tok}(h:w.ownsRow base 177 2 v l.length (q0I l)):q3Y w v l:=by
 obtain⟨h1,h2⟩:=id h
 rcases h2 with⟨e,hn⟩|⟨g,cap,cur,rfl,e2,e3,e4,e5,e6,e7⟩
 ·exact .inl ⟨e,List.length_eq_zero_iff.1 hn⟩
 ·have hlt:g<w.heap.size:=by
   rcases Nat.lt_or_ge g w.heap.size with h'|h'
   ·exact h'
   ·simp[Array.getElem?_eq_none h']at e3
  refine .inr ⟨g,0,cap,rfl,e4,e5,hlt,fun i hi=>?_⟩
  have hc:=j4v l i hi
  rw[Nat.zero_add,Nat.mul_comm i 2]
  rw[h.cellAt (2*i) (by omega),h.cellAt (2*i+1) (by omega)]
  exact hc
theorem strSl_of {w:World}{base:Nat}{v:Value}{l:List (By)}(h:w.ownsRow base 9 1 v l.length (l.map bs)):q1f w v l:=by
 obtain⟨h1,h2⟩:=id h
 rcases h2 with⟨e,hn⟩|⟨g,cap,cur,rfl,e2,e3,e4,e5,e6,e7⟩
 ·exact .inl ⟨e,List.length_eq_zero_iff.1 hn⟩
 ·have hlt:g<w.heap.size:=by
   rcases Nat.lt_or_ge g w.heap.size with h'|h'
   ·exact h'
   ·simp[Array.getElem?_eq_none h']at e3
  refine .inr ⟨g,0,cap,rfl,e4,e5,hlt,fun i hi=>?_⟩
  rw[Nat.zero_add,h.cellAt i (by omega)]
  simp[List.getD,hi]
theorem j3x:(Tryz.prog.info? 9).map (fun i=>(i.zero,i.size,i.bytes))=some (some (.string ByteArray.empty),1,16):=by kernel_rfl
theorem q5d {t:Tok}(h:q0X t):t.text.length≤8:=by
 obtain⟨c,r,e,h,_⟩:=h
 unfold q3p at h
 simp only[Bool.or_eq_true,Bool.and_eq_true,decide_eq_true_eq]at h
 rcases h with(h|h)|h
 ·unfold inB q1m at h
  simp[List.any]at h
  rcases h with h|h|h|h|h|h<;>rw[←h]<;>decide
 ·omega
 ·omega
def outR (x:Option Nat):Int × Int:=match x with
 |none=>(0,0)
 |some p=>(3,(p:Int))
def q0W (s:By):Int × Int:=
 if 240<s.length then(1,0)else if 0≤(q0u s).2 then(2,(q0u s).2)else outR (q6h s.length (q0u s).1)
theorem j3V {s:By}(h1:¬240<s.length)(h2:¬0≤(q0u s).2):q0W s=outR (q6h s.length (q0u s).1):=by
 unfold q0W
 rw[if_neg h1,if_neg h2]
def RRel (L:Nat)(w0:World)(v:Value)(toks:List Tok)(R:Option Nat)(gk:Nat)(vw vi:Value)(wr:World):Prop:=
 ∃(want:List (By)) (i:Nat),q1f wr vw want∧vi=.int .i64 i∧i≤toks.length∧wts want≤4000∧(∀s∈want,q5q s)∧q4C L gk want (toks.drop i)=some R∧q3Y wr v toks∧Below w0.heap.size w0 wr
theorem j5S (toks:List Tok)(i:Nat)(h:i<toks.length):hd (toks.drop i)=(toks[i]).text∧plc 0 (toks.drop i)=(toks[i]).pos∧(toks.drop i).tail=toks.drop (i+1):=by
 rw[List.drop_eq_getElem_cons h]
 exact⟨rfl,rfl,rfl⟩
theorem j6W {L f:Nat}{s:By}{W:List (By)}{ts:List Tok}{R:Option Nat}(h:q4C L f (s::W) ts=some R):∃g,f=g+1∧((∃m,q0d s (hd ts)=some m∧q4C L g (m++W) ts=some R)∨(q0d s (hd ts)=none∧q4h s (hd ts)=true∧q4C L g W ts.tail=some R)∨(q0d s (hd ts)=none∧q4h s (hd ts)=false∧R=some (plc L ts))):=by
 cases f with
 |zero=>simp[q4C]at h
 |succ g =>
  refine⟨g,rfl,?_⟩
  rw[q4C]at h
  cases hb:q0d s (hd ts)with
  |some m=>rw[hb]at h;exact .inl ⟨m,rfl,h⟩
  |none =>
   rw[hb]at h
   simp only[]at h
   cases hf:q4h s (hd ts)with
   |true=>rw[hf]at h;exact .inr (.inl ⟨rfl,rfl,h⟩)
   |false =>
    rw[hf]at h
    simp at h
    exact .inr (.inr ⟨rfl,rfl,h.symm⟩)
def endR (ts:List Tok):Option Nat:=match ts with
 | []=>none
 |t::_=>some t.pos
theorem mach_nil {L f:Nat}{ts:List Tok}{R:Option Nat}(h:q4C L f [] ts=some R):R=endR ts:=by
 cases f with
 |zero=>simp[q4C]at h
 |succ g =>
  cases ts<;>simp[q4C]at h<;>exact h.symm
theorem q1f.cons {w:World}{v:Value}{s:By}{W:List (By)}(h:q1f w v (s::W)):∃b o cap,v=.slice (some ⟨b,o,none⟩) (W.length+1) cap∧W.length+1≤cap∧cap≤maxLen∧b<w.heap.size∧w.cell? ⟨b,o,none⟩=some (bs s)∧∀j u,(W.map bs)[j]?=some u→w.cell? ⟨b,o+1+j,none⟩=some u:=by
 rcases h with⟨_,h⟩|⟨b,o,cap,rfl,h1,h2,h3,h4⟩
 ·simp at h
 ·refine⟨b,o,cap,rfl,h1,h2,h3,by simpa using h4 0 (by simp),fun j u hj=>?_⟩
  simp at hj
  obtain⟨x,hx,rfl⟩:=hj
  have hlt:j<W.length:=by
   rcases Nat.lt_or_ge j W.length with g|g
   ·exact g
   ·rw[List.getElem?_eq_none g]at hx;exact absurd hx (by simp)
  have:=h4 (j+1) (by simp;omega)
  rw[show o+1+j=o+(j+1) from by omega,this]
  simp[List.getD,hx]
theorem q1f.tail {w:World}{b o cap:Nat}{W:List (By)}(h1:W.length+1≤cap)(h2:cap≤maxLen)(h3:b<w.heap.size)(h4:∀j u,(W.map bs)[j]?=some u→w.cell? ⟨b,o+1+j,none⟩=some u):q1f w (.slice (some ⟨b,o+1,none⟩) W.length (cap-1)) W:=
 .inr ⟨b,o+1,cap-1,rfl,by omega,by omega,h3,fun i hi=>h4 i _ (by simp[hi])⟩
theorem q7J {w:World}{b o:Nat}{m:List (By)}(f4:∀i,i<m.length→w.cell? ⟨b,o+i,none⟩=some (bs (m.getD i [])))(j:Nat)(u:Value)(hj:(m.map bs)[j]?=some u):w.cell? ⟨b,o+j,none⟩=some u:=by
 simp at hj
 obtain⟨x,hx,rfl⟩:=hj
 have hlt:j<m.length:=by
  rcases Nat.lt_or_ge j m.length with g|g
  ·exact g
  ·rw[List.getElem?_eq_none g]at hx;exact absurd hx (by simp)
 rw[f4 j hlt]
 simp[List.getD,hx]
theorem q2Z {L g i:Nat}{w wr w2 w4:World}{v v4:Value}{toks:List Tok}{R:Option Nat}{sy:By}{m W:List (By)}(hm:Hid (q4C L g (m++W) (toks.drop i)=some R))(h1:wts m≤wt sy)(h2:∀x∈m,q5q x)(h3:Hid (∀x∈sy::W,q5q x))(h4:wt sy+wts W≤4000)
  (hown:w4.ownsRow w2.heap.size 9 1 v4 (m++W).length ((m++W).map bs))(hi:i≤toks.length)(hts:Hid (q3Y wr v toks))(hbel:Below w.heap.size w wr)(hb2:Below wr.heap.size wr w2)(hb4:Below w2.heap.size w2 w4):RRel L w v toks R g v4 (.int .i64 i) w4:=by
 refine⟨m++W,i,strSl_of hown,rfl,hi,by rw[wts_app];omega,?_,hm.out,?_,?_⟩
 ·intro x hx
  rcases List.mem_append.1 hx with hx|hx
  ·exact h2 x hx
  ·exact h3.out x (by simp[hx])
 ·exact(hts.out.below hb2 (zL _)).below hb4 (zL _)
 ·exact(hbel.trans (hb2.mono hbel.size)).trans (hb4.mono (zM hbel.size hb2.size))
theorem j3W {L g i:Nat}{w wr w3:World}{v v3:Value}{toks:List Tok}{R:Option Nat}{sy:By}{W:List (By)}(hm:Hid (q4C L g W (toks.drop (i+1))=some R))(h3:Hid (∀x∈sy::W,q5q x))(h4:wt sy+wts W≤4000)
  (hsl:q1f wr v3 W)(hi:i<toks.length)(hts:Hid (q3Y wr v toks))(hbel:Below w.heap.size w wr)(hb3:Below wr.heap.size wr w3):RRel L w v toks R g v3 (.int .i64 ((i:Int)+1)) w3:=
 ⟨W,i+1,hsl.below hb3,by simp,hi,by omega,fun x hx=>h3.out x (by simp[hx]),hm.out,hts.out.below hb3 (zL _),hbel.trans (hb3.mono hbel.size)⟩
theorem q6k {R:Option Nat}{rr:Int × Int}{w w':World}{p:Nat}{toks:List Tok}{e:Ending}(hR:Hid (rr=outR R))(h:R=some p)(he:e=.returned (.tuple #[.slice none 0 0,.int .i64 3,.int .i64 p]))(hb:Below w.heap.size w w') :
  ∃v,e=.returned (.tuple #[v,.int .i64 rr.1,.int .i64 rr.2])∧(rr.1=0→q3Y w' v toks∧∀k∈v.ownBlock.toList,w.heap.size≤k)∧(rr.1≠0→v=.slice none 0 0)∧Below w.heap.size w w':=by
 have:=hR.out
 subst h
 subst this
 exact⟨_,he,by simp[outR],fun _=>rfl,hb⟩
theorem q6r {w:World}{v:Value}{l:List Tok}(h:q3Y w v l):∃a n c,v=.slice a n c∧n=l.length:=by
 rcases h with⟨h,rfl⟩|⟨b,o,cap,h,_⟩
 ·exact⟨_,_,_,h,rfl⟩
 ·exact⟨_,_,_,h,rfl⟩
theorem q1n {w:World}{v:Value}{l:List (By)}(h:q1f w v l):∃a n c,v=.slice a n c∧n=l.length:=by
 rcases h with⟨h,rfl⟩|⟨b,o,cap,h,_⟩
 ·exact⟨_,_,_,h,rfl⟩
 ·exact⟨_,_,_,h,rfl⟩
theorem j7h {R:Option Nat}{rr:Int × Int}{w w':World}{v:Value}{toks:List Tok}{e:Ending}(hR:Hid (rr=outR R))(h:R=none)(hts:Hid (q3Y w' v toks))(hfr:Hid (∀k∈v.ownBlock.toList,w.heap.size≤k))(he:e=.returned (.tuple #[v,.int .i64 0,.int .i64 0]))(hb:Below w.heap.size w w') :
  ∃v,e=.returned (.tuple #[v,.int .i64 rr.1,.int .i64 rr.2])∧(rr.1=0→q3Y w' v toks∧∀k∈v.ownBlock.toList,w.heap.size≤k)∧(rr.1≠0→v=.slice none 0 0)∧Below w.heap.size w w':=by
 have:=hR.out
 subst h
 subst this
 exact⟨_,he,fun _=>⟨hts.out,hfr.out⟩,by simp[outR],hb⟩
theorem q0M {f:FuncId}{xs:Array Value}{c d:Bool}(h:∀w,Calls Tryz.prog f xs w fun e w'=>e=.returned (.bool c)∧Below w.heap.size w w')(hc:c=d):∀w,Calls Tryz.prog f xs w fun e w'=>e=.returned (.bool d)∧Below w.heap.size w w':=hc ▸ h
theorem ref_Read (s:By)(hs64:s.length≤maxLen)(w:World) :
  Calls Tryz.prog 75 #[bs s] w fun e w'=>∃v,e=.returned (.tuple #[v,.int .i64 (q0W s).1,.int .i64 (q0W s).2])∧((q0W s).1=0→q3Y w' v (q0u s).1∧∀k∈v.ownBlock.toList,w.heap.size≤k)∧((q0W s).1≠0→v=.slice none 0 0)∧Below w.heap.size w w':=by
 unfold maxLen at hs64
 by_cases h240:240<s.length
 ·have hr:q0W s=(1,0):=by unfold q0W;rw[if_pos h240]
  rw[hr]
  clear hr
  go_enter Tryz.func75,Tryz.ntmps75
  go_wp2_with fail
  go_ret3
  exact⟨_,rfl,by simp,by simp,zB _ _⟩
 ·have hT:=j5q s (by omega)
  have hgood:=q4m s
  have HM:=zb (j5a s.length (q0u s).1 (fun t ht=>j2h (hgood t ht)) (fun t ht=>j5P (hgood t ht)))
  have HR:Hid (¬0≤(q0u s).2→q0W s=outR (q6h s.length (q0u s).1)):=fun h2=>j3V h240 h2
  have HR2:Hid (0≤(q0u s).2→q0W s=(2,(q0u s).2)):=fun h=>by unfold q0W;rw[if_neg h240,if_pos h]
  generalize q0u s=lx at *
  obtain⟨toks,at0⟩:=lx
  simp only[]at hT hgood HM HR HR2
  have HG:=zb hgood
  clear hgood
  by_cases hat:0≤at0
  ·have hr:=HR2.out hat
   rw[hr]
   clear hr HR HR2 HM
   go_enter Tryz.func75,Tryz.ntmps75
   go_wp2_with fail
   refine(hT _).mono ?_
   rintro e w1 ⟨v,rfl,hown,hb⟩
   go_wp2_with fail
   go_ret3
   exact⟨_,rfl,by simp,by simp,hb⟩
  ·have HRo:=zb (HR.out hat)
   clear HR2 HR
   generalize q6h s.length toks=R at *
   obtain⟨k0,hk0⟩:=HM.out
   have HK:=zb hk0
   clear hk0 HM
   generalize q0W s=rr at *
   obtain⟨i0,hi0,hz0,hz1,hz2⟩:=info_parts j3x
   go_enter Tryz.func75,Tryz.ntmps75
   go_wp2_with fail
   refine(hT _).mono ?_
   rintro e w1 ⟨v,rfl,hown,hb⟩
   have hsl:=tokSl_of hown
   have HFR:Hid (∀k∈v.ownBlock.toList,w.heap.size≤k):=zb (fun k hk=>(hown.lt k (by simpa using hk)).1)
   clear hown hT
   go_wp2_with fail
   go_loopg [7,8] k0 (fun gk vw vi wr=>RRel s.length w v toks R gk vw vi wr)
   case atStart =>
    exact⟨[q1I 1],0,qx w1 [q1I 1] 9 (by simp),rfl,zZ _,by decide,by simp only[List.mem_singleton];rintro x rfl;exact j6e 1 (by omega) (by omega),HK.out,hsl.below ((zB _ _).alloc (zL _) _) (zL _),hb.alloc hb.size _⟩
   case round =>
    obtain⟨want,i,hw,rfl,hi,hwt,hso,hm,hts,hbel⟩:=hrel
    clear HK hsl hb
    cases want with
    |nil =>
     obtain⟨av,nv,cv,rfl,hnv⟩:=q1n hw
     simp only[List.length_nil]at hnv
     subst hnv
     have HN:=zb (mach_nil hm)
     clear hm hw hso
     by_cases hlt:i<toks.length
     ·have HP:Hid (R=some (toks[i]).pos):=by unfold Hid;rw[HN.out,List.drop_eq_getElem_cons hlt];rfl
      rcases hts with⟨_,hz⟩|⟨b',o',cap',rfl,d1,d2,d3,d4⟩
      ·subst hz;simp at hlt
      obtain⟨hda,hdb⟩:=d4 i hlt
      clear d4 HN
      unfold maxLen at d2
      generalize (toks[i]).text=t at *
      generalize (toks[i]).pos=pp at *
      go_wp2_with fail
      go_region
      go_wp2_with fail
      go_ret3
      exact q6k HRo HP.out rfl hbel.drew
     ·have HP:Hid (R=none):=by unfold Hid;rw[HN.out,List.drop_of_length_le (by omega)];rfl
      have HTS:=zb hts
      clear HN
      obtain⟨av,nv,cv,rfl,hnv⟩:=q6r hts
      subst hnv
      clear hts
      go_wp2_with fail
      go_ret3
      exact j7h HRo HP.out HTS HFR rfl hbel
    |cons sy W =>
     obtain⟨b,o,cap,rfl,hc1,hc2,hc3,hc4,hc5⟩:=hw.cons
     have hsy:=hso sy (by simp)
     rw[q5v]at hwt
     have hwp:=wt_pos sy
     obtain⟨g,rfl,hcase⟩:=j6W hm
     clear hm hw
     have HC5:=zb hc5
     have HSO:=zb hso
     unfold maxLen at hc2
     by_cases hcap:cap=1
     ·obtain rfl:cap=1:=hcap
      have HC5:Hid (∀j u,(W.map bs)[j]?=some u→wr.cell? ⟨b,o+j,none⟩=some u):=fun j u hj=>by
       have hW0:W=[]:=List.length_eq_zero_iff.1 (by omega)
       rw[hW0]at hj
       simp at hj
      by_cases hlt:i<toks.length
      ·obtain⟨e1,e2,e3⟩:=j5S toks i hlt
       have htl:(toks[i]).text.length≤1000:=zM (q5d (HG.out _ (List.getElem_mem hlt))) (by decide)
       have HTS:=zb hts
       rcases hts with⟨_,hz⟩|⟨b',o',cap',rfl,d1,d2,d3,d4⟩
       ·subst hz;simp at hlt
       obtain⟨hda,hdb⟩:=d4 i hlt
       clear d4
       unfold maxLen at d2
       rw[e1,e3]at hcase
       have HP:Hid (plc s.length (toks.drop i)=(toks[i]).pos):=by unfold Hid;rw[List.drop_eq_getElem_cons hlt];rfl
       clear e1 e2 e3
       generalize (toks[i]).text=t at *
       generalize (toks[i]).pos=pp at *
       rcases hcase with⟨m,hbm,hmg⟩|⟨hbm,hfit,hmg⟩|⟨hbm,hfit,hR⟩
       ·obtain⟨hok1,hok2⟩:=q5A hsy hbm
        have hBc:=q2D sy t m hsy htl hbm
        have hlw:=q4K m
        have hlW:=q4K W
        have HMG:=zb hmg
        clear hbm hmg
        go_wp2_with fail
        refine(hBc _).mono ?_
        rintro e w2 ⟨vm,rfl,hvm,hb2⟩
        have hsz2:=hb2.size
        have hwc:∀j u,(W.map bs)[j]?=some u→w2.cell? ⟨b,o+j,none⟩=some u:=fun j u hj=>by rw[zo hb2 b _ hc3];exact HC5.out j u hj
        have HWC:=zb hwc
        clear hwc
        rcases hvm with⟨rfl,rfl⟩|⟨bm,om,capm,rfl,f1,f2,f3,f4⟩
        ·go_wp2_with (first|(at_builtin;refine wpList_append_own_none rfl (.tmp 54) (.tmp 55) 75 rfl w2.heap.size 9 i0 1 Tryz.underlying75 hi0 _ _ _ rfl (zW _ _ _ _) rfl ?_)|(at_builtin;refine q2d rfl (.tmp 57) (.tmp 59) 75 9 rfl Tryz.underlying75 hi0 hz0 hz1 hz2 rfl (by decide) w2 w2.heap.size _ 0 [] (W.map bs) w2 rfl (zW _ _ _ _) b (o) W.length (0) (by simp[Act.eval];try omega) (by simp) HWC.out (by simp[Value.oneCell']) (by omega) (by decide) (zB _ _) (zL _) ?_;intro v2 w3 hown3 hb3 _))
         go_roundg g
         case measure=>omega
         case rel=>exact q2Z (m:=[]) HMG hok1 hok2 HSO hwt (by simpa using hown3) hi HTS hbel hb2 hb3
        ·have hmc:∀j u,(m.map bs)[j]?=some u→w2.cell? ⟨bm,om+j,none⟩=some u:=fun j u hj=>q7J f4 j u hj
         have HMC:=zb hmc
         clear hmc f4
         unfold maxLen at f2
         go_wp2_with (first|(at_builtin;refine q2d rfl (.tmp 54) (.tmp 55) 75 9 rfl Tryz.underlying75 hi0 hz0 hz1 hz2 rfl (by decide) w2 w2.heap.size _ 0 [] (m.map bs) w2 rfl (zW _ _ _ _) bm om m.length capm (by simp[Act.eval]) (by simp) HMC.out (by simp[Value.oneCell']) (by omega) (by decide) (zB _ _) (zL _) ?_;intro v3 w3 hown3 hb3 _;have hwc3:=zb (fun j u hj=>(zo hb3 b (o+j) (by omega)).trans (HWC.out j u hj)))|(at_builtin;refine q2d rfl (.tmp 57) (.tmp 59) 75 9 rfl Tryz.underlying75 hi0 hz0 hz1 hz2 rfl (by decide) w2 w2.heap.size _ (0+m.length) ([]++m.map bs) (W.map bs) w3 rfl hown3 b (o) W.length (0) (by simp[Act.eval];try omega) (by simp) hwc3.out (by simp[Value.oneCell']) (by omega) (by decide) hb3 hb3.size ?_;intro v4 w4 hown4 hb4 _))
         go_roundg g
         case measure=>omega
         case rel=>exact q2Z HMG hok1 hok2 HSO hwt (by simpa using hown4) hi HTS hbel hb2 hb4
       ·have hBc:=q0G sy t hsy hbm
        have hFt:=q0M (q3M sy t) hfit
        have HMG:=zb hmg
        clear hbm hfit hmg
        go_wp2_with fail
        refine(hBc _).mono ?_
        rintro e w2 ⟨rfl,rfl⟩
        go_wp2_with fail
        refine(hFt _).mono ?_
        rintro e w3 ⟨rfl,hb3⟩
        go_wp2_with fail
        go_roundg g
        case measure=>omega
        case rel=>exact j3W HMG HSO hwt (by exact .inr ⟨b,o,0,by rw[show W.length=0 from by omega],by omega,by unfold maxLen;omega,hc3,fun i hi=>by omega⟩) hlt HTS hbel hb3
       ·have hBc:=q0G sy t hsy hbm
        have hFt:=q0M (q3M sy t) hfit
        have HRR:=zb hR
        clear hbm hfit hR
        go_wp2_with fail
        refine(hBc _).mono ?_
        rintro e w2 ⟨rfl,rfl⟩
        go_wp2_with fail
        refine(hFt _).mono ?_
        rintro e w3 ⟨rfl,hb3⟩
        go_wp2_with fail
        go_ret3
        exact q6k HRo (HRR.out.trans (by rw[HP.out])) rfl (hbel.trans (hb3.mono hbel.size))
      ·have hie:toks.length≤i:=by omega
       have hdn:toks.drop i=[]:=List.drop_of_length_le (by omega)
       have htl:([]:By).length≤1000:=by decide
       have HTS:=zb hts
       have HP:Hid (plc s.length (toks.drop i)=s.length):=by unfold Hid;rw[hdn];rfl
       rw[hdn]at hcase
       clear hdn
       obtain⟨av,nv,cv,rfl,hnv⟩:=q6r hts
       subst hnv
       have hd0:hd ([]:List Tok)=[]:=rfl
       rw[hd0]at hcase
       clear hd0
       rcases hcase with⟨m,hbm,hmg⟩|⟨hbm,hfit,hmg⟩|⟨hbm,hfit,hR⟩
       ·obtain⟨hok1,hok2⟩:=q5A hsy hbm
        have hBc:=q2D sy [] m hsy htl hbm
        have hlw:=q4K m
        have hlW:=q4K W
        have HMG:Hid (q4C s.length g (m++W) (toks.drop i)=some R):=by unfold Hid;rw[List.drop_of_length_le (by omega)];exact hmg
        clear hbm hmg
        go_wp2_with fail
        refine(hBc _).mono ?_
        rintro e w2 ⟨vm,rfl,hvm,hb2⟩
        have hsz2:=hb2.size
        have hwc:∀j u,(W.map bs)[j]?=some u→w2.cell? ⟨b,o+j,none⟩=some u:=fun j u hj=>by rw[zo hb2 b _ hc3];exact HC5.out j u hj
        have HWC:=zb hwc
        clear hwc
        rcases hvm with⟨rfl,rfl⟩|⟨bm,om,capm,rfl,f1,f2,f3,f4⟩
        ·go_wp2_with (first|(at_builtin;refine wpList_append_own_none rfl (.tmp 54) (.tmp 55) 75 rfl w2.heap.size 9 i0 1 Tryz.underlying75 hi0 _ _ _ rfl (zW _ _ _ _) rfl ?_)|(at_builtin;refine q2d rfl (.tmp 57) (.tmp 59) 75 9 rfl Tryz.underlying75 hi0 hz0 hz1 hz2 rfl (by decide) w2 w2.heap.size _ 0 [] (W.map bs) w2 rfl (zW _ _ _ _) b (o) W.length (0) (by simp[Act.eval];try omega) (by simp) HWC.out (by simp[Value.oneCell']) (by omega) (by decide) (zB _ _) (zL _) ?_;intro v2 w3 hown3 hb3 _))
         go_roundg g
         case measure=>omega
         case rel=>exact q2Z (m:=[]) HMG hok1 hok2 HSO hwt (by simpa using hown3) hi HTS hbel hb2 hb3
        ·have hmc:∀j u,(m.map bs)[j]?=some u→w2.cell? ⟨bm,om+j,none⟩=some u:=fun j u hj=>q7J f4 j u hj
         have HMC:=zb hmc
         clear hmc f4
         unfold maxLen at f2
         go_wp2_with (first|(at_builtin;refine q2d rfl (.tmp 54) (.tmp 55) 75 9 rfl Tryz.underlying75 hi0 hz0 hz1 hz2 rfl (by decide) w2 w2.heap.size _ 0 [] (m.map bs) w2 rfl (zW _ _ _ _) bm om m.length capm (by simp[Act.eval]) (by simp) HMC.out (by simp[Value.oneCell']) (by omega) (by decide) (zB _ _) (zL _) ?_;intro v3 w3 hown3 hb3 _;have hwc3:=zb (fun j u hj=>(zo hb3 b (o+j) (by omega)).trans (HWC.out j u hj)))|(at_builtin;refine q2d rfl (.tmp 57) (.tmp 59) 75 9 rfl Tryz.underlying75 hi0 hz0 hz1 hz2 rfl (by decide) w2 w2.heap.size _ (0+m.length) ([]++m.map bs) (W.map bs) w3 rfl hown3 b (o) W.length (0) (by simp[Act.eval];try omega) (by simp) hwc3.out (by simp[Value.oneCell']) (by omega) (by decide) hb3 hb3.size ?_;intro v4 w4 hown4 hb4 _))
         go_roundg g
         case measure=>omega
         case rel=>exact q2Z HMG hok1 hok2 HSO hwt (by simpa using hown4) hi HTS hbel hb2 hb4
       ·have hBc:=q0G sy [] hsy hbm
        have hFt:=q0M (q3M sy []) hfit
        exact absurd hfit (by simp[q4h])
       ·have hBc:=q0G sy [] hsy hbm
        have hFt:=q0M (q3M sy []) hfit
        have HRR:=zb hR
        clear hbm hfit hR
        go_wp2_with fail
        refine(hBc _).mono ?_
        rintro e w2 ⟨rfl,rfl⟩
        go_wp2_with fail
        refine(hFt _).mono ?_
        rintro e w3 ⟨rfl,hb3⟩
        go_wp2_with fail
        go_ret3
        exact q6k HRo (HRR.out.trans (by simp[plc])) rfl (hbel.trans (hb3.mono hbel.size))
     ·skip
      by_cases hlt:i<toks.length
      ·obtain⟨e1,e2,e3⟩:=j5S toks i hlt
       have htl:(toks[i]).text.length≤1000:=zM (q5d (HG.out _ (List.getElem_mem hlt))) (by decide)
       have HTS:=zb hts
       rcases hts with⟨_,hz⟩|⟨b',o',cap',rfl,d1,d2,d3,d4⟩
       ·subst hz;simp at hlt
       obtain⟨hda,hdb⟩:=d4 i hlt
       clear d4
       unfold maxLen at d2
       rw[e1,e3]at hcase
       have HP:Hid (plc s.length (toks.drop i)=(toks[i]).pos):=by unfold Hid;rw[List.drop_eq_getElem_cons hlt];rfl
       clear e1 e2 e3
       generalize (toks[i]).text=t at *
       generalize (toks[i]).pos=pp at *
       rcases hcase with⟨m,hbm,hmg⟩|⟨hbm,hfit,hmg⟩|⟨hbm,hfit,hR⟩
       ·obtain⟨hok1,hok2⟩:=q5A hsy hbm
        have hBc:=q2D sy t m hsy htl hbm
        have hlw:=q4K m
        have hlW:=q4K W
        have HMG:=zb hmg
        clear hbm hmg
        go_wp2_with fail
        refine(hBc _).mono ?_
        rintro e w2 ⟨vm,rfl,hvm,hb2⟩
        have hsz2:=hb2.size
        have hwc:∀j u,(W.map bs)[j]?=some u→w2.cell? ⟨b,o+1+j,none⟩=some u:=fun j u hj=>by rw[zo hb2 b _ hc3];exact HC5.out j u hj
        have HWC:=zb hwc
        clear hwc
        rcases hvm with⟨rfl,rfl⟩|⟨bm,om,capm,rfl,f1,f2,f3,f4⟩
        ·go_wp2_with (first|(at_builtin;refine wpList_append_own_none rfl (.tmp 54) (.tmp 55) 75 rfl w2.heap.size 9 i0 1 Tryz.underlying75 hi0 _ _ _ rfl (zW _ _ _ _) rfl ?_)|(at_builtin;refine q2d rfl (.tmp 57) (.tmp 59) 75 9 rfl Tryz.underlying75 hi0 hz0 hz1 hz2 rfl (by decide) w2 w2.heap.size _ 0 [] (W.map bs) w2 rfl (zW _ _ _ _) b (o+1) W.length (cap-1) (by simp[Act.eval];try omega) (by simp) HWC.out (by simp[Value.oneCell']) (by omega) (by decide) (zB _ _) (zL _) ?_;intro v2 w3 hown3 hb3 _))
         go_roundg g
         case measure=>omega
         case rel=>exact q2Z (m:=[]) HMG hok1 hok2 HSO hwt (by simpa using hown3) hi HTS hbel hb2 hb3
        ·have hmc:∀j u,(m.map bs)[j]?=some u→w2.cell? ⟨bm,om+j,none⟩=some u:=fun j u hj=>q7J f4 j u hj
         have HMC:=zb hmc
         clear hmc f4
         unfold maxLen at f2
         go_wp2_with (first|(at_builtin;refine q2d rfl (.tmp 54) (.tmp 55) 75 9 rfl Tryz.underlying75 hi0 hz0 hz1 hz2 rfl (by decide) w2 w2.heap.size _ 0 [] (m.map bs) w2 rfl (zW _ _ _ _) bm om m.length capm (by simp[Act.eval]) (by simp) HMC.out (by simp[Value.oneCell']) (by omega) (by decide) (zB _ _) (zL _) ?_;intro v3 w3 hown3 hb3 _;have hwc3:=zb (fun j u hj=>(zo hb3 b (o+1+j) (by omega)).trans (HWC.out j u hj)))|(at_builtin;refine q2d rfl (.tmp 57) (.tmp 59) 75 9 rfl Tryz.underlying75 hi0 hz0 hz1 hz2 rfl (by decide) w2 w2.heap.size _ (0+m.length) ([]++m.map bs) (W.map bs) w3 rfl hown3 b (o+1) W.length (cap-1) (by simp[Act.eval];try omega) (by simp) hwc3.out (by simp[Value.oneCell']) (by omega) (by decide) hb3 hb3.size ?_;intro v4 w4 hown4 hb4 _))
         go_roundg g
         case measure=>omega
         case rel=>exact q2Z HMG hok1 hok2 HSO hwt (by simpa using hown4) hi HTS hbel hb2 hb4
       ·have hBc:=q0G sy t hsy hbm
        have hFt:=q0M (q3M sy t) hfit
        have HMG:=zb hmg
        clear hbm hfit hmg
        go_wp2_with fail
        refine(hBc _).mono ?_
        rintro e w2 ⟨rfl,rfl⟩
        go_wp2_with fail
        refine(hFt _).mono ?_
        rintro e w3 ⟨rfl,hb3⟩
        go_wp2_with fail
        go_roundg g
        case measure=>omega
        case rel=>exact j3W HMG HSO hwt (by exact q1f.tail hc1 (by unfold maxLen;omega) hc3 HC5.out) hlt HTS hbel hb3
       ·have hBc:=q0G sy t hsy hbm
        have hFt:=q0M (q3M sy t) hfit
        have HRR:=zb hR
        clear hbm hfit hR
        go_wp2_with fail
        refine(hBc _).mono ?_
        rintro e w2 ⟨rfl,rfl⟩
        go_wp2_with fail
        refine(hFt _).mono ?_
        rintro e w3 ⟨rfl,hb3⟩
        go_wp2_with fail
        go_ret3
        exact q6k HRo (HRR.out.trans (by rw[HP.out])) rfl (hbel.trans (hb3.mono hbel.size))
      ·have hie:toks.length≤i:=by omega
       have hdn:toks.drop i=[]:=List.drop_of_length_le (by omega)
       have htl:([]:By).length≤1000:=by decide
       have HTS:=zb hts
       have HP:Hid (plc s.length (toks.drop i)=s.length):=by unfold Hid;rw[hdn];rfl
       rw[hdn]at hcase
       clear hdn
       obtain⟨av,nv,cv,rfl,hnv⟩:=q6r hts
       subst hnv
       have hd0:hd ([]:List Tok)=[]:=rfl
       rw[hd0]at hcase
       clear hd0
       rcases hcase with⟨m,hbm,hmg⟩|⟨hbm,hfit,hmg⟩|⟨hbm,hfit,hR⟩
       ·obtain⟨hok1,hok2⟩:=q5A hsy hbm
        have hBc:=q2D sy [] m hsy htl hbm
        have hlw:=q4K m
        have hlW:=q4K W
        have HMG:Hid (q4C s.length g (m++W) (toks.drop i)=some R):=by unfold Hid;rw[List.drop_of_length_le (by omega)];exact hmg
        clear hbm hmg
        go_wp2_with fail
        refine(hBc _).mono ?_
        rintro e w2 ⟨vm,rfl,hvm,hb2⟩
        have hsz2:=hb2.size
        have hwc:∀j u,(W.map bs)[j]?=some u→w2.cell? ⟨b,o+1+j,none⟩=some u:=fun j u hj=>by rw[zo hb2 b _ hc3];exact HC5.out j u hj
        have HWC:=zb hwc
        clear hwc
        rcases hvm with⟨rfl,rfl⟩|⟨bm,om,capm,rfl,f1,f2,f3,f4⟩
        ·go_wp2_with (first|(at_builtin;refine wpList_append_own_none rfl (.tmp 54) (.tmp 55) 75 rfl w2.heap.size 9 i0 1 Tryz.underlying75 hi0 _ _ _ rfl (zW _ _ _ _) rfl ?_)|(at_builtin;refine q2d rfl (.tmp 57) (.tmp 59) 75 9 rfl Tryz.underlying75 hi0 hz0 hz1 hz2 rfl (by decide) w2 w2.heap.size _ 0 [] (W.map bs) w2 rfl (zW _ _ _ _) b (o+1) W.length (cap-1) (by simp[Act.eval];try omega) (by simp) HWC.out (by simp[Value.oneCell']) (by omega) (by decide) (zB _ _) (zL _) ?_;intro v2 w3 hown3 hb3 _))
         go_roundg g
         case measure=>omega
         case rel=>exact q2Z (m:=[]) HMG hok1 hok2 HSO hwt (by simpa using hown3) hi HTS hbel hb2 hb3
        ·have hmc:∀j u,(m.map bs)[j]?=some u→w2.cell? ⟨bm,om+j,none⟩=some u:=fun j u hj=>q7J f4 j u hj
         have HMC:=zb hmc
         clear hmc f4
         unfold maxLen at f2
         go_wp2_with (first|(at_builtin;refine q2d rfl (.tmp 54) (.tmp 55) 75 9 rfl Tryz.underlying75 hi0 hz0 hz1 hz2 rfl (by decide) w2 w2.heap.size _ 0 [] (m.map bs) w2 rfl (zW _ _ _ _) bm om m.length capm (by simp[Act.eval]) (by simp) HMC.out (by simp[Value.oneCell']) (by omega) (by decide) (zB _ _) (zL _) ?_;intro v3 w3 hown3 hb3 _;have hwc3:=zb (fun j u hj=>(zo hb3 b (o+1+j) (by omega)).trans (HWC.out j u hj)))|(at_builtin;refine q2d rfl (.tmp 57) (.tmp 59) 75 9 rfl Tryz.underlying75 hi0 hz0 hz1 hz2 rfl (by decide) w2 w2.heap.size _ (0+m.length) ([]++m.map bs) (W.map bs) w3 rfl hown3 b (o+1) W.length (cap-1) (by simp[Act.eval];try omega) (by simp) hwc3.out (by simp[Value.oneCell']) (by omega) (by decide) hb3 hb3.size ?_;intro v4 w4 hown4 hb4 _))
         go_roundg g
         case measure=>omega
         case rel=>exact q2Z HMG hok1 hok2 HSO hwt (by simpa using hown4) hi HTS hbel hb2 hb4
       ·have hBc:=q0G sy [] hsy hbm
        have hFt:=q0M (q3M sy []) hfit
        exact absurd hfit (by simp[q4h])
       ·have hBc:=q0G sy [] hsy hbm
        have hFt:=q0M (q3M sy []) hfit
        have HRR:=zb hR
        clear hbm hfit hR
        go_wp2_with fail
        refine(hBc _).mono ?_
        rintro e w2 ⟨rfl,rfl⟩
        go_wp2_with fail
        refine(hFt _).mono ?_
        rintro e w3 ⟨rfl,hb3⟩
        go_wp2_with fail
        go_ret3
        exact q6k HRo (HRR.out.trans (by simp[plc])) rfl (hbel.trans (hb3.mono hbel.size))
end Go.Proofs.YtiamjjonoeaggabGreatDoor
namespace Go.Proofs.YtiamjjonoeaggabGreatDoor
open Go.RowKit
def qB (w:World)(v:Value)(u:List Tok):Prop:=∃b o cap,v=.agg #[.slice (some ⟨b,o,none⟩) u.length cap]∧q3Y w (.slice (some ⟨b,o,none⟩) u.length cap) u∧0<u.length∧u.length≤1000
theorem qe {w:World}{v:Value}{u:List Tok}(h:qB w v u):∃b o cap,v=.agg #[.slice (some ⟨b,o,none⟩) u.length cap]∧u.length≤cap∧cap≤maxLen∧b<w.heap.size∧0<u.length∧u.length≤1000∧∀i (h:i<u.length),w.cell? ⟨b,o+i*2,none⟩=some (bs (u[i]).text)∧w.cell? ⟨b,o+i*2+1,none⟩=some (.int .i64 (u[i]).pos):=by
 obtain⟨b,o,cap,rfl,ht,h0,h1⟩:=h
 rcases ht with⟨e,_⟩|⟨b',o',cap',e,c1,c2,c3,c4⟩
 ·simp at e
 ·simp at e
  obtain⟨⟨rfl,rfl⟩,rfl⟩:=e
  exact⟨_,_,_,rfl,c1,c2,c3,h0,h1,c4⟩
theorem qB.below {w w':World}{v:Value}{u:List Tok}(h:qB w v u)(hb:Below w.heap.size w w'):qB w' v u:=by
 obtain⟨b,o,cap,e,ht,h0,h1⟩:=h
 exact⟨b,o,cap,e,ht.below hb (zL _),h0,h1⟩
theorem j5T {u:List Tok}(h:0<u.length):(u[0]).text=hd u:=by
 cases u with
 |nil=>simp at h
 |cons t r=>rfl
theorem q0b (v:Value)(u:List Tok)(w:World)(h:qB w v u) :
  Calls Tryz.prog 109 #[v] w fun e w'=>e=.returned (bs (hd u))∧Below w.heap.size w w':=by
 obtain⟨b,o,cap,rfl,h1,h2,h3,h4,h5,h6⟩:=qe h
 have hc:=(h6 0 h4).1
 rw[j5T h4]at hc
 simp only[Nat.zero_mul,Nat.add_zero]at hc
 clear h6 h
 generalize hd u=t at *
 unfold maxLen at h2
 go_enter Tryz.func109,Tryz.ntmps109
 go_wp2_with fail
 go_ret
 exact⟨rfl,(zB _ _).alloc (zL _) _⟩
theorem j7a {u:List Tok}{k:Nat}(hk:k<u.length)(hb:∀j (h:j<u.length),j<k→((u[j]).text==[40])=false)(he:((u[k]).text==[40])=true):q1u u=k:=by
 unfold q1u
 rw[List.findIdx_eq hk]
 exact⟨he,fun j hj=>by have:=hb j (by omega) hj;simp[this]⟩
theorem ref_open (v:Value)(u:List Tok)(w:World)(h:qB w v u) :
  Calls Tryz.prog 145 #[v] w fun e w'=>e=.returned (.int .i64 (q1u u))∧Below w.heap.size w w':=by
 obtain⟨b,o,cap,rfl,h1,h2,h3,h4,h5,h6⟩:=qe h
 have H6:=zb h6
 clear h6 h
 unfold maxLen at h2
 go_enter Tryz.func145,Tryz.ntmps145
 go_wp2_with fail
 go_loop [3] (fun i=>∃k:Nat,k≤u.length∧i=.int .i64 k∧Hid (∀j (h:j<u.length),j<k→((u[j]).text==[40])=false)) (fun i=>u.length-(intOf i).toNat)
 case atStart=>exact⟨0,zZ _,rfl,fun j _ hj=>absurd hj (by omega)⟩
 case round =>
  obtain⟨k,hk,rfl,HF⟩:=hrel
  by_cases hlt:k<u.length
  ·have hck:=(H6.out k hlt).1
   cases he:((u[k]).text==[40])with
   |true =>
    have HE:=zb (j7a hlt HF.out he)
    generalize (u[k]).text=t at *
    go_wp2_with fail
    go_ret
    exact⟨q1l (by rw[HE.out]),(zB _ _).alloc (zL _) _⟩
   |false =>
    have HE:=zb he
    generalize ht:(u[k]).text=t at *
    have HT:=zb ht
    clear ht
    go_wp2_with fail
    go_round
    case rel =>
     refine⟨k+1,by omega,by go_num,fun j hj hjk=>?_⟩
     rcases Nat.lt_or_ge j k with g|g
     ·exact HF.out j hj g
     ·have:j=k:=by omega
      subst this
      rw[HT.out]
      exact HE.out
    case measure=>simp[intOf];omega
  ·have HE:Hid (q1u u=u.length):=by
    unfold Hid q1u
    rw[List.findIdx_eq_length]
    intro x hx
    obtain⟨j,hj,rfl⟩:=List.mem_iff_getElem.1 hx
    have:=HF.out j hj (by omega)
    simp[this]
   go_wp2_with fail
   go_ret
   exact⟨q1l (by rw[HE.out]),(zB _ _).alloc (zL _) _⟩
end Go.Proofs.YtiamjjonoeaggabGreatDoor
namespace Go.Proofs.YtiamjjonoeaggabGreatDoor
open Go.RowKit
def q5V (w:World)(v:Value)(us:List (List Tok)):Prop:=
 (v=.slice none 0 0∧us=[])∨∃g o cap,v=.slice (some ⟨g,o,none⟩) us.length cap∧us.length≤cap∧cap≤maxLen∧g<w.heap.size∧∀j (h:j<us.length),∃x,w.cell? ⟨g,o+j,none⟩=some x∧qB w (.agg #[x]) us[j]
theorem q5V.below {w w':World}{v:Value}{us:List (List Tok)}(h:q5V w v us)(hb:Below w.heap.size w w'):q5V w' v us:=by
 rcases h with h|⟨g,o,cap,e,h1,h2,h3,h4⟩
 ·exact .inl h
 ·refine .inr ⟨g,o,cap,e,h1,h2,zT h3 hb.size,fun j hj=>?_⟩
  obtain⟨x,hx,hf⟩:=h4 j hj
  exact⟨x,by rw[zo hb g _ h3];exact hx,hf.below hb⟩
theorem j3s:(Tryz.prog.info? 112).map (fun i=>(i.zero,i.size,i.bytes))=some (some (.agg #[.slice none 0 0]),1,24):=by kernel_rfl
def q6a (b o cap:Nat)(c:Nat × Nat):Value:=.slice (some ⟨b,o+c.1*2,none⟩) (c.2-c.1) (cap-c.1)
theorem q6n (v:Value)(u:List Tok)(w:World)(h:qB w v u)(hl:q3Z (hd u)=true) :
  Calls Tryz.prog 107 #[v] w fun e w'=>e=.returned (.slice none 0 0)∧Below w.heap.size w w':=by
 have HF:=zb h
 obtain⟨b,o,cap,rfl,_⟩:=qe h
 unfold q3Z at hl
 have hN:=q5L (hd u)
 generalize zv (hd u)=nm at *
 have hW:∀w1,Below w.heap.size w w1→Calls Tryz.prog 109 #[.agg #[.slice (some ⟨b,o,none⟩) u.length cap]] w1 fun e w'=>e=.returned (bs (hd u))∧Below w1.heap.size w1 w':=fun w1 hb=>q0b _ u w1 (HF.out.below hb)
 clear h
 generalize hd u=t at *
 cases hx:(t==[116,114,117,101])with
 |true =>
  clear hl
  go_enter Tryz.func107,Tryz.ntmps107
  go_wp2_with fail
  refine(hW _ ((zB _ _).alloc (zL _) _)).mono ?_
  rintro e w1 ⟨rfl,hb1⟩
  go_wp2_with fail
  go_ret
  exact⟨rfl,((zB _ _).alloc (zL _) _).trans (hb1.mono (by simp))⟩
 |false =>
  rw[hx,Bool.false_or]at hl
  subst hl
  go_enter Tryz.func107,Tryz.ntmps107
  go_wp2_with fail
  refine(hW _ ((zB _ _).alloc (zL _) _)).mono ?_
  rintro e w1 ⟨rfl,hb1⟩
  have q1:=((zB w.heap.size w).alloc (zL _) _).trans (hb1.mono (by simp))
  have hc1:=zo hb1 w.heap.size 0 (by simp)
  go_wp2_with fail
  refine(hW _ q1).mono ?_
  rintro e w2 ⟨rfl,hb2⟩
  go_wp2_with fail
  refine(hN _).mono ?_
  rintro e w3 ⟨rfl,hb3⟩
  go_wp2_with fail
  go_ret
  exact⟨rfl,(q1.trans (hb2.mono q1.size)).trans (hb3.mono (zM q1.size hb2.size))⟩
theorem j1V (t:By):t=[40]∨t=[91]∨t=[41]∨t=[93]∨t=[44]∨((t==[40])=false∧(t==[91])=false∧(t==[41])=false∧(t==[93])=false∧(t==[44])=false):=by
 by_cases h1:t=[40]
 ·exact .inl h1
 by_cases h2:t=[91]
 ·exact .inr (.inl h2)
 by_cases h3:t=[41]
 ·exact .inr (.inr (.inl h3))
 by_cases h4:t=[93]
 ·exact .inr (.inr (.inr (.inl h4)))
 by_cases h5:t=[44]
 ·exact .inr (.inr (.inr (.inr (.inl h5))))
 exact .inr (.inr (.inr (.inr (.inr ⟨by simp[h1],by simp[h2],by simp[h3],by simp[h4],by simp[h5]⟩))))
def PRel (u:List Tok)(C:List (Nat × Nat))(b o cap:Nat)(B:Nat)(W0:World)(vo va vd vi:Value)(wr:World):Prop:=
 ∃(i a:Nat) (d:Int) (acc:List (Nat × Nat)),i≤u.length∧a≤i∧-(i:Int)≤d∧d≤i∧acc.length≤i∧va=.int .i64 a∧vd=.int .i64 d∧vi=.int .i64 i∧acc++q2J (u.drop i) i a d=C∧wr.ownsRow B 112 1 vo acc.length (acc.map (q6a b o cap))∧Below B W0 wr
theorem q1V {u:List Tok}{C:List (Nat × Nat)}{b o cap B:Nat}{W0 wr:World}{vo:Value}{i a:Nat}{d:Int}{acc:List (Nat × Nat)}{t:By}(hlt:i<u.length)(ha:a≤i)(h1:-(i:Int)≤d)(h2:d≤i)(hacc:acc.length≤i)(hC:acc++q2J (u.drop i) i a d=C)
  (ht:(u[i]).text=t)(hs:(d==0&&q9c t)=false)(hown:wr.ownsRow B 112 1 vo acc.length (acc.map (q6a b o cap)))(hb:Below B W0 wr){d':Int}(hd:depth t d=d'){i':Int}(hi':i'=(i:Int)+1):PRel u C b o cap B W0 vo (.int .i64 a) (.int .i64 d') (.int .i64 i') wr:=by
 refine⟨i+1,a,d',acc,hlt,by omega,?_,?_,by omega,rfl,rfl,by rw[hi'];simp,?_,hown,hb⟩
 ·rw[←hd];unfold depth;split<;>split<;>simp<;>omega
 ·rw[←hd];unfold depth;split<;>split<;>simp<;>omega
 ·rw[←hC,List.drop_eq_getElem_cons hlt,q2J,ht,hs,if_neg (by simp),hd]
theorem j3P {u:List Tok}{C:List (Nat × Nat)}{b o cap B:Nat}{W0 wr:World}{vo:Value}{i a:Nat}{acc:List (Nat × Nat)}{t:By}(hlt:i<u.length)(hacc:acc.length≤i)(hC:acc++q2J (u.drop i) i a 0=C)
  (ht:(u[i]).text=t)(hs:q9c t=true)(hown:wr.ownsRow B 112 1 vo (acc.length+1) (acc.map (q6a b o cap)++[q6a b o cap (a,i)]))(hb:Below B W0 wr){d':Int}(hd:depth t 0=d'){i' a':Int}(hi':i'=(i:Int)+1)(ha':a'=(i:Int)+1):PRel u C b o cap B W0 vo (.int .i64 a') (.int .i64 d') (.int .i64 i') wr:=by
 refine⟨i+1,i+1,d',acc++[(a,i)],hlt,by omega,?_,?_,by simp;omega,by rw[ha'];simp,rfl,by rw[hi'];simp,?_,?_,hb⟩
 ·rw[←hd];unfold depth;split<;>split<;>simp<;>omega
 ·rw[←hd];unfold depth;split<;>split<;>simp<;>omega
 ·rw[←hC,List.drop_eq_getElem_cons hlt,q2J,ht,hs]
  simp[hd]
 ·simpa using hown
theorem j7d {C acc:List (Nat × Nat)}{w w':World}{b o cap:Nat}{v:Value}{X:Obj}(h:Hid (acc=C))(hown:w'.ownsRow (w.heap.size+1) 112 1 v acc.length (acc.map (q6a b o cap)))(hb:Below (w.heap.size+1) (w.alloc X) w') :
  ∃v',Ending.returned v=.returned v'∧w'.ownsRow w.heap.size 112 1 v' C.length (C.map (q6a b o cap))∧Below w.heap.size w w':=by
 have:=h.out
 subst this
 refine⟨v,rfl,?_,((zB _ _).alloc (zL _) _).trans (hb.mono (by omega))⟩
 obtain⟨h1,h2⟩:=hown
 refine⟨h1,?_⟩
 rcases h2 with h2|⟨g,cp,cur,e1,e2,e3⟩
 ·exact .inl h2
 ·exact .inr ⟨g,cp,cur,e1,by omega,e3⟩
theorem q6m (b o cap:Nat)(u:List Tok)(w:World)(h:qB w (.agg #[.slice (some ⟨b,o,none⟩) u.length cap]) u)(hl:q3Z (hd u)=false)(hop:q1u u<u.length) :
  Calls Tryz.prog 107 #[.agg #[.slice (some ⟨b,o,none⟩) u.length cap]] w fun e w'=>∃v,e=.returned v∧w'.ownsRow w.heap.size 112 1 v (q2J (u.drop (q1u u+1)) (q1u u+1) (q1u u+1) 0).length ((q2J (u.drop (q1u u+1)) (q1u u+1) (q1u u+1) 0).map (q6a b o cap))∧Below w.heap.size w w':=by
 have HF:=zb h
 obtain⟨b',o',cap',e,h1,h2,h3,h4,h5,h6⟩:=qe h
 simp at e
 obtain⟨⟨rfl,rfl⟩,rfl⟩:=e
 have H6:=zb h6
 clear h6 h
 unfold maxLen at h2
 obtain⟨i0,hi0,hz0,hz1,hz2⟩:=info_parts j3s
 unfold q3Z at hl
 rw[Bool.or_eq_false_iff]at hl
 obtain⟨hl1,hl2⟩:=hl
 have hN:=q0M (q5L (hd u)) hl2
 have hO:∀w1,Below w.heap.size w w1→Calls Tryz.prog 145 #[.agg #[.slice (some ⟨b,o,none⟩) u.length cap]] w1 fun e w'=>e=.returned (.int .i64 (q1u u))∧Below w1.heap.size w1 w':=fun w1 hb=>ref_open _ u w1 (HF.out.below hb)
 have hW:∀w1,Below w.heap.size w w1→Calls Tryz.prog 109 #[.agg #[.slice (some ⟨b,o,none⟩) u.length cap]] w1 fun e w'=>e=.returned (bs (hd u))∧Below w1.heap.size w1 w':=fun w1 hb=>q0b _ u w1 (HF.out.below hb)
 clear hl2
 generalize hCC:q2J (u.drop (q1u u+1)) (q1u u+1) (q1u u+1) 0=C at *
 have HC:=zb hCC
 clear hCC
 generalize q1u u=op at *
 generalize hd u=t0 at *
 go_enter Tryz.func107,Tryz.ntmps107
 go_wp2_with fail
 refine(hW _ ((zB _ _).alloc (zL _) _)).mono ?_
 rintro e w1 ⟨rfl,hb1⟩
 have q1:=((zB w.heap.size w).alloc (zL _) _).trans (hb1.mono (by simp))
 have r1:=hb1.mono (B':=w.heap.size+1) (by simp)
 have hc1:=zo r1 w.heap.size 0 (by simp)
 clear hb1
 go_wp2_with fail
 refine(hW _ q1).mono ?_
 rintro e w2 ⟨rfl,hb2⟩
 have hs1:=r1.size
 simp at hs1
 have q2:=q1.trans (hb2.mono q1.size)
 have r2:=r1.trans (hb2.mono (by omega))
 clear hb2 q1 hc1
 go_wp2_with fail
 refine(hN _).mono ?_
 rintro e w3 ⟨rfl,hb3⟩
 have hs2:=r2.size
 simp at hs2
 have q3:=q2.trans (hb3.mono q2.size)
 have r3:=r2.trans (hb3.mono (by omega))
 have hc3:=zo r3 w.heap.size 0 (by simp)
 clear hb3 q2 r1 r2
 go_wp2_with fail
 refine(hO _ q3).mono ?_
 rintro e w4 ⟨rfl,hb4⟩
 have hs3:=r3.size
 simp at hs3
 have q4:=q3.trans (hb4.mono q3.size)
 have r4:=r3.trans (hb4.mono (by omega))
 clear hb4 q3 r3 hc3
 go_wp2_with fail
 go_loopw [3,4,5,6] (fun vo va vd vi wr=>PRel u C b o cap (w.heap.size+1) (w.alloc (.cells #[.slice (some ⟨b,o,none⟩) u.length cap] 112)) vo va vd vi wr) (fun _ _ _ vi _=>u.length-(intOf vi).toNat)
 case atStart =>
  exact⟨op+1,op+1,0,[],by omega,zL _,by omega,by omega,by simp,by simp,rfl,by simp,by simpa using HC.out,zW _ _ _ _,r4⟩
 case round =>
  obtain⟨i,a,d,acc,hi,ha,hd1,hd2,hacc,rfl,rfl,rfl,hC,hown,hbel⟩:=hrel
  clear r4 q4
  have HC:=zb hC
  clear hC
  have hcb:=zo hbel w.heap.size 0 (by simp)
  by_cases hlt:i<u.length
  ·have hct:=(zo hbel b (o+i*2) (by omega)).trans ((World.cell?_alloc_lt _ _ _ h3).trans (H6.out i hlt).1)
   generalize ht:(u[i]).text=t at *
   have HT:=zb ht
   clear ht
   have hsz:=hbel.size
   simp at hsz
   by_cases hd0:d=0
   ·subst hd0
    clear hd1 hd2
    have hd1:-(i:Int)≤0:=by omega
    have hd2:(0:Int)≤i:=by omega
    rcases j1V t with rfl|rfl|rfl|rfl|rfl|⟨g1,g2,g3,g4,g5⟩
    ·go_wp2_with fail
     go_roundw
     case rel=>exact q1V hlt ha hd1 hd2 hacc HC.out HT.out rfl hown hbel (by rfl) rfl
     case measure=>simp[intOf];omega
    ·go_wp2_with fail
     go_roundw
     case rel=>exact q1V hlt ha hd1 hd2 hacc HC.out HT.out rfl hown hbel (by rfl) rfl
     case measure=>simp[intOf];omega
    ·go_wp2_with (at_builtin;refine q2c rfl (.tmp 44) (.tmp 51) 174 112 rfl Tryz.underlying174 hi0 hz0 hz1 hz2 rfl (by decide) _ (w.heap.size+1) _ _ _ [q6a b o cap (a,i)] wr rfl hown (by simp[Act.eval]) rfl (by simp[q6a,Value.oneCell']) (by omega) (by decide) hbel (by omega) ?_;intro v' w' hown' hbel' hne)
     go_roundw
     case rel=>exact j3P hlt hacc HC.out HT.out rfl hown' hbel' (by rfl) rfl rfl
     case measure=>simp[intOf];omega
    ·go_wp2_with fail
     go_roundw
     case rel=>exact q1V hlt ha hd1 hd2 hacc HC.out HT.out rfl hown hbel (by rfl) rfl
     case measure=>simp[intOf];omega
    ·go_wp2_with (at_builtin;refine q2c rfl (.tmp 44) (.tmp 51) 174 112 rfl Tryz.underlying174 hi0 hz0 hz1 hz2 rfl (by decide) _ (w.heap.size+1) _ _ _ [q6a b o cap (a,i)] wr rfl hown (by simp[Act.eval]) rfl (by simp[q6a,Value.oneCell']) (by omega) (by decide) hbel (by omega) ?_;intro v' w' hown' hbel' hne)
     go_roundw
     case rel=>exact j3P hlt hacc HC.out HT.out rfl hown' hbel' (by rfl) rfl rfl
     case measure=>simp[intOf];omega
    ·go_wp2_with fail
     go_roundw
     case rel=>exact q1V hlt ha hd1 hd2 hacc HC.out HT.out (by simp[q9c,g3,g5]) hown hbel (by simp[depth,q4k,q4j,g1,g2,g3,g4]) rfl
     case measure=>simp[intOf];omega
   ·have hdz:(d==0)=false:=by simp[hd0]
    clear hd0
    rcases j1V t with rfl|rfl|rfl|rfl|rfl|⟨g1,g2,g3,g4,g5⟩
    ·go_wp2_with fail
     go_roundw
     case rel=>exact q1V hlt ha hd1 hd2 hacc HC.out HT.out (by rw[hdz];rfl) hown hbel (by simp[depth,q4k,q4j]) rfl
     case measure=>simp[intOf];omega
    ·go_wp2_with fail
     go_roundw
     case rel=>exact q1V hlt ha hd1 hd2 hacc HC.out HT.out (by rw[hdz];rfl) hown hbel (by simp[depth,q4k,q4j]) rfl
     case measure=>simp[intOf];omega
    ·go_wp2_with fail
     go_roundw
     case rel=>exact q1V hlt ha hd1 hd2 hacc HC.out HT.out (by rw[hdz];rfl) hown hbel (by simp[depth,q4k,q4j]) rfl
     case measure=>simp[intOf];omega
    ·go_wp2_with fail
     go_roundw
     case rel=>exact q1V hlt ha hd1 hd2 hacc HC.out HT.out (by rw[hdz];rfl) hown hbel (by simp[depth,q4k,q4j]) rfl
     case measure=>simp[intOf];omega
    ·go_wp2_with fail
     go_roundw
     case rel=>exact q1V hlt ha hd1 hd2 hacc HC.out HT.out (by rw[hdz];rfl) hown hbel (by simp[depth,q4k,q4j]) rfl
     case measure=>simp[intOf];omega
    ·go_wp2_with fail
     go_roundw
     case rel=>exact q1V hlt ha hd1 hd2 hacc HC.out HT.out (by rw[hdz];rfl) hown hbel (by simp[depth,q4k,q4j,g1,g2,g3,g4]) rfl
     case measure=>simp[intOf];omega
  ·have HCC:Hid (acc=C):=by
    unfold Hid
    have:=HC.out
    rw[List.drop_of_length_le (by omega)]at this
    simpa[q2J]using this
   clear HC
   go_wp2_with fail
   go_ret
   exact j7d HCC hown hbel
end Go.Proofs.YtiamjjonoeaggabGreatDoor
namespace Go.Proofs.YtiamjjonoeaggabGreatDoor
open Go.RowKit
theorem q1W {F:zl}{u:List Tok}(h:qz F u):0<u.length:=by
 cases F with
 |nil=>exact h.elim
 |node p sp y l r =>
  rcases h with⟨_,_,_,_,_,q1,q2,q3,x,hx,hb⟩|⟨_,hw,_,_,_,v,q1,q2,q3,ul,hv,_,hl,rfl⟩|⟨_,hw,_,_,_,q1,q2,q3,ul,ur,hl,hr,rfl⟩|⟨_,hw,_,_,hlo,hhi,q1,q2,q3,q4,q5,q6,ul,hl,rfl⟩|⟨_,hw,_,hlo,hhi,q1,q2,q3,q4,q5,q6,q7,ul,ur,hl,hr,rfl⟩|⟨_,hw,_,_,_,_,_,rfl⟩
  ·rcases hb with⟨_,rfl⟩|⟨z,q4,q5,hz,_,rfl⟩<;>simp
  all_goals simp
def q4A:zl→By
 | .nil=>[]
 | .node _ _ y _ _=>y.word
theorem q3z {F:zl}{u:List Tok}(h:qz F u):hd u=q4A F:=by
 cases F with
 |nil=>exact h.elim
 |node p sp y l r =>
  rcases h with⟨_,_,_,_,_,q1,q2,q3,x,hx,hb⟩|⟨_,hw,_,_,_,v,q1,q2,q3,ul,hv,_,hl,rfl⟩|⟨_,hw,_,_,_,q1,q2,q3,ul,ur,hl,hr,rfl⟩|⟨_,hw,_,_,hlo,hhi,q1,q2,q3,q4,q5,q6,ul,hl,rfl⟩|⟨_,hw,_,hlo,hhi,q1,q2,q3,q4,q5,q6,q7,ul,ur,hl,hr,rfl⟩|⟨_,hw,_,_,_,_,_,rfl⟩
  ·rcases hb with⟨_,rfl⟩|⟨z,q4,q5,hz,_,rfl⟩<;>rfl
  all_goals rfl
theorem q5H {t:By}(hn:zv t=false)(h:q1K t=true):q3Z t=false:=by
 have hc:=q6f h
 unfold q3Z
 rw[hn,Bool.or_false]
 simp only[List.mem_cons,List.not_mem_nil,or_false]at hc
 rcases hc with rfl|rfl|rfl|rfl|rfl|rfl|rfl|rfl|rfl|rfl|rfl|rfl<;>decide
theorem q6z {F:zl}{u:List Tok}(h:qz F u)(hlf:q3Z (hd u)=true):q1g F=[]:=by
 cases F with
 |nil=>exact h.elim
 |node p sp y l r =>
  rcases h with⟨hn,_,_,rfl,rfl,_⟩|⟨hn,hw,_,_,_,v,q1,q2,q3,ul,hv,_,hl,rfl⟩|⟨hn,hw,_,_,_,q1,q2,q3,ul,ur,hl,hr,rfl⟩|⟨hn,hw,_,_,hlo,hhi,q1,q2,q3,q4,q5,q6,ul,hl,rfl⟩|⟨hn,hw,_,hlo,hhi,q1,q2,q3,q4,q5,q6,q7,ul,ur,hl,hr,rfl⟩|⟨_,hw,_,_,_,rfl,rfl,rfl⟩
  ·rfl
  ·have:q1K y.word=true:=by unfold q1K;rw[hw];rfl
   rw[show hd _=y.word from rfl,q5H hn this]at hlf
   simp at hlf
  ·rw[show hd _=y.word from rfl,q5H hn (j0g hw)]at hlf
   simp at hlf
  ·rw[show hd _=y.word from rfl,q5H hn (j2t hw)]at hlf
   simp at hlf
  ·rw[show hd _=y.word from rfl,q5H hn (j2u hw)]at hlf
   simp at hlf
  ·rfl
theorem j5Z {F:zl}{u:List Tok}(h:qz F u)(hlf:q3Z (hd u)=false):q1u u<u.length:=by
 rcases q5F h hlf with⟨l,ul,a,_,hr,hc,_,h1,_⟩|⟨l,r,ul,ur,a,a',_,hr,_,hc,_,_,h1,h2,_⟩
 ·rcases Nat.lt_or_ge (q1u u) u.length with g|g
  ·exact g
  ·rw[List.drop_of_length_le (by omega)]at hc
   simp[q2J]at hc
 ·rcases Nat.lt_or_ge (q1u u) u.length with g|g
  ·exact g
  ·rw[List.drop_of_length_le (by omega)]at hc
   simp[q2J]at hc
theorem q9E {w:World}{b o cap:Nat}{u ul:List Tok}{a:Nat}(h:qB w (.agg #[.slice (some ⟨b,o,none⟩) u.length cap]) u)(hs:(u.drop a).take ul.length=ul)(ha:a+ul.length<u.length)(h0:0<ul.length):qB w (.agg #[q6a b o cap (a,a+ul.length)]) ul:=by
 obtain⟨b',o',cap',e,h1,h2,h3,h4,h5,h6⟩:=qe h
 simp at e
 obtain⟨⟨rfl,rfl⟩,rfl⟩:=e
 have hv:q6a b o cap (a,a+ul.length)=.slice (some ⟨b,o+a*2,none⟩) ul.length (cap-a):=by simp[q6a]
 rw[hv]
 refine⟨b,o+a*2,cap-a,rfl,.inr ⟨b,o+a*2,cap-a,rfl,by omega,by omega,h3,fun i hi=>?_⟩,h0,by omega⟩
 have hg:ul[i]=u[a+i]'(by omega):=by
  have:ul[i]?=u[a+i]?:=by
   rw[←hs,List.getElem?_take_of_lt hi,List.getElem?_drop]
  rw[zG hi,zG (by omega)]at this
  exact Option.some.inj this
 have:=h6 (a+i) (by omega)
 rw[hg,show o+a*2+i*2=o+(a+i)*2 from by omega]
 exact this
theorem q6A {u ul:List Tok}{a:Nat}(hs:(u.drop a).take ul.length=ul):∀t∈ul,t∈u:=by
 intro t ht
 rw[←hs]at ht
 exact List.mem_of_mem_drop (List.mem_of_mem_take ht)
theorem q6H (F:zl)(u:List Tok)(v:Value)(w:World)(hR:qz F u)(hF:qB w v u) :
  Calls Tryz.prog 107 #[v] w fun e w'=>∃(v':Value) (ks:List (zl × List Tok)),e=.returned v'∧ks.map Prod.fst=q1g F∧(∀k∈ks,qz k.1 k.2∧∀t∈k.2,t∈u)∧q5V w' v' (ks.map Prod.snd)∧Below w.heap.size w w':=by
 cases hlf:q3Z (hd u)with
 |true =>
  refine(q6n v u w hF hlf).mono ?_
  rintro e w' ⟨rfl,hb⟩
  exact⟨_,[],rfl,(q6z hR hlf).symm,by simp,.inl ⟨rfl,rfl⟩,hb⟩
 |false =>
  obtain⟨b,o,cap,rfl,_⟩:=qe hF
  refine(q6m b o cap u w hF hlf (j5Z hR hlf)).mono ?_
  rintro e w' ⟨v',rfl,hown,hb⟩
  have hF':=hF.below hb
  rcases q5F hR hlf with⟨l,ul,a,hk,hr,hc,hs,h1,_⟩|⟨l,r,ul,ur,a,a',hk,hr,hr',hc,hs,hs',h1,h2,_⟩
  ·rw[hc]at hown
   refine⟨v',[(l,ul)],rfl,hk.symm,by simp only[List.mem_singleton];rintro k rfl;exact⟨hr,q6A hs⟩,?_,hb⟩
   obtain⟨_,h⟩:=id hown
   rcases h with⟨_,hn⟩|⟨g,cp,cur,rfl,e2,e3,e4,e5,e6,e7⟩
   ·simp at hn
   ·have hlt:g<w'.heap.size:=by
     rcases Nat.lt_or_ge g w'.heap.size with h'|h'
     ·exact h'
     ·simp[Array.getElem?_eq_none h']at e3
    refine .inr ⟨g,0,cp,rfl,e4,e5,hlt,fun j hj=>?_⟩
    simp at hj
    subst hj
    exact⟨_,hown.cellAt 0 (by simp),q9E hF' hs h1 (q1W hr)⟩
  ·rw[hc]at hown
   refine⟨v',[(l,ul),(r,ur)],rfl,hk.symm,by simp only[List.mem_cons,List.not_mem_nil,or_false];rintro k (rfl|rfl)<;>first|exact⟨hr,q6A hs⟩|exact⟨hr',q6A hs'⟩,?_,hb⟩
   obtain⟨_,h⟩:=id hown
   rcases h with⟨_,hn⟩|⟨g,cp,cur,rfl,e2,e3,e4,e5,e6,e7⟩
   ·simp at hn
   ·have hlt:g<w'.heap.size:=by
     rcases Nat.lt_or_ge g w'.heap.size with h'|h'
     ·exact h'
     ·simp[Array.getElem?_eq_none h']at e3
    refine .inr ⟨g,0,cp,rfl,e4,e5,hlt,fun j hj=>?_⟩
    simp at hj
    rcases(by omega:j=0∨j=1)with rfl|rfl
    ·exact⟨_,hown.cellAt 0 (by simp),q9E hF' hs (by omega) (q1W hr)⟩
    ·exact⟨_,hown.cellAt 1 (by simp),q9E hF' hs' h2 (q1W hr')⟩
end Go.Proofs.YtiamjjonoeaggabGreatDoor
