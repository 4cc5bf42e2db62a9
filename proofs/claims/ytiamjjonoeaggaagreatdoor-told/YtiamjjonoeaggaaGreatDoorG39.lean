import Derived.Test.YtiamjjonoeaggaaGreatDoorGA
import Derived.Test.YtiamjjonoeaggaaGreatDoorGB
import Derived.Test.YtiamjjonoeaggaaGreatDoorG38
set_option maxRecDepth 100000
set_option maxHeartbeats 16000000
namespace Go.Proofs.YtiamjjonoeaggaaGreatDoor
open Go.RowKit
theorem row_le1 {f:Nat→Bool}(h:∀y,0<y→y<10→f y=false):q1s f≤1:=by
 have e:q1s f=q1s (fun y=>decide (y=0)&&f 0):=q3r (fun y hy=>by
  by_cases h0:y=0
  ·subst h0;simp
  ·rw[h y (by omega) hy,decide_eq_false h0];rfl)
 rw[e]
 cases f 0
 ·have:q1s (fun y=>decide (y=0)&&false)=0:=by decide
  omega
 ·have:q1s (fun y=>decide (y=0)&&true)=1:=by decide
  omega
structure FitH (fx fy:Bool)(h:Nat→Int):Prop where
 lt:∀x,x<10→0≤h x∧h x<1024
 zero:fx=false→∀x,0<x→x<10→h x=0
 one:fy=false→∀x,x<10→h x≤1
theorem fit_nar (fx fy:Bool)(s:Nat→Nat→Bool):FitH fx fy (zm (q6M fx fy s)):=by
 refine⟨fun x hx=>?_,fun hf x h0 hx=>?_,fun hf x hx=>?_⟩
 ·have:=q4j (q6M fx fy s x)
  show 0≤((q1s (q6M fx fy s x):Nat):Int)∧((q1s (q6M fx fy s x):Nat):Int)<1024
  omega
 ·have:q1s (q6M fx fy s x)=0:=q4M.2 (fun y hy=>by
   unfold q6M
   rw[hf,show(x==0)=false by simp;omega]
   simp)
  show((q1s (q6M fx fy s x):Nat):Int)=0
  omega
 ·have:=row_le1 (f:=q6M fx fy s x) (fun y h0 hy=>by
   unfold q6M
   rw[hf,show(y==0)=false by simp;omega]
   simp)
  show((q1s (q6M fx fy s x):Nat):Int)≤1
  omega
def PrRel (w:World)(g:Nat)(vi:Value)(wr:World):Prop:=∃k:Nat,k≤10∧10-k≤g∧vi=.int .i64 k∧Below w.heap.size w wr
theorem ver_idx (n st:Int)(h:Nat→Int)(x:Nat)(hx:x<10):(#[.int .i64 n,.int .u16 st,.int .u16 (h 0),.int .u16 (h 1),.int .u16 (h 2),.int .u16 (h 3),.int .u16 (h 4),.int .u16 (h 5),.int .u16 (h 6),.int .u16 (h 7),.int .u16 (h 8),.int .u16 (h 9)]:Array Value)[2+x]?=some (.int .u16 (h x)):=by
 have:x=0∨x=1∨x=2∨x=3∨x=4∨x=5∨x=6∨x=7∨x=8∨x=9:=by omega
 rcases this with rfl|rfl|rfl|rfl|rfl|rfl|rfl|rfl|rfl|rfl<;>rfl
theorem kep_proper (fx fy:Bool)(h:Nat→Int)(hh:FitH fx fy h)(n st:Nat)(TX:List LnV)(hn:n<TX.length)(hst:TX[n].1=st)(base:Nat)(v:Value)(t o:By)(rc:Int)(w:World)(hv:w.ownsRow base 44 4 v TX.length (q1U TX)) :
  Calls Tryz.prog 17 #[.agg #[.int .i64 n,.int .u16 st,.int .u16 (h 0),.int .u16 (h 1),.int .u16 (h 2),.int .u16 (h 3),.int .u16 (h 4),.int .u16 (h 5),.int .u16 (h 6),.int .u16 (h 7),.int .u16 (h 8),.int .u16 (h 9)],.int .i64 n,v,.agg #[bs t,bs o,.bool fx,.bool fy,.int .i64 rc]] w fun e w'=>e=.returned (.bool true)∧Below w.heap.size w w':=by
 obtain⟨g,c,rfl⟩:=zJ hv (by omega)
 obtain⟨_,_,a1,a2,_⟩:=q7p hv
 have hnl:TX.length≤9223372036854775807:=by unfold maxLen at a2;omega
 have cL:w.cell? ⟨g,n*4,none⟩=some (.int .u16 st):=by
  rw[show n*4=n*4+0 by omega,hv.cellAt _ (by omega),ln_at TX n hn 0 (by omega)]
  show some (Value.int .u16 (TX[n].1:Int))=_
  rw[hst]
 have hgl:g<w.heap.size:=World.block_lt_of_cell? w _ cL
 have HH:=zb hh
 have HVI:=zb (ver_idx n st h)
 clear hv hh a2 hst
 generalize TX.length=N at *
 have hni:¬(N:Int)≤(n:Int):=by omega
 have hni2:(n:Int)<(N:Int):=by omega
 have hni3:¬N≤n:=by omega
 go_enter Tryz.func17,Tryz.ntmps17
 go_wp2_with fail
 obtain⟨W0,hW0⟩:∃W0,W0=(w.alloc (.cells #[.int .i64 n,.int .u16 st,.int .u16 (h 0),.int .u16 (h 1),.int .u16 (h 2),.int .u16 (h 3),.int .u16 (h 4),.int .u16 (h 5),.int .u16 (h 6),.int .u16 (h 7),.int .u16 (h 8),.int .u16 (h 9)] 49)).alloc (.cells #[bs t,bs o,.bool fx,.bool fy,.int .i64 rc] 23):=⟨_,rfl⟩
 have BW:Below w.heap.size w W0:=by rw[hW0];exact Joins.below_alloc2 _ _ _
 have g0:W0.heap[w.heap.size]?=some (.cells #[.int .i64 n,.int .u16 st,.int .u16 (h 0),.int .u16 (h 1),.int .u16 (h 2),.int .u16 (h 3),.int .u16 (h 4),.int .u16 (h 5),.int .u16 (h 6),.int .u16 (h 7),.int .u16 (h 8),.int .u16 (h 9)] 49 (0,0)):=by
  rw[hW0,zO _ _ (by simp)];exact zN _ _
 have g1:W0.heap[w.heap.size+1]?=some (.cells #[bs t,bs o,.bool fx,.bool fy,.int .i64 rc] 23 (0,0)):=by
  rw[hW0]
  have:=zN (w.alloc (.cells #[.int .i64 n,.int .u16 st,.int .u16 (h 0),.int .u16 (h 1),.int .u16 (h 2),.int .u16 (h 3),.int .u16 (h 4),.int .u16 (h 5),.int .u16 (h 6),.int .u16 (h 7),.int .u16 (h 8),.int .u16 (h 9)] 49)) (.cells #[bs t,bs o,.bool fx,.bool fy,.int .i64 rc] 23)
  simpa using this
 rw[←hW0]
 have D0:=(zB W0.heap.size W0).drew
 have hl1:w.heap.size+1<W0.heap.size:=zd g1
 have e0:=zC _ _ 0 _ _ _ g0
 have e1:=zC _ _ 1 _ _ _ g0
 simp only[gz]at e0 e1
 have C0:W0.drew.cell? ⟨w.heap.size,0,none⟩=some (.int .i64 n)∧W0.drew.cell? ⟨w.heap.size,1,none⟩=some (.int .u16 st)∧W0.drew.cell? ⟨g,n*4,none⟩=some (.int .u16 st):=
  ⟨(zw D0 _ _ (by omega)).trans e0,(zw D0 _ _ (by omega)).trans e1,(zw D0 _ _ (by omega)).trans ((zw BW _ _ hgl).trans cL)⟩
 have HG0:=zb g0
 have HG1:=zb g1
 have HBW:=zb BW
 have HD0:=zb D0
 clear hW0 BW g0 g1 D0 e0 e1 cL
 refine wp_region_held_drew (S:=fun w'=>w'.cell? ⟨w.heap.size,0,none⟩=some (.int .i64 n)∧w'.cell? ⟨w.heap.size,1,none⟩=some (.int .u16 st)∧w'.cell? ⟨g,n*4,none⟩=some (.int .u16 st)) (by kernel_rfl) C0 (fun hS0=>?_)
 simp only[rz,Nat.zero_add,Nat.reduceAdd]
 refine tq 0 10 ?_
 simp only[Act.put,pz]
 refine tq 1 11 ?_
 simp only[Act.put,pz]
 refine tq 2 12 ?_
 simp only[Act.put,pz]
 refine tq 3 13 ?_
 simp only[Act.put,pz]
 refine tq 4 14 ?_
 simp only[Act.put,pz]
 refine tq 5 15 ?_
 simp only[Act.put,pz]
 refine tq 6 16 ?_
 simp only[Act.put,pz]
 refine tq 7 17 ?_
 simp only[Act.put,pz]
 refine tq 8 18 ?_
 simp only[Act.put,pz]
 refine tq 9 19 ?_
 simp only[Act.put,pz]
 refine tq 10 20 ?_
 simp only[Act.put,pz]
 refine tq 11 21 ?_
 simp only[Act.put,pz]
 refine tq 12 22 ?_
 simp only[Act.put,pz]
 refine tq 13 23 ?_
 simp only[Act.put,pz]
 refine tq 14 24 ?_
 simp only[Act.put,pz]
 refine tq 15 25 ?_
 simp only[Act.put,pz]
 refine tq 16 26 ?_
 simp only[Act.put,pz]
 refine tq 17 27 ?_
 simp only[Act.put,pz]
 refine tq 18 28 ?_
 simp only[Act.put,pz]
 refine tq 19 29 ?_
 simp only[Act.put,pz]
 refine zD (by kernel_rfl) ?_ _
 clear hS0 C0
 go_wp2_with fail
 go_loopg [9] 10 (fun g vi wr=>PrRel W0 g vi wr)
 case atStart=>exact⟨0,zZ _,by omega,rfl,HD0.out⟩
 case round =>
  obtain⟨x,hx,hgx,rfl,hbr⟩:=hrel
  have HG:=zb hgx
  have HB:=zb hbr
  have hsz:=hbr.size
  have f2:=(zw hbr (w.heap.size+1) 2 (by omega)).trans (zC _ _ 2 _ _ _ HG1.out)
  have f3:=(zw hbr (w.heap.size+1) 3 (by omega)).trans (zC _ _ 3 _ _ _ HG1.out)
  simp only[gz]at f2 f3
  clear hgx hbr
  by_cases hx10:x<10
  ·have hxi:(x:Int)<10:=by omega
   have cx:=(zw HB.out w.heap.size (2+x) (by omega)).trans ((zC _ _ (2+x) _ _ _ HG0.out).trans (HVI.out x hx10))
   obtain⟨q1,q2⟩:=HH.out.lt x hx10
   have q3:fx=false→0<x→h x=0:=fun e h0=>HH.out.zero e x h0 hx10
   have q4:fy=false→h x≤1:=fun e=>HH.out.one e x hx10
   generalize h x=z at *
   have hgp:0<gk:=by have:=HG.out;omega
   cases fx<;>cases fy
   ·by_cases h0:0<x
    ·have q5:=q3 rfl h0
     subst q5
     go_wp2_with fail
     go_roundg (gk-1)
     case measure=>omega
     case rel=>exact⟨x+1,by omega,by have:=HG.out;omega,by go_num,HB.out⟩
    ·have h00:¬(0:Int)<(x:Int):=by omega
     have q6:=q4 rfl
     have q7:¬1<z:=by omega
     go_wp2_with fail
     go_roundg (gk-1)
     case measure=>omega
     case rel=>exact⟨x+1,by omega,by have:=HG.out;omega,by go_num,HB.out⟩
   ·by_cases h0:0<x
    ·have q5:=q3 rfl h0
     subst q5
     go_wp2_with fail
     go_roundg (gk-1)
     case measure=>omega
     case rel=>exact⟨x+1,by omega,by have:=HG.out;omega,by go_num,HB.out⟩
    ·have h00:¬(0:Int)<(x:Int):=by omega
     go_wp2_with fail
     go_roundg (gk-1)
     case measure=>omega
     case rel=>exact⟨x+1,by omega,by have:=HG.out;omega,by go_num,HB.out⟩
   ·have q6:=q4 rfl
    have q7:¬1<z:=by omega
    go_wp2_with fail
    go_roundg (gk-1)
    case measure=>omega
    case rel=>exact⟨x+1,by omega,by have:=HG.out;omega,by go_num,HB.out⟩
   ·go_wp2_with fail
    go_roundg (gk-1)
    case measure=>omega
    case rel=>exact⟨x+1,by omega,by have:=HG.out;omega,by go_num,HB.out⟩
  ·go_wp2_with fail
   go_ret
   exact⟨rfl,HBW.out.trans (HB.out.mono HBW.out.size)⟩
theorem bareT_reach:∀F:zh,zf (q1f F)=zf F:=by
 intro F
 induction F with
 |nil=>rfl
 |node p sp y l r ihl ihr=>simp only[q1f,zf,ihl,ihr]
theorem bareT_eq {F F':zh}(h:q1f F'=q1f F):zf F'=zf F:=by rw[←bareT_reach,h,bareT_reach]
theorem chain_time:∀(X:List LnK) (k st t:Nat),Chain k st t X→∀i (h:i<X.length),X[i].time≤t+(i+1)*32768:=by
 intro X
 induction X with
 |nil=>intro k st t _ i h;simp at h
 |cons x r ih =>
  intro k st t hc i h
  obtain⟨_,c4,c5,c6⟩:=hc
  have hx:x.time≤t+32768:=by
   by_cases hk:0<k
   ·obtain⟨d,d1,_,d3⟩:=c4 hk;omega
   ·have:=(c5 (by omega)).2;omega
  cases i with
  |zero=>show x.time≤_;omega
  |succ i =>
   have:=ih (k+1) x.stamp x.time c6 i (by simpa using h)
   show(r[i]'(by simpa using h)).time≤_
   omega
theorem log_facts (s:By)(sh:Nat):∀i (h:i<(q0T s sh).length),(q0T s sh)[i].time=tmL (q7G (q0T s sh)) i∧(q0T s sh)[i].stamp=q4C (q7G (q0T s sh)) i∧tmL (q7G (q0T s sh)) i≤1000000:=by
 intro i h
 have hlen:=q8J s sh
 obtain⟨st,h0,hc⟩:=q9w s sh
 have hk:=(j0H (q0T s sh) 0 st 0 [] h0 hc .nil rfl (fun e=>absurd e (by omega)) (fun _=>rfl) (by omega)).2 i h
 rw[Nat.zero_add]at hk
 have ht:=chain_time (q0T s sh) 0 st 0 hc i h
 have e:tmL (q7G (q0T s sh)) i=(q0T s sh)[i].time:=hk.1
 refine⟨e.symm,hk.2.2.symm,?_⟩
 rw[e]
 have:(i+1)*32768≤12*32768:=zU _ (by omega)
 omega
theorem told_facts (ls:List Lin)(rc:Int)(k:Nat)(hk:k<ls.length) :
  q0u (q0A (ls.take (k+1))) rc≤k+1∧(∀i,i<q0u (q0A (ls.take (k+1))) rc→rc<(tmL (q0A ls) k:Int)-(tmL (q0A ls) i:Int))∧(q0u (q0A (ls.take (k+1))) rc≤k→¬rc<(tmL (q0A ls) k:Int)-(tmL (q0A ls) (q0u (q0A (ls.take (k+1))) rc):Int)):=by
 have hlen:(q0A (ls.take (k+1))).length=k+1:=by rw[q8G,List.length_take];omega
 have hle:=q5O (q0A (ls.take (k+1))) rc
 rw[hlen]at hle
 have hm:=(j3I (ls.take (k+1))).mono
 obtain⟨M,e⟩:=logF_pre ls (k+1)
 have ht:∀i,i<k+1→tmL (q0A ls) i=tmL (q0A (ls.take (k+1))) i:=fun i hi=>by rw[e];exact q3N (by omega)
 refine⟨hle,fun i hi=>?_,fun hs h=>?_⟩
 ·have:=(j3V hm rc (c:=i) (by omega)).2 hi
  rw[ht k (by omega),ht i (by omega)]
  rw[hlen]at this
  exact this
 ·have:=(j3V hm rc (c:=q0u (q0A (ls.take (k+1))) rc) (by omega)).1 (by
   rw[hlen]
   rw[ht k (by omega),ht _ (by omega)]at h
   exact h)
  omega
theorem tell_at (F:zh)(L:List LPt)(a c j:Nat)(h:j<(q0D F L a c).length):(q0D F L a c)[j]=verR F L (a+j):=by
 have h2:=h
 rw[q1W]at h2
 have e:(q0D F L a c)[j]?=some (verR F L (a+j)):=by
  unfold q0D
  rw[List.getElem?_map,List.getElem?_range' (by omega)]
  simp
 exact Option.some.inj ((zG h).symm.trans e)
theorem ver_whole {w:World}{base g c:Nat}{X:List Ver}(h:w.ownsRow base 49 12 (.slice (some ⟨g,0,none⟩) X.length c) X.length (qn X)){k:Nat}(hk:k<X.length):(Instr.loadAt 49 (.pointer (some ⟨g,k*12,none⟩))).run Tryz.prog w=.ok (.agg (j0g X[k]).toArray) w:=by
 refine run_loadAt_mid w g (k*12) 49 (j0g X[k]) _ (fun j v hv=>?_) Tryz.underlying49 rfl (by kernel_rfl)
 have hj:j<12:=(List.getElem?_eq_some_iff.1 hv).1
 rw[h.cellAt _ (by omega),j7D X k hk j hj]
 exact hv
theorem proper_ver (F:zh)(s:By)(sh i:Nat)(hi:i<(q0T s sh).length)(base:Nat)(v:Value)(w:World)(hv:w.ownsRow base 44 4 v ((q0T s sh).map q4I).length (q1U ((q0T s sh).map q4I))) :
  Calls Tryz.prog 17 #[.agg (j0g (verR F (q7G (q0T s sh)) i)).toArray,.int .i64 i,v,.agg (q0o F)] w fun e w'=>e=.returned (.bool true)∧Below w.heap.size w w':=
 kep_proper (zg F [120]) (zg F [121]) (zm (q6M (zg F [120]) (zg F [121]) (zs (q7G (q0T s sh)) F i))) (fit_nar _ _ _) i (q4C (q7G (q0T s sh)) i) ((q0T s sh).map q4I) (by simpa using hi) (by rw[List.getElem_map];exact(log_facts s sh i hi).2.1) base v (zy F) (zy (zV F)) (zf F) w hv
theorem check_made (F:zh)(hF:Fine F)(hh:hgt F≤8)(hl:(zy F).length≤240)(w:World):Calls Tryz.prog 13 #[bs (zy F)] w fun e w'=>e=.returned (.tuple #[.agg #[.bool (zg F [120]),.bool (zg F [121]),.int .i64 (zf F)],.int .i64 0,.int .i64 0])∧Below w.heap.size w w':=by
 obtain⟨hc,hb⟩:=j0O hF hh hl
 have hg:=(j3t (s:=zy F) (by rw[hc])).2.2
 have:=z0g (zy F) (by unfold maxLen;omega) w
 rw[hc,hg]at this
 unfold qi at this
 rw[q8m hb,q8m hb,bareT_eq hb]at this
 exact this
theorem ln_cell {w:World}{base g c:Nat}{X:List LnV}(h:w.ownsRow base 44 4 (.slice (some ⟨g,0,none⟩) X.length c) X.length (q1U X)){k:Nat}(hk:k<X.length):w.cell? ⟨g,k*4+1,none⟩=some (.int .i64 X[k].2.1)∧w.cell? ⟨g,k*4+3,none⟩=some (bs X[k].2.2.2):=by
 constructor
 ·rw[h.cellAt _ (by omega),ln_at X k hk 1 (by omega)]
  rfl
 ·rw[h.cellAt _ (by omega),ln_at X k hk 3 (by omega)]
  rfl
end Go.Proofs.YtiamjjonoeaggaaGreatDoor
