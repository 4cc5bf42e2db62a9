import Derived.Test.YtiamjjonoeaggaaGreatDoorGA
import Derived.Test.YtiamjjonoeaggaaGreatDoorGB
import Derived.Test.YtiamjjonoeaggaaGreatDoorG29
import Derived.Test.YtiamjjonoeaggaaGreatDoorG35
import Derived.Test.YtiamjjonoeaggaaGreatDoorG42
set_option maxRecDepth 100000
set_option maxHeartbeats 16000000
namespace Go.Proofs.YtiamjjonoeaggaaGreatDoor
open Go.RowKit
theorem wp_load_if {P:Program}{ops:Array Oper}{rest:List Oper}{o:Oper}{a:Act}{W:World}{Q:Exit→Act→World→Prop}(hgd:Region.wanted o (yielded ops a.tmps)=true)(ty:TypeId)(x:Operand)(ho:o.op=.load ty x)
  (ad:Addr)(v:Value)(hx:a.eval x=.pointer (some ad))(hr:(Instr.loadAt ty (.pointer (some ad))).run P W=.ok v W)
  (h:wpList P ops Q rest (a.put o.dst v) W):wpList P ops Q (o::rest) a W:=by
 refine wpList_step fun K hK=>?_
 rw[if_pos hgd]
 unfold Oper.wp execOp
 simp only[ho,hx,hr,Sem.run_bind,Sem.run_pure,Result.andThen_ok]
 exact hK _ _ h
theorem verB_cell (F:zh)(B:List Bt){W:World}{base g c i:Nat}(hi:i<B.length)(h:W.ownsRow base 49 12 (.slice (some ⟨g,0,none⟩) B.length c) B.length (qn (verB F B))) :
  W.cell? ⟨g,i*12,none⟩=some (.int .i64 i)∧(Instr.loadAt 47 (.pointer (some ⟨g,i*12+2,none⟩))).run Tryz.prog W=.ok (zr (zm (verR F (ptsB B) i).2.2)) W∧∀x,x<10→W.cell? ⟨g,i*12+2+x,none⟩=some (.int .u16 (zm (verR F (ptsB B) i).2.2 x)):=by
 have hl:=verB_len F B
 have h':W.ownsRow base 49 12 (.slice (some ⟨g,0,none⟩) (verB F B).length c) (verB F B).length (qn (verB F B)):=by rw[hl];exact h
 have hi':i<(verB F B).length:=by omega
 have e:=verB_at F B i hi'
 refine⟨?_,?_,fun x hx=>?_⟩
 ·rw[(q9b h' hi').1,e];rfl
 ·rw[q9c h' hi',e]
 ·rw[show i*12+2+x=i*12+(2+x)by omega,h'.cellAt _ (by omega),j7D _ i hi' (2+x) (by omega),e]
  generalize verR F (ptsB B) i=v
  have:x=0∨x=1∨x=2∨x=3∨x=4∨x=5∨x=6∨x=7∨x=8∨x=9:=by omega
  rcases this with rfl|rfl|rfl|rfl|rfl|rfl|rfl|rfl|rfl|rfl<;>rfl
theorem kep_texts (w:World):Calls Tryz.prog 43 #[] w fun e w'=>∃g,e=.returned (.slice (some ⟨g,0,none⟩) 7 7)∧w'.heap[g]?=some (.cells #[bs (plT 0),bs (plT 1),bs (plT 2),bs (plT 3),bs (plT 4),bs (plT 5),bs (plT 6)] 9 (0,0))∧Below w.heap.size w w':=by
 go_enter Tryz.func43,Tryz.ntmps43
 go_wp2_with fail
 go_ret
 exact⟨w.heap.size,rfl,zN w _,(zB _ _).alloc (zL _) _⟩
theorem kep_still (s:By)(hs:s.length≤maxLen)(kd:Nat)(hk:kd<7)(w:World) :
  Calls Tryz.prog 22 #[bs s,.int .i64 kd] w fun e w'=>e=.returned (.bool true)∧Below w.heap.size w w':=by
 have HBT:=zb (kep_beats s hs w)
 have HTX:=zb (fun W=>kep_texts W)
 have HRN:Hid (∀(base:Nat) (v:Value) (W:World),W.ownsRow base 44 4 v (beatsK s).length (q1U ((beatsK s).map txB))→Calls Tryz.prog 24 #[bs (plT kd),v] W fun e w'=>∃u,e=.returned (.tuple #[u,.bool true])∧w'.ownsRow W.heap.size 49 12 u (beatsK s).length (qn (verB (plF kd) (beatsK s)))∧Below W.heap.size W w'):=zb (fun base v W hv=>by
  have:=kep_runB (plF kd) (st_fine kd) s base v W hv
  rw[st_text]at this
  exact this)
 have hlen:=beats_len s
 obtain⟨S,hS⟩:∃S:Nat→Nat→Nat→Bool,S=fun i=>(verR (plF kd) (ptsB (beatsK s)) i).2.2:=⟨_,rfl⟩
 obtain⟨VB,hVB⟩:∃VB:Nat→Value,VB=fun i=>Value.agg (btA (tmB (beatsK s) i) (pB (btAt (beatsK s) i)) (qB00 (btAt (beatsK s) i))):=⟨_,rfl⟩
 obtain⟨VS,hVS⟩:∃VS:Nat→Value,VS=fun i=>zr (zm (S i)):=⟨_,rfl⟩
 have HPL:Hid (∀i x y,i<(beatsK s).length→x<10→y<10→∀W,Calls Tryz.prog 44 #[VB i,.int .i64 kd,.int .i64 (x:Nat),.int .i64 (y:Nat)] W fun e w'=>e=.returned (.bool (S i x y))∧Below W.heap.size W w'):=zb (fun i x y hi hx hy W=>by
  have:=kep_plainly kd hk (tmB (beatsK s) i) (pB (btAt (beatsK s) i)) (qB00 (btAt (beatsK s) i)) (fun v hv=>(beats_bits s i v hv).1) (fun v hv=>(beats_bits s i v hv).2) x y hx hy W
  rw[←still_ver s kd i hi x y]at this
  rw[hVB,hS]
  exact this)
 have HHS:Hid (∀i x y,x<10→y<10→∀W,Calls Tryz.prog 26 #[VS i,.int .i64 (x:Nat),.int .i64 (y:Nat)] W fun e w'=>e=.returned (.bool (S i x y))∧Below W.heap.size W w'):=zb (fun i x y hx hy W=>by
  rw[hVS]
  exact q6d (S i) x y hx hy W)
 have HVC:Hid (∀(W:World) (base g c i:Nat),i<(beatsK s).length→W.ownsRow base 49 12 (.slice (some ⟨g,0,none⟩) (beatsK s).length c) (beatsK s).length (qn (verB (plF kd) (beatsK s)))→W.cell? ⟨g,i*12,none⟩=some (.int .i64 i)∧(Instr.loadAt 47 (.pointer (some ⟨g,i*12+2,none⟩))).run Tryz.prog W=.ok (VS i) W):=zb (fun W base g c i hi h=>by
  obtain⟨h1,h2,_⟩:=verB_cell (plF kd) (beatsK s) hi h
  rw[hVS,hS]
  exact⟨h1,h2⟩)
 have HBC:Hid (∀(W:World) (base g c i:Nat),i<(beatsK s).length→W.ownsRow base 100 9 (.slice (some ⟨g,0,none⟩) (beatsK s).length c) (beatsK s).length (btCells (beatsK s))→(Instr.loadAt 100 (.pointer (some ⟨g,i*9,none⟩))).run Tryz.prog W=.ok (VB i) W):=zb (fun W base g c i hi h=>by
  rw[hVB]
  exact bt_whole h hi)
 have HAT:=zb (stT_at kd hk)
 generalize qn (verB (plF kd) (beatsK s))=VC at *
 generalize btCells (beatsK s)=BC at *
 generalize q1U ((beatsK s).map txB)=LC at *
 generalize (beatsK s).length=n at *
 obtain⟨TK,hTK⟩:∃TK,TK=plT kd:=⟨_,rfl⟩
 rw[←hTK]at HRN HAT
 clear hS hVB hVS hs hTK
 have hki:(kd:Int)<7:=by omega
 go_enter Tryz.func22,Tryz.ntmps22
 go_wp2_with fail
 refine HBT.out.mono ?_
 rintro e w1 ⟨vb,vl,rfl,ob,ol,b1⟩
 obtain⟨ba,bc,rfl⟩:=ql ob
 obtain⟨la,lc,rfl⟩:=ql ol
 have HOB:=zb ob
 have HOL:=zb ol
 have HB1:=zb b1
 clear ob ol b1 HBT
 go_wp2_with fail
 refine(HTX.out _).mono ?_
 rintro e w2 ⟨g2,rfl,k2,b2⟩
 have c2:=(zC _ _ kd _ _ _ k2).trans HAT.out
 have hg2:g2<w2.heap.size:=(Array.getElem?_eq_some_iff.1 k2).1
 have HB2:=zb b2
 have HOB2:=zb (zo HOB.out b2)
 have HOL2:=zb (zo HOL.out b2)
 clear k2 b2 HTX HOB HOL HAT
 go_wp2_with fail
 refine(HRN.out _ _ _ HOL2.out).mono ?_
 rintro e w3 ⟨u,rfl,ou,b3⟩
 obtain⟨ua,uc,rfl⟩:=ql ou
 have HOU:=zb ou
 have HOB3:=zb (zo HOB2.out b3)
 have HB3:=zb (HB1.out.trans ((HB2.out.trans (b3.mono HB2.out.size)).mono HB1.out.size))
 clear ou b3 HRN HOB2 HOL2 HB1 HB2 c2 hg2
 go_wp2_with fail
 go_loopg [10] n (fun g vi wr=>AkRel n w3 g vi wr)
 case atStart=>exact⟨0,zZ _,by omega,rfl,zB _ _⟩
 case round =>
  obtain⟨i,hi,hgi,rfl,hbi⟩:=hrel
  have HGI:=zb hgi
  have HBI:=zb hbi
  clear hgi hbi
  obtain⟨g1,hg1⟩:∃x,x=gk:=⟨_,rfl⟩
  rw[←hg1]at HGI
  by_cases hin:i<n
  ·obtain⟨gb,cb,eb⟩:=zJ HOB3.out (by omega)
   obtain⟨gu,cu,eu⟩:=zJ HOU.out (by omega)
   obtain⟨rfl,rfl⟩:ba=some ⟨gb,0,none⟩∧bc=cb:=by simpa using eb
   obtain⟨rfl,rfl⟩:ua=some ⟨gu,0,none⟩∧uc=cu:=by simpa using eu
   obtain⟨cs1,k1,a1,a2,_⟩:=q7p HOB3.out
   obtain⟨cs2,k2,a3,a4,_⟩:=q7p HOU.out
   unfold maxLen at a2 a4
   have hgb:gb<w3.heap.size:=zd k1
   have hgu:gu<w3.heap.size:=zd k2
   have HWC:Hid (∀W,Below w3.heap.size w3 W→W.cell? ⟨gu,i*12,none⟩=some (.int .i64 i)∧(Instr.loadAt 47 (.pointer (some ⟨gu,i*12+2,none⟩))).run Tryz.prog W=.ok (VS i) W∧(Instr.loadAt 100 (.pointer (some ⟨gb,i*9,none⟩))).run Tryz.prog W=.ok (VB i) W):=zb (fun W hW=>by
    obtain⟨h1,h2⟩:=HVC.out W _ _ _ i hin (zo HOU.out hW)
    exact⟨h1,h2,HBC.out W _ _ _ i hin (zo HOB3.out hW)⟩)
   have hii:(i:Int)<(n:Int):=by omega
   have HPI:=zb (fun x y hx hy W=>HPL.out i x y hin hx hy W)
   have HHI:=zb (fun x y hx hy W=>HHS.out i x y hx hy W)
   generalize S i=SI at *
   generalize VS i=VSI at *
   generalize VB i=VBI at *
   clear eb eu k1 k2
   go_wp2_with fail
   go_loopg [11] 10 (fun g vi wr=>AkRel 10 w3 g vi wr)
   case atStart=>exact⟨0,zZ _,by omega,rfl,HBI.out⟩
   case round =>
    obtain⟨x,hx,hgx,rfl,hbx⟩:=hrel
    have HGX:=zb hgx
    have HBX:=zb hbx
    clear hgx hbx
    obtain⟨g2,hg2⟩:∃x,x=gk:=⟨_,rfl⟩
    rw[←hg2]at HGX
    by_cases hx10:x<10
    ·have hxi:(x:Int)<10:=by omega
     go_wp2_with fail
     go_loopg [12] 10 (fun g vi wr=>AkRel 10 w3 g vi wr)
     case atStart=>exact⟨0,zZ _,by omega,rfl,HBX.out⟩
     case round =>
      obtain⟨y,hy,hgy,rfl,hby⟩:=hrel
      have HGY:=zb hgy
      have HBY:=zb hby
      clear hgy hby
      by_cases hy10:y<10
      ·have hyi:(y:Int)<10:=by omega
       obtain⟨c1,c2,c3⟩:=HWC.out _ HBY.out
       have hsz:=HBY.out.size
       have hgb':gb<wr.heap.size:=by omega
       have hgu':gu<wr.heap.size:=by omega
       have HPX:=zb (HPI.out x y hx10 hy10)
       have HHX:=zb (HHI.out x y hx10 hy10)
       obtain⟨b,hb⟩:∃b,b=SI x y:=⟨_,rfl⟩
       rw[←hb]at HPX HHX
       clear hb c1 c2
       go_wp2_with (refine zj rfl 100 (.tmp 47) rfl ⟨gb,i*9,none⟩ VBI rfl c3 ?_)
       refine(HPX.out _).mono ?_
       rintro e w5 ⟨rfl,b5⟩
       have HB5:=zb (HBY.out.trans (b5.mono HBY.out.size))
       obtain⟨c1,c2,_⟩:=HWC.out _ HB5.out
       have hgu5:gu<w5.heap.size:=by have:=HB5.out.size;omega
       clear b5
       cases b
       ·go_wp2_with (refine wp_load_if (by rfl) 47 (.tmp 64) rfl ⟨gu,i*12+2,none⟩ VSI rfl c2 ?_)
        refine(HHX.out _).mono ?_
        rintro e w6 ⟨rfl,b6⟩
        have HB6:=zb (HB5.out.trans (b6.mono HB5.out.size))
        clear b6
        go_wp2_with fail
        have hgp:0<gk:=by have:=HGY.out;omega
        go_roundg (gk-1)
        case measure=>omega
        case rel=>exact⟨y+1,by omega,by have:=HGY.out;omega,by go_num,HB6.out⟩
       ·go_wp2_with (refine wp_load_if (by rfl) 47 (.tmp 64) rfl ⟨gu,i*12+2,none⟩ VSI rfl c2 ?_)
        refine(HHX.out _).mono ?_
        rintro e w6 ⟨rfl,b6⟩
        have HB6:=zb (HB5.out.trans (b6.mono HB5.out.size))
        clear b6
        go_wp2_with fail
        have hgp:0<gk:=by have:=HGY.out;omega
        go_roundg (gk-1)
        case measure=>omega
        case rel=>exact⟨y+1,by omega,by have:=HGY.out;omega,by go_num,HB6.out⟩
      ·have hyi:¬(y:Int)<10:=by omega
       go_wp2_with fail
       have hgp:0<g2:=by have:=HGX.out;omega
       go_roundg (g2-1)
       case measure=>omega
       case rel=>exact⟨x+1,by omega,by have:=HGX.out;omega,by go_num,HBY.out⟩
    ·have hxi:¬(x:Int)<10:=by omega
     go_wp2_with fail
     have hgp:0<g1:=by have:=HGI.out;omega
     go_roundg (g1-1)
     case measure=>omega
     case rel=>exact⟨i+1,by omega,by have:=HGI.out;omega,by go_num,HBX.out⟩
  ·have hii:¬(i:Int)<(n:Int):=by omega
   go_wp2_with fail
   go_ret
   exact⟨rfl,HB3.out.trans (HBI.out.mono HB3.out.size)⟩
theorem kep_Known (raw:By)(op a b:Int)(hr:raw.length≤maxLen)(ho:-9223372036854775808≤op∧op≤9223372036854775807)(ha:-9223372036854775808≤a∧a≤9223372036854775807)(hb:-9223372036854775808≤b∧b≤9223372036854775807)(w:World)(_:q8i w) :
  Calls Tryz.prog 4 #[bs raw,.int .i64 op,.int .i64 a,.int .i64 b] w fun e w'=>e=.returned (.bool true)∧Below w.heap.size w w':=by
 have HBT:=zb (kep_beats raw hr w)
 have HPO:=zb (fun W=>kep_pick op ho 15 (by omega) W)
 have HPA:=zb (fun W=>kep_pick a ha 5 (by omega) W)
 have HPB:=zb (fun W=>kep_pick b hb 8 (by omega) W)
 have po:=pickN_lt op (n:=15) (by omega)
 have pa:=pickN_lt a (n:=5) (by omega)
 have pb:=pickN_lt b (n:=8) (by omega)
 have HST:=zb (fun k hk W=>kep_still raw hr k hk W)
 clear hr ho ha hb
 generalize q6t op 15=o at *
 generalize q6t a 5=lo at *
 generalize q6t b 8=bh at *
 have hlen:=beats_len raw
 by_cases ho8:o<8
 ·obtain⟨hi,hhi⟩:∃hi,hi=lo+bh:=⟨_,rfl⟩
  have hwd:IntKind.i64.wrap ((lo:Int)+(bh:Int))=(hi:Int):=by rw[IntKind.wrap_i64];omega
  have HIL:=zb (std_ItoaS lo (by omega))
  have HIH:=zb (std_ItoaS hi (by omega))
  have hd1:=(dec_small (u:=lo) (by omega)).1
  have hd2:=(dec_small (u:=hi) (by omega)).1
  have hwl:=opW_len o
  have hkt:=kn_text o lo hi ho8
  have HRN:=zb (fun base v W hv=>kep_runB (knF o lo hi) (kn_fine o lo hi ho8 (by omega) (by omega)) raw base v W hv)
  obtain⟨S,hS⟩:∃S:Nat→Nat→Nat→Bool,S=fun i=>(verR (knF o lo hi) (ptsB (beatsK raw)) i).2.2:=⟨_,rfl⟩
  obtain⟨VS,hVS⟩:∃VS:Nat→Value,VS=fun i=>zr (zm (S i)):=⟨_,rfl⟩
  have HME:Hid (∀i x,i<(beatsK raw).length→x<4→∀base g c W,W.ownsRow base 100 9 (.slice (some ⟨g,0,none⟩) (beatsK raw).length c) (beatsK raw).length (btCells (beatsK raw))→Calls Tryz.prog 25 #[.slice (some ⟨g,0,none⟩) (beatsK raw).length c,.int .i64 o,.int .i64 lo,.int .i64 hi,.int .i64 (i:Nat),.int .i64 (x:Nat)] W fun e w'=>e=.returned (.bool (S i x 0))∧Below W.heap.size W w'):=zb (fun i x hi' hx base g c W hv=>by
   have:=kep_meets raw o lo hi ho8 i hi' x hx base g c W hv
   have e:=(known_ver raw o lo hi ho8 (by omega) i hi').1 x
   rw[if_pos hx]at e
   rw[←e]at this
   rw[hS]
   exact this)
  have HM4:Hid (∀i x,i<(beatsK raw).length→¬x<4→S i x 0=false):=zb (fun i x hi' hx=>by
   have e:=(known_ver raw o lo hi ho8 (by omega) i hi').1 x
   rw[if_neg hx]at e
   rw[hS]
   exact e)
  have HLE:Hid (∀i x,i<(beatsK raw).length→x<10→0≤zm (S i) x∧zm (S i) x≤1):=zb (fun i x hi' hx=>by
   rw[hS]
   exact(known_ver raw o lo hi ho8 (by omega) i hi').2 x hx)
  have HHS:Hid (∀i x,x<10→∀W,Calls Tryz.prog 26 #[VS i,.int .i64 (x:Nat),.int .i64 0] W fun e w'=>e=.returned (.bool (S i x 0))∧Below W.heap.size W w'):=zb (fun i x hx W=>by
   rw[hVS]
   exact q6d (S i) x 0 hx (by omega) W)
  have HVC:Hid (∀(W:World) (base g c i:Nat),i<(beatsK raw).length→W.ownsRow base 49 12 (.slice (some ⟨g,0,none⟩) (beatsK raw).length c) (beatsK raw).length (qn (verB (knF o lo hi) (beatsK raw)))→W.cell? ⟨g,i*12,none⟩=some (.int .i64 i)∧(Instr.loadAt 47 (.pointer (some ⟨g,i*12+2,none⟩))).run Tryz.prog W=.ok (VS i) W∧∀x,x<10→W.cell? ⟨g,i*12+2+x,none⟩=some (.int .u16 (zm (S i) x))):=zb (fun W base g c i hi' h=>by
   obtain⟨h1,h2,h3⟩:=verB_cell (knF o lo hi) (beatsK raw) hi' h
   rw[hVS,hS]
   exact⟨h1,h2,h3⟩)
  have HAT:=zb (opW_at o ho8)
  generalize Lib.decDigits lo=LO at *
  generalize Lib.decDigits hi=HI at *
  generalize qn (verB (knF o lo hi) (beatsK raw))=VC at *
  obtain⟨TXT,hTXT⟩:∃TXT,TXT=zy (knF o lo hi):=⟨_,rfl⟩
  rw[←hTXT]at HRN hkt
  obtain⟨OW,hOW⟩:∃OW,OW=opW o:=⟨_,rfl⟩
  rw[←hOW]at hwl hkt HAT
  generalize btCells (beatsK raw)=BC at *
  generalize q1U ((beatsK raw).map txB)=LC at *
  generalize (beatsK raw).length=n at *
  clear hS hVS hTXT hOW
  have hoi:¬(7:Int)<(o:Int):=by omega
  have hoi8:(o:Int)<8:=by omega
  have hq1:¬9223372036854775807<OW.length+1:=by omega
  have hq2:¬9223372036854775807<OW.length+1+LO.length:=by omega
  have hq3:¬9223372036854775807<OW.length+1+LO.length+1:=by omega
  have hq4:¬9223372036854775807<OW.length+1+LO.length+1+HI.length:=by omega
  have hq5:¬9223372036854775807<OW.length+1+LO.length+1+HI.length+2:=by omega
  have hq6:¬9223372036854775807<OW.length+1+LO.length+1+HI.length+2+10:=by omega
  have hq7:¬9223372036854775807<OW.length+1+LO.length+1+HI.length+2+5:=by omega
  have HKT:=zb hkt
  clear hkt hhi
  go_enter Tryz.func4,Tryz.ntmps4
  go_wp2_with fail
  refine HBT.out.mono ?_
  rintro e w1 ⟨vb,vl,rfl,ob,ol,b1⟩
  obtain⟨ba,bc,rfl⟩:=ql ob
  obtain⟨la,lc,rfl⟩:=ql ol
  have HOB:=zb ob
  have HOL:=zb ol
  have HB1:=zb b1
  clear ob ol b1 HBT
  go_wp2_with fail
  refine(HPO.out _).mono ?_
  rintro e w5 ⟨rfl,hw5⟩
  rw[hw5]
  clear hw5
  go_wp2_with fail
  refine(HPA.out _).mono ?_
  rintro e w5 ⟨rfl,hw5⟩
  rw[hw5]
  clear hw5
  go_wp2_with fail
  refine(HPB.out _).mono ?_
  rintro e w5 ⟨rfl,hw5⟩
  rw[hw5]
  clear hw5 HPO HPA HPB HST
  go_wp2_with fail
  have BL:Below w1.heap.size w1 (w1.alloc (.cells #[.string ⟨#[112,114,101,118]⟩,.string ⟨#[110,101,120,116]⟩,.string ⟨#[111,110,99,101]⟩,.string ⟨#[115,111,111,110]⟩,.string ⟨#[115,105,110,99,101]⟩,.string ⟨#[117,110,115,105,110,99,101]⟩,.string ⟨#[117,110,116,105,108]⟩,.string ⟨#[117,110,117,110,116,105,108]⟩] 9)):=(zB _ _).alloc (zL _) _
  have gD:(w1.alloc (.cells #[.string ⟨#[112,114,101,118]⟩,.string ⟨#[110,101,120,116]⟩,.string ⟨#[111,110,99,101]⟩,.string ⟨#[115,111,111,110]⟩,.string ⟨#[115,105,110,99,101]⟩,.string ⟨#[117,110,115,105,110,99,101]⟩,.string ⟨#[117,110,116,105,108]⟩,.string ⟨#[117,110,117,110,116,105,108]⟩] 9)).drew.heap[w1.heap.size]?=some (.cells #[.string ⟨#[112,114,101,118]⟩,.string ⟨#[110,101,120,116]⟩,.string ⟨#[111,110,99,101]⟩,.string ⟨#[115,111,111,110]⟩,.string ⟨#[115,105,110,99,101]⟩,.string ⟨#[117,110,115,105,110,99,101]⟩,.string ⟨#[117,110,116,105,108]⟩,.string ⟨#[117,110,117,110,116,105,108]⟩] 9 (0,0)):=zN w1 (.cells #[.string ⟨#[112,114,101,118]⟩,.string ⟨#[110,101,120,116]⟩,.string ⟨#[111,110,99,101]⟩,.string ⟨#[115,111,111,110]⟩,.string ⟨#[115,105,110,99,101]⟩,.string ⟨#[117,110,115,105,110,99,101]⟩,.string ⟨#[117,110,116,105,108]⟩,.string ⟨#[117,110,117,110,116,105,108]⟩] 9)
  have HSL:Hid (∀W:World,W.heap[w1.heap.size]?=some (.cells #[.string ⟨#[112,114,101,118]⟩,.string ⟨#[110,101,120,116]⟩,.string ⟨#[111,110,99,101]⟩,.string ⟨#[115,111,111,110]⟩,.string ⟨#[115,105,110,99,101]⟩,.string ⟨#[117,110,115,105,110,99,101]⟩,.string ⟨#[117,110,116,105,108]⟩,.string ⟨#[117,110,117,110,116,105,108]⟩] 9 (0,0))→W.cell? ⟨w1.heap.size,o,none⟩=some (bs OW)):=zb (fun W hW=>(zC _ _ o _ _ _ hW).trans HAT.out)
  have BD:=BL.drew
  have HBD:=zb BD
  clear BL BD HAT
  refine wp_region_held_drew (S:=fun w'=>w'.heap[w1.heap.size]?=some (.cells #[.string ⟨#[112,114,101,118]⟩,.string ⟨#[110,101,120,116]⟩,.string ⟨#[111,110,99,101]⟩,.string ⟨#[115,111,111,110]⟩,.string ⟨#[115,105,110,99,101]⟩,.string ⟨#[117,110,115,105,110,99,101]⟩,.string ⟨#[117,110,116,105,108]⟩,.string ⟨#[117,110,117,110,116,105,108]⟩] 9 (0,0))) (by kernel_rfl) gD (fun hS0=>?_)
  simp only[rz,Nat.zero_add,Nat.reduceAdd]
  refine tq 0 40 ?_
  simp only[Act.put,pz]
  refine tq 1 41 ?_
  simp only[Act.put,pz]
  refine tq 2 42 ?_
  simp only[Act.put,pz]
  refine q0V (i:=3) (v:=?_) 43 rfl rfl (by kernel_rfl) (by kernel_rfl) (by kernel_rfl) (fun _ _ _ h=>h) (by rfl) (by assumption) ?_ ?_
  rotate_left
  ·(intro W hSw;have hcl:=HSL.out W hSw;(try dsimp only at hSw);go_simp;(try with_reducible rfl))
  simp only[Act.put,pz]
  refine tq 4 44 ?_
  simp only[Act.put,pz]
  refine tq 5 45 ?_
  simp only[Act.put,pz]
  refine tq 9 49 ?_
  simp only[Act.put,pz]
  refine rd1 6 rfl fun K hK=>?_
  go_simp
  refine(HIL.out _).mono ?_
  rintro e w6 ⟨rfl,hw6⟩
  rw[hw6]
  clear hw6
  go_simp
  refine hK.out _ _ gD (fun hS1=>?_)
  clear hK K hS1
  simp only[pz]
  refine tq 7 47 ?_
  simp only[Act.put,pz]
  refine tq 8 48 ?_
  simp only[Act.put,pz]
  refine rd1 10 rfl fun K hK=>?_
  go_simp
  refine(HIH.out _).mono ?_
  rintro e w6 ⟨rfl,hw6⟩
  rw[hw6]
  clear hw6
  go_simp
  refine hK.out _ _ gD (fun hS2=>?_)
  clear hK K hS2
  simp only[pz]
  refine tq 11 51 ?_
  simp only[Act.put,pz]
  refine tq 12 52 ?_
  simp only[Act.put,pz]
  refine tq 13 14 ?_
  simp only[Act.put,pz]
  refine zD (by kernel_rfl) ?_ _
  clear hS0 gD HSL HIL HIH
  have HOB2:=zb (zo HOB.out HBD.out)
  have HOL2:=zb (zo HOL.out HBD.out)
  have HB2:=zb (HB1.out.trans (HBD.out.mono HB1.out.size))
  clear HOB HOL HB1 HBD
  generalize (w1.alloc (.cells #[.string ⟨#[112,114,101,118]⟩,.string ⟨#[110,101,120,116]⟩,.string ⟨#[111,110,99,101]⟩,.string ⟨#[115,111,111,110]⟩,.string ⟨#[115,105,110,99,101]⟩,.string ⟨#[117,110,115,105,110,99,101]⟩,.string ⟨#[117,110,116,105,108]⟩,.string ⟨#[117,110,117,110,116,105,108]⟩] 9)).drew=w2 at *
  by_cases ho4:o<4
  ·have hoi4:¬(3:Int)<(o:Int):=by omega
   have htx:ByteArray.mk OW.toArray++ByteArray.mk #[91]++ByteArray.mk LO.toArray++ByteArray.mk #[44]++ByteArray.mk HI.toArray++ByteArray.mk #[93,40]++ByteArray.mk #[112,40,120,41,41]=ByteArray.mk TXT.toArray:=by
    refine(mkl7 OW [91] LO [44] HI [93,40] [112,40,120,41,41]).trans ?_
    rw[HKT.out,if_pos (by omega)]
   go_wp2_with fail
   refine(HRN.out _ _ _ HOL2.out).mono ?_
   rintro e w3 ⟨u,rfl,ou,b3⟩
   obtain⟨ua,uc,rfl⟩:=ql ou
   have HOU:=zb ou
   have HOB3:=zb (zo HOB2.out b3)
   have HB3:=zb (HB2.out.trans (b3.mono HB2.out.size))
   clear ou b3 HRN HOB2 HOL2 HB2 HKT htx hq1 hq2 hq3 hq4 hq5 hq6 hq7
   go_wp2_with fail
   go_loopg [17] n (fun g vi wr=>AkRel n w3 g vi wr)
   case atStart=>exact⟨0,zZ _,by omega,rfl,zB _ _⟩
   case round =>
    obtain⟨i,hi',hgi,rfl,hbi⟩:=hrel
    have HGI:=zb hgi
    have HBI:=zb hbi
    clear hgi hbi
    obtain⟨g1,hg1⟩:∃x,x=gk:=⟨_,rfl⟩
    rw[←hg1]at HGI
    by_cases hin:i<n
    ·obtain⟨gb,cb,eb⟩:=zJ HOB3.out (by omega)
     obtain⟨gu,cu,eu⟩:=zJ HOU.out (by omega)
     obtain⟨rfl,rfl⟩:ba=some ⟨gb,0,none⟩∧bc=cb:=by simpa using eb
     obtain⟨rfl,rfl⟩:ua=some ⟨gu,0,none⟩∧uc=cu:=by simpa using eu
     obtain⟨cs2,k2,a3,a4,_⟩:=q7p HOU.out
     unfold maxLen at a4
     have hgu:gu<w3.heap.size:=zd k2
     have HWC:Hid (∀W,Below w3.heap.size w3 W→W.cell? ⟨gu,i*12,none⟩=some (.int .i64 i)∧(Instr.loadAt 47 (.pointer (some ⟨gu,i*12+2,none⟩))).run Tryz.prog W=.ok (VS i) W∧∀x,x<10→W.cell? ⟨gu,i*12+2+x,none⟩=some (.int .u16 (zm (S i) x))):=zb (fun W hW=>HVC.out W _ _ _ i hin (zo HOU.out hW))
     have hii:(i:Int)<(n:Int):=by omega
     have HMI:=zb (fun x hx base g c W hv=>HME.out i x hin hx base g c W hv)
     have HHI:=zb (fun x hx W=>HHS.out i x hx W)
     have HLI:=zb (fun x hx=>HLE.out i x hin hx)
     have H4I:=zb (fun x hx=>HM4.out i x hin hx)
     generalize S i=SI at *
     generalize VS i=VSI at *
     clear eb eu k2
     go_wp2_with fail
     go_loopg [18] 10 (fun g vi wr=>AkRel 10 w3 g vi wr)
     case atStart=>exact⟨0,zZ _,by omega,rfl,HBI.out⟩
     case round =>
      obtain⟨x,hx,hgx,rfl,hbx⟩:=hrel
      have HGX:=zb hgx
      have HBX:=zb hbx
      clear hgx hbx
      by_cases hx10:x<10
      ·have hxi:(x:Int)<10:=by omega
       have HHX:=zb (HHI.out x hx10)
       have HLX:=HLI.out x hx10
       have HWX:Hid (∀W,Below w3.heap.size w3 W→W.cell? ⟨gu,i*12,none⟩=some (.int .i64 i)∧(Instr.loadAt 47 (.pointer (some ⟨gu,i*12+2,none⟩))).run Tryz.prog W=.ok VSI W∧W.cell? ⟨gu,i*12+2+x,none⟩=some (.int .u16 (zm SI x))):=zb (fun W hW=>⟨(HWC.out W hW).1,(HWC.out W hW).2.1,(HWC.out W hW).2.2 x hx10⟩)
       generalize zm SI x=z at *
       obtain⟨z0,z1⟩:=HLX
       have hz:¬1<z:=by omega
       obtain⟨b,hb⟩:∃b,b=SI x 0:=⟨_,rfl⟩
       have HBE:=zb hb
       rw[←hb]at HHX
       clear hb
       have hgp:0<gk:=by have:=HGX.out;omega
       by_cases hx4:x<4
       ·have hx4i:(x:Int)<4:=by omega
        have HMX:=zb (HMI.out x hx4 _ _ _ _ (zo HOB3.out HBX.out))
        rw[←HBE.out]at HMX
        go_wp2_with fail
        refine HMX.out.mono ?_
        rintro e w5 ⟨rfl,b5⟩
        have HB5:=zb (HBX.out.trans (b5.mono HBX.out.size))
        obtain⟨c1,c2,c3⟩:=HWX.out _ HB5.out
        have hgu5:gu<w5.heap.size:=by have:=HB5.out.size;omega
        clear b5
        cases b
        ·go_wp2_with (refine wp_load_if (by rfl) 47 (.tmp 97) rfl ⟨gu,i*12+2,none⟩ VSI rfl c2 ?_)
         refine(HHX.out _).mono ?_
         rintro e w6 ⟨rfl,b6⟩
         have HB6:=zb (HB5.out.trans (b6.mono HB5.out.size))
         obtain⟨_,_,d3⟩:=HWX.out _ HB6.out
         have hgu6:gu<w6.heap.size:=by have:=HB6.out.size;omega
         clear b6
         go_wp2_with fail
         go_roundg (gk-1)
         case measure=>omega
         case rel=>exact⟨x+1,by omega,by have:=HGX.out;omega,by go_num,HB6.out⟩
        ·go_wp2_with (refine wp_load_if (by rfl) 47 (.tmp 97) rfl ⟨gu,i*12+2,none⟩ VSI rfl c2 ?_)
         refine(HHX.out _).mono ?_
         rintro e w6 ⟨rfl,b6⟩
         have HB6:=zb (HB5.out.trans (b6.mono HB5.out.size))
         obtain⟨_,_,d3⟩:=HWX.out _ HB6.out
         have hgu6:gu<w6.heap.size:=by have:=HB6.out.size;omega
         clear b6
         go_wp2_with fail
         go_roundg (gk-1)
         case measure=>omega
         case rel=>exact⟨x+1,by omega,by have:=HGX.out;omega,by go_num,HB6.out⟩
       ·have hx4i:¬(x:Int)<4:=by omega
        have hbf:b=false:=HBE.out.trans (H4I.out x hx4)
        subst hbf
        obtain⟨c1,c2,c3⟩:=HWX.out _ HBX.out
        have hgu5:gu<wr.heap.size:=by have:=HBX.out.size;omega
        go_wp2_with (refine wp_load_if (by rfl) 47 (.tmp 97) rfl ⟨gu,i*12+2,none⟩ VSI rfl c2 ?_)
        refine(HHX.out _).mono ?_
        rintro e w6 ⟨rfl,b6⟩
        have HB6:=zb (HBX.out.trans (b6.mono HBX.out.size))
        obtain⟨_,_,d3⟩:=HWX.out _ HB6.out
        have hgu6:gu<w6.heap.size:=by have:=HB6.out.size;omega
        clear b6
        go_wp2_with fail
        go_roundg (gk-1)
        case measure=>omega
        case rel=>exact⟨x+1,by omega,by have:=HGX.out;omega,by go_num,HB6.out⟩
      ·have hxi:¬(x:Int)<10:=by omega
       go_wp2_with fail
       have hgp:0<g1:=by have:=HGI.out;omega
       go_roundg (g1-1)
       case measure=>omega
       case rel=>exact⟨i+1,by omega,by have:=HGI.out;omega,by go_num,HBX.out⟩
    ·have hii:¬(i:Int)<(n:Int):=by omega
     go_wp2_with fail
     go_ret
     exact⟨rfl,HB3.out.trans (HBI.out.mono HB3.out.size)⟩
  ·have hoi4:(3:Int)<(o:Int):=by omega
   have htx:ByteArray.mk OW.toArray++ByteArray.mk #[91]++ByteArray.mk LO.toArray++ByteArray.mk #[44]++ByteArray.mk HI.toArray++ByteArray.mk #[93,40]++ByteArray.mk #[112,40,120,41,44,113,40,120,41,41]=ByteArray.mk TXT.toArray:=by
    refine(mkl7 OW [91] LO [44] HI [93,40] [112,40,120,41,44,113,40,120,41,41]).trans ?_
    rw[HKT.out,if_neg (by omega)]
   go_wp2_with fail
   refine(HRN.out _ _ _ HOL2.out).mono ?_
   rintro e w3 ⟨u,rfl,ou,b3⟩
   obtain⟨ua,uc,rfl⟩:=ql ou
   have HOU:=zb ou
   have HOB3:=zb (zo HOB2.out b3)
   have HB3:=zb (HB2.out.trans (b3.mono HB2.out.size))
   clear ou b3 HRN HOB2 HOL2 HB2 HKT htx hq1 hq2 hq3 hq4 hq5 hq6 hq7
   go_wp2_with fail
   go_loopg [17] n (fun g vi wr=>AkRel n w3 g vi wr)
   case atStart=>exact⟨0,zZ _,by omega,rfl,zB _ _⟩
   case round =>
    obtain⟨i,hi',hgi,rfl,hbi⟩:=hrel
    have HGI:=zb hgi
    have HBI:=zb hbi
    clear hgi hbi
    obtain⟨g1,hg1⟩:∃x,x=gk:=⟨_,rfl⟩
    rw[←hg1]at HGI
    by_cases hin:i<n
    ·obtain⟨gb,cb,eb⟩:=zJ HOB3.out (by omega)
     obtain⟨gu,cu,eu⟩:=zJ HOU.out (by omega)
     obtain⟨rfl,rfl⟩:ba=some ⟨gb,0,none⟩∧bc=cb:=by simpa using eb
     obtain⟨rfl,rfl⟩:ua=some ⟨gu,0,none⟩∧uc=cu:=by simpa using eu
     obtain⟨cs2,k2,a3,a4,_⟩:=q7p HOU.out
     unfold maxLen at a4
     have hgu:gu<w3.heap.size:=zd k2
     have HWC:Hid (∀W,Below w3.heap.size w3 W→W.cell? ⟨gu,i*12,none⟩=some (.int .i64 i)∧(Instr.loadAt 47 (.pointer (some ⟨gu,i*12+2,none⟩))).run Tryz.prog W=.ok (VS i) W∧∀x,x<10→W.cell? ⟨gu,i*12+2+x,none⟩=some (.int .u16 (zm (S i) x))):=zb (fun W hW=>HVC.out W _ _ _ i hin (zo HOU.out hW))
     have hii:(i:Int)<(n:Int):=by omega
     have HMI:=zb (fun x hx base g c W hv=>HME.out i x hin hx base g c W hv)
     have HHI:=zb (fun x hx W=>HHS.out i x hx W)
     have HLI:=zb (fun x hx=>HLE.out i x hin hx)
     have H4I:=zb (fun x hx=>HM4.out i x hin hx)
     generalize S i=SI at *
     generalize VS i=VSI at *
     clear eb eu k2
     go_wp2_with fail
     go_loopg [18] 10 (fun g vi wr=>AkRel 10 w3 g vi wr)
     case atStart=>exact⟨0,zZ _,by omega,rfl,HBI.out⟩
     case round =>
      obtain⟨x,hx,hgx,rfl,hbx⟩:=hrel
      have HGX:=zb hgx
      have HBX:=zb hbx
      clear hgx hbx
      by_cases hx10:x<10
      ·have hxi:(x:Int)<10:=by omega
       have HHX:=zb (HHI.out x hx10)
       have HLX:=HLI.out x hx10
       have HWX:Hid (∀W,Below w3.heap.size w3 W→W.cell? ⟨gu,i*12,none⟩=some (.int .i64 i)∧(Instr.loadAt 47 (.pointer (some ⟨gu,i*12+2,none⟩))).run Tryz.prog W=.ok VSI W∧W.cell? ⟨gu,i*12+2+x,none⟩=some (.int .u16 (zm SI x))):=zb (fun W hW=>⟨(HWC.out W hW).1,(HWC.out W hW).2.1,(HWC.out W hW).2.2 x hx10⟩)
       generalize zm SI x=z at *
       obtain⟨z0,z1⟩:=HLX
       have hz:¬1<z:=by omega
       obtain⟨b,hb⟩:∃b,b=SI x 0:=⟨_,rfl⟩
       have HBE:=zb hb
       rw[←hb]at HHX
       clear hb
       have hgp:0<gk:=by have:=HGX.out;omega
       by_cases hx4:x<4
       ·have hx4i:(x:Int)<4:=by omega
        have HMX:=zb (HMI.out x hx4 _ _ _ _ (zo HOB3.out HBX.out))
        rw[←HBE.out]at HMX
        go_wp2_with fail
        refine HMX.out.mono ?_
        rintro e w5 ⟨rfl,b5⟩
        have HB5:=zb (HBX.out.trans (b5.mono HBX.out.size))
        obtain⟨c1,c2,c3⟩:=HWX.out _ HB5.out
        have hgu5:gu<w5.heap.size:=by have:=HB5.out.size;omega
        clear b5
        cases b
        ·go_wp2_with (refine wp_load_if (by rfl) 47 (.tmp 97) rfl ⟨gu,i*12+2,none⟩ VSI rfl c2 ?_)
         refine(HHX.out _).mono ?_
         rintro e w6 ⟨rfl,b6⟩
         have HB6:=zb (HB5.out.trans (b6.mono HB5.out.size))
         obtain⟨_,_,d3⟩:=HWX.out _ HB6.out
         have hgu6:gu<w6.heap.size:=by have:=HB6.out.size;omega
         clear b6
         go_wp2_with fail
         go_roundg (gk-1)
         case measure=>omega
         case rel=>exact⟨x+1,by omega,by have:=HGX.out;omega,by go_num,HB6.out⟩
        ·go_wp2_with (refine wp_load_if (by rfl) 47 (.tmp 97) rfl ⟨gu,i*12+2,none⟩ VSI rfl c2 ?_)
         refine(HHX.out _).mono ?_
         rintro e w6 ⟨rfl,b6⟩
         have HB6:=zb (HB5.out.trans (b6.mono HB5.out.size))
         obtain⟨_,_,d3⟩:=HWX.out _ HB6.out
         have hgu6:gu<w6.heap.size:=by have:=HB6.out.size;omega
         clear b6
         go_wp2_with fail
         go_roundg (gk-1)
         case measure=>omega
         case rel=>exact⟨x+1,by omega,by have:=HGX.out;omega,by go_num,HB6.out⟩
       ·have hx4i:¬(x:Int)<4:=by omega
        have hbf:b=false:=HBE.out.trans (H4I.out x hx4)
        subst hbf
        obtain⟨c1,c2,c3⟩:=HWX.out _ HBX.out
        have hgu5:gu<wr.heap.size:=by have:=HBX.out.size;omega
        go_wp2_with (refine wp_load_if (by rfl) 47 (.tmp 97) rfl ⟨gu,i*12+2,none⟩ VSI rfl c2 ?_)
        refine(HHX.out _).mono ?_
        rintro e w6 ⟨rfl,b6⟩
        have HB6:=zb (HBX.out.trans (b6.mono HBX.out.size))
        obtain⟨_,_,d3⟩:=HWX.out _ HB6.out
        have hgu6:gu<w6.heap.size:=by have:=HB6.out.size;omega
        clear b6
        go_wp2_with fail
        go_roundg (gk-1)
        case measure=>omega
        case rel=>exact⟨x+1,by omega,by have:=HGX.out;omega,by go_num,HB6.out⟩
      ·have hxi:¬(x:Int)<10:=by omega
       go_wp2_with fail
       have hgp:0<g1:=by have:=HGI.out;omega
       go_roundg (g1-1)
       case measure=>omega
       case rel=>exact⟨i+1,by omega,by have:=HGI.out;omega,by go_num,HBX.out⟩
    ·have hii:¬(i:Int)<(n:Int):=by omega
     go_wp2_with fail
     go_ret
     exact⟨rfl,HB3.out.trans (HBI.out.mono HB3.out.size)⟩
 ·obtain⟨k,hk⟩:∃k,k=o-8:=⟨_,rfl⟩
  have hwk:IntKind.i64.wrap ((o:Int)-8)=(k:Int):=by rw[IntKind.wrap_i64];omega
  have HSK:=zb (HST.out k (by omega))
  have hoi:(7:Int)<(o:Int):=by omega
  clear hk HST HPA HPB
  go_enter Tryz.func4,Tryz.ntmps4
  go_wp2_with fail
  refine HBT.out.mono ?_
  rintro e w1 ⟨vb,vl,rfl,ob,ol,b1⟩
  have HB1:=zb b1
  clear ob ol b1 HBT
  go_wp2_with fail
  refine(HPO.out _).mono ?_
  rintro e w5 ⟨rfl,hw5⟩
  rw[hw5]
  clear hw5
  go_wp2_with fail
  refine(HSK.out _).mono ?_
  rintro e w2 ⟨rfl,b2⟩
  have HB2:=zb (HB1.out.trans (b2.mono HB1.out.size))
  clear b2
  go_wp2_with fail
  go_ret
  exact⟨rfl,HB2.out⟩
end Go.Proofs.YtiamjjonoeaggaaGreatDoor
