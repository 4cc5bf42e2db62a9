import Derived.Test.YtiamjjonoeaggaaGreatDoorGA
import Derived.Test.YtiamjjonoeaggaaGreatDoorGB
import Derived.Test.YtiamjjonoeaggaaGreatDoorG33
import Derived.Test.YtiamjjonoeaggaaGreatDoorG34
set_option maxRecDepth 100000
set_option maxHeartbeats 16000000
namespace Go.Proofs.YtiamjjonoeaggaaGreatDoor
open Go.RowKit
theorem nine_news {w1:World}{a b c d f g h i k:Value}{e:TypeId}:∀(j:Nat) (v:Value),[a,b,c,d,f,g,h,i,k][j]?=some v→(w1.alloc (.cells #[a,b,c,d,f,g,h,i,k] e)).cell? ((⟨w1.heap.size,0,none⟩:Addr).add j)=some v:=by
 intro j v hj
 rw[q4l,Nat.zero_add,zC _ _ j _ _ _ (zN w1 _)]
 simpa using hj
theorem bt_load {w:World}{g:Nat}{a b c d f h i k m:Value}(hg:w.heap[g]?=some (.cells #[a,b,c,d,f,h,i,k,m] 100 (0,0))):(Instr.loadAt 100 (.pointer (some ⟨g,0,none⟩))).run Tryz.prog w=.ok (.agg #[a,b,c,d,f,h,i,k,m]) w:=by
 refine run_loadAt_mid w g 0 100 [a,b,c,d,f,h,i,k,m] _ (fun j v hv=>?_) Tryz.underlying100 rfl (by kernel_rfl)
 rw[Nat.zero_add,zC _ _ j _ _ _ hg]
 simpa using hv
theorem bits_step (s:By)(n i:Nat):bitsK s (n+1) i=((decide ((zk s i 2).1=1),decide ((zk s (zk s i 2).2 3).1=1))::(bitsK s n (zk s (zk s i 2).2 3).2).1,(bitsK s n (zk s (zk s i 2).2 3).2).2):=rfl
theorem bt_text (t:Nat)(E:List (Bool × Bool))(p q:Bool):q1Q t (btH 0 (E++[(p,q)]))=q1Q t (btH 0 E)++((if p then [32,112,40]++q0d E.length++[41]else [])++(if q then [32,113,40]++q0d E.length++[41]else [])):=by
 rw[btH_snoc,Nat.zero_add]
 cases p<;>cases q
 ·simp
 ·show q1Q t (btH 0 E++[⟨[113],[E.length]⟩])=_
  rw[line_snoc];simp
 ·show q1Q t (btH 0 E++[⟨[112],[E.length]⟩])=_
  rw[line_snoc];simp
 ·show q1Q t (btH 0 E++([⟨[112],[E.length]⟩]++[⟨[113],[E.length]⟩]))=_
  rw[←List.append_assoc,line_snoc,line_snoc];simp
theorem kep_beats (s:By)(hs:s.length≤maxLen)(w:World) :
  Calls Tryz.prog 20 #[bs s] w fun e w'=>∃vb vl,e=.returned (.tuple #[vb,vl])∧w'.ownsRow w.heap.size 100 9 vb (beatsK s).length (btCells (beatsK s))∧w'.ownsRow w.heap.size 44 4 vl (beatsK s).length (q1U ((beatsK s).map txB))∧Below w.heap.size w w':=by
 have HN:=zb (fun fb i n hn W q=>q1v fb s i n hn W q)
 obtain⟨X,hX⟩:∃X,X=beatsK s:=⟨_,rfl⟩
 rw[←hX]
 unfold beatsK at hX
 have h11:=qj s 0 (n:=11) (by omega)
 have HF0:Hid (∀W fb,W.heap[fb]?=some (.cells #[bs s,.int .i64 0] 27 (0,0))→FeedAt W fb s 0):=zb (fun W fb h=>⟨h,zZ _,hs⟩)
 have HN11:=zb (fun fb W q=>HN.out fb 0 11 (by omega) W q)
 generalize zk s 0 11=ra at *
 obtain⟨n,i1⟩:=ra
 simp only[]at h11 HN11 hX
 have HX:=zb hX
 clear hX
 go_enter Tryz.func20,Tryz.ntmps20
 go_wp2_with fail
 have BW:Below w.heap.size w (w.alloc (.cells #[bs s,.int .i64 0] 27)):=(zB _ _).alloc (zL _) _
 have g0:=zN w (.cells #[bs s,.int .i64 0] 27)
 refine(HN11.out _ _ (HF0.out _ _ g0)).mono ?_
 rintro e w1 ⟨rfl,f1,o1⟩
 have HB1:Hid (BgAt w w1 s i1 (.slice none 0 0) (.slice none 0 0) [] []):=zb ⟨f1,zW _ _ _ _,zW _ _ _ _,BW.trans (o1.below BW.size (fun q hq=>by simp at hq;omega))⟩
 clear f1 o1 g0 BW HN11 HF0
 go_wp2_with fail
 go_loopg [5,6,7,9] n (fun g vb vl vt vi wr=>BgRel w s X n g vb vl vt vi wr)
 case atStart=>exact⟨0,i1,0,[],zZ _,by omega,rfl,rfl,by omega,rfl,HX.out,HB1.out⟩
 case round =>
  obtain⟨k,i,t,D,hk,hg,rfl,rfl,ht,hD,hXD,hB⟩:=hrel
  have HG:=zb hg
  have HXD:=zb hXD
  have HB:=zb hB
  clear hg hXD hB HX HB1
  by_cases hkn:k<n
  ·have h4:=qj s i (n:=4) (by omega)
   have HN4:=zb (fun W q=>HN.out w.heap.size i 4 (by omega) W q)
   have hxd:=HXD.out
   rw[show n-k=(n-k-1)+1 by omega,btsK]at hxd
   have HXE:=zb hxd
   clear hxd HXD
   generalize zk s i 4=r4 at *
   obtain⟨d4,j0⟩:=r4
   simp only[]at h4 HN4 HXE
   obtain⟨t',ht'⟩:∃t',t'=t+d4:=⟨_,rfl⟩
   rw[←ht']at HXE
   have hwt:IntKind.i64.wrap ((t:Int)+(d4:Int))=(t':Int):=by rw[IntKind.wrap_i64];omega
   have htl:t'≤3*(k+1):=by omega
   clear ht'
   have HIT:=zb (std_ItoaS t' (by omega))
   have hd1:=(dec_small (u:=t') (by omega)).1
   go_wp2_with fail
   refine(HN4.out _ HB.out.feed).mono ?_
   rintro e w2 ⟨rfl,f2,o2⟩
   have HB2:=zb (HB.out.next f2 o2)
   clear f2 o2 HB HN4
   have hqa:¬9223372036854775807<1+(Lib.decDigits t').length:=by omega
   go_wp2_with fail
   refine(HIT.out _).mono ?_
   rintro e w3 ⟨rfl,hw3⟩
   rw[hw3]
   clear hw3 HIT
   go_wp2_with fail
   have HI0:Hid (BiAt w (w2.alloc (.cells #[.int .i64 t',.bool false,.bool false,.bool false,.bool false,.bool false,.bool false,.bool false,.bool false] 100)) s j0 u5 u6 D w2.heap.size (btL t' [])):=zb (BiAt.new HB2.out (btL t' []))
   have hs0:ByteArray.mk #[64]++ByteArray.mk (Lib.decDigits t').toArray=ByteArray.mk (q1Q t' []).toArray:=by
    refine(qD [64] (Lib.decDigits t')).trans ?_
    rw[show q1Q t' []=[64]++Lib.decDigits t' by simp[q1Q,q0I]]
   obtain⟨BK,hBK⟩:∃BK,BK=bitsK s 4 j0:=⟨_,rfl⟩
   rw[←hBK]at HXE
   have HBK:=zb hBK
   clear hBK
   obtain⟨go,hgo⟩:∃go,go=gk:=⟨_,rfl⟩
   rw[←hgo]at HG
   go_loopg [11,12] 4 (fun g2 vs vv wr2=>BiRel w s t' BK u5 u6 D w2.heap.size g2 vs vv wr2)
   case atStart=>exact⟨j0,[],by simp,by simp,rfl,by first|(rw[hs0];rfl)|(show Value.string _=Value.string _;rw[hs0]),by rw[HBK.out];simp,by rw[HBK.out];simp,HI0.out⟩
   case round =>
    obtain⟨i',E,hE,hg2,rfl,rfl,hb1,hb2,hBI⟩:=hrel
    clear hs0 HI0 HB2 HBK
    generalize w2.heap.size=bb at *
    have HBI:=zb hBI
    have HG2:=zb hg2
    clear hBI hg2
    by_cases hm:E.length<4
    ·rw[show 4-E.length=(4-E.length-1)+1 by omega,bits_step]at hb1 hb2
     have HNp:=zb (fun W q=>HN.out w.heap.size i' 2 (by omega) W q)
     have HNq:=zb (fun W q=>HN.out w.heap.size (zk s i' 2).2 3 (by omega) W q)
     generalize zk s i' 2=rp at *
     obtain⟨a2,ja⟩:=rp
     simp only[]at hb1 hb2 HNp HNq
     generalize zk s ja 3=rq at *
     obtain⟨a3,jb⟩:=rq
     simp only[]at hb1 hb2 HNq
     obtain⟨p,hp⟩:∃p,p=decide (a2=1):=⟨_,rfl⟩
     obtain⟨q,hq⟩:∃q,q=decide (a3=1):=⟨_,rfl⟩
     rw[←hp,←hq]at hb1
     have hpe:((a2:Int)==1)=p:=by rw[hp,Bool.eq_iff_iff];simp;omega
     have hqe:((a3:Int)==1)=q:=by rw[hq,Bool.eq_iff_iff];simp;omega
     clear hp hq
     have HE1:=zb hb1
     have HE2:=zb hb2
     clear hb1 hb2
     obtain⟨v,hv⟩:∃v,v=E.length:=⟨_,rfl⟩
     rw[←hv]at hm ⊢
     have HV:=zb hv
     clear hv hE
     have HIV:=zb (q2R v (by omega))
     have hvi:(v:Int)<4:=by omega
     go_wp2_with fail
     refine(HIV.out _).mono ?_
     rintro e w4 ⟨rfl,hw4⟩
     rw[hw4]
     clear hw4 HIV
     go_wp2_with fail
     refine(HNp.out _ HBI.out.at_.feed).mono ?_
     rintro e w5 ⟨rfl,f5,o5⟩
     have HB5:=zb (HBI.out.next f5 o5)
     clear f5 o5 HBI HNp
     have hcl:=(HB5.out.cells (v:=v) hm).1
     have hfz:=zF w5 bb (1+v) _ _ HB5.out.blk
     go_wp2_with fail
     have HB6:=zb (HB5.out.put (A':=btA t' (pB (E++[(p,q)])) (qB00 E)) (1+v) (.bool p) (by rw[HV.out];exact btA_p t' (qB00 E) E (by rw[←HV.out];exact hm) p q))
     clear hcl hfz HB5
     refine(HNq.out _ HB6.out.at_.feed).mono ?_
     rintro e w7 ⟨rfl,f7,o7⟩
     have HB7:=zb (HB6.out.next f7 o7)
     clear f7 o7 HB6 HNq
     have hcl:=(HB7.out.cells (v:=v) hm).2
     have hfz:=zF w7 bb (5+v) _ _ HB7.out.blk
     have HB8:=zb (HB7.out.put (A':=btL t' (E++[(p,q)])) (5+v) (.bool q) (by rw[HV.out];exact btA_q t' (pB (E++[(p,q)])) E (by rw[←HV.out];exact hm) p q))
     have hc1:=(HB8.out.cells (v:=v) hm).1
     have hc2:=(HB8.out.cells (v:=v) hm).2
     rw[HV.out,(pB_snoc E p q).1,←HV.out]at hc1
     rw[HV.out,(pB_snoc E p q).2,←HV.out]at hc2
     clear HB7
     obtain⟨T,hT⟩:∃T,T=q1Q t' (btH 0 E):=⟨_,rfl⟩
     have hTl:T.length≤80:=by
      have hEv:=HV.out
      have:=btH_ok E 0 (by omega)
      rw[hT]
      exact line_len8 _ _ (by omega) this.1 (by omega)
     rw[←hT]
     have HT:=zb hT
     clear hT
     have hdv:(q0d v).length≤1:=zL _
     have hq1:¬9223372036854775807<T.length+3:=by omega
     have hq2:¬9223372036854775807<T.length+3+(q0d v).length:=by omega
     have hq3:¬9223372036854775807<T.length+3+(q0d v).length+1:=by omega
     have hq4:¬9223372036854775807<T.length+3+(q0d v).length+1+3:=by omega
     have hq5:¬9223372036854775807<T.length+3+(q0d v).length+1+3+(q0d v).length:=by omega
     have hq6:¬9223372036854775807<T.length+3+(q0d v).length+1+3+(q0d v).length+1:=by omega
     have hvw:IntKind.i64.wrap ((v:Int)+1)=((v+1:Nat):Int):=by rw[IntKind.wrap_i64];omega
     cases p<;>cases q
     ·go_wp2_with fail
      have htx:ByteArray.mk T.toArray=ByteArray.mk (q1Q t' (btH 0 (E++[(false,false)]))).toArray:=by
       rw[bt_text,←HT.out]
       simp
      have hg3:0<gk:=by have:=HG2.out;have:=HV.out;omega
      go_roundg (gk-1)
      case measure=>omega
      case rel=>exact⟨jb,E++[(false,false)],by have:=HV.out;simp;omega,by have:=HG2.out;have:=HV.out;simp;omega,by rw[List.length_append,←HV.out];first|rfl|go_num,by first|rfl|(rw[htx])|(show Value.string _=Value.string _;rw[htx]),by rw[HE1.out];simp[Nat.sub_sub],by rw[HE2.out];simp[Nat.sub_sub],HB8.out⟩
     ·go_wp2_with fail
      have htx:ByteArray.mk T.toArray++ByteArray.mk #[32,113,40]++ByteArray.mk (q0d v).toArray++ByteArray.mk #[41]=ByteArray.mk (q1Q t' (btH 0 (E++[(false,true)]))).toArray:=by
       refine(mk4 T [32,113,40] (q0d v) [41]).trans ?_
       rw[bt_text,←HT.out,←HV.out]
       simp
      have hg3:0<gk:=by have:=HG2.out;have:=HV.out;omega
      go_roundg (gk-1)
      case measure=>omega
      case rel=>exact⟨jb,E++[(false,true)],by have:=HV.out;simp;omega,by have:=HG2.out;have:=HV.out;simp;omega,by rw[List.length_append,←HV.out];first|rfl|go_num,by first|rfl|(rw[htx])|(show Value.string _=Value.string _;rw[htx]),by rw[HE1.out];simp[Nat.sub_sub],by rw[HE2.out];simp[Nat.sub_sub],HB8.out⟩
     ·go_wp2_with fail
      have htx:ByteArray.mk T.toArray++ByteArray.mk #[32,112,40]++ByteArray.mk (q0d v).toArray++ByteArray.mk #[41]=ByteArray.mk (q1Q t' (btH 0 (E++[(true,false)]))).toArray:=by
       refine(mk4 T [32,112,40] (q0d v) [41]).trans ?_
       rw[bt_text,←HT.out,←HV.out]
       simp
      have hg3:0<gk:=by have:=HG2.out;have:=HV.out;omega
      go_roundg (gk-1)
      case measure=>omega
      case rel=>exact⟨jb,E++[(true,false)],by have:=HV.out;simp;omega,by have:=HG2.out;have:=HV.out;simp;omega,by rw[List.length_append,←HV.out];first|rfl|go_num,by first|rfl|(rw[htx])|(show Value.string _=Value.string _;rw[htx]),by rw[HE1.out];simp[Nat.sub_sub],by rw[HE2.out];simp[Nat.sub_sub],HB8.out⟩
     ·go_wp2_with fail
      have htx:ByteArray.mk T.toArray++ByteArray.mk #[32,112,40]++ByteArray.mk (q0d v).toArray++ByteArray.mk #[41]++ByteArray.mk #[32,113,40]++ByteArray.mk (q0d v).toArray++ByteArray.mk #[41]=ByteArray.mk (q1Q t' (btH 0 (E++[(true,true)]))).toArray:=by
       refine(mkl7 T [32,112,40] (q0d v) [41] [32,113,40] (q0d v) [41]).trans ?_
       rw[bt_text,←HT.out,←HV.out]
       simp
      have hg3:0<gk:=by have:=HG2.out;have:=HV.out;omega
      go_roundg (gk-1)
      case measure=>omega
      case rel=>exact⟨jb,E++[(true,true)],by have:=HV.out;simp;omega,by have:=HG2.out;have:=HV.out;simp;omega,by rw[List.length_append,←HV.out];first|rfl|go_num,by first|rfl|(rw[htx])|(show Value.string _=Value.string _;rw[htx]),by rw[HE1.out];simp[Nat.sub_sub],by rw[HE2.out];simp[Nat.sub_sub],HB8.out⟩
    ·have hE4:E.length=4:=by omega
     rw[hE4]at hb1 hb2
     simp only[Nat.sub_self,bitsK,List.append_nil]at hb1 hb2
     have hBK:BK=(E,i'):=by obtain⟨x,y⟩:=BK;simp only[]at hb1 hb2;rw[hb1,hb2]
     have hxe:=HXE.out
     rw[hBK]at hxe
     have HXF:=zb hxe
     clear hxe HXE hb1 hb2 hBK
     obtain⟨T,hT⟩:∃T,T=q1Q t' (btH 0 E):=⟨_,rfl⟩
     rw[←hT]
     have HT:=zb hT
     clear hT
     rw[show((E.length:Nat):Int)=4 by omega]
     obtain⟨b0,b1,b2,b3,b4,b5,b6,b7,hA⟩:∃b0 b1 b2 b3 b4 b5 b6 b7,btL t' E=#[.int .i64 t',.bool b0,.bool b1,.bool b2,.bool b3,.bool b4,.bool b5,.bool b6,.bool b7]:=⟨_,_,_,_,_,_,_,_,rfl⟩
     have hblk:=HBI.out.blk
     rw[hA]at hblk
     have HB10:=zb (HBI.out.at_.below ((zB _ wr).alloc (zL _) (.cells #[.int .i64 t',.bool b0,.bool b1,.bool b2,.bool b3,.bool b4,.bool b5,.bool b6,.bool b7] 100)))
     obtain⟨oa,oc,ho5⟩:=ql HBI.out.at_.bts
     obtain⟨oa',oc',ho6⟩:=ql HBI.out.at_.lns
     rw[hD]at ho5 ho6
     subst ho5
     subst ho6
     have hrA:=HB10.out.bts
     rw[hD]at hrA
     have HRA:=zb hrA
     clear hrA HBI
     obtain⟨ib,hib,hy0,hy1,hy2⟩:=info_parts info_bt
     have LB:=bt_load hblk
     have hw16:IntKind.u16.wrap (t':Int)=(t':Int):=by rw[IntKind.wrap_u16];omega
     obtain⟨il,hil,hz0,hz1,hz2⟩:=info_parts j0t
     have eB:btCs ⟨t',E⟩=[.int .i64 t',.bool b0,.bool b1,.bool b2,.bool b3,.bool b4,.bool b5,.bool b6,.bool b7]:=by
      show(btL t' E).toList=_
      rw[hA]
     have HAP:Hid (∀(v10:Value) (w10:World),w10.ownsRow w.heap.size 100 9 v10 (k+1) (btCells D++[.int .i64 t',.bool b0,.bool b1,.bool b2,.bool b3,.bool b4,.bool b5,.bool b6,.bool b7])→(wr.alloc (.cells #[.int .i64 t',.bool b0,.bool b1,.bool b2,.bool b3,.bool b4,.bool b5,.bool b6,.bool b7] 100)).grownBy w10 (Value.slice oa k oc).ownBlock→BgAt w (w10.alloc (.cells #[.int .u16 t',.int .i64 t',bs [],bs T] 44)) s i' v10 (.slice oa' k oc') (D++[⟨t',E⟩]) D):=zb (fun v10 w10 own10 gr10=>by
      have ho':w10.ownsRow w.heap.size 100 9 v10 (D.length+1) (btCells D++btCs ⟨t',E⟩):=by
       rw[eB,hD]
       exact own10
      exact(HB10.out.appB gr10 ho').below ((zB _ w10).alloc (zL _) _))
     have HBS:=zb HB10.out.bel.size
     clear HB10 hA eB hblk
     go_wp2_with (first|(refine zj rfl 100 (.tmp 10) rfl ⟨bb,0,none⟩ _ rfl LB ?_)|(at_builtin;refine wpList_append_own (wr.alloc (.cells #[.int .i64 t',.bool b0,.bool b1,.bool b2,.bool b3,.bool b4,.bool b5,.bool b6,.bool b7] 100)) rfl (.tmp 69) (.tmp 71) 55 rfl w.heap.size 100 ib _ 9 16 Tryz.underlying55 hib hy0 hy1 hy2 rfl (by decide) (.slice oa k oc) k (btCells D) rfl HRA.out ⟨wr.heap.size,0,none⟩ 1 1 [.int .i64 t',.bool b0,.bool b1,.bool b2,.bool b3,.bool b4,.bool b5,.bool b6,.bool b7] (by simp[Act.eval]) rfl nine_news (by intro u hu;simp only[List.mem_cons,List.not_mem_nil,or_false]at hu;rcases hu with rfl|rfl|rfl|rfl|rfl|rfl|rfl|rfl|rfl<;>rfl) (by unfold maxLen;omega) (by omega) HBS.out ?_;intro v10 w10 own10 gr10 _;have HB12:=zb (HAP.out v10 w10 own10 gr10);clear own10 gr10 HAP)|(at_builtin;refine wpList_append_own (w10.alloc (.cells #[.int .u16 t',.int .i64 t',bs [],bs T] 44)) rfl (.tmp 73) (.tmp 79) 36 rfl w.heap.size 44 il _ 4 48 Tryz.underlying36 hil hz0 hz1 hz2 rfl (by decide) (.slice oa' k oc') k (q1U (D.map txB)) rfl (by have h:=HB12.out.lns;rw[hD]at h;exact h) ⟨w10.heap.size,0,none⟩ 1 1 [.int .u16 t',.int .i64 t',bs [],bs T] (by simp[Act.eval]) rfl q7i (by intro u hu;simp only[List.mem_cons,List.not_mem_nil,or_false]at hu;rcases hu with rfl|rfl|rfl|rfl<;>rfl) (by unfold maxLen;omega) (by omega) HB12.out.bel.size ?_;intro v11 w11 own11 gr11 _))
     have ho':w11.ownsRow w.heap.size 44 4 v11 (D.length+1) (q1U (D.map txB)++lnCs (txB ⟨t',E⟩)):=by
      have e:lnCs (txB ⟨t',E⟩)=[.int .u16 t',.int .i64 t',bs [],bs T]:=by
       rw[HT.out]
       rfl
      rw[e,hD]
      exact own11
     have HB13:=zb (HB12.out.appL gr11 ho')
     have hg1:0<go:=by have:=HG.out;omega
     go_roundg (go-1)
     case measure=>omega
     case rel=>exact⟨k+1,i',t',D++[⟨t',E⟩],by omega,by have:=HG.out;omega,by go_num,rfl,htl,by simp;omega,by
       have:=HXF.out
       rw[this,show n-(k+1)=n-k-1 by omega]
       simp,HB13.out⟩
  ·have hkn2:k=n:=by omega
   subst hkn2
   have hx:=HXD.out
   rw[Nat.sub_self]at hx
   simp only[btsK,List.append_nil]at hx
   subst hx
   go_wp2_with fail
   go_ret2
   exact⟨_,_,rfl,HB.out.bts,HB.out.lns,HB.out.bel⟩
theorem bt_at (l:List Bt):∀(k:Nat) (h:k<l.length) (j:Nat),j<9→(btCells l)[k*9+j]?=(btCs l[k])[j]?:=by
 induction l with
 |nil=>intro k h;simp at h
 |cons a r ih =>
  intro k h j hj
  have e:btCells (a::r)=btCs a++btCells r:=rfl
  have hl:(btCs a).length=9:=rfl
  cases k with
  |zero =>
   rw[e,List.getElem?_append_left (by rw[hl];omega)]
   simp
  |succ k =>
   rw[e,List.getElem?_append_right (by rw[hl];omega),hl,show(k+1)*9+j-9=k*9+j by omega,ih k (by simpa using h) j hj]
   simp
theorem bt_cell {w:World}{base g c:Nat}{X:List Bt}(h:w.ownsRow base 100 9 (.slice (some ⟨g,0,none⟩) X.length c) X.length (btCells X)){k:Nat}(hk:k<X.length){v:Nat}(hv:v<4):w.cell? ⟨g,k*9,none⟩=some (.int .i64 (tmB X k))∧w.cell? ⟨g,k*9+1+v,none⟩=some (.bool (pB (btAt X k) v))∧w.cell? ⟨g,k*9+5+v,none⟩=some (.bool (qB00 (btAt X k) v)):=by
 have e1:tmB X k=X[k].time∧btAt X k=X[k].bits:=by
  unfold tmB btAt
  rw[zG hk]
  exact⟨rfl,rfl⟩
 rw[e1.1,e1.2]
 have hb:=btA_at X[k].time (pB X[k].bits) (qB00 X[k].bits) v hv
 have hl:∀j:Nat,(btCs X[k])[j]?=(btL X[k].time X[k].bits)[j]?:=fun j=>by
  show(btL X[k].time X[k].bits).toList[j]?=_
  rw[Array.getElem?_toList]
 refine⟨?_,?_,?_⟩
 ·rw[show k*9=k*9+0 by omega,h.cellAt _ (by omega),bt_at X k hk 0 (by omega)]
  rfl
 ·rw[show k*9+1+v=k*9+(1+v)by omega,h.cellAt _ (by omega),bt_at X k hk (1+v) (by omega),hl]
  exact hb.1
 ·rw[show k*9+5+v=k*9+(5+v)by omega,h.cellAt _ (by omega),bt_at X k hk (5+v) (by omega),hl]
  exact hb.2
def MtRel (op lo hi:Nat)(T:Nat→Nat)(P Q:Nat→Bool)(i n:Nat)(w:World)(g:Nat)(vj:Value)(wr:World):Prop:=
 ∃j:Nat,j≤n∧n-j≤g∧vj=.int .i64 j∧(∀m,m<j→metJ op lo hi T P Q i m=false)∧Below w.heap.size w wr
def MkRel (P:Nat→Bool)(q par:Bool)(fr to1:Nat)(w:World)(g:Nat)(vok vk:Value)(wr:World):Prop:=
 ∃(k:Nat) (b:Bool),fr≤k∧k≤to1∧to1-k≤g∧vok=.bool b∧vk=.int .i64 k∧(b=true↔q=true∧∀m,fr≤m→m<k→P m=par)∧Below w.heap.size w wr
theorem meets_all {op lo hi:Nat}{T:Nat→Nat}{P Q:Nat→Bool}{n i:Nat}(h:∀m,m<n→metJ op lo hi T P Q i m=false):meetsR op lo hi T P Q n i=false:=by
 rw[←Bool.not_eq_true,meets_iff]
 rintro⟨j,hj,hm⟩
 rw[h j hj]at hm
 exact absurd hm (by decide)
theorem mk_step {P:Nat→Bool}{q par b:Bool}{fr k:Nat}(hf:fr≤k)(h:b=true↔q=true∧∀m,fr≤m→m<k→P m=par):((b&&(P k==par))=true↔q=true∧∀m,fr≤m→m<k+1→P m=par):=by
 simp only[Bool.and_eq_true,beq_iff_eq,h]
 constructor
 ·rintro⟨⟨h1,h2⟩,h3⟩
  refine⟨h1,fun m a b=>?_⟩
  by_cases e:m=k
  ·rw[e];exact h3
  ·exact h2 m a (by omega)
 ·rintro⟨h1,h2⟩
  exact⟨⟨h1,fun m a b=>h2 m a (by omega)⟩,h2 k hf (by omega)⟩
theorem met_0 (lo hi:Nat)(T:Nat→Nat)(P Q:Nat→Bool)(i j:Nat):metJ 0 lo hi T P Q i j=true↔(((lo:Int)≤(T i:Int)-T j∧(T i:Int)-T j≤(hi:Int))∧j≤i∧j+1=i∧P j=true):=by
 rw[met_iff]
 have e:pastO 0=true:=rfl
 simp[e]
theorem met_1 (lo hi:Nat)(T:Nat→Nat)(P Q:Nat→Bool)(i j:Nat):metJ 1 lo hi T P Q i j=true↔(((lo:Int)≤(T j:Int)-T i∧(T j:Int)-T i≤(hi:Int))∧i≤j∧j=i+1∧P j=true):=by
 rw[met_iff]
 have e:pastO 1=false:=rfl
 simp[e]
theorem met_2 (lo hi:Nat)(T:Nat→Nat)(P Q:Nat→Bool)(i j:Nat):metJ 2 lo hi T P Q i j=true↔(((lo:Int)≤(T i:Int)-T j∧(T i:Int)-T j≤(hi:Int))∧j≤i∧P j=true):=by
 rw[met_iff]
 have e:pastO 2=true:=rfl
 simp[e]
theorem met_3 (lo hi:Nat)(T:Nat→Nat)(P Q:Nat→Bool)(i j:Nat):metJ 3 lo hi T P Q i j=true↔(((lo:Int)≤(T j:Int)-T i∧(T j:Int)-T i≤(hi:Int))∧i≤j∧P j=true):=by
 rw[met_iff]
 have e:pastO 3=false:=rfl
 simp[e]
theorem met_4 (lo hi:Nat)(T:Nat→Nat)(P Q:Nat→Bool)(i j:Nat):metJ 4 lo hi T P Q i j=true↔(((lo:Int)≤(T i:Int)-T j∧(T i:Int)-T j≤(hi:Int))∧j≤i∧(Q j=true∧∀k,(j<k∧k≤i)→P k=true)):=by
 rw[met_iff]
 have e:pastO 4=true:=rfl
 simp[e]
theorem met_5 (lo hi:Nat)(T:Nat→Nat)(P Q:Nat→Bool)(i j:Nat):metJ 5 lo hi T P Q i j=true↔(((lo:Int)≤(T i:Int)-T j∧(T i:Int)-T j≤(hi:Int))∧j≤i∧(Q j=true∧∀k,(j<k∧k≤i)→P k=false)):=by
 rw[met_iff]
 have e:pastO 5=true:=rfl
 simp[e]
theorem met_6 (lo hi:Nat)(T:Nat→Nat)(P Q:Nat→Bool)(i j:Nat):metJ 6 lo hi T P Q i j=true↔(((lo:Int)≤(T j:Int)-T i∧(T j:Int)-T i≤(hi:Int))∧i≤j∧(Q j=true∧∀k,(i≤k∧k<j)→P k=true)):=by
 rw[met_iff]
 have e:pastO 6=false:=rfl
 simp[e]
theorem met_7 (lo hi:Nat)(T:Nat→Nat)(P Q:Nat→Bool)(i j:Nat):metJ 7 lo hi T P Q i j=true↔(((lo:Int)≤(T j:Int)-T i∧(T j:Int)-T i≤(hi:Int))∧i≤j∧(Q j=true∧∀k,(i≤k∧k<j)→P k=false)):=by
 rw[met_iff]
 have e:pastO 7=false:=rfl
 simp[e]
theorem kep_meets0' (n:Nat)(T:Nat→Nat)(P Q:Nat→Bool)(hn40:n≤40)(lo hi:Nat)(i:Nat)(hin:i<n)(v:Nat)(hv:v<4)(g c:Nat)(hcn:n≤c∧c≤maxLen)(w:World)(hC:∀W,Below w.heap.size w W→∀j,j<n→W.cell? ⟨g,j*9,none⟩=some (.int .i64 (T j))∧W.cell? ⟨g,j*9+1+v,none⟩=some (.bool (P j))∧W.cell? ⟨g,j*9+5+v,none⟩=some (.bool (Q j)))(hT:∀j,j<n→T j≤1000) :
  Calls Tryz.prog 25 #[.slice (some ⟨g,0,none⟩) n c,.int .i64 0,.int .i64 lo,.int .i64 hi,.int .i64 i,.int .i64 v] w fun e w'=>e=.returned (.bool (meetsR 0 lo hi T P Q n i))∧Below w.heap.size w w':=by
 have HC:=zb hC
 have HT:=zb hT
 clear hC hT
 unfold maxLen at hcn
 obtain⟨hcn1,hcn2⟩:=hcn
 have hTi:=HT.out i hin
 obtain⟨R,hR⟩:∃R,R=meetsR 0 lo hi T P Q n i:=⟨_,rfl⟩
 rw[←hR]
 have HR:=zb hR
 clear hR
 go_enter Tryz.func25,Tryz.ntmps25
 go_wp2_with fail
 go_loopg [13] n (fun gg vj wr=>MtRel 0 lo hi T P Q i n w gg vj wr)
 case atStart=>exact⟨0,zZ _,by omega,rfl,fun m hm=>absurd hm (by omega),zB _ _⟩
 case round =>
  obtain⟨j,hj,hgk,rfl,hmf,hB⟩:=hrel
  have HMF:=zb hmf
  have HB:=zb hB
  clear hmf hB
  by_cases hjn:j<n
  ·have hTj:=HT.out j hjn
   have hm:=met_0 lo hi T P Q i j
   have D:=HB.out.drew
   have hci:=(HC.out _ D i hin).1
   obtain⟨hcj,hcp,hcq⟩:=HC.out _ D j hjn
   obtain⟨Ta,hTa⟩:∃x,x=T i:=⟨_,rfl⟩
   obtain⟨Tb,hTb⟩:∃x,x=T j:=⟨_,rfl⟩
   obtain⟨pj,hpj⟩:∃x,x=P j:=⟨_,rfl⟩
   obtain⟨qj00,hqj⟩:∃x,x=Q j:=⟨_,rfl⟩
   rw[←hTa]at hTi hci
   rw[←hTb]at hTj hcj
   rw[←hpj]at hcp
   rw[←hqj]at hcq
   have HM:=zb hm
   have HTa:=zb hTa
   have HTb:=zb hTb
   have HPj:=zb hpj
   have HQj:=zb hqj
   have HD:=zb D
   clear hm hTa hTb hpj hqj HB
   have hw1:IntKind.i64.wrap ((Ta:Int)-(Tb:Int))=(Ta:Int)-(Tb:Int):=by rw[IntKind.wrap_i64];omega
   have hw2:IntKind.i64.wrap (-((Ta:Int)-(Tb:Int))) = -((Ta:Int)-(Tb:Int)):=by rw[IntKind.wrap_i64];omega
   have hw3:IntKind.i64.wrap ((j:Int)+1)=(j:Int)+1:=by rw[IntKind.wrap_i64];omega
   have hw4:IntKind.i64.wrap ((j:Int)-1)=(j:Int)-1:=by rw[IntKind.wrap_i64];omega
   have hw5:IntKind.i64.wrap ((i:Int)-1)=(i:Int)-1:=by rw[IntKind.wrap_i64];omega
   have hw6:IntKind.i64.wrap ((i:Int)+1)=(i:Int)+1:=by rw[IntKind.wrap_i64];omega
   have hc1:((lo:Int)≤(Ta:Int)-(Tb:Int))∨((Ta:Int)-(Tb:Int)<(lo:Int)):=by omega
   go_wp2_with fail
   refine wp_region_held_drew (S:=fun w'=>w'.cell? ⟨g,i*9,none⟩=some (.int .i64 Ta)∧w'.cell? ⟨g,j*9,none⟩=some (.int .i64 Tb)) (by kernel_rfl) ⟨hci,hcj⟩ (fun hS0=>?_)
   simp only[rz,Nat.zero_add,Nat.reduceAdd]
   refine tq 0 26 ?_
   simp only[Act.put,pz]
   refine tq 1 27 ?_
   simp only[Act.put,pz]
   refine tq 2 28 ?_
   simp only[Act.put,pz]
   refine tq 3 29 ?_
   simp only[Act.put,pz]
   refine tq 4 30 ?_
   simp only[Act.put,pz]
   refine tq 5 31 ?_
   simp only[Act.put,pz]
   refine tq 6 32 ?_
   simp only[Act.put,pz]
   refine tq 7 33 ?_
   simp only[Act.put,pz]
   refine tq 8 34 ?_
   simp only[Act.put,pz]
   refine tq 9 35 ?_
   simp only[Act.put,pz]
   refine tq 10 36 ?_
   simp only[Act.put,pz]
   refine tq 11 14 ?_
   simp only[Act.put,pz]
   refine zD (by kernel_rfl) ?_ _
   clear hS0 hci hcj hc1
   by_cases c1:(Ta:Int)-(Tb:Int)<(lo:Int)
   ·skip
    have hmf:metJ 0 lo hi T P Q i j=false:=by
     rw[←Bool.not_eq_true,met_0]
     intro h
     have e1:=HTa.out;have e2:=HTb.out;rw[←e1,←e2]at h;omega
    go_wp2_with fail
    go_roundg (gk-1)
    case measure=>omega
    case rel=>exact⟨j+1,by omega,by omega,by go_num,fun m hm=>by
      by_cases e:m=j
      ·rw[e];exact hmf
      ·exact HMF.out m (by omega),HD.out⟩
   by_cases c2:(hi:Int)<(Ta:Int)-(Tb:Int)
   ·skip
    have hmf:metJ 0 lo hi T P Q i j=false:=by
     rw[←Bool.not_eq_true,met_0]
     intro h
     have e1:=HTa.out;have e2:=HTb.out;rw[←e1,←e2]at h;omega
    go_wp2_with fail
    go_roundg (gk-1)
    case measure=>omega
    case rel=>exact⟨j+1,by omega,by omega,by go_num,fun m hm=>by
      by_cases e:m=j
      ·rw[e];exact hmf
      ·exact HMF.out m (by omega),HD.out⟩
   by_cases c3:(i:Int)<(j:Int)
   ·skip
    have hmf:metJ 0 lo hi T P Q i j=false:=by
     rw[←Bool.not_eq_true,met_0]
     intro h
     have h3:=h.2.1;omega
    go_wp2_with fail
    go_roundg (gk-1)
    case measure=>omega
    case rel=>exact⟨j+1,by omega,by omega,by go_num,fun m hm=>by
      by_cases e:m=j
      ·rw[e];exact hmf
      ·exact HMF.out m (by omega),HD.out⟩
   by_cases c4:j+1=i
   rotate_left
   ·have c5:((j:Int)==(i:Int)-1)=false:=by simp;omega
    have hmf:metJ 0 lo hi T P Q i j=false:=by
     rw[←Bool.not_eq_true,met_0]
     intro h
     exact c4 h.2.2.1
    go_wp2_with fail
    go_roundg (gk-1)
    case measure=>omega
    case rel=>exact⟨j+1,by omega,by omega,by go_num,fun m hm=>by
      by_cases e:m=j
      ·rw[e];exact hmf
      ·exact HMF.out m (by omega),HD.out⟩
   clear hw5
   have hw5:IntKind.i64.wrap ((i:Int)-1)=(j:Int):=by rw[IntKind.wrap_i64];omega
   have HC4:=zb c4
   clear c4
   obtain⟨go,hgo⟩:∃go,go=gk:=⟨_,rfl⟩
   rw[←hgo]at hgk
   go_wp2_with fail
   go_loopg [18,19] 0 (fun gg vok vk wr2=>vok=.bool pj∧vk=.int .i64 (↑j+1)∧wr2=wr.drew)
   case atStart=>exact⟨rfl,rfl,rfl⟩
   case round =>
    obtain⟨rfl,rfl,rfl⟩:=hrel
    by_cases hle:(j:Int)+1≤(i:Int)
    ·skip
     cases pj
     ·have hmf:metJ 0 lo hi T P Q i j=false:=by
       rw[←Bool.not_eq_true,met_0]
       intro h
       have:=h.2.2.2
       rw[←HPj.out]at this
       exact absurd this (by decide)
      go_wp2_with fail
      go_roundg (go-1)
      case measure=>omega
      case rel=>exact⟨j+1,by omega,by omega,by go_num,fun m hm=>by
        by_cases e:m=j
        ·rw[e];exact hmf
        ·exact HMF.out m (by omega),HD.out⟩
     ·go_wp2_with fail
      go_ret
      have e1:=HTa.out
      have e2:=HTb.out
      have c4:=HC4.out
      have e:R=true:=by
       rw[HR.out,meets_iff]
       exact⟨j,hjn,(met_0 lo hi T P Q i j).2 (by rw[←e1,←e2];exact⟨⟨by omega,by omega⟩,by omega,c4,HPj.out.symm⟩)⟩
      exact⟨(show _=Ending.returned (.bool true) from rfl).trans (by rw[e]),HD.out⟩
    ·skip
     cases pj
     ·have hmf:metJ 0 lo hi T P Q i j=false:=by
       rw[←Bool.not_eq_true,met_0]
       intro h
       have:=h.2.2.2
       rw[←HPj.out]at this
       exact absurd this (by decide)
      go_wp2_with fail
      go_roundg (go-1)
      case measure=>omega
      case rel=>exact⟨j+1,by omega,by omega,by go_num,fun m hm=>by
        by_cases e:m=j
        ·rw[e];exact hmf
        ·exact HMF.out m (by omega),HD.out⟩
     ·go_wp2_with fail
      go_ret
      have e1:=HTa.out
      have e2:=HTb.out
      have c4:=HC4.out
      have e:R=true:=by
       rw[HR.out,meets_iff]
       exact⟨j,hjn,(met_0 lo hi T P Q i j).2 (by rw[←e1,←e2];exact⟨⟨by omega,by omega⟩,by omega,c4,HPj.out.symm⟩)⟩
      exact⟨(show _=Ending.returned (.bool true) from rfl).trans (by rw[e]),HD.out⟩
  ·have hnj:¬(j:Int)<(n:Int):=by omega
   go_wp2_with fail
   go_ret
   have e:R=false:=by rw[HR.out];exact meets_all (fun m hm=>HMF.out m (by omega))
   exact⟨(show _=Ending.returned (.bool false) from rfl).trans (by rw[e]),HB.out⟩
theorem kep_meets1' (n:Nat)(T:Nat→Nat)(P Q:Nat→Bool)(hn40:n≤40)(lo hi:Nat)(i:Nat)(hin:i<n)(v:Nat)(hv:v<4)(g c:Nat)(hcn:n≤c∧c≤maxLen)(w:World)(hC:∀W,Below w.heap.size w W→∀j,j<n→W.cell? ⟨g,j*9,none⟩=some (.int .i64 (T j))∧W.cell? ⟨g,j*9+1+v,none⟩=some (.bool (P j))∧W.cell? ⟨g,j*9+5+v,none⟩=some (.bool (Q j)))(hT:∀j,j<n→T j≤1000) :
  Calls Tryz.prog 25 #[.slice (some ⟨g,0,none⟩) n c,.int .i64 1,.int .i64 lo,.int .i64 hi,.int .i64 i,.int .i64 v] w fun e w'=>e=.returned (.bool (meetsR 1 lo hi T P Q n i))∧Below w.heap.size w w':=by
 have HC:=zb hC
 have HT:=zb hT
 clear hC hT
 unfold maxLen at hcn
 obtain⟨hcn1,hcn2⟩:=hcn
 have hTi:=HT.out i hin
 obtain⟨R,hR⟩:∃R,R=meetsR 1 lo hi T P Q n i:=⟨_,rfl⟩
 rw[←hR]
 have HR:=zb hR
 clear hR
 go_enter Tryz.func25,Tryz.ntmps25
 go_wp2_with fail
 go_loopg [13] n (fun gg vj wr=>MtRel 1 lo hi T P Q i n w gg vj wr)
 case atStart=>exact⟨0,zZ _,by omega,rfl,fun m hm=>absurd hm (by omega),zB _ _⟩
 case round =>
  obtain⟨j,hj,hgk,rfl,hmf,hB⟩:=hrel
  have HMF:=zb hmf
  have HB:=zb hB
  clear hmf hB
  by_cases hjn:j<n
  ·have hTj:=HT.out j hjn
   have hm:=met_1 lo hi T P Q i j
   have D:=HB.out.drew
   have hci:=(HC.out _ D i hin).1
   obtain⟨hcj,hcp,hcq⟩:=HC.out _ D j hjn
   obtain⟨Ta,hTa⟩:∃x,x=T i:=⟨_,rfl⟩
   obtain⟨Tb,hTb⟩:∃x,x=T j:=⟨_,rfl⟩
   obtain⟨pj,hpj⟩:∃x,x=P j:=⟨_,rfl⟩
   obtain⟨qj00,hqj⟩:∃x,x=Q j:=⟨_,rfl⟩
   rw[←hTa]at hTi hci
   rw[←hTb]at hTj hcj
   rw[←hpj]at hcp
   rw[←hqj]at hcq
   have HM:=zb hm
   have HTa:=zb hTa
   have HTb:=zb hTb
   have HPj:=zb hpj
   have HQj:=zb hqj
   have HD:=zb D
   clear hm hTa hTb hpj hqj HB
   have hw1:IntKind.i64.wrap ((Ta:Int)-(Tb:Int))=(Ta:Int)-(Tb:Int):=by rw[IntKind.wrap_i64];omega
   have hw2:IntKind.i64.wrap (-((Ta:Int)-(Tb:Int))) = -((Ta:Int)-(Tb:Int)):=by rw[IntKind.wrap_i64];omega
   have hw3:IntKind.i64.wrap ((j:Int)+1)=(j:Int)+1:=by rw[IntKind.wrap_i64];omega
   have hw4:IntKind.i64.wrap ((j:Int)-1)=(j:Int)-1:=by rw[IntKind.wrap_i64];omega
   have hw5:IntKind.i64.wrap ((i:Int)-1)=(i:Int)-1:=by rw[IntKind.wrap_i64];omega
   have hw6:IntKind.i64.wrap ((i:Int)+1)=(i:Int)+1:=by rw[IntKind.wrap_i64];omega
   have hc1:((lo:Int)≤-((Ta:Int)-(Tb:Int)))∨(-((Ta:Int)-(Tb:Int))<(lo:Int)):=by omega
   go_wp2_with fail
   refine wp_region_held_drew (S:=fun w'=>w'.cell? ⟨g,i*9,none⟩=some (.int .i64 Ta)∧w'.cell? ⟨g,j*9,none⟩=some (.int .i64 Tb)) (by kernel_rfl) ⟨hci,hcj⟩ (fun hS0=>?_)
   simp only[rz,Nat.zero_add,Nat.reduceAdd]
   refine tq 0 26 ?_
   simp only[Act.put,pz]
   refine tq 1 27 ?_
   simp only[Act.put,pz]
   refine tq 2 28 ?_
   simp only[Act.put,pz]
   refine tq 3 29 ?_
   simp only[Act.put,pz]
   refine tq 4 30 ?_
   simp only[Act.put,pz]
   refine tq 5 31 ?_
   simp only[Act.put,pz]
   refine tq 6 32 ?_
   simp only[Act.put,pz]
   refine tq 7 33 ?_
   simp only[Act.put,pz]
   refine tq 8 34 ?_
   simp only[Act.put,pz]
   refine tq 9 35 ?_
   simp only[Act.put,pz]
   refine tq 10 36 ?_
   simp only[Act.put,pz]
   refine tq 11 14 ?_
   simp only[Act.put,pz]
   refine zD (by kernel_rfl) ?_ _
   clear hS0 hci hcj hc1
   by_cases c1:-((Ta:Int)-(Tb:Int))<(lo:Int)
   ·skip
    have hmf:metJ 1 lo hi T P Q i j=false:=by
     rw[←Bool.not_eq_true,met_1]
     intro h
     have e1:=HTa.out;have e2:=HTb.out;rw[←e1,←e2]at h;omega
    go_wp2_with fail
    go_roundg (gk-1)
    case measure=>omega
    case rel=>exact⟨j+1,by omega,by omega,by go_num,fun m hm=>by
      by_cases e:m=j
      ·rw[e];exact hmf
      ·exact HMF.out m (by omega),HD.out⟩
   by_cases c2:(hi:Int) < -((Ta:Int)-(Tb:Int))
   ·skip
    have hmf:metJ 1 lo hi T P Q i j=false:=by
     rw[←Bool.not_eq_true,met_1]
     intro h
     have e1:=HTa.out;have e2:=HTb.out;rw[←e1,←e2]at h;omega
    go_wp2_with fail
    go_roundg (gk-1)
    case measure=>omega
    case rel=>exact⟨j+1,by omega,by omega,by go_num,fun m hm=>by
      by_cases e:m=j
      ·rw[e];exact hmf
      ·exact HMF.out m (by omega),HD.out⟩
   by_cases c3:(j:Int)<(i:Int)
   ·skip
    have hmf:metJ 1 lo hi T P Q i j=false:=by
     rw[←Bool.not_eq_true,met_1]
     intro h
     have h3:=h.2.1;omega
    go_wp2_with fail
    go_roundg (gk-1)
    case measure=>omega
    case rel=>exact⟨j+1,by omega,by omega,by go_num,fun m hm=>by
      by_cases e:m=j
      ·rw[e];exact hmf
      ·exact HMF.out m (by omega),HD.out⟩
   by_cases c4:j=i+1
   rotate_left
   ·have c5:((j:Int)==(i:Int)+1)=false:=by simp;omega
    have hmf:metJ 1 lo hi T P Q i j=false:=by
     rw[←Bool.not_eq_true,met_1]
     intro h
     exact c4 h.2.2.1
    go_wp2_with fail
    go_roundg (gk-1)
    case measure=>omega
    case rel=>exact⟨j+1,by omega,by omega,by go_num,fun m hm=>by
      by_cases e:m=j
      ·rw[e];exact hmf
      ·exact HMF.out m (by omega),HD.out⟩
   clear hw6
   have hw6:IntKind.i64.wrap ((i:Int)+1)=(j:Int):=by rw[IntKind.wrap_i64];omega
   have HC4:=zb c4
   clear c4
   obtain⟨go,hgo⟩:∃go,go=gk:=⟨_,rfl⟩
   rw[←hgo]at hgk
   go_wp2_with fail
   go_loopg [18,19] 0 (fun gg vok vk wr2=>vok=.bool pj∧vk=.int .i64 i∧wr2=wr.drew)
   case atStart=>exact⟨rfl,rfl,rfl⟩
   case round =>
    obtain⟨rfl,rfl,rfl⟩:=hrel
    by_cases hle:(i:Int)≤(j:Int)-1
    ·skip
     cases pj
     ·have hmf:metJ 1 lo hi T P Q i j=false:=by
       rw[←Bool.not_eq_true,met_1]
       intro h
       have:=h.2.2.2
       rw[←HPj.out]at this
       exact absurd this (by decide)
      go_wp2_with fail
      go_roundg (go-1)
      case measure=>omega
      case rel=>exact⟨j+1,by omega,by omega,by go_num,fun m hm=>by
        by_cases e:m=j
        ·rw[e];exact hmf
        ·exact HMF.out m (by omega),HD.out⟩
     ·go_wp2_with fail
      go_ret
      have e1:=HTa.out
      have e2:=HTb.out
      have c4:=HC4.out
      have e:R=true:=by
       rw[HR.out,meets_iff]
       exact⟨j,hjn,(met_1 lo hi T P Q i j).2 (by rw[←e1,←e2];exact⟨⟨by omega,by omega⟩,by omega,c4,HPj.out.symm⟩)⟩
      exact⟨(show _=Ending.returned (.bool true) from rfl).trans (by rw[e]),HD.out⟩
    ·skip
     cases pj
     ·have hmf:metJ 1 lo hi T P Q i j=false:=by
       rw[←Bool.not_eq_true,met_1]
       intro h
       have:=h.2.2.2
       rw[←HPj.out]at this
       exact absurd this (by decide)
      go_wp2_with fail
      go_roundg (go-1)
      case measure=>omega
      case rel=>exact⟨j+1,by omega,by omega,by go_num,fun m hm=>by
        by_cases e:m=j
        ·rw[e];exact hmf
        ·exact HMF.out m (by omega),HD.out⟩
     ·go_wp2_with fail
      go_ret
      have e1:=HTa.out
      have e2:=HTb.out
      have c4:=HC4.out
      have e:R=true:=by
       rw[HR.out,meets_iff]
       exact⟨j,hjn,(met_1 lo hi T P Q i j).2 (by rw[←e1,←e2];exact⟨⟨by omega,by omega⟩,by omega,c4,HPj.out.symm⟩)⟩
      exact⟨(show _=Ending.returned (.bool true) from rfl).trans (by rw[e]),HD.out⟩
  ·have hnj:¬(j:Int)<(n:Int):=by omega
   go_wp2_with fail
   go_ret
   have e:R=false:=by rw[HR.out];exact meets_all (fun m hm=>HMF.out m (by omega))
   exact⟨(show _=Ending.returned (.bool false) from rfl).trans (by rw[e]),HB.out⟩
end Go.Proofs.YtiamjjonoeaggaaGreatDoor
