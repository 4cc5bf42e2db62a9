import Derived.Test.YtiamjjonoeaggaaGreatDoorGA
import Derived.Test.YtiamjjonoeaggaaGreatDoorG37
set_option maxRecDepth 100000
set_option maxHeartbeats 16000000
namespace Go.Proofs.YtiamjjonoeaggaaGreatDoor
open Go.RowKit
structure SpanG (lo hi:By):Prop where
 low:q4b lo=true∧TokT lo
 high:q3Y hi=true∧TokT hi
 star:(hi==[42])=false
 le:q0e lo≤q0e hi
theorem rangeG {w lo hi:By}{l r:zh}(h:SpanG lo hi):qv (opF w lo hi l r)=false:=by
 unfold qv opF q2p q6s
 simp only[]
 have:=h.le
 rw[decide_eq_false (by omega)]
 simp
theorem openG {w lo hi:By}{l r:zh}(h:SpanG lo hi):qF (opF w lo hi l r)=false:=by
 unfold qF opF q2p q6s
 simp only[]
 rw[h.star]
 simp
theorem fineG_one {A:zh}(fa:Fine A)(w lo hi:By)(hw:qE w=true)(hs:SpanG lo hi):Fine (opF w lo hi A .nil):=by
 have k:=q0a.2.1 hw
 have k2:TokT w:=by
  unfold qE inB q9e at hw
  simp at hw
  rcases hw with hw|hw|hw|hw<;>subst hw<;>exact q1D _ (by decide) (by decide) (by decide)
 refine⟨.inr (.inr (.inr (.inl ⟨hw,rfl,rfl,hs.low.1,hs.high.1,fa.well⟩))),?_,q3p fa.nobad q3w ⟨rangeG hs,openG hs,?_⟩⟩
 ·unfold opF
  simp only[qJ,k.1,k.2.1,k.2.2,hw,Bool.false_eq_true,if_false,if_true]
  intro q hq
  simp only[List.mem_cons,List.mem_append,List.not_mem_nil,or_false]at hq
  rcases hq with rfl|rfl|rfl|rfl|rfl|rfl|rfl|hq|rfl
  ·exact k2
  ·exact sgn91
  ·exact hs.low.2
  ·exact j2S
  ·exact hs.high.2
  ·exact sgn93
  ·exact j1C
  ·exact fa.toks q hq
  ·exact j1D
 ·unfold q1e
  simp only[k.2.1,Bool.false_eq_true,if_false]
  have e:(q1t (opF w lo hi A .nil)).length<2:=by unfold opF;cases A<;>simp[q1t]
  unfold opF at e
  rw[if_pos (by simp[e])]
theorem fineG_two {A B:zh}(fa:Fine A)(fb:Fine B)(w lo hi:By)(hw:qB w=true)(hs:SpanG lo hi)(hx:(zg A [120]&&!zg B [120])=false)(hy:(zg A [121]&&!zg B [121])=false):Fine (opF w lo hi A B):=by
 have k:=q0a.2.2 hw
 have k2:TokT w∧(w==[111,114])=false∧(w==[98,117,116])=false:=by
  unfold qB inB q7X at hw
  simp at hw
  rcases hw with hw|hw|hw|hw<;>subst hw<;>exact⟨q1D _ (by decide) (by decide) (by decide),by decide,by decide⟩
 refine⟨.inr (.inr (.inr (.inr (.inl ⟨hw,rfl,hs.low.1,hs.high.1,fa.well,fb.well⟩)))),?_,q3p fa.nobad fb.nobad ⟨rangeG hs,openG hs,?_⟩⟩
 ·unfold opF
  simp only[qJ,k.1,k.2.1,k.2.2.1,k.2.2.2,hw,Bool.false_eq_true,if_false,if_true]
  intro q hq
  simp only[List.mem_cons,List.mem_append,List.not_mem_nil,or_false]at hq
  rcases hq with rfl|rfl|rfl|rfl|rfl|rfl|rfl|hq|rfl|hq|rfl
  ·exact k2.1
  ·exact sgn91
  ·exact hs.low.2
  ·exact j2S
  ·exact hs.high.2
  ·exact sgn93
  ·exact j1C
  ·exact fa.toks q hq
  ·exact j2S
  ·exact fb.toks q hq
  ·exact j1D
 ·unfold q1e
  simp only[k.2.1,Bool.false_eq_true,if_false]
  have b1:q2k w (zg A [120]) (zg B [120])=false:=by unfold q2k;rw[k2.2.1,k2.2.2,hw];simpa using hx
  have b2:q2k w (zg A [121]) (zg B [121])=false:=by unfold q2k;rw[k2.2.1,k2.2.2,hw];simpa using hy
  rw[b1,b2]
  split<;>rfl
theorem fineG_plain {A B:zh}(fa:Fine A)(fb:Fine B)(w:By)(hw:qh w=true)(hb:w=[97,110,100]∨(q2k w (zg A [120]) (zg B [120])=false∧q2k w (zg A [121]) (zg B [121])=false)):Fine (opF w [] [] A B):=
 (q6c (h:=max (hgt A) (hgt B)) (t:=max (zy A).length (zy B).length) ⟨fa,Nat.le_max_left _ _,Nat.le_max_left _ _⟩ ⟨fb,Nat.le_max_right _ _,Nat.le_max_right _ _⟩ w hw hb).fine
theorem dec_small {u:Nat}(h:u≤99):(Lib.decDigits u).length≤2∧1≤(Lib.decDigits u).length:=by
 rw[Lib.decDigits_length]
 refine⟨?_,Lib.nDigits_pos u⟩
 rcases Nat.lt_or_ge u 10 with g|g
 ·rw[Lib.nDigits_small g];omega
 ·rw[Lib.nDigits_unique 1 u (by simpa using g) (by simp;omega)];omega
theorem dec_tok {u:Nat}(h:u≤99):q4b (Lib.decDigits u)=true∧TokT (Lib.decDigits u)∧(Lib.decDigits u==[42])=false:=by
 obtain⟨h2,h1⟩:=dec_small h
 have hd:=dec_digs u
 have hne:Lib.decDigits u≠[]:=fun e=>by rw[e]at h1;simp at h1
 refine⟨?_,⟨.inr (.inl ⟨hne,hd,by omega⟩)⟩,?_⟩
 ·cases e:Lib.decDigits u with
  |nil=>exact absurd e hne
  |cons c r=>exact hd c (by rw[e];simp)
 ·have:Lib.decDigits u≠[42]:=fun e=>by
   have:=hd 42 (by rw[e];simp)
   exact absurd this (by decide)
  simpa using this
theorem dec_span {l h:Nat}(hle:l≤h)(hh:h≤99):SpanG (Lib.decDigits l) (Lib.decDigits h):=by
 obtain⟨a1,a2,_⟩:=dec_tok (u:=l) (by omega)
 obtain⟨b1,b2,b3⟩:=dec_tok hh
 refine⟨⟨a1,a2⟩,⟨by unfold q3Y;rw[b1];simp,b2⟩,b3,?_⟩
 have e1:q0e (Lib.decDigits l)=l:=j7Q l
 have e2:q0e (Lib.decDigits h)=h:=j7Q h
 rw[e1,e2]
 exact hle
theorem fine_tr:Fine q7c:=j8H.fine
theorem and_not (a:Bool):(a&&!a)=false:=by cases a<;>rfl
theorem bad_or (a:Bool):q2k wOr a a=false:=by cases a<;>decide
theorem bad_but (a:Bool):q2k wBut a a=false:=by cases a<;>decide
theorem free_self {w lo hi:By}{A:zh}(hA:A≠.nil)(hw:(w==[101,120,105,115,116,115])=false)(x:By):zg (opF w lo hi A A) x=zg A x:=by rw[q7j hA hw,Bool.or_self]
theorem free_one {w lo hi:By}{A:zh}(hA:A≠.nil)(hw:(w==[101,120,105,115,116,115])=false)(x:By):zg (opF w lo hi A .nil) x=zg A x:=by
 rw[q7j hA hw]
 show(zg A x || false)=_
 rw[Bool.or_false]
theorem true_nn:q7c≠.nil:=fun e=>by cases e
theorem op_nn {w lo hi:By}{A B:zh}:opF w lo hi A B≠.nil:=fun e=>by cases e
theorem free_true (x:By):zg q7c x=false:=rfl
theorem eq_fine (k:Nat){lo hi:By}{F G:zh}(hs:SpanG lo hi)(fF:Fine F)(fG:Fine G):Fine (eqP k lo hi F G).1∧Fine (eqP k lo hi F G).2:=by
 have hn:=j0q fF
 have fb:Fine (opF wBut [] [] F F):=fineG_plain fF fF wBut (by decide) (.inr ⟨bad_but _,bad_but _⟩)
 have fand:Fine (opF wAnd [] [] F F):=fineG_plain fF fF wAnd (by decide) (.inl rfl)
 have sf:∀x,zg (opF wBut [] [] F F) x=zg F x:=fun x=>free_self hn (by decide) x
 have sa:∀x,zg (opF wAnd [] [] F F) x=zg F x:=fun x=>free_self hn (by decide) x
 unfold eqP
 split
 ·exact⟨fineG_one fF _ _ _ (by decide) hs,fineG_two fine_tr fF _ _ _ (by decide) hs rfl rfl⟩
 ·split
  ·exact⟨fineG_one fF _ _ _ (by decide) hs,fineG_two fine_tr fF _ _ _ (by decide) hs rfl rfl⟩
  ·split
   ·exact⟨fineG_plain fF fG _ (by decide) (.inl rfl),fineG_plain fG fF _ (by decide) (.inl rfl)⟩
   ·split
    ·exact⟨fineG_plain fF fF wOr (by decide) (.inr ⟨bad_or _,bad_or _⟩),fF⟩
    ·split
     ·exact⟨fineG_plain fF fb wBut (by decide) (.inr ⟨by rw[sf];exact bad_but _,by rw[sf];exact bad_but _⟩),fF⟩
     ·split
      ·exact⟨fineG_one fF _ _ _ (by decide) hs,fineG_two fb fF _ _ _ (by decide) hs (by rw[sf];exact and_not _) (by rw[sf];exact and_not _)⟩
      ·split
       ·exact⟨fineG_one fF _ _ _ (by decide) hs,fineG_two fb fF _ _ _ (by decide) hs (by rw[sf];exact and_not _) (by rw[sf];exact and_not _)⟩
       ·exact⟨fineG_two fF fand _ _ _ (by decide) hs (by rw[sa];exact and_not _) (by rw[sa];exact and_not _),fineG_two fand fF _ _ _ (by decide) hs (by rw[sa];exact and_not _) (by rw[sa];exact and_not _)⟩
theorem eq_hgt (k:Nat){lo hi:By}{F G:zh}(hF:hgt F≤3)(hG:hgt G≤3):hgt (eqP k lo hi F G).1≤8∧hgt (eqP k lo hi F G).2≤8:=by
 have ho:∀(w lo hi:By) (A B:zh),hgt (opF w lo hi A B)=1+max (hgt A) (hgt B):=fun _ _ _ _ _=>rfl
 have ht:hgt q7c=1:=rfl
 have h0:hgt (Deep.BT.nil:zh)=0:=rfl
 unfold eqP
 repeat' split
 all_goals
  simp only[ho,ht,h0]
  omega
theorem eq_frees (k:Nat){lo hi:By}{F G:zh}(hF:F≠.nil)(hG:G≠.nil)(x:By):zg (eqP k lo hi F G).1 x=zg (eqP k lo hi F G).2 x:=by
 have hx:∀(w:By),w=j6u∨w=q9S∨w=j0h∨w=j4p∨w=wAnd∨w=wOr∨w=wBut∨w=q9f∨w=q9g→(w==[101,120,105,115,116,115])=false:=fun w h=>by
  rcases h with rfl|rfl|rfl|rfl|rfl|rfl|rfl|rfl|rfl<;>decide
 unfold eqP
 split
 ·rw[free_one hF (by decide),q7j true_nn (by decide),free_true,Bool.false_or]
 ·split
  ·rw[free_one hF (by decide),q7j true_nn (by decide),free_true,Bool.false_or]
  ·split
   ·rw[q7j hF (by decide),q7j hG (by decide),Bool.or_comm]
   ·split
    ·rw[free_self hF (by decide)]
    ·split
     ·rw[q7j hF (by decide),free_self hF (by decide),Bool.or_self]
     ·split
      ·rw[free_one hF (by decide),q7j op_nn (by decide),free_self hF (by decide),Bool.or_self]
      ·split
       ·rw[free_one hF (by decide),q7j op_nn (by decide),free_self hF (by decide),Bool.or_self]
       ·rw[q7j hF (by decide),q7j op_nn (by decide),free_self hF (by decide)]
def eqT (k:Nat)(S F G:By):By × By:=
 if k=0 then(j6u++S++[40]++F++[41],q9S++S++[40,116,114,117,101,44]++F++[41])
 else if k=1 then(j0h++S++[40]++F++[41],j4p++S++[40,116,114,117,101,44]++F++[41])
 else if k=2 then([97,110,100,40]++F++[44]++G++[41],[97,110,100,40]++G++[44]++F++[41])
 else if k=3 then([111,114,40]++F++[44]++F++[41],F)
 else if k=4 then([98,117,116,40]++F++[44,98,117,116,40]++F++[44]++F++[41,41],F)
 else if k=5 then(j6u++S++[40]++F++[41],q9f++S++[40,98,117,116,40]++F++[44]++F++[41,44]++F++[41])
 else if k=6 then(j0h++S++[40]++F++[41],q9g++S++[40,98,117,116,40]++F++[44]++F++[41,44]++F++[41])
 else(q9S++S++[40]++F++[44,97,110,100,40]++F++[44]++F++[41,41],q9S++S++[40,97,110,100,40]++F++[44]++F++[41,44]++F++[41])
theorem text_true:zy q7c=[116,114,117,101]:=by decide
theorem eq_text (k:Nat)(lo hi:By)(n:Nat)(F G:zh):zy (eqP k lo hi F G).1=(eqT k (q2E (lo,hi,n)) (zy F) (zy G)).1∧zy (eqP k lo hi F G).2=(eqT k (q2E (lo,hi,n)) (zy F) (zy G)).2:=by
 unfold eqP eqT
 split
 ·exact⟨by rw[j6l (by decide) lo hi F n],by rw[j6m (by decide) lo hi q7c F n,text_true];simp⟩
 ·split
  ·exact⟨by rw[j6l (by decide) lo hi F n],by rw[j6m (by decide) lo hi q7c F n,text_true];simp⟩
  ·split
   ·exact⟨by rw[q8g (by decide)];simp,by rw[q8g (by decide)];simp⟩
   ·split
    ·exact⟨by rw[q8g (by decide)];simp,rfl⟩
    ·split
     ·exact⟨by rw[q8g (by decide),q8g (by decide)];simp,rfl⟩
     ·split
      ·exact⟨by rw[j6l (by decide) lo hi F n],by rw[j6m (by decide) lo hi _ F n,q8g (by decide)];simp⟩
      ·split
       ·exact⟨by rw[j6l (by decide) lo hi F n],by rw[j6m (by decide) lo hi _ F n,q8g (by decide)];simp⟩
       ·exact⟨by rw[j6m (by decide) lo hi F _ n,q8g (by decide)];simp,by rw[j6m (by decide) lo hi _ F n,q8g (by decide)];simp⟩
theorem eqT_len (k:Nat){S F G:By}(hS:S.length≤7)(hF:F.length≤69)(hG:G.length≤69):(eqT k S F G).1.length≤240∧(eqT k S F G).2.length≤240:=by
 unfold eqT
 repeat' split
 all_goals
  simp
  omega
theorem std_ItoaS (x:Nat)(hx:x<100)(w:World):Calls Tryz.prog 23 #[.int .i64 x] w fun e w'=>e=.returned (.string ⟨(Lib.decDigits x).toArray⟩)∧w'=w:=Any.strconv_Itoa_small {q8C with} x hx w
theorem mkl5 (a b c d e:By):ByteArray.mk a.toArray++ByteArray.mk b.toArray++ByteArray.mk c.toArray++ByteArray.mk d.toArray++ByteArray.mk e.toArray=ByteArray.mk (a++b++c++d++e).toArray:=by rw[←qD,←qD,←qD,←qD]
theorem mkl7 (a b c d e f g:By):ByteArray.mk a.toArray++ByteArray.mk b.toArray++ByteArray.mk c.toArray++ByteArray.mk d.toArray++ByteArray.mk e.toArray++ByteArray.mk f.toArray++ByteArray.mk g.toArray=ByteArray.mk (a++b++c++d++e++f++g).toArray:=by rw[←qD,←qD,←qD,←qD,←qD,←qD]
theorem mkl9 (a b c d e f g h i:By):ByteArray.mk a.toArray++ByteArray.mk b.toArray++ByteArray.mk c.toArray++ByteArray.mk d.toArray++ByteArray.mk e.toArray++ByteArray.mk f.toArray++ByteArray.mk g.toArray++ByteArray.mk h.toArray++ByteArray.mk i.toArray=ByteArray.mk (a++b++c++d++e++f++g++h++i).toArray:=by rw[←qD,←qD,←qD,←qD,←qD,←qD,←qD,←qD]
theorem fine2 (s:By):FineB (mkF s 2 0).1 3 69:=j7T s 2 0
theorem kep_Equal (raw more lines:By)(which a b:Int)(hr:raw.length≤maxLen)(hm:more.length≤maxLen)(hl:lines.length≤maxLen)(hw:-9223372036854775808≤which∧which≤9223372036854775807)(ha:-9223372036854775808≤a∧a≤9223372036854775807)(hb:-9223372036854775808≤b∧b≤9223372036854775807)(w:World)(ht:q8i w) :
  Calls Tryz.prog 11 #[bs raw,bs more,bs lines,.int .i64 which,.int .i64 a,.int .i64 b] w fun e w'=>e=.returned (.bool true)∧Below w.heap.size w w':=by
 have HF1:=zb (j3r raw hr 2 (by omega) w)
 have HF2:=zb (fun W=>j3r more hm 2 (by omega) W)
 have HLG:=zb (fun W q=>j1d lines hl W q)
 have HPA:=zb (fun W=>kep_pick a ha 6 (by omega) W)
 have HPB:=zb (fun W=>kep_pick b hb 6 (by omega) W)
 have HPW:=zb (fun W=>kep_pick which hw 8 (by omega) W)
 have fF:=fine2 raw
 have fG:=fine2 more
 have pa:=pickN_lt a (n:=6) (by omega)
 have pb:=pickN_lt b (n:=6) (by omega)
 have pw:=pickN_lt which (n:=8) (by omega)
 have HT:=zb ht
 clear ht hr hm hl hw ha hb
 generalize (mkF raw 2 0).1=F at *
 generalize (mkF more 2 0).1=G at *
 generalize q6t a 6=lo at *
 generalize q6t b 6=bh at *
 generalize q6t which 8=k at *
 have hsp:=dec_span (l:=lo) (h:=lo+bh) (by omega) (by omega)
 have HIL:=zb (std_ItoaS lo (by omega))
 have HIH:=zb (std_ItoaS (lo+bh) (by omega))
 rw[Int.natCast_add]at HIH
 have hd1:=(dec_small (u:=lo) (by omega)).1
 have hd2:=(dec_small (u:=lo+bh) (by omega)).1
 generalize Lib.decDigits lo=LO at *
 generalize Lib.decDigits (lo+bh)=HI at *
 obtain⟨S,hS⟩:∃S,S=q2E (LO,HI,0):=⟨_,rfl⟩
 have hSl:S.length≤7:=by rw[hS];simp;omega
 have hfl:=fF.len
 have hgl:=fG.len
 have htS:ByteArray.mk #[91]++ByteArray.mk LO.toArray++ByteArray.mk #[44]++ByteArray.mk HI.toArray++ByteArray.mk #[93]=ByteArray.mk S.toArray:=by rw[hS];exact mkl5 [91] LO [44] HI [93]
 obtain⟨VP,hVP⟩:∃VP:Nat→List Ver,VP=fun k=>q3l (eqP k LO HI F G).1 (q0T lines 0):=⟨_,rfl⟩
 obtain⟨VQ,hVQ⟩:∃VQ:Nat→List Ver,VQ=fun k=>q3l (eqP k LO HI F G).2 (q0T lines 0):=⟨_,rfl⟩
 have HRP:Hid (∀(k base:Nat) (v:Value) (W:World),W.ownsRow base 44 4 v ((q0T lines 0).map q4I).length (q1U ((q0T lines 0).map q4I))→Calls Tryz.prog 24 #[bs (eqT k S (zy F) (zy G)).1,v] W fun e w'=>∃u,e=.returned (.tuple #[u,.bool true])∧w'.ownsRow W.heap.size 49 12 u (VP k).length (qn (VP k))∧Below W.heap.size W w'):=zb (fun k base v W hv=>by
  have h:=q5C (eqP k LO HI F G).1 (eq_fine k hsp fF.fine fG.fine).1 (eq_hgt k fF.hgt fG.hgt).1 (by rw[(eq_text k LO HI 0 F G).1];exact(eqT_len k (by rw[←hS];exact hSl) hfl hgl).1) lines 0 base v W hv
  rw[(eq_text k LO HI 0 F G).1,←hS]at h
  rw[hVP]
  exact h)
 have HRQ:Hid (∀(k base:Nat) (v:Value) (W:World),W.ownsRow base 44 4 v ((q0T lines 0).map q4I).length (q1U ((q0T lines 0).map q4I))→Calls Tryz.prog 24 #[bs (eqT k S (zy F) (zy G)).2,v] W fun e w'=>∃u,e=.returned (.tuple #[u,.bool true])∧w'.ownsRow W.heap.size 49 12 u (VQ k).length (qn (VQ k))∧Below W.heap.size W w'):=zb (fun k base v W hv=>by
  have h:=q5C (eqP k LO HI F G).2 (eq_fine k hsp fF.fine fG.fine).2 (eq_hgt k fF.hgt fG.hgt).2 (by rw[(eq_text k LO HI 0 F G).2];exact(eqT_len k (by rw[←hS];exact hSl) hfl hgl).2) lines 0 base v W hv
  rw[(eq_text k LO HI 0 F G).2,←hS]at h
  rw[hVQ]
  exact h)
 have HAL:Hid (∀(k base base':Nat) (va vb:Value) (W:World),W.ownsRow base 49 12 va (VP k).length (qn (VP k))→W.ownsRow base' 49 12 vb (VQ k).length (qn (VQ k))→Calls Tryz.prog 28 #[va,vb] W fun e w'=>e=.returned (.bool true)∧Below W.heap.size W w'):=zb (fun k base base' va vb W hX hY=>by
  rw[hVP]at hX
  rw[hVQ]at hY
  exact j2u (q3l (eqP k LO HI F G).1 (q0T lines 0)) (q3l (eqP k LO HI F G).2 (q0T lines 0)) (by rw[q2S,q2S]) (j3e rfl (eq_frees k (j0q fF.fine) (j0q fG.fine) _) (eq_frees k (j0q fF.fine) (j0q fG.fine) _) (fun i=>by funext x z;exact eq_holds k LO HI F G _ i x z)) base base' va vb W hX hY)
 have cF:(q0o F)[0]?=some (bs (zy F)):=rfl
 have cG:(q0o G)[0]?=some (bs (zy G)):=rfl
 have HAF:=zb (q5G F)
 have HIF:=zb (q1y F)
 have HZF:Hid ((q0o F).size=5):=zb rfl
 have HAG:=zb (q5G G)
 have HIG:=zb (q1y G)
 have HZG:Hid ((q0o G).size=5):=zb rfl
 generalize q0o F=MF at *
 generalize q0o G=MG at *
 generalize (q0T lines 0).map q4I=TX at *
 generalize zy F=TF at *
 generalize zy G=TG at *
 have hwd:IntKind.i64.wrap ((lo:Int)+(bh:Int))=(lo:Int)+(bh:Int):=by rw[IntKind.wrap_i64];omega
 clear fF fG hVP hVQ hS hsp
 have hk:k=0∨k=1∨k=2∨k=3∨k=4∨k=5∨k=6∨k=7:=by omega
 go_enter Tryz.func11,Tryz.ntmps11
 go_wp2_with fail
 refine HF1.out.mono ?_
 rintro e w1 ⟨rfl,b1⟩
 obtain⟨W2,s1,s2,s3,s4⟩:=qI (P:=Tryz.prog) 23 w1 q4y MF HIF.out (by rw[HZF.out];rfl) HAF.out
 have B2:Below w.heap.size w W2:=b1.trans (s3.mono b1.size)
 have hl2:w1.heap.size<W2.heap.size:=zd s2
 have c2:=(zC _ _ 0 _ _ _ s2).trans cF
 have HS:=zb s1
 have HB2:=zb B2
 have HC2:=zb c2
 clear b1 s1 s2 s3 s4 B2 c2
 go_wp2_with (refine ze rfl 23 (.tmp 13) (.tmp 29) rfl ⟨w1.heap.size,0,none⟩ (.agg MF) rfl rfl W2 HS.out ?_)
 refine(HF2.out W2).mono ?_
 rintro e w3 ⟨rfl,b3⟩
 obtain⟨W4,s1,s2,s3,s4⟩:=qI (P:=Tryz.prog) 23 w3 q4y MG HIG.out (by rw[HZG.out];rfl) HAG.out
 have B4:Below W2.heap.size W2 W4:=b3.trans (s3.mono b3.size)
 have hl4:w3.heap.size<W4.heap.size:=zd s2
 have hl24:w1.heap.size<W4.heap.size:=zT hl2 B4.size
 have c4:=(zw B4 w1.heap.size 0 hl2).trans HC2.out
 have d4:=(zC _ _ 0 _ _ _ s2).trans cG
 have HS4:=zb s1
 have HB4:=zb (HB2.out.trans (B4.mono HB2.out.size))
 clear b3 s1 s2 s3 s4 B4 HC2 HS HB2
 go_wp2_with (refine ze rfl 23 (.tmp 14) (.tmp 33) rfl ⟨w3.heap.size,0,none⟩ (.agg MG) rfl rfl W4 HS4.out ?_)
 refine(HPA.out _).mono ?_
 rintro e w5 ⟨rfl,hw5⟩
 rw[hw5]
 clear hw5
 go_wp2_with fail
 refine(HPB.out _).mono ?_
 rintro e w5 ⟨rfl,hw5⟩
 rw[hw5]
 clear hw5
 go_wp2_with fail
 refine(HIL.out _).mono ?_
 rintro e w5 ⟨rfl,hw5⟩
 rw[hw5]
 clear hw5
 go_wp2_with fail
 refine(HIH.out _).mono ?_
 rintro e w5 ⟨rfl,hw5⟩
 rw[hw5]
 clear hw5
 go_wp2_with fail
 refine(HPW.out _).mono ?_
 rintro e w5 ⟨rfl,hw5⟩
 rw[hw5]
 clear hw5 HPA HPB HIL HIH HPW HF1 HF2 htS
 rcases hk with rfl|rfl|rfl|rfl|rfl|rfl|rfl|rfl
 ·have HP:Hid (∀(base:Nat) (v:Value) (W:World),W.ownsRow base 44 4 v TX.length (q1U TX)→Calls Tryz.prog 24 #[bs ([111,110,99,101]++S++[40]++TF++[41]),v] W fun e w'=>∃u,e=.returned (.tuple #[u,.bool true])∧w'.ownsRow W.heap.size 49 12 u (VP 0).length (qn (VP 0))∧Below W.heap.size W w'):=HRP.out 0
  have HQ:Hid (∀(base:Nat) (v:Value) (W:World),W.ownsRow base 44 4 v TX.length (q1U TX)→Calls Tryz.prog 24 #[bs ([115,105,110,99,101]++S++[40,116,114,117,101,44]++TF++[41]),v] W fun e w'=>∃u,e=.returned (.tuple #[u,.bool true])∧w'.ownsRow W.heap.size 49 12 u (VQ 0).length (qn (VQ 0))∧Below W.heap.size W w'):=HRQ.out 0
  have htp:ByteArray.mk #[111,110,99,101]++ByteArray.mk S.toArray++ByteArray.mk #[40]++ByteArray.mk TF.toArray++ByteArray.mk #[41]=ByteArray.mk ([111,110,99,101]++S++[40]++TF++[41]).toArray:=mkl5 [111,110,99,101] S [40] TF [41]
  obtain⟨PT,hPT⟩:∃PT,PT=[111,110,99,101]++S++[40]++TF++[41]:=⟨_,rfl⟩
  rw[←hPT]at HP htp
  clear hPT
  have htq:ByteArray.mk #[115,105,110,99,101]++ByteArray.mk S.toArray++ByteArray.mk #[40,116,114,117,101,44]++ByteArray.mk TF.toArray++ByteArray.mk #[41]=ByteArray.mk ([115,105,110,99,101]++S++[40,116,114,117,101,44]++TF++[41]).toArray:=mkl5 [115,105,110,99,101] S [40,116,114,117,101,44] TF [41]
  obtain⟨QT,hQT⟩:∃QT,QT=[115,105,110,99,101]++S++[40,116,114,117,101,44]++TF++[41]:=⟨_,rfl⟩
  rw[←hQT]at HQ htq
  clear hQT
  clear HRP HRQ
  go_wp2_with fail
  refine(HLG.out _ (HT.out.below HB4.out (zL _))).mono ?_
  rintro e w6 ⟨v,rfl,r6,b6⟩
  obtain⟨va,vc,rfl⟩:=ql r6
  have HR6:=zb r6
  have HB6:=zb (HB4.out.trans (b6.mono HB4.out.size))
  clear r6 b6 c4 d4
  go_wp2_with fail
  refine(HP.out _ _ _ HR6.out).mono ?_
  rintro e w7 ⟨u7,rfl,r7,b7⟩
  obtain⟨xa,xc,rfl⟩:=ql r7
  have HX7:=zb r7
  have HR7:=zb (zo HR6.out b7)
  have HB7:=zb (HB6.out.trans (b7.mono HB6.out.size))
  clear r7 b7 HR6
  go_wp2_with fail
  refine(HQ.out _ _ _ HR7.out).mono ?_
  rintro e w8 ⟨u8,rfl,r8,b8⟩
  obtain⟨ya,yc,rfl⟩:=ql r8
  have HY8:=zb r8
  have HX8:=zb (zo HX7.out b8)
  have HB8:=zb (HB7.out.trans (b8.mono HB7.out.size))
  clear r8 b8 HR7 HX7
  go_wp2_with fail
  refine(HAL.out 0 _ _ _ _ _ HX8.out HY8.out).mono ?_
  rintro e w9 ⟨rfl,b9⟩
  have HB9:=zb (HB8.out.trans (b9.mono HB8.out.size))
  clear b9
  go_wp2_with fail
  go_ret
  exact⟨rfl,HB9.out⟩
 ·have HP:Hid (∀(base:Nat) (v:Value) (W:World),W.ownsRow base 44 4 v TX.length (q1U TX)→Calls Tryz.prog 24 #[bs ([115,111,111,110]++S++[40]++TF++[41]),v] W fun e w'=>∃u,e=.returned (.tuple #[u,.bool true])∧w'.ownsRow W.heap.size 49 12 u (VP 1).length (qn (VP 1))∧Below W.heap.size W w'):=HRP.out 1
  have HQ:Hid (∀(base:Nat) (v:Value) (W:World),W.ownsRow base 44 4 v TX.length (q1U TX)→Calls Tryz.prog 24 #[bs ([117,110,116,105,108]++S++[40,116,114,117,101,44]++TF++[41]),v] W fun e w'=>∃u,e=.returned (.tuple #[u,.bool true])∧w'.ownsRow W.heap.size 49 12 u (VQ 1).length (qn (VQ 1))∧Below W.heap.size W w'):=HRQ.out 1
  have htp:ByteArray.mk #[115,111,111,110]++ByteArray.mk S.toArray++ByteArray.mk #[40]++ByteArray.mk TF.toArray++ByteArray.mk #[41]=ByteArray.mk ([115,111,111,110]++S++[40]++TF++[41]).toArray:=mkl5 [115,111,111,110] S [40] TF [41]
  obtain⟨PT,hPT⟩:∃PT,PT=[115,111,111,110]++S++[40]++TF++[41]:=⟨_,rfl⟩
  rw[←hPT]at HP htp
  clear hPT
  have htq:ByteArray.mk #[117,110,116,105,108]++ByteArray.mk S.toArray++ByteArray.mk #[40,116,114,117,101,44]++ByteArray.mk TF.toArray++ByteArray.mk #[41]=ByteArray.mk ([117,110,116,105,108]++S++[40,116,114,117,101,44]++TF++[41]).toArray:=mkl5 [117,110,116,105,108] S [40,116,114,117,101,44] TF [41]
  obtain⟨QT,hQT⟩:∃QT,QT=[117,110,116,105,108]++S++[40,116,114,117,101,44]++TF++[41]:=⟨_,rfl⟩
  rw[←hQT]at HQ htq
  clear hQT
  clear HRP HRQ
  go_wp2_with fail
  refine(HLG.out _ (HT.out.below HB4.out (zL _))).mono ?_
  rintro e w6 ⟨v,rfl,r6,b6⟩
  obtain⟨va,vc,rfl⟩:=ql r6
  have HR6:=zb r6
  have HB6:=zb (HB4.out.trans (b6.mono HB4.out.size))
  clear r6 b6 c4 d4
  go_wp2_with fail
  refine(HP.out _ _ _ HR6.out).mono ?_
  rintro e w7 ⟨u7,rfl,r7,b7⟩
  obtain⟨xa,xc,rfl⟩:=ql r7
  have HX7:=zb r7
  have HR7:=zb (zo HR6.out b7)
  have HB7:=zb (HB6.out.trans (b7.mono HB6.out.size))
  clear r7 b7 HR6
  go_wp2_with fail
  refine(HQ.out _ _ _ HR7.out).mono ?_
  rintro e w8 ⟨u8,rfl,r8,b8⟩
  obtain⟨ya,yc,rfl⟩:=ql r8
  have HY8:=zb r8
  have HX8:=zb (zo HX7.out b8)
  have HB8:=zb (HB7.out.trans (b8.mono HB7.out.size))
  clear r8 b8 HR7 HX7
  go_wp2_with fail
  refine(HAL.out 1 _ _ _ _ _ HX8.out HY8.out).mono ?_
  rintro e w9 ⟨rfl,b9⟩
  have HB9:=zb (HB8.out.trans (b9.mono HB8.out.size))
  clear b9
  go_wp2_with fail
  go_ret
  exact⟨rfl,HB9.out⟩
 ·have HP:Hid (∀(base:Nat) (v:Value) (W:World),W.ownsRow base 44 4 v TX.length (q1U TX)→Calls Tryz.prog 24 #[bs ([97,110,100,40]++TF++[44]++TG++[41]),v] W fun e w'=>∃u,e=.returned (.tuple #[u,.bool true])∧w'.ownsRow W.heap.size 49 12 u (VP 2).length (qn (VP 2))∧Below W.heap.size W w'):=HRP.out 2
  have HQ:Hid (∀(base:Nat) (v:Value) (W:World),W.ownsRow base 44 4 v TX.length (q1U TX)→Calls Tryz.prog 24 #[bs ([97,110,100,40]++TG++[44]++TF++[41]),v] W fun e w'=>∃u,e=.returned (.tuple #[u,.bool true])∧w'.ownsRow W.heap.size 49 12 u (VQ 2).length (qn (VQ 2))∧Below W.heap.size W w'):=HRQ.out 2
  have htp:ByteArray.mk #[97,110,100,40]++ByteArray.mk TF.toArray++ByteArray.mk #[44]++ByteArray.mk TG.toArray++ByteArray.mk #[41]=ByteArray.mk ([97,110,100,40]++TF++[44]++TG++[41]).toArray:=mkl5 [97,110,100,40] TF [44] TG [41]
  obtain⟨PT,hPT⟩:∃PT,PT=[97,110,100,40]++TF++[44]++TG++[41]:=⟨_,rfl⟩
  rw[←hPT]at HP htp
  clear hPT
  have htq:ByteArray.mk #[97,110,100,40]++ByteArray.mk TG.toArray++ByteArray.mk #[44]++ByteArray.mk TF.toArray++ByteArray.mk #[41]=ByteArray.mk ([97,110,100,40]++TG++[44]++TF++[41]).toArray:=mkl5 [97,110,100,40] TG [44] TF [41]
  obtain⟨QT,hQT⟩:∃QT,QT=[97,110,100,40]++TG++[44]++TF++[41]:=⟨_,rfl⟩
  rw[←hQT]at HQ htq
  clear hQT
  clear HRP HRQ
  go_wp2_with fail
  refine(HLG.out _ (HT.out.below HB4.out (zL _))).mono ?_
  rintro e w6 ⟨v,rfl,r6,b6⟩
  obtain⟨va,vc,rfl⟩:=ql r6
  have HR6:=zb r6
  have HB6:=zb (HB4.out.trans (b6.mono HB4.out.size))
  clear r6 b6 c4 d4
  go_wp2_with fail
  refine(HP.out _ _ _ HR6.out).mono ?_
  rintro e w7 ⟨u7,rfl,r7,b7⟩
  obtain⟨xa,xc,rfl⟩:=ql r7
  have HX7:=zb r7
  have HR7:=zb (zo HR6.out b7)
  have HB7:=zb (HB6.out.trans (b7.mono HB6.out.size))
  clear r7 b7 HR6
  go_wp2_with fail
  refine(HQ.out _ _ _ HR7.out).mono ?_
  rintro e w8 ⟨u8,rfl,r8,b8⟩
  obtain⟨ya,yc,rfl⟩:=ql r8
  have HY8:=zb r8
  have HX8:=zb (zo HX7.out b8)
  have HB8:=zb (HB7.out.trans (b8.mono HB7.out.size))
  clear r8 b8 HR7 HX7
  go_wp2_with fail
  refine(HAL.out 2 _ _ _ _ _ HX8.out HY8.out).mono ?_
  rintro e w9 ⟨rfl,b9⟩
  have HB9:=zb (HB8.out.trans (b9.mono HB8.out.size))
  clear b9
  go_wp2_with fail
  go_ret
  exact⟨rfl,HB9.out⟩
 ·have HP:Hid (∀(base:Nat) (v:Value) (W:World),W.ownsRow base 44 4 v TX.length (q1U TX)→Calls Tryz.prog 24 #[bs ([111,114,40]++TF++[44]++TF++[41]),v] W fun e w'=>∃u,e=.returned (.tuple #[u,.bool true])∧w'.ownsRow W.heap.size 49 12 u (VP 3).length (qn (VP 3))∧Below W.heap.size W w'):=HRP.out 3
  have HQ:Hid (∀(base:Nat) (v:Value) (W:World),W.ownsRow base 44 4 v TX.length (q1U TX)→Calls Tryz.prog 24 #[bs (TF),v] W fun e w'=>∃u,e=.returned (.tuple #[u,.bool true])∧w'.ownsRow W.heap.size 49 12 u (VQ 3).length (qn (VQ 3))∧Below W.heap.size W w'):=HRQ.out 3
  have htp:ByteArray.mk #[111,114,40]++ByteArray.mk TF.toArray++ByteArray.mk #[44]++ByteArray.mk TF.toArray++ByteArray.mk #[41]=ByteArray.mk ([111,114,40]++TF++[44]++TF++[41]).toArray:=mkl5 [111,114,40] TF [44] TF [41]
  obtain⟨PT,hPT⟩:∃PT,PT=[111,114,40]++TF++[44]++TF++[41]:=⟨_,rfl⟩
  rw[←hPT]at HP htp
  clear hPT
  clear HRP HRQ
  go_wp2_with fail
  refine(HLG.out _ (HT.out.below HB4.out (zL _))).mono ?_
  rintro e w6 ⟨v,rfl,r6,b6⟩
  obtain⟨va,vc,rfl⟩:=ql r6
  have HR6:=zb r6
  have HB6:=zb (HB4.out.trans (b6.mono HB4.out.size))
  clear r6 b6 c4 d4
  go_wp2_with fail
  refine(HP.out _ _ _ HR6.out).mono ?_
  rintro e w7 ⟨u7,rfl,r7,b7⟩
  obtain⟨xa,xc,rfl⟩:=ql r7
  have HX7:=zb r7
  have HR7:=zb (zo HR6.out b7)
  have HB7:=zb (HB6.out.trans (b7.mono HB6.out.size))
  clear r7 b7 HR6
  go_wp2_with fail
  refine(HQ.out _ _ _ HR7.out).mono ?_
  rintro e w8 ⟨u8,rfl,r8,b8⟩
  obtain⟨ya,yc,rfl⟩:=ql r8
  have HY8:=zb r8
  have HX8:=zb (zo HX7.out b8)
  have HB8:=zb (HB7.out.trans (b8.mono HB7.out.size))
  clear r8 b8 HR7 HX7
  go_wp2_with fail
  refine(HAL.out 3 _ _ _ _ _ HX8.out HY8.out).mono ?_
  rintro e w9 ⟨rfl,b9⟩
  have HB9:=zb (HB8.out.trans (b9.mono HB8.out.size))
  clear b9
  go_wp2_with fail
  go_ret
  exact⟨rfl,HB9.out⟩
 ·have HP:Hid (∀(base:Nat) (v:Value) (W:World),W.ownsRow base 44 4 v TX.length (q1U TX)→Calls Tryz.prog 24 #[bs ([98,117,116,40]++TF++[44,98,117,116,40]++TF++[44]++TF++[41,41]),v] W fun e w'=>∃u,e=.returned (.tuple #[u,.bool true])∧w'.ownsRow W.heap.size 49 12 u (VP 4).length (qn (VP 4))∧Below W.heap.size W w'):=HRP.out 4
  have HQ:Hid (∀(base:Nat) (v:Value) (W:World),W.ownsRow base 44 4 v TX.length (q1U TX)→Calls Tryz.prog 24 #[bs (TF),v] W fun e w'=>∃u,e=.returned (.tuple #[u,.bool true])∧w'.ownsRow W.heap.size 49 12 u (VQ 4).length (qn (VQ 4))∧Below W.heap.size W w'):=HRQ.out 4
  have htp:ByteArray.mk #[98,117,116,40]++ByteArray.mk TF.toArray++ByteArray.mk #[44,98,117,116,40]++ByteArray.mk TF.toArray++ByteArray.mk #[44]++ByteArray.mk TF.toArray++ByteArray.mk #[41,41]=ByteArray.mk ([98,117,116,40]++TF++[44,98,117,116,40]++TF++[44]++TF++[41,41]).toArray:=mkl7 [98,117,116,40] TF [44,98,117,116,40] TF [44] TF [41,41]
  obtain⟨PT,hPT⟩:∃PT,PT=[98,117,116,40]++TF++[44,98,117,116,40]++TF++[44]++TF++[41,41]:=⟨_,rfl⟩
  rw[←hPT]at HP htp
  clear hPT
  clear HRP HRQ
  go_wp2_with fail
  refine(HLG.out _ (HT.out.below HB4.out (zL _))).mono ?_
  rintro e w6 ⟨v,rfl,r6,b6⟩
  obtain⟨va,vc,rfl⟩:=ql r6
  have HR6:=zb r6
  have HB6:=zb (HB4.out.trans (b6.mono HB4.out.size))
  clear r6 b6 c4 d4
  go_wp2_with fail
  refine(HP.out _ _ _ HR6.out).mono ?_
  rintro e w7 ⟨u7,rfl,r7,b7⟩
  obtain⟨xa,xc,rfl⟩:=ql r7
  have HX7:=zb r7
  have HR7:=zb (zo HR6.out b7)
  have HB7:=zb (HB6.out.trans (b7.mono HB6.out.size))
  clear r7 b7 HR6
  go_wp2_with fail
  refine(HQ.out _ _ _ HR7.out).mono ?_
  rintro e w8 ⟨u8,rfl,r8,b8⟩
  obtain⟨ya,yc,rfl⟩:=ql r8
  have HY8:=zb r8
  have HX8:=zb (zo HX7.out b8)
  have HB8:=zb (HB7.out.trans (b8.mono HB7.out.size))
  clear r8 b8 HR7 HX7
  go_wp2_with fail
  refine(HAL.out 4 _ _ _ _ _ HX8.out HY8.out).mono ?_
  rintro e w9 ⟨rfl,b9⟩
  have HB9:=zb (HB8.out.trans (b9.mono HB8.out.size))
  clear b9
  go_wp2_with fail
  go_ret
  exact⟨rfl,HB9.out⟩
 ·have HP:Hid (∀(base:Nat) (v:Value) (W:World),W.ownsRow base 44 4 v TX.length (q1U TX)→Calls Tryz.prog 24 #[bs ([111,110,99,101]++S++[40]++TF++[41]),v] W fun e w'=>∃u,e=.returned (.tuple #[u,.bool true])∧w'.ownsRow W.heap.size 49 12 u (VP 5).length (qn (VP 5))∧Below W.heap.size W w'):=HRP.out 5
  have HQ:Hid (∀(base:Nat) (v:Value) (W:World),W.ownsRow base 44 4 v TX.length (q1U TX)→Calls Tryz.prog 24 #[bs ([117,110,115,105,110,99,101]++S++[40,98,117,116,40]++TF++[44]++TF++[41,44]++TF++[41]),v] W fun e w'=>∃u,e=.returned (.tuple #[u,.bool true])∧w'.ownsRow W.heap.size 49 12 u (VQ 5).length (qn (VQ 5))∧Below W.heap.size W w'):=HRQ.out 5
  have htp:ByteArray.mk #[111,110,99,101]++ByteArray.mk S.toArray++ByteArray.mk #[40]++ByteArray.mk TF.toArray++ByteArray.mk #[41]=ByteArray.mk ([111,110,99,101]++S++[40]++TF++[41]).toArray:=mkl5 [111,110,99,101] S [40] TF [41]
  obtain⟨PT,hPT⟩:∃PT,PT=[111,110,99,101]++S++[40]++TF++[41]:=⟨_,rfl⟩
  rw[←hPT]at HP htp
  clear hPT
  have htq:ByteArray.mk #[117,110,115,105,110,99,101]++ByteArray.mk S.toArray++ByteArray.mk #[40,98,117,116,40]++ByteArray.mk TF.toArray++ByteArray.mk #[44]++ByteArray.mk TF.toArray++ByteArray.mk #[41,44]++ByteArray.mk TF.toArray++ByteArray.mk #[41]=ByteArray.mk ([117,110,115,105,110,99,101]++S++[40,98,117,116,40]++TF++[44]++TF++[41,44]++TF++[41]).toArray:=mkl9 [117,110,115,105,110,99,101] S [40,98,117,116,40] TF [44] TF [41,44] TF [41]
  obtain⟨QT,hQT⟩:∃QT,QT=[117,110,115,105,110,99,101]++S++[40,98,117,116,40]++TF++[44]++TF++[41,44]++TF++[41]:=⟨_,rfl⟩
  rw[←hQT]at HQ htq
  clear hQT
  clear HRP HRQ
  go_wp2_with fail
  refine(HLG.out _ (HT.out.below HB4.out (zL _))).mono ?_
  rintro e w6 ⟨v,rfl,r6,b6⟩
  obtain⟨va,vc,rfl⟩:=ql r6
  have HR6:=zb r6
  have HB6:=zb (HB4.out.trans (b6.mono HB4.out.size))
  clear r6 b6 c4 d4
  go_wp2_with fail
  refine(HP.out _ _ _ HR6.out).mono ?_
  rintro e w7 ⟨u7,rfl,r7,b7⟩
  obtain⟨xa,xc,rfl⟩:=ql r7
  have HX7:=zb r7
  have HR7:=zb (zo HR6.out b7)
  have HB7:=zb (HB6.out.trans (b7.mono HB6.out.size))
  clear r7 b7 HR6
  go_wp2_with fail
  refine(HQ.out _ _ _ HR7.out).mono ?_
  rintro e w8 ⟨u8,rfl,r8,b8⟩
  obtain⟨ya,yc,rfl⟩:=ql r8
  have HY8:=zb r8
  have HX8:=zb (zo HX7.out b8)
  have HB8:=zb (HB7.out.trans (b8.mono HB7.out.size))
  clear r8 b8 HR7 HX7
  go_wp2_with fail
  refine(HAL.out 5 _ _ _ _ _ HX8.out HY8.out).mono ?_
  rintro e w9 ⟨rfl,b9⟩
  have HB9:=zb (HB8.out.trans (b9.mono HB8.out.size))
  clear b9
  go_wp2_with fail
  go_ret
  exact⟨rfl,HB9.out⟩
 ·have HP:Hid (∀(base:Nat) (v:Value) (W:World),W.ownsRow base 44 4 v TX.length (q1U TX)→Calls Tryz.prog 24 #[bs ([115,111,111,110]++S++[40]++TF++[41]),v] W fun e w'=>∃u,e=.returned (.tuple #[u,.bool true])∧w'.ownsRow W.heap.size 49 12 u (VP 6).length (qn (VP 6))∧Below W.heap.size W w'):=HRP.out 6
  have HQ:Hid (∀(base:Nat) (v:Value) (W:World),W.ownsRow base 44 4 v TX.length (q1U TX)→Calls Tryz.prog 24 #[bs ([117,110,117,110,116,105,108]++S++[40,98,117,116,40]++TF++[44]++TF++[41,44]++TF++[41]),v] W fun e w'=>∃u,e=.returned (.tuple #[u,.bool true])∧w'.ownsRow W.heap.size 49 12 u (VQ 6).length (qn (VQ 6))∧Below W.heap.size W w'):=HRQ.out 6
  have htp:ByteArray.mk #[115,111,111,110]++ByteArray.mk S.toArray++ByteArray.mk #[40]++ByteArray.mk TF.toArray++ByteArray.mk #[41]=ByteArray.mk ([115,111,111,110]++S++[40]++TF++[41]).toArray:=mkl5 [115,111,111,110] S [40] TF [41]
  obtain⟨PT,hPT⟩:∃PT,PT=[115,111,111,110]++S++[40]++TF++[41]:=⟨_,rfl⟩
  rw[←hPT]at HP htp
  clear hPT
  have htq:ByteArray.mk #[117,110,117,110,116,105,108]++ByteArray.mk S.toArray++ByteArray.mk #[40,98,117,116,40]++ByteArray.mk TF.toArray++ByteArray.mk #[44]++ByteArray.mk TF.toArray++ByteArray.mk #[41,44]++ByteArray.mk TF.toArray++ByteArray.mk #[41]=ByteArray.mk ([117,110,117,110,116,105,108]++S++[40,98,117,116,40]++TF++[44]++TF++[41,44]++TF++[41]).toArray:=mkl9 [117,110,117,110,116,105,108] S [40,98,117,116,40] TF [44] TF [41,44] TF [41]
  obtain⟨QT,hQT⟩:∃QT,QT=[117,110,117,110,116,105,108]++S++[40,98,117,116,40]++TF++[44]++TF++[41,44]++TF++[41]:=⟨_,rfl⟩
  rw[←hQT]at HQ htq
  clear hQT
  clear HRP HRQ
  go_wp2_with fail
  refine(HLG.out _ (HT.out.below HB4.out (zL _))).mono ?_
  rintro e w6 ⟨v,rfl,r6,b6⟩
  obtain⟨va,vc,rfl⟩:=ql r6
  have HR6:=zb r6
  have HB6:=zb (HB4.out.trans (b6.mono HB4.out.size))
  clear r6 b6 c4 d4
  go_wp2_with fail
  refine(HP.out _ _ _ HR6.out).mono ?_
  rintro e w7 ⟨u7,rfl,r7,b7⟩
  obtain⟨xa,xc,rfl⟩:=ql r7
  have HX7:=zb r7
  have HR7:=zb (zo HR6.out b7)
  have HB7:=zb (HB6.out.trans (b7.mono HB6.out.size))
  clear r7 b7 HR6
  go_wp2_with fail
  refine(HQ.out _ _ _ HR7.out).mono ?_
  rintro e w8 ⟨u8,rfl,r8,b8⟩
  obtain⟨ya,yc,rfl⟩:=ql r8
  have HY8:=zb r8
  have HX8:=zb (zo HX7.out b8)
  have HB8:=zb (HB7.out.trans (b8.mono HB7.out.size))
  clear r8 b8 HR7 HX7
  go_wp2_with fail
  refine(HAL.out 6 _ _ _ _ _ HX8.out HY8.out).mono ?_
  rintro e w9 ⟨rfl,b9⟩
  have HB9:=zb (HB8.out.trans (b9.mono HB8.out.size))
  clear b9
  go_wp2_with fail
  go_ret
  exact⟨rfl,HB9.out⟩
 ·have HP:Hid (∀(base:Nat) (v:Value) (W:World),W.ownsRow base 44 4 v TX.length (q1U TX)→Calls Tryz.prog 24 #[bs ([115,105,110,99,101]++S++[40]++TF++[44,97,110,100,40]++TF++[44]++TF++[41,41]),v] W fun e w'=>∃u,e=.returned (.tuple #[u,.bool true])∧w'.ownsRow W.heap.size 49 12 u (VP 7).length (qn (VP 7))∧Below W.heap.size W w'):=HRP.out 7
  have HQ:Hid (∀(base:Nat) (v:Value) (W:World),W.ownsRow base 44 4 v TX.length (q1U TX)→Calls Tryz.prog 24 #[bs ([115,105,110,99,101]++S++[40,97,110,100,40]++TF++[44]++TF++[41,44]++TF++[41]),v] W fun e w'=>∃u,e=.returned (.tuple #[u,.bool true])∧w'.ownsRow W.heap.size 49 12 u (VQ 7).length (qn (VQ 7))∧Below W.heap.size W w'):=HRQ.out 7
  have htp:ByteArray.mk #[115,105,110,99,101]++ByteArray.mk S.toArray++ByteArray.mk #[40]++ByteArray.mk TF.toArray++ByteArray.mk #[44,97,110,100,40]++ByteArray.mk TF.toArray++ByteArray.mk #[44]++ByteArray.mk TF.toArray++ByteArray.mk #[41,41]=ByteArray.mk ([115,105,110,99,101]++S++[40]++TF++[44,97,110,100,40]++TF++[44]++TF++[41,41]).toArray:=mkl9 [115,105,110,99,101] S [40] TF [44,97,110,100,40] TF [44] TF [41,41]
  obtain⟨PT,hPT⟩:∃PT,PT=[115,105,110,99,101]++S++[40]++TF++[44,97,110,100,40]++TF++[44]++TF++[41,41]:=⟨_,rfl⟩
  rw[←hPT]at HP htp
  clear hPT
  have htq:ByteArray.mk #[115,105,110,99,101]++ByteArray.mk S.toArray++ByteArray.mk #[40,97,110,100,40]++ByteArray.mk TF.toArray++ByteArray.mk #[44]++ByteArray.mk TF.toArray++ByteArray.mk #[41,44]++ByteArray.mk TF.toArray++ByteArray.mk #[41]=ByteArray.mk ([115,105,110,99,101]++S++[40,97,110,100,40]++TF++[44]++TF++[41,44]++TF++[41]).toArray:=mkl9 [115,105,110,99,101] S [40,97,110,100,40] TF [44] TF [41,44] TF [41]
  obtain⟨QT,hQT⟩:∃QT,QT=[115,105,110,99,101]++S++[40,97,110,100,40]++TF++[44]++TF++[41,44]++TF++[41]:=⟨_,rfl⟩
  rw[←hQT]at HQ htq
  clear hQT
  clear HRP HRQ
  go_wp2_with fail
  refine(HLG.out _ (HT.out.below HB4.out (zL _))).mono ?_
  rintro e w6 ⟨v,rfl,r6,b6⟩
  obtain⟨va,vc,rfl⟩:=ql r6
  have HR6:=zb r6
  have HB6:=zb (HB4.out.trans (b6.mono HB4.out.size))
  clear r6 b6 c4 d4
  go_wp2_with fail
  refine(HP.out _ _ _ HR6.out).mono ?_
  rintro e w7 ⟨u7,rfl,r7,b7⟩
  obtain⟨xa,xc,rfl⟩:=ql r7
  have HX7:=zb r7
  have HR7:=zb (zo HR6.out b7)
  have HB7:=zb (HB6.out.trans (b7.mono HB6.out.size))
  clear r7 b7 HR6
  go_wp2_with fail
  refine(HQ.out _ _ _ HR7.out).mono ?_
  rintro e w8 ⟨u8,rfl,r8,b8⟩
  obtain⟨ya,yc,rfl⟩:=ql r8
  have HY8:=zb r8
  have HX8:=zb (zo HX7.out b8)
  have HB8:=zb (HB7.out.trans (b8.mono HB7.out.size))
  clear r8 b8 HR7 HX7
  go_wp2_with fail
  refine(HAL.out 7 _ _ _ _ _ HX8.out HY8.out).mono ?_
  rintro e w9 ⟨rfl,b9⟩
  have HB9:=zb (HB8.out.trans (b9.mono HB8.out.size))
  clear b9
  go_wp2_with fail
  go_ret
  exact⟨rfl,HB9.out⟩
end Go.Proofs.YtiamjjonoeaggaaGreatDoor
