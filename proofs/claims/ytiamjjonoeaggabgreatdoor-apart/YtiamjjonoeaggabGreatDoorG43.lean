import Derived.Test.YtiamjjonoeaggabGreatDoorGA
import Derived.Test.YtiamjjonoeaggabGreatDoorGB
import Derived.Test.YtiamjjonoeaggabGreatDoorG42
set_option maxRecDepth 100000
set_option maxHeartbeats 16000000
namespace Go.Proofs.YtiamjjonoeaggabGreatDoor
open Go.RowKit
theorem ap_news (W:World)(xs:List Value)(t:TypeId):∀j u,xs[j]?=some u→(W.alloc (.cells xs.toArray t)).cell? ((⟨W.heap.size,0,none⟩:Addr).add j)=some u:=by
 intro j u hj
 rw[q4x]
 simpa using hj
def ApRel (ST:World→Nat→Nat→Prop)(TT:Nat→Nat)(n:Nat)(g:Nat)(vt vi:Value)(wr:World):Prop:=
 ∃i:Nat,i≤n+1∧n+1-i≤g∧vi=.int .i64 i∧vt=.int .i64 (TT i)∧ST wr i i
def ApX (ST:World→Nat→Nat→Prop)(i:Nat)(base bx n:Nat)(x:Value)(d:Nat)(v:Value)(YC:List Value)(g:Nat)(vj:Value)(wr:World):Prop:=
 ∃(j:Nat) (xs:List Value),j≤n∧n-j≤g∧vj=.int .i64 j∧base≤wr.heap.size∧wr.ownsRow bx 45 12 x n xs∧wr.ownsRow base 45 12 v d YC∧ST wr (i+1) (i+1)
def ApV (ST:World→Nat→Nat→Prop)(i:Nat)(base:Nat)(d tk:Nat)(v:Value)(YC:List Value)(g:Nat)(vt vj:Value)(wr:World):Prop:=
 ∃(j:Nat) (xs:List Value),j≤d∧d-j≤g∧vj=.int .i64 j∧vt=.int .i64 ((tk+j:Nat):Int)∧base≤wr.heap.size∧wr.ownsRow base 45 12 v d xs∧(∀p,j*12≤p→xs[p]?=YC[p]?)∧ST wr (i+1) (i+1)
theorem kep_Apart (raw other input others:By)(hr:raw.length≤maxLen)(ho:other.length≤maxLen)(hi:input.length≤maxLen)(hk:others.length≤maxLen)(w:World)(ht:TabB w) :
  Calls Tryz.prog 4 #[bs raw,bs other,bs input,bs others] w fun e w'=>e=.returned (.bool true)∧Below w.heap.size w w':=by
 have HFM:=zb (frm_new raw hr 3 (by omega) w)
 have HGM:=zb (fun W=>frm_new other ho 3 (by omega) W)
 have HLG:=zb (fun W q=>log_zero input hi W q)
 have HLK:=zb (fun W q=>log_zero others hk W q)
 have fa:=fine3 raw
 have fb:=fine3 other
 have HT:=zb ht
 obtain⟨i0,hi0,hz0,hz1,hz2⟩:=info_parts ap_info
 clear ht hr ho hi hk
 generalize (mkF raw 3 0).1=F at *
 generalize (mkF other 3 0).1=G at *
 have hh8:hgt F≤8:=by have:=fa.hgt;omega
 have hl240:(zs F).length≤240:=by have:=fa.len;omega
 have gh8:hgt G≤8:=by have:=fb.hgt;omega
 have gl240:(zs G).length≤240:=by have:=fb.len;omega
 obtain⟨hck,hbr⟩:=q8o fa.fine hh8 hl240
 obtain⟨gck,_⟩:=q8o fb.fine gh8 gl240
 have hck0:(zA (zs F)).1=0:=by rw[hck]
 have gck0:(zA (zs G)).1=0:=by rw[gck]
 have HRN:=zb (fun base v W hv=>kep_runK F fa.fine hh8 hl240 input 0 base v W hv)
 have HBF:=zb (fun W=>j2K (zs F) hck0 (by unfold maxLen;omega) W)
 have HBG:=zb (fun W=>j2K (zs G) gck0 (by unfold maxLen;omega) W)
 have hln1:=q7C input 0
 have hln2:=q7C others 0
 have HOK1:=zb (j3S input 0)
 have HOK2:=zb (j3S others 0)
 generalize q1v input 0=X at *
 generalize q1v others 0=Y at *
 have hX:(X.map q1F).length=X.length:=by simp
 have hY:(Y.map q1F).length=Y.length:=by simp
 have hV:(j0g F X).length=X.length:=j2l F X
 rw[hX]at HLG HRN
 rw[hY]at HLK
 rw[hV]at HRN
 obtain⟨TT,hTT⟩:∃TT:Nat→Nat,TT=apT F X:=⟨_,rfl⟩
 obtain⟨ST,hST⟩:∃ST,ST=ApS F G X Y w:=⟨_,rfl⟩
 obtain⟨TX,hTX⟩:∃TX:Nat→By,TX=fun i=>((X.map q1F).getD i (0,0,[],[])).2.2.2:=⟨_,rfl⟩
 obtain⟨TY,hTY⟩:∃TY:Nat→By,TY=fun i=>((Y.map q1F).getD i (0,0,[],[])).2.2.2:=⟨_,rfl⟩
 obtain⟨YC,hYC⟩:∃YC:Nat→List Value,YC=fun i=>zV (qI F (q4p X) (TT i) (TT (i+1))):=⟨_,rfl⟩
 obtain⟨VV,hVV⟩:∃VV:Nat→Value,VV=fun p=>Value.agg (q3O (verR F (q4p X) p)).toArray:=⟨_,rfl⟩
 have hTXi:∀i (h:i<(X.map q1F).length),TX i=(X.map q1F)[i].2.2.2:=fun i h=>by rw[hTX];show((X.map q1F).getD i _).2.2.2=_;rw[List.getD_eq_getElem?_getD,zG h];rfl
 have hTYi:∀i (h:i<(Y.map q1F).length),TY i=(Y.map q1F)[i].2.2.2:=fun i h=>by rw[hTY];show((Y.map q1F).getD i _).2.2.2=_;rw[List.getD_eq_getElem?_getD,zG h];rfl
 have hT0:TT 0=0:=by rw[hTT];rfl
 have hTM:∀i,TT i≤TT (i+1):=fun i=>by rw[hTT];exact apT_mono F X i
 have hTL:∀i,TT i≤X.length:=fun i=>by rw[hTT];exact apT_le F X i
 have hTE:TT (X.length+1)=X.length:=by rw[hTT];unfold apT;rw[if_neg (by omega)]
 have HTM:=zb hTM
 have HTL:=zb hTL
 have HTE:=zb hTE
 have HT0:=zb hT0
 clear hTM hTL hTE hT0
 have HS1:Hid (∀W b1 gn1 cn1 b2 gn2 cn2 vl vk vw i m,i<X.length→ST W b1 gn1 cn1 b2 gn2 cn2 vl vk vw i m→Calls Tryz.prog 10 #[.pointer (some ⟨b1,0,none⟩),bs (TX i)] W fun e w'=>∃v,e=.returned (.tuple #[v,.int .i64 0,.int .i64 0])∧W.heap.size≤w'.heap.size∧w'.ownsRow W.heap.size 45 12 v (TT (i+1)-TT i) (YC i)∧ST w' b1 gn1 cn1 b2 gn2 cn2 vl vk vw (i+1) m):=zb (fun W b1 gn1 cn1 b2 gn2 cn2 vl vk vw i m him h=>by
  rw[hST]at h
  have:=ap_feed1 hck0 hbr HOK1.out him h
  rw[←hTXi i (by rw[hX];exact him),←hTT,←hST]at this
  rw[hYC]
  exact this)
 have HS2:Hid (∀W b1 gn1 cn1 b2 gn2 cn2 vl vk vw m,ST W b1 gn1 cn1 b2 gn2 cn2 vl vk vw X.length m→Calls Tryz.prog 17 #[.pointer (some ⟨b1,0,none⟩)] W fun e w'=>∃v,e=.returned (.tuple #[v,.int .i64 0])∧W.heap.size≤w'.heap.size∧w'.ownsRow W.heap.size 45 12 v (TT (X.length+1)-TT X.length) (YC X.length)∧ST w' b1 gn1 cn1 b2 gn2 cn2 vl vk vw (X.length+1) m):=zb (fun W b1 gn1 cn1 b2 gn2 cn2 vl vk vw m h=>by
  rw[hST]at h
  have:=ap_end1 hck0 hbr h
  rw[←hTT,←hST]at this
  rw[hYC]
  exact this)
 have HS3:Hid (∀W b1 gn1 cn1 b2 gn2 cn2 vl vk vw i m,m<Y.length→ST W b1 gn1 cn1 b2 gn2 cn2 vl vk vw i m→Calls Tryz.prog 10 #[.pointer (some ⟨b2,0,none⟩),bs (TY m)] W fun e w'=>∃(v:Value) (n:Nat) (xs:List Value),e=.returned (.tuple #[v,.int .i64 0,.int .i64 0])∧n≤40∧W.heap.size≤w'.heap.size∧w'.ownsRow W.heap.size 45 12 v n xs∧(∀(base':Nat) (v':Value) (n':Nat) (xs':List Value),W.ownsRow base' 45 12 v' n' xs'→w'.ownsRow base' 45 12 v' n' xs')∧ST w' b1 gn1 cn1 b2 gn2 cn2 vl vk vw i (m+1)):=zb (fun W b1 gn1 cn1 b2 gn2 cn2 vl vk vw i m him h=>by
  rw[hST]at h
  have:=ap_feed2 gck0 HOK2.out him h
  rw[←hTYi m (by rw[hY];exact him),←hST]at this
  exact this)
 have HSP:Hid (∀W b1 gn1 cn1 b2 gn2 cn2 vl vk vw i m,Y.length≤m→ST W b1 gn1 cn1 b2 gn2 cn2 vl vk vw i m→ST W b1 gn1 cn1 b2 gn2 cn2 vl vk vw i (m+1)):=zb (fun W b1 gn1 cn1 b2 gn2 cn2 vl vk vw i m him h=>by
  rw[hST]at h ⊢
  exact ap_pass him h)
 have HSB:Hid (∀W W' b1 gn1 cn1 b2 gn2 cn2 vl vk vw i m,Below W.heap.size W W'→ST W b1 gn1 cn1 b2 gn2 cn2 vl vk vw i m→ST W' b1 gn1 cn1 b2 gn2 cn2 vl vk vw i m):=zb (fun W W' b1 gn1 cn1 b2 gn2 cn2 vl vk vw i m hb h=>by
  rw[hST]at h ⊢
  exact ap_below h hb)
 have HSM:Hid (∀W W' b1 gn1 cn1 b2 gn2 cn2 vl vk vw i m bl,OnlyB bl W W'→KV bl W→(∀k∈bl,w.heap.size≤k∧vw.ownBlock≠some k)→ST W b1 gn1 cn1 b2 gn2 cn2 vl vk vw i m→ST W' b1 gn1 cn1 b2 gn2 cn2 vl vk vw i m):=zb (fun W W' b1 gn1 cn1 b2 gn2 cn2 vl vk vw i m bl h1 h2 h3 h=>by
  rw[hST]at h ⊢
  exact ap_marks h h1 h2 h3)
 have HSR:Hid (∀W b1 gn1 cn1 b2 gn2 cn2 vl vk vw i m,ST W b1 gn1 cn1 b2 gn2 cn2 vl vk vw i m→W.ownsRow w.heap.size 41 4 vl X.length (q0O (X.map q1F))∧W.ownsRow w.heap.size 41 4 vk Y.length (q0O (Y.map q1F))∧W.ownsRow w.heap.size 45 12 vw X.length (zV (j0g F X))∧Below w.heap.size w W):=zb (fun W b1 gn1 cn1 b2 gn2 cn2 vl vk vw i m h=>by
  rw[hST]at h
  have h1:=h.rowL
  have h2:=h.rowK
  have h3:=h.want
  rw[hX]at h1
  rw[hY]at h2
  rw[hV]at h3
  exact⟨h1,h2,h3,h.bel⟩)
 have HSI:Hid (∀W b1 gn1 cn1 b2 gn2 cn2 vl vk vw,MonAt W b1 gn1 cn1 none 0 (qb (zs F)) [] 0 false→MonAt W b2 gn2 cn2 none 0 (qb (zs G)) [] 0 false→w.heap.size≤b1→b1<b2→W.ownsRow w.heap.size 41 4 vl X.length (q0O (X.map q1F))→W.ownsRow w.heap.size 41 4 vk Y.length (q0O (Y.map q1F))→W.ownsRow w.heap.size 45 12 vw X.length (zV (j0g F X))→Below w.heap.size w W→ST W b1 gn1 cn1 b2 gn2 cn2 vl vk vw 0 0):=zb (fun W b1 gn1 cn1 b2 gn2 cn2 vl vk vw m1 m2 l1 l2 r1 r2 r3 hb=>by
  rw[hST]
  refine⟨⟨none,0,[],none,0,[],m1,rfl,m2,rfl,fun q hq=>?_,fun q hq=>?_⟩,by rw[hX];exact r1,by rw[hY];exact r2,by rw[hV];exact r3,hb⟩
  ·simp[q0P]at hq ⊢;omega
  ·simp[q0P]at hq;omega)
 have HC1:Hid (∀(W:World) (base g c i:Nat),i<X.length→W.ownsRow base 41 4 (.slice (some ⟨g,0,none⟩) X.length c) X.length (q0O (X.map q1F))→W.cell? ⟨g,i*4+3,none⟩=some (bs (TX i))):=zb (fun W base g c i hi h=>by
  have:=(ln_cell (X:=X.map q1F) (by rw[hX];exact h) (k:=i) (by rw[hX];exact hi)).2
  rw[hTXi i (by rw[hX];exact hi)]
  exact this)
 have HC2:Hid (∀(W:World) (base g c i:Nat),i<Y.length→W.ownsRow base 41 4 (.slice (some ⟨g,0,none⟩) Y.length c) Y.length (q0O (Y.map q1F))→W.cell? ⟨g,i*4+3,none⟩=some (bs (TY i))):=zb (fun W base g c i hi h=>by
  have:=(ln_cell (X:=Y.map q1F) (by rw[hY];exact h) (k:=i) (by rw[hY];exact hi)).2
  rw[hTYi i (by rw[hY];exact hi)]
  exact this)
 have HCW:Hid (∀(W:World) (base g c p:Nat),p<X.length→W.ownsRow base 45 12 (.slice (some ⟨g,0,none⟩) X.length c) X.length (zV (j0g F X))→(Instr.loadAt 45 (.pointer (some ⟨g,p*12,none⟩))).run Tryz.prog W=.ok (VV p) W):=zb (fun W base g c p hp h=>by
  have:=ver_whole (X:=j0g F X) (by rw[hV];exact h) (k:=p) (by rw[hV];exact hp)
  rw[j8M]at this
  rw[hVV]
  exact this)
 have HPV:Hid (∀(W:World) (base g c i j:Nat) (xs:List Value),j<TT (i+1)-TT i→W.ownsRow base 45 12 (.slice (some ⟨g,0,none⟩) (TT (i+1)-TT i) c) (TT (i+1)-TT i) xs→(∀p,j*12≤p→xs[p]?=(YC i)[p]?)→(Instr.loadAt 45 (.pointer (some ⟨g,j*12,none⟩))).run Tryz.prog W=.ok (VV (TT i+j)) W):=zb (fun W base g c i j xs hj h hx=>by
  rw[hYC]at hx
  have:=j6C h (Y:=qI F (q4p X) (TT i) (TT (i+1))) (by rw[q0q]) hj hx
  rw[tell_at]at this
  rw[hVV]
  exact this)
 have HNE:Hid (∀p,VV p=.agg (q3O (verR F (q4p X) p)).toArray):=zb (fun p=>by rw[hVV])
 have cF:(q0D F)[0]?=some (bs (zs F)):=rfl
 have cG:(q0D G)[0]?=some (bs (zs G)):=rfl
 have HAF:=zb (q8Z F)
 have HIF:=zb (q2b F)
 have HZF:Hid ((q0D F).size=5):=zb rfl
 have HAG:=zb (q8Z G)
 have HIG:=zb (q2b G)
 have HZG:Hid ((q0D G).size=5):=zb rfl
 clear hTT hST hTX hTY hYC hVV hTXi hTYi fa fb hck gck hbr hck0 gck0 hh8 hl240 gh8 gl240 HOK1 HOK2
 generalize q0D F=MF at *
 generalize q0D G=MG at *
 generalize qb (zs F)=FF at *
 generalize qb (zs G)=GG at *
 generalize zs F=TF at *
 generalize zs G=TG at *
 generalize q0O (X.map q1F)=LC1 at *
 generalize q0O (Y.map q1F)=LC2 at *
 generalize zV (j0g F X)=VC at *
 obtain⟨VW,hVW⟩:∃VW:Nat→Ver,VW=fun p=>verR F (q4p X) p:=⟨_,rfl⟩
 have HNV:Hid (∀p,VV p=.agg (q3O (VW p)).toArray):=zb (fun p=>by rw[hVW];exact HNE.out p)
 clear hVW HNE hX hY hV
 generalize X.length=n at *
 generalize Y.length=n2 at *
 go_enter Tryz.func4,Tryz.ntmps4
 go_wp2_with fail
 refine HFM.out.mono ?_
 rintro e w1 ⟨rfl,b1⟩
 obtain⟨W2,s1,s2,s3,s4⟩:=q0m (P:=Tryz.prog) 23 w1 q5o MF HIF.out (by rw[HZF.out];rfl) HAF.out
 have B2:Below w.heap.size w W2:=b1.trans (s3.mono b1.size)
 have hl2:w1.heap.size<W2.heap.size:=zd s2
 have HC2':=zb ((zC _ _ 0 _ _ _ s2).trans cF)
 have HS:=zb s1
 have HB2:=zb B2
 clear b1 s1 s2 s3 s4 B2
 go_wp2_with (refine ze rfl 23 (.tmp 9) (.tmp 28) rfl ⟨w1.heap.size,0,none⟩ (.agg MF) rfl rfl W2 HS.out ?_)
 refine(HGM.out W2).mono ?_
 rintro e w3 ⟨rfl,b3⟩
 obtain⟨W4,s1,s2,s3,s4⟩:=q0m (P:=Tryz.prog) 23 w3 q5o MG HIG.out (by rw[HZG.out];rfl) HAG.out
 have B4:Below W2.heap.size W2 W4:=b3.trans (s3.mono b3.size)
 have hl4:w3.heap.size<W4.heap.size:=zd s2
 have hl24:w1.heap.size<W4.heap.size:=zT hl2 B4.size
 have HC4:=zb ((zy B4 w1.heap.size 0 hl2).trans HC2'.out)
 have HD4:=zb ((zC _ _ 0 _ _ _ s2).trans cG)
 have HS4:=zb s1
 have HB4:=zb (HB2.out.trans (B4.mono HB2.out.size))
 clear b3 s1 s2 s3 s4 B4 HC2' HS HB2
 go_wp2_with (refine ze rfl 23 (.tmp 10) (.tmp 32) rfl ⟨w3.heap.size,0,none⟩ (.agg MG) rfl rfl W4 HS4.out ?_)
 refine(HLG.out _ (HT.out.below HB4.out (zL _))).mono ?_
 rintro e w5 ⟨v5,rfl,r5,b5⟩
 obtain⟨la,lc,rfl⟩:=qn r5
 have hl5:w3.heap.size<w5.heap.size:=zT hl4 b5.size
 have hl25:w1.heap.size<w5.heap.size:=zT hl24 b5.size
 have c5:=(zy b5 w1.heap.size 0 hl24).trans HC4.out
 have HC5:=zb c5
 have HD5:=zb ((zy b5 w3.heap.size 0 hl4).trans HD4.out)
 have HB5:=zb (HB4.out.trans (b5.mono HB4.out.size))
 have HR5:=zb (j1E (by have:=HB4.out.size;omega:w.heap.size≤W4.heap.size) r5)
 clear r5 b5 HC4 HD4 HS4
 go_wp2_with fail
 refine(HRN.out _ _ _ HR5.out).mono ?_
 rintro e w6 ⟨u,rfl,r6,b6⟩
 obtain⟨ua,uc,rfl⟩:=qn r6
 have hl6:w3.heap.size<w6.heap.size:=zT hl5 b6.size
 have hl26:w1.heap.size<w6.heap.size:=zT hl25 b6.size
 have c6:=(zy b6 w1.heap.size 0 hl25).trans HC5.out
 have HD6:=zb ((zy b6 w3.heap.size 0 hl5).trans HD5.out)
 have HB6:=zb (HB5.out.trans (b6.mono HB5.out.size))
 have HR6:=zb (zp HR5.out b6)
 have HU6:=zb (j1E (by have:=HB5.out.size;omega:w.heap.size≤w5.heap.size) r6)
 clear r6 b6 HC5 HD5 HR5 c5
 go_wp2_with fail
 refine(HBF.out _).mono ?_
 rintro e w7 ⟨b1,gn1,cn1,rfl,hb1,m7,b7⟩
 have hl7:w3.heap.size<w7.heap.size:=zT hl6 b7.size
 have c7:=(zy b7 w3.heap.size 0 hl6).trans HD6.out
 have HB7:=zb (HB6.out.trans (b7.mono HB6.out.size))
 have HR7:=zb (zp HR6.out b7)
 have HU7:=zb (zp HU6.out b7)
 have HM7:=zb m7
 have hwb1:w.heap.size≤b1:=by have:=HB6.out.size;omega
 have hb17:b1<w7.heap.size:=m7.lt
 clear m7 b7 HR6 HU6 HD6 c6
 go_wp2_with fail
 refine(HBG.out _).mono ?_
 rintro e w8 ⟨b2,gn2,cn2,rfl,hb2,m8,b8⟩
 have HB8:=zb (HB7.out.trans (b8.mono HB7.out.size))
 have HR8:=zb (zp HR7.out b8)
 have HU8:=zb (zp HU7.out b8)
 have HM8:=zb (HM7.out.below b8)
 have HN8:=zb m8
 have hb12:b1<b2:=by omega
 clear m8 b8 HR7 HU7 HM7 c7
 go_wp2_with fail
 refine(HLK.out _ (HT.out.below HB8.out (zL _))).mono ?_
 rintro e w9 ⟨v9,rfl,r9,b9⟩
 obtain⟨ka,kc,rfl⟩:=qn r9
 have HST0:=zb (HSI.out w9 b1 gn1 cn1 b2 gn2 cn2 (.slice la n lc) (.slice ka n2 kc) (.slice ua n uc) (HM8.out.below b9) (HN8.out.below b9) hwb1 hb12 (zp HR8.out b9) (j1E (by have:=HB8.out.size;omega:w.heap.size≤w8.heap.size) r9) (zp HU8.out b9) (HB8.out.trans (b9.mono HB8.out.size)))
 clear r9 b9 HR8 HU8 HM8 HN8 HB8 HB7 HB6 HB5 HB4 HSI HLG HLK HRN HBF HBG HFM HGM HT
 obtain⟨SS,hSS⟩:∃SS:World→Nat→Nat→Prop,SS=fun W i m=>ST W b1 gn1 cn1 b2 gn2 cn2 (.slice la n lc) (.slice ka n2 kc) (.slice ua n uc) i m:=⟨_,rfl⟩
 have HQ1:Hid (∀W i m,i<n→SS W i m→Calls Tryz.prog 10 #[.pointer (some ⟨b1,0,none⟩),bs (TX i)] W fun e w'=>∃v,e=.returned (.tuple #[v,.int .i64 0,.int .i64 0])∧W.heap.size≤w'.heap.size∧w'.ownsRow W.heap.size 45 12 v (TT (i+1)-TT i) (YC i)∧SS w' (i+1) m):=zb (fun W i m h1 h=>by rw[hSS]at h ⊢;exact HS1.out W _ _ _ _ _ _ _ _ _ i m h1 h)
 have HQ2:Hid (∀W i m,i=n→SS W i m→Calls Tryz.prog 17 #[.pointer (some ⟨b1,0,none⟩)] W fun e w'=>∃v,e=.returned (.tuple #[v,.int .i64 0])∧W.heap.size≤w'.heap.size∧w'.ownsRow W.heap.size 45 12 v (TT (i+1)-TT i) (YC i)∧SS w' (i+1) m):=zb (fun W i m hi h=>by rw[hSS]at h ⊢;rw[hi]at h ⊢;exact HS2.out W _ _ _ _ _ _ _ _ _ m h)
 have HQ3:Hid (∀W i m,m<n2→SS W i m→Calls Tryz.prog 10 #[.pointer (some ⟨b2,0,none⟩),bs (TY m)] W fun e w'=>∃(v:Value) (k:Nat) (xs:List Value),e=.returned (.tuple #[v,.int .i64 0,.int .i64 0])∧k≤40∧W.heap.size≤w'.heap.size∧w'.ownsRow W.heap.size 45 12 v k xs∧(∀(base':Nat) (v':Value) (n':Nat) (xs':List Value),W.ownsRow base' 45 12 v' n' xs'→w'.ownsRow base' 45 12 v' n' xs')∧SS w' i (m+1)):=zb (fun W i m h1 h=>by rw[hSS]at h ⊢;exact HS3.out W _ _ _ _ _ _ _ _ _ i m h1 h)
 have HQP:Hid (∀W i m,n2≤m→SS W i m→SS W i (m+1)):=zb (fun W i m h1 h=>by rw[hSS]at h ⊢;exact HSP.out W _ _ _ _ _ _ _ _ _ i m h1 h)
 have HQB:Hid (∀W W' i m,Below W.heap.size W W'→SS W i m→SS W' i m):=zb (fun W W' i m hb h=>by rw[hSS]at h ⊢;exact HSB.out W W' _ _ _ _ _ _ _ _ _ i m hb h)
 have HQM:Hid (∀W W' i m bl,OnlyB bl W W'→KV bl W→(∀k∈bl,w.heap.size≤k∧(Value.slice ua n uc).ownBlock≠some k)→SS W i m→SS W' i m):=zb (fun W W' i m bl h1 h2 h3 h=>by rw[hSS]at h ⊢;exact HSM.out W W' _ _ _ _ _ _ _ _ _ i m bl h1 h2 h3 h)
 have HQR:Hid (∀W i m,SS W i m→W.ownsRow w.heap.size 41 4 (.slice la n lc) n LC1∧W.ownsRow w.heap.size 41 4 (.slice ka n2 kc) n2 LC2∧W.ownsRow w.heap.size 45 12 (.slice ua n uc) n VC∧Below w.heap.size w W):=zb (fun W i m h=>by rw[hSS]at h;exact HSR.out W _ _ _ _ _ _ _ _ _ i m h)
 have HSS0:Hid (SS w9 0 0):=zb (by rw[hSS];exact HST0.out)
 clear hSS HS1 HS2 HS3 HSP HSB HSM HSR HST0
 clear ST
 go_wp2_with fail
 go_loopg [17,18] (n+1) (fun g vt vi wr=>ApRel SS TT n g vt vi wr)
 case atStart=>exact⟨0,zZ _,by omega,rfl,by rw[HT0.out];rfl,HSS0.out⟩
 case round =>
  obtain⟨i,hi,hgi,rfl,rfl,hS⟩:=hrel
  obtain⟨g1,hg1⟩:∃g1,g1=gk:=⟨_,rfl⟩
  have HG1:Hid (n+1-i≤g1):=zb (by omega)
  have HSi:=zb hS
  clear hgi hS HSS0
  by_cases hin:i≤n
  ·have hini:(i:Int)≤(n:Int):=by omega
   obtain⟨rl,rk,rw',rb⟩:=HQR.out _ _ _ HSi.out
   have HVWB:Hid (∀k,wr.heap.size≤k→(Value.slice ua n uc).ownBlock≠some k):=zb (fun k hk e=>by have:=(rw'.lt k e).2;omega)
   have HBW:=zb rb
   have hws:w.heap.size≤wr.heap.size:=rb.size
   have hwm1:IntKind.i64.wrap (-100-(i:Int)) = -100-(i:Int):=by rw[IntKind.wrap_i64];omega
   have hwm2:IntKind.i64.wrap (-1000-(i:Int)) = -1000-(i:Int):=by rw[IntKind.wrap_i64];omega
   have hwm3:IntKind.i64.wrap (-2000-(i:Int)) = -2000-(i:Int):=by rw[IntKind.wrap_i64];omega
   have hwm4:IntKind.i64.wrap (-3000-(i:Int)) = -3000-(i:Int):=by rw[IntKind.wrap_i64];omega
   have hdn:TT (i+1)-TT i≤12:=by have:=HTL.out (i+1);omega
   have htd:TT i+(TT (i+1)-TT i)=TT (i+1):=by have:=HTM.out i;omega
   have htl:TT (i+1)≤n:=HTL.out (i+1)
   obtain⟨wi,hwi⟩:∃wi,wi=wr:=⟨_,rfl⟩
   by_cases hlt:i<n
   ·have hlti:(i:Int)<(n:Int):=by omega
    obtain⟨gl,lc',el⟩:=zJ rl (by omega)
    obtain⟨rfl,rfl⟩:la=some ⟨gl,0,none⟩∧lc=lc':=by simpa using el
    have cl:=HC1.out _ _ _ _ i hlt rl
    obtain⟨csl,kl1,al1,al2,_⟩:=q6w rl
    unfold maxLen at al2
    have hgl:gl<wr.heap.size:=zd kl1
    have HF1:=zb (HQ1.out _ _ _ hlt HSi.out)
    clear el kl1 rl rk rw' rb
    generalize TX i=txi at *
    go_wp2_with fail
    refine HF1.out.mono ?_
    rintro e w2 ⟨v2,rfl,hWW,r2,hS2⟩
    clear HF1 HSi cl
    obtain⟨va,vc,rfl⟩:=qn r2
    have hw2:wi.heap.size≤w2.heap.size:=by rw[hwi];exact hWW
    obtain⟨d,hd⟩:∃d,d=TT (i+1)-TT i:=⟨_,rfl⟩
    obtain⟨tk,htk⟩:∃tk,tk=TT i:=⟨_,rfl⟩
    obtain⟨YI,hYI⟩:∃YI,YI=YC i:=⟨_,rfl⟩
    have HPVI:Hid (∀(W:World) (base g c j:Nat) (xs:List Value),j<d→W.ownsRow base 45 12 (.slice (some ⟨g,0,none⟩) d c) d xs→(∀p,j*12≤p→xs[p]?=YI[p]?)→(Instr.loadAt 45 (.pointer (some ⟨g,j*12,none⟩))).run Tryz.prog W=.ok (VV (tk+j)) W):=zb (fun W base g c j xs h1 h2 h3=>by rw[hd]at h1 h2;rw[hYI]at h3;rw[htk];exact HPV.out W base g c i j xs h1 h2 h3)
    rw[←hd]at r2 hdn htd ⊢
    rw[←htk]at htd ⊢
    rw[←hYI]at r2
    have htdn:tk+d≤n:=by omega
    have HTD:=zb htd
    clear htd htl
    have HV2:=zb r2
    have HS2w:=zb hS2
    obtain⟨bs0,hbs0⟩:∃b,b=wi.heap.size:=⟨_,rfl⟩
    rw[←hwi,←hbs0]at HV2
    rw[←hwi]at HVWB
    rw[←hbs0]at HVWB hw2
    have HBS:Hid (w.heap.size≤bs0):=zb (by rw[hbs0,hwi];exact hws)
    have HVL:Hid (∀k,(Value.slice va d vc).ownBlock=some k→k<w2.heap.size):=zb (fun k e=>(HV2.out.lt k e).2)
    clear r2 hS2 hd htk hYI HPV hws hbs0 hwi
    by_cases hm:i<n2
    ·have hmi:(i:Int)<(n2:Int):=by omega
     obtain⟨_,rk2,_,rb2⟩:=HQR.out _ _ _ HS2w.out
     obtain⟨gk2,kc2,ek⟩:=zJ rk2 (by omega)
     obtain⟨rfl,rfl⟩:ka=some ⟨gk2,0,none⟩∧kc=kc2:=by simpa using ek
     have ck:=HC2.out _ _ _ _ i hm rk2
     obtain⟨csk,kk1,ak1,ak2,_⟩:=q6w rk2
     unfold maxLen at ak2
     have hgk2:gk2<w2.heap.size:=zd kk1
     clear ek kk1 rk2
     have HF2:=zb (HQ3.out _ _ _ hm HS2w.out)
     generalize TY i=tyi at *
     go_wp2_with fail
     refine HF2.out.mono ?_
     rintro e w3 ⟨x3,k3,xs3,rfl,hk3,hw3,r3,keep3,hS3⟩
     obtain⟨xa,xc,rfl⟩:=qn r3
     have HX3:=zb r3
     have HV3:=zb (keep3 _ _ _ _ HV2.out)
     have HS3w:=zb hS3
     have hb3:bs0≤w3.heap.size:=by omega
     clear r3 keep3 hS3 HF2 HV2 HS2w ck
     go_wp2_with fail
     go_loopg [23] k3 (fun g vj wr=>ApX SS i bs0 w2.heap.size k3 (.slice xa k3 xc) d (.slice va d vc) YI g vj wr)
     case atStart=>exact⟨0,_,zZ _,by omega,rfl,hb3,HX3.out,HV3.out,HS3w.out⟩
     case round =>
      obtain⟨j,xs,hj,hgj,rfl,hbw,rx,rv,rs⟩:=hrel
      have HGJ:=zb hgj
      have HRX:=zb rx
      have HV3:=zb rv
      have HS3w:=zb rs
      clear hgj rx rv rs HX3
      by_cases hjk:j<k3
      ·have hjki:(j:Int)<(k3:Int):=by omega
       obtain⟨gx,cx,ex⟩:=zJ HRX.out (by omega)
       obtain⟨rfl,rfl⟩:xa=some ⟨gx,0,none⟩∧xc=cx:=by simpa using ex
       obtain⟨csx,kx1,ax1,ax2,_,_,ax5⟩:=q6w HRX.out
       unfold maxLen at ax2
       have hgx:gx<wr.heap.size:=zd kx1
       obtain⟨Wm,m1,m2,m3,xs',m4,m5⟩:=store_row HRX.out hjk (apMk (-100-(i:Int))) rfl (apMk_one _)
       have hKV:=kv_row HRX.out
       have HSm:=zb (HQM.out _ Wm _ _ [gx] m2 hKV (fun k hk=>by simp at hk;subst hk;exact⟨by have:=HBS.out;omega,HVWB.out _ (by omega)⟩) HS3w.out)
       have HMS:=zb m1
       have HM4:=zb m4
       have HMV:=zb (q7j HV3.out m2 (fun k hv hm=>by
        simp at hm
        subst hm
        exact absurd (HVL.out _ hv) (by omega)))
       have hm3:Wm.heap.size=wr.heap.size:=m3
       clear m1 m2 m3 m4 m5 hKV HRX HV3 HS3w ex kx1
       go_wp2_with (refine ze rfl 45 (.tmp 116) (.tmp 115) rfl ⟨gx,j*12,none⟩ (.agg (apMk (-100-(i:Int)))) rfl rfl Wm HMS.out ?_)
       have hgp:0<gk:=by have:=HGJ.out;omega
       go_roundg (gk-1)
       case measure=>omega
       case rel=>exact⟨j+1,xs',by omega,by have:=HGJ.out;omega,by go_num,by rw[hm3];exact hbw,HM4.out,HMV.out,HSm.out⟩
      ·have hjki:¬(j:Int)<(k3:Int):=by omega
       clear HRX HGJ hjk hj
       go_wp2_with fail
       go_loopg [17,24] d (fun g vt vj wr=>ApV SS i bs0 d tk (.slice va d vc) YI g vt vj wr)
       case atStart=>exact⟨0,_,zZ _,by omega,rfl,rfl,hbw,HV3.out,fun p _=>rfl,HS3w.out⟩
       case round =>
        obtain⟨j,xs,hj,hgj,rfl,rfl,hbv,rv,rp,rs⟩:=hrel
        have HGJ:=zb hgj
        have HRV:=zb rv
        have HRP:=zb rp
        have HRS:=zb rs
        clear hgj rv rp rs HV3 HS3w
        by_cases hjd:j<d
        ·have hjdi:(j:Int)<(d:Int):=by omega
         obtain⟨gv,cv,ev⟩:=zJ HRV.out (by omega)
         obtain⟨rfl,rfl⟩:va=some ⟨gv,0,none⟩∧vc=cv:=by simpa using ev
         obtain⟨csv,kv1,av1,av2,_,_,av5⟩:=q6w HRV.out
         unfold maxLen at av2
         have hgv:gv<wr.heap.size:=zd kv1
         obtain⟨_,_,rwt,_⟩:=HQR.out _ _ _ HRS.out
         obtain⟨gw,cw,ew⟩:=zJ rwt (by omega)
         obtain⟨rfl,rfl⟩:ua=some ⟨gw,0,none⟩∧uc=cw:=by simpa using ew
         obtain⟨csw,kw1,aw1,aw2,_⟩:=q6w rwt
         unfold maxLen at aw2
         have hgw:gw<wr.heap.size:=zd kw1
         have D3:=(zB wr.heap.size wr).drew
         obtain⟨VJ,hVJ⟩:∃V,V=VV (tk+j):=⟨_,rfl⟩
         have HNJ:=zb (hVJ.trans (HNV.out (tk+j)))
         have hL:∀W,Below wr.heap.size wr W→(Instr.loadAt 45 (.pointer (some ⟨gv,j*12,none⟩))).run Tryz.prog W=.ok VJ W∧(Instr.loadAt 45 (.pointer (some ⟨gw,(tk+j)*12,none⟩))).run Tryz.prog W=.ok VJ W:=fun W hW=>by
          rw[hVJ]
          exact⟨HPVI.out W _ _ _ j xs hjd (zp HRV.out hW) HRP.out,HCW.out W _ _ _ (tk+j) (by omega) (zp rwt hW)⟩
         have hC0:=hL _ D3
         have HRV':=zb (zp HRV.out D3)
         have HRS':=zb (HQB.out _ _ _ _ D3 HRS.out)
         clear ev ew kv1 kw1 hVJ hL rwt
         have hti:¬(n:Int)≤((tk+j:Nat):Int):=by omega
         have htn:¬n≤tk+j:=by omega
         have htn2:((tk+j:Nat):Int)<(n:Int):=by omega
         obtain⟨tj,htj⟩:∃tj,tj=tk+j:=⟨_,rfl⟩
         rw[←htj]at hti htn htn2 hC0 ⊢
         have HTJ:=zb htj
         have htj13:tj≤n:=by omega
         clear htj
         go_wp2_with fail
         refine wp_region_held_drew (S:=fun w'=>(Instr.loadAt 45 (.pointer (some ⟨gv,j*12,none⟩))).run Tryz.prog w'=.ok VJ w'∧(Instr.loadAt 45 (.pointer (some ⟨gw,tj*12,none⟩))).run Tryz.prog w'=.ok VJ w') (by kernel_rfl) hC0 (fun hS0=>?_)
         simp only[rz,Nat.zero_add,Nat.reduceAdd]
         refine tq 0 123 ?_
         simp only[Act.put,pz]
         refine tq 1 124 ?_
         simp only[Act.put,pz]
         refine tq 2 125 ?_
         simp only[Act.put,pz]
         refine tq 3 126 ?_
         simp only[Act.put,pz]
         refine tq 4 127 ?_
         simp only[Act.put,pz]
         refine tq 5 128 ?_
         simp only[Act.put,pz]
         refine tq 6 129 ?_
         simp only[Act.put,pz]
         refine tq 7 130 ?_
         simp only[Act.put,pz]
         refine q1o (i:=8) (v:=VJ) 131 rfl rfl (by kernel_rfl) (by kernel_rfl) (by kernel_rfl) (fun _ _ _ h=>h) (by rfl) (by assumption) ?_ ?_
         ·intro W hSw;exact j1d 45 (.tmp 130) rfl ⟨gv,j*12,none⟩ _ rfl hSw.1
         simp only[Act.put,pz]
         refine tq 9 132 ?_
         simp only[Act.put,pz]
         refine tq 10 133 ?_
         simp only[Act.put,pz]
         refine tq 11 134 ?_
         simp only[Act.put,pz]
         refine q1o (i:=12) (v:=VJ) 135 rfl rfl (by kernel_rfl) (by kernel_rfl) (by kernel_rfl) (fun _ _ _ h=>h) (by rfl) (by assumption) ?_ ?_
         ·intro W hSw;exact j1d 45 (.tmp 134) rfl ⟨gw,tj*12,none⟩ _ rfl hSw.2
         simp only[Act.put,pz]
         refine q1o (i:=13) (v:=.bool false) 136 rfl rfl (by kernel_rfl) (by kernel_rfl) (by kernel_rfl) (fun _ _ _ h=>h) (by rfl) (by assumption) ?_ ?_
         ·intro W _;exact exec_neqv (.tmp 131) (.tmp 135) _ rfl VJ _ HNJ.out rfl rfl
         simp only[Act.put,pz]
         refine tq 14 137 ?_
         simp only[Act.put,pz]
         refine zD (by kernel_rfl) ?_ _
         clear hS0 hC0
         obtain⟨Wm,m1,m2,m3,xs',m4,m5⟩:=store_row HRV'.out hjd (apMk (-1000-(i:Int))) rfl (apMk_one _)
         have hKV:=kv_row HRV'.out
         have HSm:=zb (HQM.out _ Wm _ _ [gv] m2 hKV (fun k hk=>by simp at hk;subst hk;exact⟨by have:=HBS.out;omega,HVWB.out _ av5⟩) HRS'.out)
         have HMS:=zb m1
         have HM4:=zb m4
         have HM5:Hid (∀p,(j+1)*12≤p→xs'[p]?=YI[p]?):=zb (fun p hp=>by rw[m5 p hp];exact HRP.out p (by omega))
         have hwt:IntKind.i64.wrap ((tj:Int)+1)=((tj+1:Nat):Int):=by rw[IntKind.wrap_i64];omega
         have hm3:Wm.heap.size=wr.heap.size:=m3
         clear m1 m2 m3 m4 m5 hKV HRV' HRS' HRV HRP HRS
         go_wp2_with (refine ze rfl 45 (.tmp 145) (.tmp 144) rfl ⟨gv,j*12,none⟩ (.agg (apMk (-1000-(i:Int)))) rfl rfl Wm HMS.out ?_)
         have hgp:0<gk:=by have:=HGJ.out;omega
         go_roundg (gk-1)
         case measure=>omega
         case rel=>exact⟨j+1,xs',by omega,by have:=HGJ.out;omega,by go_num,by rw[←Nat.add_assoc,←HTJ.out];go_num,by rw[hm3];exact hbv,HM4.out,HM5.out,HSm.out⟩
        ·have hjdi:¬(j:Int)<(d:Int):=by omega
         have hje:j=d:=by omega
         have hA:Below wr.heap.size wr (wr.alloc (.cells (apNews (-2000-(i:Int)) (-3000-(i:Int))).toArray 45)):=(zB _ _).alloc (zL _) _
         have HRA:=zb (zp HRV.out hA)
         have HSA:=zb (HQB.out _ _ _ _ hA HRS.out)
         have HBL:=zb (ap_bld2 (-2000-(i:Int)) (-3000-(i:Int)) wr)
         clear hA HRS HRP
         go_wp2_with (first
          |(refine ap_bslice rfl 33 2 #[(0,.tmp 149),(1,.tmp 152)] rfl #[(0,.agg (apMk (-2000-(i:Int)))),(1,.agg (apMk (-3000-(i:Int))))] (by simp[Act.eval]) _ _ HBL.out ?_)
          |(at_builtin;refine wp_appK rfl (.tmp 146) (.tmp 153) 33 45 rfl Tryz.underlying33 hi0 hz0 hz1 hz2 rfl (by decide) bs0 (.slice va d vc) d xs (wr.alloc (.cells (apNews (-2000-(i:Int)) (-3000-(i:Int))).toArray 45)) rfl HRA.out ⟨wr.heap.size,0,none⟩ 2 2 (apNews (-2000-(i:Int)) (-3000-(i:Int))) rfl rfl (ap_news _ _ _) (apNews_one _ _) (by omega) (by decide) (by simp;omega) (by decide) ?_;intro v7 w7 own7 gr7 at7;have HS7:=zb (HQM.out _ w7 _ _ _ (grown_only gr7) (kv_row HRA.out) (fun k hk=>⟨by have:=j0L HRA.out k hk;have:=HBS.out;omega,HVWB.out _ (j0L HRA.out k hk)⟩) HSA.out);clear own7 gr7 at7))
         have hgp:0<g1:=by have:=HG1.out;omega
         go_roundg (g1-1)
         case measure=>omega
         case rel=>exact⟨i+1,by omega,by have:=HG1.out;omega,by go_num,by have:=HTD.out;congr 1;omega,HS7.out⟩
    ·have hmi:¬(i:Int)<(n2:Int):=by omega
     have HS3w:=zb (HQP.out _ _ _ (by omega) HS2w.out)
     have HV3:=zb HV2.out
     have hbw:bs0≤w2.heap.size:=hw2
     clear HS2w HV2
     go_wp2_with fail
     go_loopg [17,24] d (fun g vt vj wr=>ApV SS i bs0 d tk (.slice va d vc) YI g vt vj wr)
     case atStart=>exact⟨0,_,zZ _,by omega,rfl,rfl,hbw,HV3.out,fun p _=>rfl,HS3w.out⟩
     case round =>
      obtain⟨j,xs,hj,hgj,rfl,rfl,hbv,rv,rp,rs⟩:=hrel
      have HGJ:=zb hgj
      have HRV:=zb rv
      have HRP:=zb rp
      have HRS:=zb rs
      clear hgj rv rp rs HV3 HS3w
      by_cases hjd:j<d
      ·have hjdi:(j:Int)<(d:Int):=by omega
       obtain⟨gv,cv,ev⟩:=zJ HRV.out (by omega)
       obtain⟨rfl,rfl⟩:va=some ⟨gv,0,none⟩∧vc=cv:=by simpa using ev
       obtain⟨csv,kv1,av1,av2,_,_,av5⟩:=q6w HRV.out
       unfold maxLen at av2
       have hgv:gv<wr.heap.size:=zd kv1
       obtain⟨_,_,rwt,_⟩:=HQR.out _ _ _ HRS.out
       obtain⟨gw,cw,ew⟩:=zJ rwt (by omega)
       obtain⟨rfl,rfl⟩:ua=some ⟨gw,0,none⟩∧uc=cw:=by simpa using ew
       obtain⟨csw,kw1,aw1,aw2,_⟩:=q6w rwt
       unfold maxLen at aw2
       have hgw:gw<wr.heap.size:=zd kw1
       have D3:=(zB wr.heap.size wr).drew
       obtain⟨VJ,hVJ⟩:∃V,V=VV (tk+j):=⟨_,rfl⟩
       have HNJ:=zb (hVJ.trans (HNV.out (tk+j)))
       have hL:∀W,Below wr.heap.size wr W→(Instr.loadAt 45 (.pointer (some ⟨gv,j*12,none⟩))).run Tryz.prog W=.ok VJ W∧(Instr.loadAt 45 (.pointer (some ⟨gw,(tk+j)*12,none⟩))).run Tryz.prog W=.ok VJ W:=fun W hW=>by
        rw[hVJ]
        exact⟨HPVI.out W _ _ _ j xs hjd (zp HRV.out hW) HRP.out,HCW.out W _ _ _ (tk+j) (by omega) (zp rwt hW)⟩
       have hC0:=hL _ D3
       have HRV':=zb (zp HRV.out D3)
       have HRS':=zb (HQB.out _ _ _ _ D3 HRS.out)
       clear ev ew kv1 kw1 hVJ hL rwt
       have hti:¬(n:Int)≤((tk+j:Nat):Int):=by omega
       have htn:¬n≤tk+j:=by omega
       have htn2:((tk+j:Nat):Int)<(n:Int):=by omega
       obtain⟨tj,htj⟩:∃tj,tj=tk+j:=⟨_,rfl⟩
       rw[←htj]at hti htn htn2 hC0 ⊢
       have HTJ:=zb htj
       have htj13:tj≤n:=by omega
       clear htj
       go_wp2_with fail
       refine wp_region_held_drew (S:=fun w'=>(Instr.loadAt 45 (.pointer (some ⟨gv,j*12,none⟩))).run Tryz.prog w'=.ok VJ w'∧(Instr.loadAt 45 (.pointer (some ⟨gw,tj*12,none⟩))).run Tryz.prog w'=.ok VJ w') (by kernel_rfl) hC0 (fun hS0=>?_)
       simp only[rz,Nat.zero_add,Nat.reduceAdd]
       refine tq 0 123 ?_
       simp only[Act.put,pz]
       refine tq 1 124 ?_
       simp only[Act.put,pz]
       refine tq 2 125 ?_
       simp only[Act.put,pz]
       refine tq 3 126 ?_
       simp only[Act.put,pz]
       refine tq 4 127 ?_
       simp only[Act.put,pz]
       refine tq 5 128 ?_
       simp only[Act.put,pz]
       refine tq 6 129 ?_
       simp only[Act.put,pz]
       refine tq 7 130 ?_
       simp only[Act.put,pz]
       refine q1o (i:=8) (v:=VJ) 131 rfl rfl (by kernel_rfl) (by kernel_rfl) (by kernel_rfl) (fun _ _ _ h=>h) (by rfl) (by assumption) ?_ ?_
       ·intro W hSw;exact j1d 45 (.tmp 130) rfl ⟨gv,j*12,none⟩ _ rfl hSw.1
       simp only[Act.put,pz]
       refine tq 9 132 ?_
       simp only[Act.put,pz]
       refine tq 10 133 ?_
       simp only[Act.put,pz]
       refine tq 11 134 ?_
       simp only[Act.put,pz]
       refine q1o (i:=12) (v:=VJ) 135 rfl rfl (by kernel_rfl) (by kernel_rfl) (by kernel_rfl) (fun _ _ _ h=>h) (by rfl) (by assumption) ?_ ?_
       ·intro W hSw;exact j1d 45 (.tmp 134) rfl ⟨gw,tj*12,none⟩ _ rfl hSw.2
       simp only[Act.put,pz]
       refine q1o (i:=13) (v:=.bool false) 136 rfl rfl (by kernel_rfl) (by kernel_rfl) (by kernel_rfl) (fun _ _ _ h=>h) (by rfl) (by assumption) ?_ ?_
       ·intro W _;exact exec_neqv (.tmp 131) (.tmp 135) _ rfl VJ _ HNJ.out rfl rfl
       simp only[Act.put,pz]
       refine tq 14 137 ?_
       simp only[Act.put,pz]
       refine zD (by kernel_rfl) ?_ _
       clear hS0 hC0
       obtain⟨Wm,m1,m2,m3,xs',m4,m5⟩:=store_row HRV'.out hjd (apMk (-1000-(i:Int))) rfl (apMk_one _)
       have hKV:=kv_row HRV'.out
       have HSm:=zb (HQM.out _ Wm _ _ [gv] m2 hKV (fun k hk=>by simp at hk;subst hk;exact⟨by have:=HBS.out;omega,HVWB.out _ av5⟩) HRS'.out)
       have HMS:=zb m1
       have HM4:=zb m4
       have HM5:Hid (∀p,(j+1)*12≤p→xs'[p]?=YI[p]?):=zb (fun p hp=>by rw[m5 p hp];exact HRP.out p (by omega))
       have hwt:IntKind.i64.wrap ((tj:Int)+1)=((tj+1:Nat):Int):=by rw[IntKind.wrap_i64];omega
       have hm3:Wm.heap.size=wr.heap.size:=m3
       clear m1 m2 m3 m4 m5 hKV HRV' HRS' HRV HRP HRS
       go_wp2_with (refine ze rfl 45 (.tmp 145) (.tmp 144) rfl ⟨gv,j*12,none⟩ (.agg (apMk (-1000-(i:Int)))) rfl rfl Wm HMS.out ?_)
       have hgp:0<gk:=by have:=HGJ.out;omega
       go_roundg (gk-1)
       case measure=>omega
       case rel=>exact⟨j+1,xs',by omega,by have:=HGJ.out;omega,by go_num,by rw[←Nat.add_assoc,←HTJ.out];go_num,by rw[hm3];exact hbv,HM4.out,HM5.out,HSm.out⟩
      ·have hjdi:¬(j:Int)<(d:Int):=by omega
       have hje:j=d:=by omega
       have hA:Below wr.heap.size wr (wr.alloc (.cells (apNews (-2000-(i:Int)) (-3000-(i:Int))).toArray 45)):=(zB _ _).alloc (zL _) _
       have HRA:=zb (zp HRV.out hA)
       have HSA:=zb (HQB.out _ _ _ _ hA HRS.out)
       have HBL:=zb (ap_bld2 (-2000-(i:Int)) (-3000-(i:Int)) wr)
       clear hA HRS HRP
       go_wp2_with (first
        |(refine ap_bslice rfl 33 2 #[(0,.tmp 149),(1,.tmp 152)] rfl #[(0,.agg (apMk (-2000-(i:Int)))),(1,.agg (apMk (-3000-(i:Int))))] (by simp[Act.eval]) _ _ HBL.out ?_)
        |(at_builtin;refine wp_appK rfl (.tmp 146) (.tmp 153) 33 45 rfl Tryz.underlying33 hi0 hz0 hz1 hz2 rfl (by decide) bs0 (.slice va d vc) d xs (wr.alloc (.cells (apNews (-2000-(i:Int)) (-3000-(i:Int))).toArray 45)) rfl HRA.out ⟨wr.heap.size,0,none⟩ 2 2 (apNews (-2000-(i:Int)) (-3000-(i:Int))) rfl rfl (ap_news _ _ _) (apNews_one _ _) (by omega) (by decide) (by simp;omega) (by decide) ?_;intro v7 w7 own7 gr7 at7;have HS7:=zb (HQM.out _ w7 _ _ _ (grown_only gr7) (kv_row HRA.out) (fun k hk=>⟨by have:=j0L HRA.out k hk;have:=HBS.out;omega,HVWB.out _ (j0L HRA.out k hk)⟩) HSA.out);clear own7 gr7 at7))
       have hgp:0<g1:=by have:=HG1.out;omega
       go_roundg (g1-1)
       case measure=>omega
       case rel=>exact⟨i+1,by omega,by have:=HG1.out;omega,by go_num,by have:=HTD.out;congr 1;omega,HS7.out⟩
   ·have hlti:¬(i:Int)<(n:Int):=by omega
    have HF1:=zb (HQ2.out _ _ _ (by omega) HSi.out)
    clear rl rk rw' rb
    go_wp2_with fail
    refine HF1.out.mono ?_
    rintro e w2 ⟨v2,rfl,hWW,r2,hS2⟩
    clear HF1 HSi
    obtain⟨va,vc,rfl⟩:=qn r2
    have hw2:wi.heap.size≤w2.heap.size:=by rw[hwi];exact hWW
    obtain⟨d,hd⟩:∃d,d=TT (i+1)-TT i:=⟨_,rfl⟩
    obtain⟨tk,htk⟩:∃tk,tk=TT i:=⟨_,rfl⟩
    obtain⟨YI,hYI⟩:∃YI,YI=YC i:=⟨_,rfl⟩
    have HPVI:Hid (∀(W:World) (base g c j:Nat) (xs:List Value),j<d→W.ownsRow base 45 12 (.slice (some ⟨g,0,none⟩) d c) d xs→(∀p,j*12≤p→xs[p]?=YI[p]?)→(Instr.loadAt 45 (.pointer (some ⟨g,j*12,none⟩))).run Tryz.prog W=.ok (VV (tk+j)) W):=zb (fun W base g c j xs h1 h2 h3=>by rw[hd]at h1 h2;rw[hYI]at h3;rw[htk];exact HPV.out W base g c i j xs h1 h2 h3)
    rw[←hd]at r2 hdn htd ⊢
    rw[←htk]at htd ⊢
    rw[←hYI]at r2
    have htdn:tk+d≤n:=by omega
    have HTD:=zb htd
    clear htd htl
    have HV2:=zb r2
    have HS2w:=zb hS2
    obtain⟨bs0,hbs0⟩:∃b,b=wi.heap.size:=⟨_,rfl⟩
    rw[←hwi,←hbs0]at HV2
    rw[←hwi]at HVWB
    rw[←hbs0]at HVWB hw2
    have HBS:Hid (w.heap.size≤bs0):=zb (by rw[hbs0,hwi];exact hws)
    have HVL:Hid (∀k,(Value.slice va d vc).ownBlock=some k→k<w2.heap.size):=zb (fun k e=>(HV2.out.lt k e).2)
    clear r2 hS2 hd htk hYI HPV hws hbs0 hwi
    by_cases hm:i<n2
    ·have hmi:(i:Int)<(n2:Int):=by omega
     obtain⟨_,rk2,_,rb2⟩:=HQR.out _ _ _ HS2w.out
     obtain⟨gk2,kc2,ek⟩:=zJ rk2 (by omega)
     obtain⟨rfl,rfl⟩:ka=some ⟨gk2,0,none⟩∧kc=kc2:=by simpa using ek
     have ck:=HC2.out _ _ _ _ i hm rk2
     obtain⟨csk,kk1,ak1,ak2,_⟩:=q6w rk2
     unfold maxLen at ak2
     have hgk2:gk2<w2.heap.size:=zd kk1
     clear ek kk1 rk2
     have HF2:=zb (HQ3.out _ _ _ hm HS2w.out)
     generalize TY i=tyi at *
     go_wp2_with fail
     refine HF2.out.mono ?_
     rintro e w3 ⟨x3,k3,xs3,rfl,hk3,hw3,r3,keep3,hS3⟩
     obtain⟨xa,xc,rfl⟩:=qn r3
     have HX3:=zb r3
     have HV3:=zb (keep3 _ _ _ _ HV2.out)
     have HS3w:=zb hS3
     have hb3:bs0≤w3.heap.size:=by omega
     clear r3 keep3 hS3 HF2 HV2 HS2w ck
     go_wp2_with fail
     go_loopg [23] k3 (fun g vj wr=>ApX SS i bs0 w2.heap.size k3 (.slice xa k3 xc) d (.slice va d vc) YI g vj wr)
     case atStart=>exact⟨0,_,zZ _,by omega,rfl,hb3,HX3.out,HV3.out,HS3w.out⟩
     case round =>
      obtain⟨j,xs,hj,hgj,rfl,hbw,rx,rv,rs⟩:=hrel
      have HGJ:=zb hgj
      have HRX:=zb rx
      have HV3:=zb rv
      have HS3w:=zb rs
      clear hgj rx rv rs HX3
      by_cases hjk:j<k3
      ·have hjki:(j:Int)<(k3:Int):=by omega
       obtain⟨gx,cx,ex⟩:=zJ HRX.out (by omega)
       obtain⟨rfl,rfl⟩:xa=some ⟨gx,0,none⟩∧xc=cx:=by simpa using ex
       obtain⟨csx,kx1,ax1,ax2,_,_,ax5⟩:=q6w HRX.out
       unfold maxLen at ax2
       have hgx:gx<wr.heap.size:=zd kx1
       obtain⟨Wm,m1,m2,m3,xs',m4,m5⟩:=store_row HRX.out hjk (apMk (-100-(i:Int))) rfl (apMk_one _)
       have hKV:=kv_row HRX.out
       have HSm:=zb (HQM.out _ Wm _ _ [gx] m2 hKV (fun k hk=>by simp at hk;subst hk;exact⟨by have:=HBS.out;omega,HVWB.out _ (by omega)⟩) HS3w.out)
       have HMS:=zb m1
       have HM4:=zb m4
       have HMV:=zb (q7j HV3.out m2 (fun k hv hm=>by
        simp at hm
        subst hm
        exact absurd (HVL.out _ hv) (by omega)))
       have hm3:Wm.heap.size=wr.heap.size:=m3
       clear m1 m2 m3 m4 m5 hKV HRX HV3 HS3w ex kx1
       go_wp2_with (refine ze rfl 45 (.tmp 116) (.tmp 115) rfl ⟨gx,j*12,none⟩ (.agg (apMk (-100-(i:Int)))) rfl rfl Wm HMS.out ?_)
       have hgp:0<gk:=by have:=HGJ.out;omega
       go_roundg (gk-1)
       case measure=>omega
       case rel=>exact⟨j+1,xs',by omega,by have:=HGJ.out;omega,by go_num,by rw[hm3];exact hbw,HM4.out,HMV.out,HSm.out⟩
      ·have hjki:¬(j:Int)<(k3:Int):=by omega
       clear HRX HGJ hjk hj
       go_wp2_with fail
       go_loopg [17,24] d (fun g vt vj wr=>ApV SS i bs0 d tk (.slice va d vc) YI g vt vj wr)
       case atStart=>exact⟨0,_,zZ _,by omega,rfl,rfl,hbw,HV3.out,fun p _=>rfl,HS3w.out⟩
       case round =>
        obtain⟨j,xs,hj,hgj,rfl,rfl,hbv,rv,rp,rs⟩:=hrel
        have HGJ:=zb hgj
        have HRV:=zb rv
        have HRP:=zb rp
        have HRS:=zb rs
        clear hgj rv rp rs HV3 HS3w
        by_cases hjd:j<d
        ·have hjdi:(j:Int)<(d:Int):=by omega
         obtain⟨gv,cv,ev⟩:=zJ HRV.out (by omega)
         obtain⟨rfl,rfl⟩:va=some ⟨gv,0,none⟩∧vc=cv:=by simpa using ev
         obtain⟨csv,kv1,av1,av2,_,_,av5⟩:=q6w HRV.out
         unfold maxLen at av2
         have hgv:gv<wr.heap.size:=zd kv1
         obtain⟨_,_,rwt,_⟩:=HQR.out _ _ _ HRS.out
         obtain⟨gw,cw,ew⟩:=zJ rwt (by omega)
         obtain⟨rfl,rfl⟩:ua=some ⟨gw,0,none⟩∧uc=cw:=by simpa using ew
         obtain⟨csw,kw1,aw1,aw2,_⟩:=q6w rwt
         unfold maxLen at aw2
         have hgw:gw<wr.heap.size:=zd kw1
         have D3:=(zB wr.heap.size wr).drew
         obtain⟨VJ,hVJ⟩:∃V,V=VV (tk+j):=⟨_,rfl⟩
         have HNJ:=zb (hVJ.trans (HNV.out (tk+j)))
         have hL:∀W,Below wr.heap.size wr W→(Instr.loadAt 45 (.pointer (some ⟨gv,j*12,none⟩))).run Tryz.prog W=.ok VJ W∧(Instr.loadAt 45 (.pointer (some ⟨gw,(tk+j)*12,none⟩))).run Tryz.prog W=.ok VJ W:=fun W hW=>by
          rw[hVJ]
          exact⟨HPVI.out W _ _ _ j xs hjd (zp HRV.out hW) HRP.out,HCW.out W _ _ _ (tk+j) (by omega) (zp rwt hW)⟩
         have hC0:=hL _ D3
         have HRV':=zb (zp HRV.out D3)
         have HRS':=zb (HQB.out _ _ _ _ D3 HRS.out)
         clear ev ew kv1 kw1 hVJ hL rwt
         have hti:¬(n:Int)≤((tk+j:Nat):Int):=by omega
         have htn:¬n≤tk+j:=by omega
         have htn2:((tk+j:Nat):Int)<(n:Int):=by omega
         obtain⟨tj,htj⟩:∃tj,tj=tk+j:=⟨_,rfl⟩
         rw[←htj]at hti htn htn2 hC0 ⊢
         have HTJ:=zb htj
         have htj13:tj≤n:=by omega
         clear htj
         go_wp2_with fail
         refine wp_region_held_drew (S:=fun w'=>(Instr.loadAt 45 (.pointer (some ⟨gv,j*12,none⟩))).run Tryz.prog w'=.ok VJ w'∧(Instr.loadAt 45 (.pointer (some ⟨gw,tj*12,none⟩))).run Tryz.prog w'=.ok VJ w') (by kernel_rfl) hC0 (fun hS0=>?_)
         simp only[rz,Nat.zero_add,Nat.reduceAdd]
         refine tq 0 123 ?_
         simp only[Act.put,pz]
         refine tq 1 124 ?_
         simp only[Act.put,pz]
         refine tq 2 125 ?_
         simp only[Act.put,pz]
         refine tq 3 126 ?_
         simp only[Act.put,pz]
         refine tq 4 127 ?_
         simp only[Act.put,pz]
         refine tq 5 128 ?_
         simp only[Act.put,pz]
         refine tq 6 129 ?_
         simp only[Act.put,pz]
         refine tq 7 130 ?_
         simp only[Act.put,pz]
         refine q1o (i:=8) (v:=VJ) 131 rfl rfl (by kernel_rfl) (by kernel_rfl) (by kernel_rfl) (fun _ _ _ h=>h) (by rfl) (by assumption) ?_ ?_
         ·intro W hSw;exact j1d 45 (.tmp 130) rfl ⟨gv,j*12,none⟩ _ rfl hSw.1
         simp only[Act.put,pz]
         refine tq 9 132 ?_
         simp only[Act.put,pz]
         refine tq 10 133 ?_
         simp only[Act.put,pz]
         refine tq 11 134 ?_
         simp only[Act.put,pz]
         refine q1o (i:=12) (v:=VJ) 135 rfl rfl (by kernel_rfl) (by kernel_rfl) (by kernel_rfl) (fun _ _ _ h=>h) (by rfl) (by assumption) ?_ ?_
         ·intro W hSw;exact j1d 45 (.tmp 134) rfl ⟨gw,tj*12,none⟩ _ rfl hSw.2
         simp only[Act.put,pz]
         refine q1o (i:=13) (v:=.bool false) 136 rfl rfl (by kernel_rfl) (by kernel_rfl) (by kernel_rfl) (fun _ _ _ h=>h) (by rfl) (by assumption) ?_ ?_
         ·intro W _;exact exec_neqv (.tmp 131) (.tmp 135) _ rfl VJ _ HNJ.out rfl rfl
         simp only[Act.put,pz]
         refine tq 14 137 ?_
         simp only[Act.put,pz]
         refine zD (by kernel_rfl) ?_ _
         clear hS0 hC0
         obtain⟨Wm,m1,m2,m3,xs',m4,m5⟩:=store_row HRV'.out hjd (apMk (-1000-(i:Int))) rfl (apMk_one _)
         have hKV:=kv_row HRV'.out
         have HSm:=zb (HQM.out _ Wm _ _ [gv] m2 hKV (fun k hk=>by simp at hk;subst hk;exact⟨by have:=HBS.out;omega,HVWB.out _ av5⟩) HRS'.out)
         have HMS:=zb m1
         have HM4:=zb m4
         have HM5:Hid (∀p,(j+1)*12≤p→xs'[p]?=YI[p]?):=zb (fun p hp=>by rw[m5 p hp];exact HRP.out p (by omega))
         have hwt:IntKind.i64.wrap ((tj:Int)+1)=((tj+1:Nat):Int):=by rw[IntKind.wrap_i64];omega
         have hm3:Wm.heap.size=wr.heap.size:=m3
         clear m1 m2 m3 m4 m5 hKV HRV' HRS' HRV HRP HRS
         go_wp2_with (refine ze rfl 45 (.tmp 145) (.tmp 144) rfl ⟨gv,j*12,none⟩ (.agg (apMk (-1000-(i:Int)))) rfl rfl Wm HMS.out ?_)
         have hgp:0<gk:=by have:=HGJ.out;omega
         go_roundg (gk-1)
         case measure=>omega
         case rel=>exact⟨j+1,xs',by omega,by have:=HGJ.out;omega,by go_num,by rw[←Nat.add_assoc,←HTJ.out];go_num,by rw[hm3];exact hbv,HM4.out,HM5.out,HSm.out⟩
        ·have hjdi:¬(j:Int)<(d:Int):=by omega
         have hje:j=d:=by omega
         have hA:Below wr.heap.size wr (wr.alloc (.cells (apNews (-2000-(i:Int)) (-3000-(i:Int))).toArray 45)):=(zB _ _).alloc (zL _) _
         have HRA:=zb (zp HRV.out hA)
         have HSA:=zb (HQB.out _ _ _ _ hA HRS.out)
         have HBL:=zb (ap_bld2 (-2000-(i:Int)) (-3000-(i:Int)) wr)
         clear hA HRS HRP
         go_wp2_with (first
          |(refine ap_bslice rfl 33 2 #[(0,.tmp 149),(1,.tmp 152)] rfl #[(0,.agg (apMk (-2000-(i:Int)))),(1,.agg (apMk (-3000-(i:Int))))] (by simp[Act.eval]) _ _ HBL.out ?_)
          |(at_builtin;refine wp_appK rfl (.tmp 146) (.tmp 153) 33 45 rfl Tryz.underlying33 hi0 hz0 hz1 hz2 rfl (by decide) bs0 (.slice va d vc) d xs (wr.alloc (.cells (apNews (-2000-(i:Int)) (-3000-(i:Int))).toArray 45)) rfl HRA.out ⟨wr.heap.size,0,none⟩ 2 2 (apNews (-2000-(i:Int)) (-3000-(i:Int))) rfl rfl (ap_news _ _ _) (apNews_one _ _) (by omega) (by decide) (by simp;omega) (by decide) ?_;intro v7 w7 own7 gr7 at7;have HS7:=zb (HQM.out _ w7 _ _ _ (grown_only gr7) (kv_row HRA.out) (fun k hk=>⟨by have:=j0L HRA.out k hk;have:=HBS.out;omega,HVWB.out _ (j0L HRA.out k hk)⟩) HSA.out);clear own7 gr7 at7))
         have hgp:0<g1:=by have:=HG1.out;omega
         go_roundg (g1-1)
         case measure=>omega
         case rel=>exact⟨i+1,by omega,by have:=HG1.out;omega,by go_num,by have:=HTD.out;congr 1;omega,HS7.out⟩
    ·have hmi:¬(i:Int)<(n2:Int):=by omega
     have HS3w:=zb (HQP.out _ _ _ (by omega) HS2w.out)
     have HV3:=zb HV2.out
     have hbw:bs0≤w2.heap.size:=hw2
     clear HS2w HV2
     go_wp2_with fail
     go_loopg [17,24] d (fun g vt vj wr=>ApV SS i bs0 d tk (.slice va d vc) YI g vt vj wr)
     case atStart=>exact⟨0,_,zZ _,by omega,rfl,rfl,hbw,HV3.out,fun p _=>rfl,HS3w.out⟩
     case round =>
      obtain⟨j,xs,hj,hgj,rfl,rfl,hbv,rv,rp,rs⟩:=hrel
      have HGJ:=zb hgj
      have HRV:=zb rv
      have HRP:=zb rp
      have HRS:=zb rs
      clear hgj rv rp rs HV3 HS3w
      by_cases hjd:j<d
      ·have hjdi:(j:Int)<(d:Int):=by omega
       obtain⟨gv,cv,ev⟩:=zJ HRV.out (by omega)
       obtain⟨rfl,rfl⟩:va=some ⟨gv,0,none⟩∧vc=cv:=by simpa using ev
       obtain⟨csv,kv1,av1,av2,_,_,av5⟩:=q6w HRV.out
       unfold maxLen at av2
       have hgv:gv<wr.heap.size:=zd kv1
       obtain⟨_,_,rwt,_⟩:=HQR.out _ _ _ HRS.out
       obtain⟨gw,cw,ew⟩:=zJ rwt (by omega)
       obtain⟨rfl,rfl⟩:ua=some ⟨gw,0,none⟩∧uc=cw:=by simpa using ew
       obtain⟨csw,kw1,aw1,aw2,_⟩:=q6w rwt
       unfold maxLen at aw2
       have hgw:gw<wr.heap.size:=zd kw1
       have D3:=(zB wr.heap.size wr).drew
       obtain⟨VJ,hVJ⟩:∃V,V=VV (tk+j):=⟨_,rfl⟩
       have HNJ:=zb (hVJ.trans (HNV.out (tk+j)))
       have hL:∀W,Below wr.heap.size wr W→(Instr.loadAt 45 (.pointer (some ⟨gv,j*12,none⟩))).run Tryz.prog W=.ok VJ W∧(Instr.loadAt 45 (.pointer (some ⟨gw,(tk+j)*12,none⟩))).run Tryz.prog W=.ok VJ W:=fun W hW=>by
        rw[hVJ]
        exact⟨HPVI.out W _ _ _ j xs hjd (zp HRV.out hW) HRP.out,HCW.out W _ _ _ (tk+j) (by omega) (zp rwt hW)⟩
       have hC0:=hL _ D3
       have HRV':=zb (zp HRV.out D3)
       have HRS':=zb (HQB.out _ _ _ _ D3 HRS.out)
       clear ev ew kv1 kw1 hVJ hL rwt
       have hti:¬(n:Int)≤((tk+j:Nat):Int):=by omega
       have htn:¬n≤tk+j:=by omega
       have htn2:((tk+j:Nat):Int)<(n:Int):=by omega
       obtain⟨tj,htj⟩:∃tj,tj=tk+j:=⟨_,rfl⟩
       rw[←htj]at hti htn htn2 hC0 ⊢
       have HTJ:=zb htj
       have htj13:tj≤n:=by omega
       clear htj
       go_wp2_with fail
       refine wp_region_held_drew (S:=fun w'=>(Instr.loadAt 45 (.pointer (some ⟨gv,j*12,none⟩))).run Tryz.prog w'=.ok VJ w'∧(Instr.loadAt 45 (.pointer (some ⟨gw,tj*12,none⟩))).run Tryz.prog w'=.ok VJ w') (by kernel_rfl) hC0 (fun hS0=>?_)
       simp only[rz,Nat.zero_add,Nat.reduceAdd]
       refine tq 0 123 ?_
       simp only[Act.put,pz]
       refine tq 1 124 ?_
       simp only[Act.put,pz]
       refine tq 2 125 ?_
       simp only[Act.put,pz]
       refine tq 3 126 ?_
       simp only[Act.put,pz]
       refine tq 4 127 ?_
       simp only[Act.put,pz]
       refine tq 5 128 ?_
       simp only[Act.put,pz]
       refine tq 6 129 ?_
       simp only[Act.put,pz]
       refine tq 7 130 ?_
       simp only[Act.put,pz]
       refine q1o (i:=8) (v:=VJ) 131 rfl rfl (by kernel_rfl) (by kernel_rfl) (by kernel_rfl) (fun _ _ _ h=>h) (by rfl) (by assumption) ?_ ?_
       ·intro W hSw;exact j1d 45 (.tmp 130) rfl ⟨gv,j*12,none⟩ _ rfl hSw.1
       simp only[Act.put,pz]
       refine tq 9 132 ?_
       simp only[Act.put,pz]
       refine tq 10 133 ?_
       simp only[Act.put,pz]
       refine tq 11 134 ?_
       simp only[Act.put,pz]
       refine q1o (i:=12) (v:=VJ) 135 rfl rfl (by kernel_rfl) (by kernel_rfl) (by kernel_rfl) (fun _ _ _ h=>h) (by rfl) (by assumption) ?_ ?_
       ·intro W hSw;exact j1d 45 (.tmp 134) rfl ⟨gw,tj*12,none⟩ _ rfl hSw.2
       simp only[Act.put,pz]
       refine q1o (i:=13) (v:=.bool false) 136 rfl rfl (by kernel_rfl) (by kernel_rfl) (by kernel_rfl) (fun _ _ _ h=>h) (by rfl) (by assumption) ?_ ?_
       ·intro W _;exact exec_neqv (.tmp 131) (.tmp 135) _ rfl VJ _ HNJ.out rfl rfl
       simp only[Act.put,pz]
       refine tq 14 137 ?_
       simp only[Act.put,pz]
       refine zD (by kernel_rfl) ?_ _
       clear hS0 hC0
       obtain⟨Wm,m1,m2,m3,xs',m4,m5⟩:=store_row HRV'.out hjd (apMk (-1000-(i:Int))) rfl (apMk_one _)
       have hKV:=kv_row HRV'.out
       have HSm:=zb (HQM.out _ Wm _ _ [gv] m2 hKV (fun k hk=>by simp at hk;subst hk;exact⟨by have:=HBS.out;omega,HVWB.out _ av5⟩) HRS'.out)
       have HMS:=zb m1
       have HM4:=zb m4
       have HM5:Hid (∀p,(j+1)*12≤p→xs'[p]?=YI[p]?):=zb (fun p hp=>by rw[m5 p hp];exact HRP.out p (by omega))
       have hwt:IntKind.i64.wrap ((tj:Int)+1)=((tj+1:Nat):Int):=by rw[IntKind.wrap_i64];omega
       have hm3:Wm.heap.size=wr.heap.size:=m3
       clear m1 m2 m3 m4 m5 hKV HRV' HRS' HRV HRP HRS
       go_wp2_with (refine ze rfl 45 (.tmp 145) (.tmp 144) rfl ⟨gv,j*12,none⟩ (.agg (apMk (-1000-(i:Int)))) rfl rfl Wm HMS.out ?_)
       have hgp:0<gk:=by have:=HGJ.out;omega
       go_roundg (gk-1)
       case measure=>omega
       case rel=>exact⟨j+1,xs',by omega,by have:=HGJ.out;omega,by go_num,by rw[←Nat.add_assoc,←HTJ.out];go_num,by rw[hm3];exact hbv,HM4.out,HM5.out,HSm.out⟩
      ·have hjdi:¬(j:Int)<(d:Int):=by omega
       have hje:j=d:=by omega
       have hA:Below wr.heap.size wr (wr.alloc (.cells (apNews (-2000-(i:Int)) (-3000-(i:Int))).toArray 45)):=(zB _ _).alloc (zL _) _
       have HRA:=zb (zp HRV.out hA)
       have HSA:=zb (HQB.out _ _ _ _ hA HRS.out)
       have HBL:=zb (ap_bld2 (-2000-(i:Int)) (-3000-(i:Int)) wr)
       clear hA HRS HRP
       go_wp2_with (first
        |(refine ap_bslice rfl 33 2 #[(0,.tmp 149),(1,.tmp 152)] rfl #[(0,.agg (apMk (-2000-(i:Int)))),(1,.agg (apMk (-3000-(i:Int))))] (by simp[Act.eval]) _ _ HBL.out ?_)
        |(at_builtin;refine wp_appK rfl (.tmp 146) (.tmp 153) 33 45 rfl Tryz.underlying33 hi0 hz0 hz1 hz2 rfl (by decide) bs0 (.slice va d vc) d xs (wr.alloc (.cells (apNews (-2000-(i:Int)) (-3000-(i:Int))).toArray 45)) rfl HRA.out ⟨wr.heap.size,0,none⟩ 2 2 (apNews (-2000-(i:Int)) (-3000-(i:Int))) rfl rfl (ap_news _ _ _) (apNews_one _ _) (by omega) (by decide) (by simp;omega) (by decide) ?_;intro v7 w7 own7 gr7 at7;have HS7:=zb (HQM.out _ w7 _ _ _ (grown_only gr7) (kv_row HRA.out) (fun k hk=>⟨by have:=j0L HRA.out k hk;have:=HBS.out;omega,HVWB.out _ (j0L HRA.out k hk)⟩) HSA.out);clear own7 gr7 at7))
       have hgp:0<g1:=by have:=HG1.out;omega
       go_roundg (g1-1)
       case measure=>omega
       case rel=>exact⟨i+1,by omega,by have:=HG1.out;omega,by go_num,by have:=HTD.out;congr 1;omega,HS7.out⟩
  ·have hini:¬(i:Int)≤(n:Int):=by omega
   obtain rfl:i=n+1:=by omega
   rw[HTE.out]
   go_wp2_with fail
   go_ret
   exact⟨(show _=Ending.returned (.bool true) from rfl).trans rfl,(HQR.out _ _ _ HSi.out).2.2.2⟩
end Go.Proofs.YtiamjjonoeaggabGreatDoor
