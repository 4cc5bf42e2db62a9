import Derived.Test.YtiamjjonoeaggaaGreatDoorGA
import Derived.Test.YtiamjjonoeaggaaGreatDoorG48
import Derived.Test.YtiamjjonoeaggaaGreatDoorRows
import Derived.Test.YtiamjjonoeaggaaGreatDoorCards
import Derived.Test.YtiamjjonoeaggaaGreatDoorTie
import Derived.SevenTiedAt
import Derived.SizedLaws
import Derived.ProofKit
import Derived.LaidMore
import Derived.OpenShut
import Derived.Stop.Joined
import Derived.Deep.DeepHandedRow
set_option maxRecDepth 100000
set_option maxHeartbeats 16000000
namespace Go.Proofs.YtiamjjonoeaggaaGreatDoor
open Go.ChangeShapes Go.WideShapes Go.ChangeAt Go.WideElems Go.RowKit
theorem ownT:ownKnob Tryz.prog.godebug=none:=by kernel_rfl
theorem laidOutT:laidOutB Tryz.prog=true:=by kernel_rfl
theorem bs_dataT (s:ByteArray):bs s.data.toList=.string s:=by
 cases s
 simp[bs]
theorem wf_i64 {n:Int}(h:(Lit.int .i64 n).wf=true):-9223372036854775808≤n∧n≤9223372036854775807:=by
 simp only[Lit.wf,Bool.and_eq_true,decide_eq_true_eq]at h
 exact⟨h.1,h.2⟩
theorem bulk_one {H:Type}(d:DataW H):1≤Rows.uptoBulk d:=by
 cases d with
 |lit l=>cases l<;>simp[Rows.uptoBulk]
 |nil=>simp[Rows.uptoBulk]
 |ptr d=>simp[Rows.uptoBulk]
 |slice a b=>simp[Rows.uptoBulk]
 |agg a=>simp[Rows.uptoBulk]
 |iface t d=>simp[Rows.uptoBulk]
 |map a=>simp[Rows.uptoBulk]
 |held h=>simp[Rows.uptoBulk]
theorem j6u {H:Type}(l:List (DataW H)):l.length≤Rows.uptoBulkAll l:=by
 induction l with
 |nil=>simp[Rows.uptoBulkAll]
 |cons x r ih =>
  have:=bulk_one x
  simp only[Rows.uptoBulkAll,List.length_cons]
  omega
theorem bulk_slice {H:Type}{es sp:List (DataW H)}(h:Rows.uptoSmall H ([DataW.slice es sp]++[])=true):es.length≤1048576:=by
 have h2:=of_decide_eq_true h
 simp only[List.append_nil,Rows.uptoBulkAll,Rows.uptoBulk]at h2
 have:=j6u es
 omega
theorem open_script4 {H:Type}{enc:TypeId × Value→H}{W:World}{base:Nat}{spare:Nat→Bool}{held:Bool}{fuel:Nat}{cs:List Value}{x:DataW H × List MemPlace}(h:DataW.trod enc Tryz.prog W base spare held fuel 67 cs=some x) :
  (cs=[.slice none 0 0])∨∃(a:Addr) (len cap:Nat),cs=[.slice (some a) len cap]∧(∃es sp,x.1=.slice es sp∧es.length=len)∧∀i,i<len→∃(k ka kb:Int) (s:ByteArray),W.cell? (a.add (i*4))=some (.int .i64 k)∧W.cell? (a.add (i*4+1))=some (.int .i64 ka)∧W.cell? (a.add (i*4+2))=some (.int .i64 kb)∧W.cell? (a.add (i*4+3))=some (.string s)∧s.size≤maxLen∧(-9223372036854775808≤ka∧ka≤9223372036854775807)∧(-9223372036854775808≤kb∧kb≤9223372036854775807):=by
 have ce:Tryz.prog.cellsOf 112=4:=by kernel_rfl
 rcases Go.Deep.open_slice Tryz.underlying67 h with⟨h0,_⟩|⟨a,len,cap,m,n,D,Pl,rfl,hb,hl,hm,hmm,rfl,hx⟩
 ·exact .inl h0
 ·have hlm:len≤m:=by rw[hmm];split<;>omega
  refine .inr ⟨a,len,cap,rfl,⟨_,_,rfl,by simp⟩,fun i hi=>?_⟩
  obtain⟨cs',h1,h2⟩:=hx i (by omega)
  rw[ce]at h1
  obtain⟨_,hlen,hcell⟩:=World.cells?_some h1
  obtain⟨xs,k,hk,hxy,_,hxl,hf⟩:=DataW.trod_struct Tryz.underlying112 h2
  match xs,hxl,cs',hlen with
  | [y0,y1,y2,y3],_,[v0,v1,v2,v3],_ =>
   have g0:=hf 0 _ rfl
   have g1:=hf 1 _ rfl
   have g2:=hf 2 _ rfl
   have g3:=hf 3 _ rfl
   have c3:Tryz.prog.cellsOf 3=1:=by kernel_rfl
   have c9:Tryz.prog.cellsOf 9=1:=by kernel_rfl
   simp[c3]at g0
   simp[c3]at g1
   simp[c3]at g2
   simp[c9]at g3
   obtain⟨kk,e0,_⟩:=DataW.trod_int Tryz.underlying3 g0
   obtain⟨ka,e1,_,w1⟩:=DataW.trod_int Tryz.underlying3 g1
   obtain⟨kb,e2,_,w2⟩:=DataW.trod_int Tryz.underlying3 g2
   obtain⟨ss,e3,_,e4⟩:=DataW.trod_string Tryz.underlying9 g3
   have d0:=hcell 0 (by omega)
   have d1:=hcell 1 (by omega)
   have d2:=hcell 2 (by omega)
   have d3:=hcell 3 (by omega)
   rw[Go.Deep.add_add]at d0 d1 d2 d3
   simp at e0 e1 e2 e3
   subst e0 e1 e2 e3
   exact⟨kk,ka,kb,ss,by simpa using d0,by simpa using d1,by simpa using d2,by simpa using d3,e4,wf_i64 w1,wf_i64 w2⟩
theorem scr_of {W:World}{a:Addr}{len:Nat}(h0:0<len)(h:∀i,i<len→∃(k ka kb:Int) (s:ByteArray),W.cell? (a.add (i*4))=some (.int .i64 k)∧W.cell? (a.add (i*4+1))=some (.int .i64 ka)∧W.cell? (a.add (i*4+2))=some (.int .i64 kb)∧W.cell? (a.add (i*4+3))=some (.string s)∧s.size≤maxLen∧(-9223372036854775808≤ka∧ka≤9223372036854775807)∧(-9223372036854775808≤kb∧kb≤9223372036854775807)) :
  ∃b off K A B S,a=⟨b,off,none⟩∧Scr4 W b off len K A B S:=by
 obtain⟨b,off,spot⟩:=a
 obtain⟨_,_,_,_,c0,_⟩:=h 0 h0
 have hspot:spot=none:=by simpa[Addr.add]using World.cell?_spot c0
 subst hspot
 have hb:b<W.heap.size:=by have:=World.block_lt_of_cell? W _ c0;simpa[Addr.add]using this
 have h7:∀i,i<len→∃z:Int × Int × Int × By,W.rangeAt b (off+i*4) [.int .i64 z.1,.int .i64 z.2.1,.int .i64 z.2.2.1,bs z.2.2.2]∧((-9223372036854775808≤z.2.1∧z.2.1≤9223372036854775807)∧(-9223372036854775808≤z.2.2.1∧z.2.2.1≤9223372036854775807)∧z.2.2.2.length≤maxLen):=by
  intro i hi
  obtain⟨k,ka,kb,s,d0,d1,d2,d3,d4,d5,d6⟩:=h i hi
  rw[q2e]at d0 d1 d2 d3
  refine⟨(k,ka,kb,s.data.toList),fun j v hv=>?_,d5,d6,by show s.data.toList.length≤maxLen;rw[Array.length_toList];exact d4⟩
  have hj:j<4:=(List.getElem?_eq_some_iff.1 hv).1
  rcases(by omega:j=0∨j=1∨j=2∨j=3)with rfl|rfl|rfl|rfl
  ·rw[Nat.add_zero];simp at hv;rw[←hv];exact d0
  ·simp at hv;rw[←hv,Nat.add_assoc];exact d1
  ·simp at hv;rw[←hv,Nat.add_assoc];exact d2
  ·simp only[bs_dataT]at hv;simp at hv;rw[←hv,Nat.add_assoc];exact d3
 obtain⟨z,hz⟩:=Go.Deep.choose_lt h7
 exact⟨b,off,fun i=>(z i).1,fun i=>(z i).2.1,fun i=>(z i).2.2.1,fun i=>(z i).2.2.2,rfl,fun i hi=>(hz i hi).1,fun i hi=>(hz i hi).2,hb⟩
end Go.Proofs.YtiamjjonoeaggaaGreatDoor
namespace Go.Proofs.YtiamjjonoeaggaaGreatDoor
open Go
open Go.ChangeShapes Go.WideShapes Go.ChangeAt Go.WideElems Go.RowKit
theorem law_Feeds (ao:OA)(len cap:Nat)(K A B:Nat→Int)(S:Nat→By)(w:World)(h:0<len→∃b off,ao=some ⟨b,off,none⟩∧Scr4 w b off len K A B S)(hlen:len≤1048576) :
  Calls Tryz.prog 5 #[.slice ao len cap] w fun e w'=>e=.returned (.bool true)∧Below w.heap.size w w':=by
 have HP:=zb (law_plays ao len cap K A B S 3 false w h hlen)
 clear h
 go_enter Tryz.func5,Tryz.ntmps5
 go_wp2_with fail
 refine HP.out.mono ?_
 rintro e w1 ⟨rfl,b1⟩
 have HB:=zb b1
 clear b1 HP
 go_wp2_with fail
 go_ret
 exact⟨rfl,HB.out⟩
theorem door_Feeds (os:Os)(args:Array Value):laidMetH Tryz.prog Rows.feedsUptoRow.laid ((World.doorLaid Tryz.prog 400 os).forCall (fun _ _=>0) ⟨#[],args,[]⟩).memory:=
 laidMetH_of_parts3 (fuel:=8) (laidMet_of_run' 8 (by kernel_rfl) (by kernel_rfl)) (by kernel_rfl) (by kernel_rfl)
theorem reads_Feeds (os:Os){H:Type}(enc:TypeId × Value→H):∃places,DataW.whole enc Tryz.prog ((World.doorLaid Tryz.prog 400 os).forCall (fun _ _=>0) ⟨#[],#[.slice none 0 0],[]⟩).memory Tryz.f5.params.toList Rows.feedsSpec.vars false #[Value.slice none 0 0].toList 8=some ([.nil],[],places):=
 ⟨[],by kernel_rfl⟩
theorem ok_Feeds (os:Os):Input.okWideB Tryz.prog ((World.doorLaid Tryz.prog 400 os).forCall (fun _ _=>0) ⟨#[],#[.slice none 0 0],[]⟩) 5 ⟨#[],#[.slice none 0 0],[]⟩=true:=by kernel_rfl
theorem feeds_lifted (os:Os)(started:os.Started)(H:Type)(enc:TypeId × Value→H)(F:Stop.Interp) :
  ReturnsInHanded {} Tryz.checked os 5 .any ((Rows.OpenSpec.upto Rows.feedsSpec).preRow enc Tryz.prog Tryz.f5 Rows.feedsUptoRow.domain false Rows.feedsUptoRow.laid) (((Rows.OpenSpec.upto Rows.feedsSpec).at F).post enc Tryz.prog Tryz.f5 false true false false):=by
 obtain⟨places,hx⟩:=reads_Feeds os enc
 refine returnsInHanded_of_row (C:=Tryz.checked) (s:=Rows.OpenSpec.upto Rows.feedsSpec) ownT started (by kernel_rfl) Tryz.func5
  ⟨World.doorLaid Tryz.prog 400 os,fun _ _=>0,⟨#[],#[.slice none 0 0],[]⟩,rfl,World.shaped_of_RefB (by kernel_rfl) (by kernel_rfl),rfl,(Input.okWide_of_okWideB (ok_Feeds os)).2,OpenSpec.preRow_of_cond 8 hx (by kernel_rfl) (fun k hk=>by cases hk;kernel_rfl) (by kernel_rfl) (door_Feeds os _),by
   simp only[Assume.holds]
   exact⟨by simp,by simp,fun _=>Modest.zero,by simp,by simp⟩⟩ ?_
 intro W base args ds gs before hval0 hW _ hcond _ _ _ _
 have hval:∀(j:Nat) t v,Tryz.f5.params[j]?=some t→args[j]?=some v→Value.okWide Tryz.prog W .any base t v:=hval0
 have hW':=hW
 obtain⟨p,q,hA0,hV,rfl,hfz,hnd⟩:=hW
 have hA:DataW.TrodAll enc Tryz.prog W 0 (fun _=>true) true Tryz.f5.params.toList args.toList ds p:=hA0
 rw[Tryz.params5]at hA hval
 obtain⟨v0,d0,rfl,rfl,h0⟩:=trodAll_one hA
 obtain⟨rfl,rfl⟩:=trodVars_none hV
 have h0k:=h0
 obtain⟨fuel,hf⟩:=h0
 clear hA0 hval0
 simp only[List.append_nil]at hW'
 have hsm:=hcond _ rfl
 have hlt:∀x∈p,x.block<W.heap.size:=fun x hx=>by simpa using hW'.lt x hx
 have hargs:∀(W':World),Below W.heap.size W W'→DataW.Trod enc Tryz.prog W' 0 (fun b=>decide (b<W.heap.size)) true 67 v0 d0 p:=
  fun W' hn=>Below.trod laidOutT (by kernel_rfl) (of_decide_eq_true (by kernel_rfl)) h0k hn hlt
 have fin:∀W',Below W.heap.size W W'→((Rows.OpenSpec.upto Rows.feedsSpec).at F).post enc Tryz.prog Tryz.f5 false true false false W #[v0] (.bool true) W':=fun W' hn =>
  ⟨_,_,_,[],_,[],hW',trodAll_mk1 (shut_bool Tryz.underlying4 _),trodAll_mk1 (hargs _ hn),rfl,hn.frame _,fun h=>by cases h⟩
 have key:Calls Tryz.prog 5 #[v0] W fun e w'=>e=.returned (.bool true)∧Below W.heap.size W w':=by
  obtain⟨a0,len0,cap0,rfl⟩:=okWide_slice Tryz.underlying67 (hval 0 67 v0 rfl rfl)
  rcases open_script4 hf with h1|⟨a,len,cap,h1,⟨es,sp,hdat,hes⟩,h6⟩
  ·simp[Value.cells]at h1
   obtain⟨rfl,rfl,rfl⟩:=h1
   exact law_Feeds none 0 0 (fun _=>0) (fun _=>0) (fun _=>0) (fun _=>[]) W (fun h=>absurd h (by omega)) (by omega)
  ·simp[Value.cells]at h1
   obtain⟨rfl,rfl,rfl⟩:=h1
   simp only[]at hdat
   subst hdat
   have hle:es.length≤1048576:=bulk_slice hsm
   by_cases hz:len0=0
   ·exact law_Feeds _ len0 _ (fun _=>0) (fun _=>0) (fun _=>0) (fun _=>[]) W (fun h=>absurd h (by omega)) (by omega)
   ·obtain⟨b,off,K,A,B,S,rfl,hscr⟩:=scr_of (by omega) h6
    exact law_Feeds _ len0 _ K A B S W (fun _=>⟨b,off,rfl,hscr⟩) (by omega)
 refine key.mono fun e W' ⟨he,hw⟩=>?_
 subst he
 exact⟨_,rfl,fin W' hw⟩
theorem feeds_holds:Rows.FeedsUptoSaid:=
 OpenClaim.holds_of_cond 5 Tryz.f5 rfl rfl rfl rfl rfl rfl rfl ⟨rfl,rfl,rfl,rfl,rfl⟩ rfl rfl rfl rfl rfl (by kernel_rfl) Tryz.func5 (by kernel_rfl)
  (of_decide_eq_true (by kernel_rfl)) (by unfold Func.isWrapper;first|(rw[if_pos (by decide +kernel)];kernel_rfl)|(rw[if_neg (by decide +kernel)];exact⟨rfl,rfl⟩))
  (fun os started H enc _ F=>by rw[OpenClaim.pre_eq_preRow];exact feeds_lifted os started H enc F)
theorem feeds_card:Rows.FeedsUptoCardSaid:=
 Claim7.holds_tied_plain_at .later [] _ _ _ _
  feeds_holds (fun _ h=>by cases h) (by kernel_rfl) (fun _ h=>by cases h) feedsUpto_row_tie rfl ⟨rfl,rfl⟩ (by kernel_rfl) rfl
  (fun f fn hf hfn=>by
    obtain rfl:f=5:=Option.some.inj ((show Tryz.prog.funcNamed Rows.feedsUptoRow.func=some 5 by kernel_rfl).symm.trans hf) |>.symm
    obtain rfl:fn=Tryz.f5:=(Option.some.inj (Tryz.func5.symm.trans hfn)).symm
    exact⟨by kernel_rfl,fun j t ht=>by
     rw[Tryz.params5]at ht
     have h3:t=67:=by
      rcases j with _|j
      ·simpa using ht.symm
      ·simp at ht
     subst h3
     exact(show Tryz.prog.wantsStandIn 67=false by kernel_rfl)⟩)
  (by kernel_rfl)
#print axioms feeds_card
end Go.Proofs.YtiamjjonoeaggaaGreatDoor
