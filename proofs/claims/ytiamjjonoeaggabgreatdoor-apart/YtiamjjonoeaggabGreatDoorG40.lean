import Derived.Test.YtiamjjonoeaggabGreatDoorGA
import Derived.Test.YtiamjjonoeaggabGreatDoorG01
import Derived.Test.YtiamjjonoeaggabGreatDoorG32
import Derived.Deep.LoopGhost
set_option maxRecDepth 100000
set_option maxHeartbeats 16000000
namespace Go.Proofs.YtiamjjonoeaggabGreatDoor
open Go.RowKit
def q5G:List (By × Nat × Nat):=[([],3,0),([49],3,0),([64],3,1),([64,120],3,1),([64,49,32],3,3),([64,49,32,32,112,40,49,41],3,3),([64,55,48,48,48,48],3,5),([64,54,53,53,51,54],3,5),([64,48,48,48,48,48,49],3,6),([64,49,32,112,40,49,44,50],3,8),([64,49,32,112,40,41],3,5),([64,49,32,112,40,120,41],3,5),([64,49,32,112,40,49,50,41],3,6),([64,49,32,112,40,49,44,50,44,51,41],3,8),([64,49,32,97,98,99,100,101,102,103,104,105,40,49,41],3,11),([64,49,32,112,40,49,41,113,40,49,41],3,7),([64,49,10],3,2),([64,49,32,112,32,40,49,41],3,4)]
def q4A:List (By × Nat × Nat):=[([],3,0),([112,40,49,48,41],3,2),([112,40,120],3,3),([112,40,49,48,48,48,41],2,2),([112,40,120,41,33],2,4),([112,40,120,41,32,113,40,120,41],3,5),([111,110,99,101,91,53,44,51,93,40,112,40,49,41,41],4,4),([115,111,111,110,91,48,44,42,93,40,112,40,49,41,41],5,4),([111,114,40,112,40,120,41,44,113,40,121,41,41],6,0),([97,110,100,40,112,40,120,41,44,98,117,116,40,112,40,121,41,44,112,40,120,41,41,41],6,9),([101,120,105,115,116,115,32,120,40,112,40,121,41,41],6,0),([117,110,116,105,108,91,48,44,49,93,40,112,40,120,41,44,113,40,49,41,41],6,0),([117,110,115,105,110,99,101,91,48,44,42,93,40,112,40,120,44,121,41,44,113,40,120,41,41],6,0),([97,110,100,40,111,114,40,112,40,120,41,44,113,40,121,41,41,44,110,101,120,116,91,50,44,49,93,40,112,40,120,41,41,41],4,22),([111,110,99,101,91,49,93,40,112,40,120,41,41],3,6),([97,110,100,40,112,40,120,41,41],3,8),([112,114,101,118,91,48,44,49,93,40,112,114,101,118,91,48,44,49,93,40,112,114,101,118,91,48,44,49,93,40,112,114,101,118,91,48,44,49,93,40,112,114,101,118,91,48,44,49,93,40,112,114,101,118,91,48,44,49,93,40,112,114,101,118,91,48,44,49,93,40,112,114,101,118,91,48,44,49,93,40,112,40,120,41],3,80),([97,98,99,100,101,102,103,104,105,40,49,41],2,0)]
abbrev rfCs (p:By × Nat × Nat):List Value:=[.string ⟨p.1.toArray⟩,.int .i64 p.2.1,.int .i64 p.2.2]
def q3U (l:List (By × Nat × Nat)):List Value:=l.flatMap rfCs
theorem rf_at (l:List (By × Nat × Nat)):∀(k:Nat) (h:k<l.length) (j:Nat),j<3→(q3U l)[k*3+j]?=(rfCs l[k])[j]?:=by
 induction l with
 |nil=>intro k h;simp at h
 |cons a r ih =>
  intro k h j hj
  have e:q3U (a::r)=rfCs a++q3U r:=rfl
  rw[e]
  cases k with
  |zero=>rw[Nat.zero_mul,Nat.zero_add,List.getElem?_append_left (by simpa using hj)];rfl
  |succ k =>
   rw[List.getElem?_append_right (by simp;omega)]
   have:=ih k (by simpa using h) j hj
   rw[show(k+1)*3+j-(rfCs a).length=k*3+j by simp;omega,this]
   rfl
theorem j8E {w:World}{g:Nat}{l:List (By × Nat × Nat)}(h:w.heap[g]?=some (.cells (q3U l).toArray 85 (0,0))){k:Nat}(hk:k<l.length):w.cell? ⟨g,k*3,none⟩=some (.string ⟨l[k].1.toArray⟩)∧w.cell? ⟨g,k*3+1,none⟩=some (.int .i64 l[k].2.1)∧w.cell? ⟨g,k*3+2,none⟩=some (.int .i64 l[k].2.2):=by
 have q:=fun j hj=>(zC w g (k*3+j) _ _ _ h).trans ((List.getElem?_toArray ..).trans (rf_at l k hk j hj))
 exact⟨q 0 (by omega),q 1 (by omega),q 2 (by omega)⟩
theorem fi_lt {w:World}{b:Nat}{o:Obj}(h:w.heap[b]?=some o):b<w.heap.size:=(Array.getElem?_eq_some_iff.1 h).1
theorem j8Z {P:Program}{ops:Array Oper}{rest:List Oper}{o:Oper}{a:Act}{W:World}{Q:Exit→Act→World→Prop}(hgd:o.guard=none)(ty:TypeId)(n:Nat)(parts:Array (Nat × Operand))(ho:o.op=.buildSlice ty n parts)
  (xs:Array (Nat × Value))(hx:(parts.map fun(i,x)=>(i,a.eval x))=xs)(v:Value)(W':World)(hr:(Instr.buildSlice ty n xs).run P W=.ok v W')
  (h:wpList P ops Q rest (a.put o.dst v) W'):wpList P ops Q (o::rest) a W:=by
 refine wpList_plain hgd fun _ hK=>?_
 unfold Oper.wp execOp
 simp only[ho,hx,hr,Sem.run_bind,Sem.run_pure,Result.andThen_ok]
 exact hK _ _ h
theorem bldL (W:World):(Instr.buildSlice 82 18 #[(0,.agg #[.string ⟨#[]⟩,.int .i64 3,.int .i64 0]),(1,.agg #[.string ⟨#[49]⟩,.int .i64 3,.int .i64 0]),(2,.agg #[.string ⟨#[64]⟩,.int .i64 3,.int .i64 1]),(3,.agg #[.string ⟨#[64,120]⟩,.int .i64 3,.int .i64 1]),(4,.agg #[.string ⟨#[64,49,32]⟩,.int .i64 3,.int .i64 3]),(5,.agg #[.string ⟨#[64,49,32,32,112,40,49,41]⟩,.int .i64 3,.int .i64 3]),(6,.agg #[.string ⟨#[64,55,48,48,48,48]⟩,.int .i64 3,.int .i64 5]),(7,.agg #[.string ⟨#[64,54,53,53,51,54]⟩,.int .i64 3,.int .i64 5]),(8,.agg #[.string ⟨#[64,48,48,48,48,48,49]⟩,.int .i64 3,.int .i64 6]),(9,.agg #[.string ⟨#[64,49,32,112,40,49,44,50]⟩,.int .i64 3,.int .i64 8]),(10,.agg #[.string ⟨#[64,49,32,112,40,41]⟩,.int .i64 3,.int .i64 5]),(11,.agg #[.string ⟨#[64,49,32,112,40,120,41]⟩,.int .i64 3,.int .i64 5]),(12,.agg #[.string ⟨#[64,49,32,112,40,49,50,41]⟩,.int .i64 3,.int .i64 6]),(13,.agg #[.string ⟨#[64,49,32,112,40,49,44,50,44,51,41]⟩,.int .i64 3,.int .i64 8]),(14,.agg #[.string ⟨#[64,49,32,97,98,99,100,101,102,103,104,105,40,49,41]⟩,.int .i64 3,.int .i64 11]),(15,.agg #[.string ⟨#[64,49,32,112,40,49,41,113,40,49,41]⟩,.int .i64 3,.int .i64 7]),(16,.agg #[.string ⟨#[64,49,10]⟩,.int .i64 3,.int .i64 2]),(17,.agg #[.string ⟨#[64,49,32,112,32,40,49,41]⟩,.int .i64 3,.int .i64 4])]).run Tryz.prog W=.ok (.slice (some ⟨W.heap.size,0,none⟩) 18 18) (W.alloc (.cells (q3U q5G).toArray 85)):=by kernel_rfl
theorem j9x (w:World):Calls Tryz.prog 31 #[] w fun e w'=>∃g,e=.returned (.slice (some ⟨g,0,none⟩) 18 18)∧w'.heap[g]?=some (.cells (q3U q5G).toArray 85 (0,0))∧Below w.heap.size w w':=by
 have HB:=zb (bldL w)
 go_enter Tryz.func31,Tryz.ntmps31
 go_wp2_with (refine j8Z rfl 82 18 #[(0,.tmp 1),(1,.tmp 2),(2,.tmp 3),(3,.tmp 4),(4,.tmp 5),(5,.tmp 6),(6,.tmp 7),(7,.tmp 8),(8,.tmp 9),(9,.tmp 10),(10,.tmp 11),(11,.tmp 12),(12,.tmp 13),(13,.tmp 14),(14,.tmp 15),(15,.tmp 16),(16,.tmp 17),(17,.tmp 18)] rfl #[(0,.agg #[.string ⟨#[]⟩,.int .i64 3,.int .i64 0]),(1,.agg #[.string ⟨#[49]⟩,.int .i64 3,.int .i64 0]),(2,.agg #[.string ⟨#[64]⟩,.int .i64 3,.int .i64 1]),(3,.agg #[.string ⟨#[64,120]⟩,.int .i64 3,.int .i64 1]),(4,.agg #[.string ⟨#[64,49,32]⟩,.int .i64 3,.int .i64 3]),(5,.agg #[.string ⟨#[64,49,32,32,112,40,49,41]⟩,.int .i64 3,.int .i64 3]),(6,.agg #[.string ⟨#[64,55,48,48,48,48]⟩,.int .i64 3,.int .i64 5]),(7,.agg #[.string ⟨#[64,54,53,53,51,54]⟩,.int .i64 3,.int .i64 5]),(8,.agg #[.string ⟨#[64,48,48,48,48,48,49]⟩,.int .i64 3,.int .i64 6]),(9,.agg #[.string ⟨#[64,49,32,112,40,49,44,50]⟩,.int .i64 3,.int .i64 8]),(10,.agg #[.string ⟨#[64,49,32,112,40,41]⟩,.int .i64 3,.int .i64 5]),(11,.agg #[.string ⟨#[64,49,32,112,40,120,41]⟩,.int .i64 3,.int .i64 5]),(12,.agg #[.string ⟨#[64,49,32,112,40,49,50,41]⟩,.int .i64 3,.int .i64 6]),(13,.agg #[.string ⟨#[64,49,32,112,40,49,44,50,44,51,41]⟩,.int .i64 3,.int .i64 8]),(14,.agg #[.string ⟨#[64,49,32,97,98,99,100,101,102,103,104,105,40,49,41]⟩,.int .i64 3,.int .i64 11]),(15,.agg #[.string ⟨#[64,49,32,112,40,49,41,113,40,49,41]⟩,.int .i64 3,.int .i64 7]),(16,.agg #[.string ⟨#[64,49,10]⟩,.int .i64 3,.int .i64 2]),(17,.agg #[.string ⟨#[64,49,32,112,32,40,49,41]⟩,.int .i64 3,.int .i64 4])] (by rfl) _ _ HB.out ?_)
 go_ret
 exact⟨w.heap.size,rfl,zN w _,(zB _ _).alloc (zL _) _⟩
theorem j2y:∀p∈q4A,zA p.1=((p.2.1:Int),(p.2.2:Int))∧p.1.length≤240∧p.2.1≠0:=by decide +kernel
theorem info_bad {s:By}(h:(zA s).1≠0):q2s s=⟨false,false,0⟩:=by
 unfold q2s j1o j1p j1n
 rw[decide_eq_false h,if_neg h]
 rfl
def FfRel (w:World)(g:Nat)(vi:Value)(wr:World):Prop:=∃k:Nat,k≤18∧18-k≤g∧vi=.int .i64 k∧Below w.heap.size w wr
def q4G (m:Nat):By:=[112,40,120,41]++List.replicate m 32
def FlgRel (W:World)(g:Nat)(vs:Value)(wr:World):Prop:=∃m:Nat,4+m≤241∧241-(4+m)≤g∧vs=.string ⟨(q4G m).toArray⟩∧wr=W
theorem q8V (m:Nat):(q4G m).length=4+m:=by unfold q4G;simp;omega
theorem lng_more (m:Nat):ByteArray.mk (q4G m).toArray++ByteArray.mk #[32]=ByteArray.mk (q4G (m+1)).toArray:=by
 apply ByteArray.ext
 unfold q4G
 rw[List.replicate_succ']
 simp
theorem chk_long:zA (q4G 237)=(1,0):=by
 have hr:q1m (q4G 237)=(1,0):=by unfold q1m;rw[if_pos (by rw[q8V];omega)]
 unfold zA
 rw[hr,if_pos (by decide)]
theorem chk_just:zA (q4G 236)=(0,0)∧(q2s (q4G 236)).x=true∧(q2s (q4G 236)).y=false∧(q2s (q4G 236)).reach = -1:=by decide +kernel
theorem lng_take:(q4G 237).take 240=q4G 236:=by decide +kernel
theorem j3O (w:World):Calls Tryz.prog 14 #[] w fun e w'=>e=.returned (.bool true)∧Below w.heap.size w w':=by
 have HCK:Hid (∀k (h:k<q4A.length) W,Calls Tryz.prog 37 #[bs q4A[k].1] W fun e w'=>e=.returned (.tuple #[.agg #[.bool false,.bool false,.int .i64 0],.int .i64 q4A[k].2.1,.int .i64 q4A[k].2.2])∧Below W.heap.size W w'):=zb (fun k h W=>by
  obtain⟨h1,h2,h3⟩:=j2y q4A[k] (List.getElem_mem h)
  have h4:=info_bad (s:=q4A[k].1) (by rw[h1];show((q4A[k].2.1:Nat):Int)≠0;omega)
  have:=q6g q4A[k].1 (by unfold maxLen;omega) W
  rw[h1,h4]at this
  exact this)
 have HNW:Hid (∀k (h:k<q4A.length) W,Calls Tryz.prog 29 #[bs q4A[k].1] W fun e w'=>e=.returned (.tuple #[.pointer none,.int .i64 q4A[k].2.1,.int .i64 q4A[k].2.2])∧Below W.heap.size W w'):=zb (fun k h W=>by
  obtain⟨h1,h2,h3⟩:=j2y q4A[k] (List.getElem_mem h)
  refine(vig_New q4A[k].1 (by unfold maxLen;omega) W).mono ?_
  rintro e w' ⟨p,rfl,hp,hb⟩
  rw[h1]at hp ⊢
  have:p=none:=hp.2 (by show((q4A[k].2.1:Nat):Int)≠0;omega)
  subst this
  exact⟨rfl,hb⟩)
 have HCL:Hid (∀W,Calls Tryz.prog 37 #[bs (q4G 237)] W fun e w'=>∃x y r,e=.returned (.tuple #[.agg #[.bool x,.bool y,.int .i64 r],.int .i64 1,.int .i64 0])∧Below W.heap.size W w'):=zb (fun W=>by
  have:=q6g (q4G 237) (by rw[q8V];unfold maxLen;omega) W
  rw[chk_long]at this
  refine this.mono ?_
  rintro e w' ⟨rfl,hb⟩
  exact⟨_,_,_,rfl,hb⟩)
 have HCJ:Hid (∀W,Calls Tryz.prog 37 #[bs (q4G 236)] W fun e w'=>e=.returned (.tuple #[.agg #[.bool true,.bool false,.int .i64 (-1)],.int .i64 0,.int .i64 0])∧Below W.heap.size W w'):=zb (fun W=>by
  have:=q6g (q4G 236) (by rw[q8V];unfold maxLen;omega) W
  obtain⟨c1,c2,c3,c4⟩:=chk_just
  rw[c1]at this
  refine this.mono ?_
  rintro e w' ⟨rfl,hb⟩
  refine⟨?_,hb⟩
  show Ending.returned (.tuple #[.agg #[.bool (q2s (q4G 236)).x,.bool (q2s (q4G 236)).y,.int .i64 (q2s (q4G 236)).reach],.int .i64 0,.int .i64 0])=_
  rw[c2,c3,c4])
 have hb18:q4A.length=18:=rfl
 have HRF:Hid (∀(W:World) (k:Nat) (h:k<q4A.length),W.heap[w.heap.size]?=some (.cells (q3U q4A).toArray 85 (0,0))→W.cell? ⟨w.heap.size,k*3,none⟩=some (bs q4A[k].1)∧W.cell? ⟨w.heap.size,k*3+1,none⟩=some (.int .i64 q4A[k].2.1)∧W.cell? ⟨w.heap.size,k*3+2,none⟩=some (.int .i64 q4A[k].2.2)):=zb (fun W k h hg=>j8E hg h)
 obtain⟨RC,hRC⟩:∃RC,RC=(q3U q4A).toArray:=⟨_,rfl⟩
 rw[←hRC]at HRF
 have HRC:=zb hRC
 clear hRC
 have g0:=zN w (.cells RC 85)
 have BW:Below w.heap.size w (w.alloc (.cells RC 85)):=(zB _ _).alloc (zL _) _
 go_enter Tryz.func14,Tryz.ntmps14
 go_wp2_with fail
 have hlit:(#[.string ⟨#[]⟩,.int .i64 3,.int .i64 0,.string ⟨#[112,40,49,48,41]⟩,.int .i64 3,.int .i64 2,.string ⟨#[112,40,120]⟩,.int .i64 3,.int .i64 3,.string ⟨#[112,40,49,48,48,48,41]⟩,.int .i64 2,.int .i64 2,.string ⟨#[112,40,120,41,33]⟩,.int .i64 2,.int .i64 4,.string ⟨#[112,40,120,41,32,113,40,120,41]⟩,.int .i64 3,.int .i64 5,.string ⟨#[111,110,99,101,91,53,44,51,93,40,112,40,49,41,41]⟩,.int .i64 4,.int .i64 4,.string ⟨#[115,111,111,110,91,48,44,42,93,40,112,40,49,41,41]⟩,.int .i64 5,.int .i64 4,.string ⟨#[111,114,40,112,40,120,41,44,113,40,121,41,41]⟩,.int .i64 6,.int .i64 0,.string ⟨#[97,110,100,40,112,40,120,41,44,98,117,116,40,112,40,121,41,44,112,40,120,41,41,41]⟩,.int .i64 6,.int .i64 9,.string ⟨#[101,120,105,115,116,115,32,120,40,112,40,121,41,41]⟩,.int .i64 6,.int .i64 0,.string ⟨#[117,110,116,105,108,91,48,44,49,93,40,112,40,120,41,44,113,40,49,41,41]⟩,.int .i64 6,.int .i64 0,.string ⟨#[117,110,115,105,110,99,101,91,48,44,42,93,40,112,40,120,44,121,41,44,113,40,120,41,41]⟩,.int .i64 6,.int .i64 0,.string ⟨#[97,110,100,40,111,114,40,112,40,120,41,44,113,40,121,41,41,44,110,101,120,116,91,50,44,49,93,40,112,40,120,41,41,41]⟩,.int .i64 4,.int .i64 22,.string ⟨#[111,110,99,101,91,49,93,40,112,40,120,41,41]⟩,.int .i64 3,.int .i64 6,.string ⟨#[97,110,100,40,112,40,120,41,41]⟩,.int .i64 3,.int .i64 8,.string ⟨#[112,114,101,118,91,48,44,49,93,40,112,114,101,118,91,48,44,49,93,40,112,114,101,118,91,48,44,49,93,40,112,114,101,118,91,48,44,49,93,40,112,114,101,118,91,48,44,49,93,40,112,114,101,118,91,48,44,49,93,40,112,114,101,118,91,48,44,49,93,40,112,114,101,118,91,48,44,49,93,40,112,40,120,41]⟩,.int .i64 3,.int .i64 80,.string ⟨#[97,98,99,100,101,102,103,104,105,40,49,41]⟩,.int .i64 2,.int .i64 0]:Array Value)=RC:=by rw[HRC.out];rfl
 rw[hlit]
 clear hlit
 generalize hW0:w.alloc (.cells RC 85)=W0 at *
 have HG0:=zb g0
 have HBW:=zb BW
 have hl0:w.heap.size<W0.heap.size:=(Array.getElem?_eq_some_iff.1 g0).1
 clear g0 BW hW0
 go_loopg [2] 18 (fun g vi wr=>FfRel W0 g vi wr)
 case atStart=>exact⟨0,by omega,by omega,rfl,zB _ _⟩
 case round =>
  obtain⟨k,hk,hg,rfl,hb⟩:=hrel
  have HB:=zb hb
  have HG:=zb hg
  clear hb hg
  by_cases hk18:k<18
  ·have hki:(k:Int)<18:=by omega
   have hkb:k<q4A.length:=by omega
   have HCkk:=zb (HCK.out k hkb)
   have HNkk:=zb (HNW.out k hkb)
   have HRk:=zb (fun W=>HRF.out W k hkb)
   generalize q4A[k]=p at *
   obtain⟨tx,er,pl⟩:=p
   simp only[]at HCkk HNkk HRk
   obtain⟨c0,c1,c2⟩:=HRk.out wr ((HB.out.block _ hl0).trans HG0.out)
   have hlr:w.heap.size<wr.heap.size:=zT hl0 HB.out.size
   clear c1 c2
   go_wp2_with fail
   refine(HCkk.out _).mono ?_
   rintro e w1 ⟨rfl,b1⟩
   have B1:Below W0.heap.size W0 (w1.alloc (.cells #[.bool false,.bool false,.int .i64 0] 88)):=(HB.out.trans (b1.mono HB.out.size)).trans ((zB _ _).alloc (zL _) _ |>.mono (zM HB.out.size b1.size))
   obtain⟨d0,d1,d2⟩:=HRk.out _ ((B1.block _ hl0).trans HG0.out)
   have HB1:=zb B1
   have gi:=zN w1 (.cells #[.bool false,.bool false,.int .i64 0] 88)
   have hl1:w.heap.size<w1.heap.size:=zT hlr b1.size
   have HGI:=zb gi
   clear b1 B1 d1 d2 c0 gi
   go_wp2_with fail
   refine(HNkk.out _).mono ?_
   rintro e w2 ⟨rfl,b2⟩
   have HB2:=zb (HB1.out.trans (b2.mono HB1.out.size))
   have hl12:w1.heap.size<w2.heap.size:=zT (fi_lt HGI.out) b2.size
   have gi2:=(b2.block _ (fi_lt HGI.out)).trans HGI.out
   have i0:=zC _ _ 0 _ _ _ gi2
   have i1:=zC _ _ 1 _ _ _ gi2
   have i2:=zC _ _ 2 _ _ _ gi2
   simp only[gz]at i0 i1 i2
   obtain⟨e0,e1,e2⟩:=HRk.out _ ((HB2.out.block _ hl0).trans HG0.out)
   have hl2:w.heap.size<w2.heap.size:=zT hl0 HB2.out.size
   clear b2 gi2 d0 e0 HGI
   go_wp2_with fail
   have hgp:0<gk:=by have:=HG.out;omega
   go_roundg (gk-1)
   case measure=>omega
   case rel=>exact⟨k+1,by omega,by have:=HG.out;omega,by go_num,HB2.out⟩
  ·have hki:¬(k:Int)<18:=by omega
   clear HCK HNW HRF
   go_wp2_with fail
   go_loopg [9] 237 (fun g vs wr2=>FlgRel wr g vs wr2)
   case atStart=>exact⟨0,by omega,by omega,rfl,rfl⟩
   case round =>
    obtain⟨m,hm,hgm,rfl,hwr⟩:=hrel
    have hwr':=hwr.symm
    subst hwr'
    have hln:=q8V m
    by_cases hmn:m<237
    ·have hmk:=lng_more m
     have hlm:(4+(m:Int))≤240:=by omega
     have hq:¬9223372036854775807<(q4G m).length+1:=by omega
     obtain⟨S,hS⟩:∃S,S=q4G m:=⟨_,rfl⟩
     rw[←hS]at hmk hq hln ⊢
     have hli:((S.length:Nat):Int)≤240:=by omega
     clear hS
     obtain⟨S1,hS1⟩:∃S1,S1=q4G (m+1):=⟨_,rfl⟩
     have HS1:=zb hS1
     rw[←hS1]at hmk
     clear hS1
     go_wp2_with fail
     have hgp:0<gk:=by omega
     go_roundg (gk-1)
     case measure=>omega
     case rel=>exact⟨m+1,by omega,by omega,by rw[HS1.out],rfl⟩
    ·obtain rfl:m=237:=by omega
     have hlt:=lng_take
     have hl6:=q8V 236
     obtain⟨S,hS⟩:∃S,S=q4G 237:=⟨_,rfl⟩
     obtain⟨S6,hS6⟩:∃S,S=q4G 236:=⟨_,rfl⟩
     rw[←hS]at hlt hln HCL ⊢
     rw[←hS6]at hlt hl6 HCJ
     have hex:(ByteArray.mk S.toArray).extract 0 240=ByteArray.mk S6.toArray:=by
      rw[←hlt]
      apply ByteArray.ext
      simp
     clear hS hS6
     have hli:¬((S.length:Nat):Int)≤240:=by omega
     go_wp2_with fail
     refine(HCL.out _).mono ?_
     rintro e w1 ⟨x,y,r,rfl,b1⟩
     have HB1:=zb (HB.out.trans ((b1.trans ((zB _ _).alloc (zL _) (.cells #[.bool x,.bool y,.int .i64 r] 88) |>.mono b1.size)).mono HB.out.size))
     clear b1
     go_wp2_with fail
     refine(HCJ.out _).mono ?_
     rintro e w2 ⟨rfl,b2⟩
     have BI:Below w2.heap.size w2 (w2.alloc (.cells #[.bool true,.bool false,.int .i64 (-1)] 88)):=(zB _ _).alloc (zL _) _
     have HB2:=zb (HB1.out.trans ((b2.trans (BI.mono b2.size)).mono HB1.out.size))
     clear b2 BI
     go_wp2_with fail
     go_ret
     exact⟨rfl,HBW.out.trans (HB2.out.mono HBW.out.size)⟩
end Go.Proofs.YtiamjjonoeaggabGreatDoor
