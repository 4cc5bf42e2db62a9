import Derived.Test.YtiamjjonoeaggaaGreatDoorGA
import Derived.Test.YtiamjjonoeaggaaGreatDoorGB
import Derived.Test.YtiamjjonoeaggaaGreatDoorG35
set_option maxRecDepth 100000
set_option maxHeartbeats 16000000
namespace Go.Proofs.YtiamjjonoeaggaaGreatDoor
open Go.RowKit
theorem kep_meets2' (n:Nat)(T:Nat→Nat)(P Q:Nat→Bool)(hn40:n≤40)(lo hi:Nat)(i:Nat)(hin:i<n)(v:Nat)(hv:v<4)(g c:Nat)(hcn:n≤c∧c≤maxLen)(w:World)(hC:∀W,Below w.heap.size w W→∀j,j<n→W.cell? ⟨g,j*9,none⟩=some (.int .i64 (T j))∧W.cell? ⟨g,j*9+1+v,none⟩=some (.bool (P j))∧W.cell? ⟨g,j*9+5+v,none⟩=some (.bool (Q j)))(hT:∀j,j<n→T j≤1000) :
  Calls Tryz.prog 25 #[.slice (some ⟨g,0,none⟩) n c,.int .i64 2,.int .i64 lo,.int .i64 hi,.int .i64 i,.int .i64 v] w fun e w'=>e=.returned (.bool (meetsR 2 lo hi T P Q n i))∧Below w.heap.size w w':=by
 have HC:=zb hC
 have HT:=zb hT
 clear hC hT
 unfold maxLen at hcn
 obtain⟨hcn1,hcn2⟩:=hcn
 have hTi:=HT.out i hin
 obtain⟨R,hR⟩:∃R,R=meetsR 2 lo hi T P Q n i:=⟨_,rfl⟩
 rw[←hR]
 have HR:=zb hR
 clear hR
 go_enter Tryz.func25,Tryz.ntmps25
 go_wp2_with fail
 go_loopg [13] n (fun gg vj wr=>MtRel 2 lo hi T P Q i n w gg vj wr)
 case atStart=>exact⟨0,zZ _,by omega,rfl,fun m hm=>absurd hm (by omega),zB _ _⟩
 case round =>
  obtain⟨j,hj,hgk,rfl,hmf,hB⟩:=hrel
  have HMF:=zb hmf
  have HB:=zb hB
  clear hmf hB
  by_cases hjn:j<n
  ·have hTj:=HT.out j hjn
   have hm:=met_2 lo hi T P Q i j
   have D:=HB.out.drew
   have hci:=(HC.out _ D i hin).1
   obtain⟨hcj,hcp,hcq⟩:=HC.out _ D j hjn
   obtain⟨Ta,hTa⟩:∃x,x=T i:=⟨_,rfl⟩
   obtain⟨Tb,hTb⟩:∃x,x=T j:=⟨_,rfl⟩
   obtain⟨pj,hpj⟩:∃x,x=P j:=⟨_,rfl⟩
   obtain⟨qj00,hqj⟩:∃x,x=Q j:=⟨_,rfl⟩
   rw[←hTa]at hTi hci
   rw[←hTb]at hTj hcj
   rw[←hpj]at hcp
   rw[←hqj]at hcq
   have HM:=zb hm
   have HTa:=zb hTa
   have HTb:=zb hTb
   have HPj:=zb hpj
   have HQj:=zb hqj
   have HD:=zb D
   clear hm hTa hTb hpj hqj HB
   have hw1:IntKind.i64.wrap ((Ta:Int)-(Tb:Int))=(Ta:Int)-(Tb:Int):=by rw[IntKind.wrap_i64];omega
   have hw2:IntKind.i64.wrap (-((Ta:Int)-(Tb:Int))) = -((Ta:Int)-(Tb:Int)):=by rw[IntKind.wrap_i64];omega
   have hw3:IntKind.i64.wrap ((j:Int)+1)=(j:Int)+1:=by rw[IntKind.wrap_i64];omega
   have hw4:IntKind.i64.wrap ((j:Int)-1)=(j:Int)-1:=by rw[IntKind.wrap_i64];omega
   have hw5:IntKind.i64.wrap ((i:Int)-1)=(i:Int)-1:=by rw[IntKind.wrap_i64];omega
   have hw6:IntKind.i64.wrap ((i:Int)+1)=(i:Int)+1:=by rw[IntKind.wrap_i64];omega
   have hc1:((lo:Int)≤(Ta:Int)-(Tb:Int))∨((Ta:Int)-(Tb:Int)<(lo:Int)):=by omega
   go_wp2_with fail
   refine wp_region_held_drew (S:=fun w'=>w'.cell? ⟨g,i*9,none⟩=some (.int .i64 Ta)∧w'.cell? ⟨g,j*9,none⟩=some (.int .i64 Tb)) (by kernel_rfl) ⟨hci,hcj⟩ (fun hS0=>?_)
   simp only[rz,Nat.zero_add,Nat.reduceAdd]
   refine tq 0 26 ?_
   simp only[Act.put,pz]
   refine tq 1 27 ?_
   simp only[Act.put,pz]
   refine tq 2 28 ?_
   simp only[Act.put,pz]
   refine tq 3 29 ?_
   simp only[Act.put,pz]
   refine tq 4 30 ?_
   simp only[Act.put,pz]
   refine tq 5 31 ?_
   simp only[Act.put,pz]
   refine tq 6 32 ?_
   simp only[Act.put,pz]
   refine tq 7 33 ?_
   simp only[Act.put,pz]
   refine tq 8 34 ?_
   simp only[Act.put,pz]
   refine tq 9 35 ?_
   simp only[Act.put,pz]
   refine tq 10 36 ?_
   simp only[Act.put,pz]
   refine tq 11 14 ?_
   simp only[Act.put,pz]
   refine zD (by kernel_rfl) ?_ _
   clear hS0 hci hcj hc1
   by_cases c1:(Ta:Int)-(Tb:Int)<(lo:Int)
   ·skip
    have hmf:metJ 2 lo hi T P Q i j=false:=by
     rw[←Bool.not_eq_true,met_2]
     intro h
     have e1:=HTa.out;have e2:=HTb.out;rw[←e1,←e2]at h;omega
    go_wp2_with fail
    go_roundg (gk-1)
    case measure=>omega
    case rel=>exact⟨j+1,by omega,by omega,by go_num,fun m hm=>by
      by_cases e:m=j
      ·rw[e];exact hmf
      ·exact HMF.out m (by omega),HD.out⟩
   by_cases c2:(hi:Int)<(Ta:Int)-(Tb:Int)
   ·skip
    have hmf:metJ 2 lo hi T P Q i j=false:=by
     rw[←Bool.not_eq_true,met_2]
     intro h
     have e1:=HTa.out;have e2:=HTb.out;rw[←e1,←e2]at h;omega
    go_wp2_with fail
    go_roundg (gk-1)
    case measure=>omega
    case rel=>exact⟨j+1,by omega,by omega,by go_num,fun m hm=>by
      by_cases e:m=j
      ·rw[e];exact hmf
      ·exact HMF.out m (by omega),HD.out⟩
   by_cases c3:(i:Int)<(j:Int)
   ·skip
    have hmf:metJ 2 lo hi T P Q i j=false:=by
     rw[←Bool.not_eq_true,met_2]
     intro h
     have h3:=h.2.1;omega
    go_wp2_with fail
    go_roundg (gk-1)
    case measure=>omega
    case rel=>exact⟨j+1,by omega,by omega,by go_num,fun m hm=>by
      by_cases e:m=j
      ·rw[e];exact hmf
      ·exact HMF.out m (by omega),HD.out⟩
   obtain⟨go,hgo⟩:∃go,go=gk:=⟨_,rfl⟩
   rw[←hgo]at hgk
   go_wp2_with fail
   go_loopg [18,19] 0 (fun gg vok vk wr2=>vok=.bool pj∧vk=.int .i64 (↑j+1)∧wr2=wr.drew)
   case atStart=>exact⟨rfl,rfl,rfl⟩
   case round =>
    obtain⟨rfl,rfl,rfl⟩:=hrel
    by_cases hle:(j:Int)+1≤(i:Int)
    ·skip
     cases pj
     ·have hmf:metJ 2 lo hi T P Q i j=false:=by
       rw[←Bool.not_eq_true,met_2]
       intro h
       have:=h.2.2
       rw[←HPj.out]at this
       exact absurd this (by decide)
      go_wp2_with fail
      go_roundg (go-1)
      case measure=>omega
      case rel=>exact⟨j+1,by omega,by omega,by go_num,fun m hm=>by
        by_cases e:m=j
        ·rw[e];exact hmf
        ·exact HMF.out m (by omega),HD.out⟩
     ·go_wp2_with fail
      go_ret
      have e1:=HTa.out
      have e2:=HTb.out
      skip
      have e:R=true:=by
       rw[HR.out,meets_iff]
       exact⟨j,hjn,(met_2 lo hi T P Q i j).2 (by rw[←e1,←e2];exact⟨⟨by omega,by omega⟩,by omega,HPj.out.symm⟩)⟩
      exact⟨(show _=Ending.returned (.bool true) from rfl).trans (by rw[e]),HD.out⟩
    ·skip
     cases pj
     ·have hmf:metJ 2 lo hi T P Q i j=false:=by
       rw[←Bool.not_eq_true,met_2]
       intro h
       have:=h.2.2
       rw[←HPj.out]at this
       exact absurd this (by decide)
      go_wp2_with fail
      go_roundg (go-1)
      case measure=>omega
      case rel=>exact⟨j+1,by omega,by omega,by go_num,fun m hm=>by
        by_cases e:m=j
        ·rw[e];exact hmf
        ·exact HMF.out m (by omega),HD.out⟩
     ·go_wp2_with fail
      go_ret
      have e1:=HTa.out
      have e2:=HTb.out
      skip
      have e:R=true:=by
       rw[HR.out,meets_iff]
       exact⟨j,hjn,(met_2 lo hi T P Q i j).2 (by rw[←e1,←e2];exact⟨⟨by omega,by omega⟩,by omega,HPj.out.symm⟩)⟩
      exact⟨(show _=Ending.returned (.bool true) from rfl).trans (by rw[e]),HD.out⟩
  ·have hnj:¬(j:Int)<(n:Int):=by omega
   go_wp2_with fail
   go_ret
   have e:R=false:=by rw[HR.out];exact meets_all (fun m hm=>HMF.out m (by omega))
   exact⟨(show _=Ending.returned (.bool false) from rfl).trans (by rw[e]),HB.out⟩
end Go.Proofs.YtiamjjonoeaggaaGreatDoor
