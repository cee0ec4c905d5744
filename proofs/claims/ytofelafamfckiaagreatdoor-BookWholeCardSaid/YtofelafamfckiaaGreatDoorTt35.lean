/- Merged: PoN. -/
import Derived.Test.YtofelafamfckiaaGreatDoorTt28
import Derived.Test.YtofelafamfckiaaGreatDoorTt30
set_option maxRecDepth 100000
set_option maxHeartbeats 1000000
set_option linter.unusedSimpArgs false
namespace Go.Proofs.YtofelafamfckiaaGreatDoor
namespace Po
open Go.Proofs Go.RowKit Utf Sc Em Tr
theorem qdh (a b:Value) (ps qs:List (List UInt8)) (w:World) (ha:Rd w w.heap.size a (aI ps)) (hb:Rd w w.heap.size b (aI qs)) (hn:ps.length≤4611686018427387904) :
  Calls Tryz.prog 10 #[a,b] w (fun e w'=>(∃ x,e = .returned (.bool x)∧(x=true↔ps=qs))∧Below w.heap.size w w'):=by
 obtain ⟨A,c,rfl,hA⟩:=ha;obtain ⟨B,d,rfl,hB⟩:=hb;rw [bi] at hA hB ⊢;rw [bi];have HA:=zh hA;have HB:=zh hB;clear hA hB;by_cases hl:ps.length=qs.length
 ·have HL:=zh hl;rw [←hl];obtain ⟨n,hn'⟩:∃ n,ps.length=n:=⟨_,rfl⟩
  have HN:=zh hn';rw [hn'] at hn ⊢;clear hl hn';go_enter Tryz.func10,Tryz.ntmps10;go_wp2_with fail;go_loopw [5] (fun i wr=>∃ k:Nat,i = .int .i64 k∧k≤n∧Aside (ps.take k=qs.take k)∧Aside (Below w.heap.size w wr)) (fun i _=>n-(intOf i).toNat)
  case atStart=>exact ⟨0,rfl,by omega,(show _=_ from rfl),(show Below _ _ _ from Below.refl _ _)⟩
  case round=>
   obtain ⟨k,rfl,hk,hsm,hbel⟩:=hrel;have HSM:=zh hsm.out;clear hsm;by_cases hlt:k<n
   ·have t1:decide ((k:Int)<(n:Int))=true:=zT (by omega);have t2:decide (k<n)=true:=zT hlt;have k0:(0:Int)≤(k:Int):=by omega
    have k1:(k:Int)<(n:Int):=by omega
    have k2:((k:Int)).toNat=k:=by omega
    have hkl:k<ps.length:=by rw [HN.out];exact hlt
    have hkq:k<qs.length:=by rw [←HL.out];exact hkl
    obtain ⟨ad,rfl,hab,hx⟩:=HA.out (by omega);obtain ⟨bd,rfl,hbb,hy⟩:=HB.out (by omega);have ap:=(hbel.out.cell (p:=ad.add k) (by rw [qep];exact hab)).trans (hx k _ (qac ps k hkl));have bp:=(hbel.out.cell (p:=bd.add k) (by rw [qep];exact hbb)).trans (hy k _ (qac qs k hkq));by_cases he:ps[k]=qs[k]
    ·have tt:((ae ps[k]).toList != (ae qs[k]).toList)=false:=by rw [he];simp
     have tt2:((ae ps[k]).toList==(ae qs[k]).toList)=true:=by rw [he];simp
     have HSM2:=zh (show ps.take (k+1)=qs.take (k+1) by rw [List.take_succ_eq_append_getElem hkl,List.take_succ_eq_append_getElem hkq,HSM.out,he]);generalize ae ps[k]=X at *;generalize ae qs[k]=Y at *;have HBE:=zh hbel.out;clear he hx hy hbel;go_wp2_with (go_quiet (fail))
     go_roundw
     case rel=>exact ⟨k+1,by go_num,by omega,HSM2.out,(show Below _ _ _ from qco HBE.out _)⟩
     case measure=>simp [intOf];omega
    ·have tt:((ae ps[k]).toList != (ae qs[k]).toList)=true:=by rw [aA,aA,bne_iff_ne];exact he
     have tt2:((ae ps[k]).toList==(ae qs[k]).toList)=false:=by rw [aA,aA];exact beq_eq_false_iff_ne.2 he
     have HNE:=zh (show ps≠qs from fun e=>he (by simp only [e]));generalize ae ps[k]=X at *;generalize ae qs[k]=Y at *;have HBE:=zh hbel.out;clear he hx hy hbel;go_wp2_with (go_quiet (fail))
     go_ret;exact ⟨⟨false,rfl,by simp [HNE.out]⟩,qco HBE.out _⟩
   ·have t1:decide ((k:Int)<(n:Int))=false:=zF (by omega);have t2:decide (k<n)=false:=zF hlt;have HEQ:=zh (show ps=qs by
     have h:=HSM.out;rwa [List.take_of_length_le (by rw [HN.out];omega),List.take_of_length_le (by rw [←HL.out,HN.out];omega)] at h)
    go_wp2_with fail;go_ret;exact ⟨⟨true,rfl,by simp [HEQ.out]⟩,hbel.out⟩
 ·have t1:((ps.length:Int) != (qs.length:Int))=true:=by rw [bne_iff_ne];omega
  have HNE:=zh (show ps≠qs from fun e=>hl (by rw [e]));generalize ps.length=n at *;generalize qs.length=m at *;clear hl;go_enter Tryz.func10,Tryz.ntmps10;go_wp2_with fail;go_ret;exact ⟨⟨false,rfl,by simp [HNE.out]⟩,Below.refl _ _⟩
