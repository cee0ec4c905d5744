/- Merged: BkW4. -/
import Derived.Test.YtofelafamfckiaaGreatDoorTt56
import Derived.Test.YtofelafamfckiaaGreatDoorTt52
set_option linter.unusedSimpArgs false
namespace Go.Proofs.YtofelafamfckiaaGreatDoor
namespace Bk
open Go.Proofs Go.RowKit Utf Sc Re Tr Po
open Cd (mem fst)
theorem qgD {B:Nat} {v y:V} {n:List UInt8} (h:szA B v) (hy:szA B y):szA B (orV v n y):=by
 unfold orV;cases hf:fst (mem v) n with
 | none=>exact hy
 | some x=>exact aU ((bL _ v).1 h).2.2.2.2.2.2.2 (Cd.qgH (qfd hf))
theorem qdC {v:V} {B:Nat} (hB:400≤B) (h:szA B v):szA B (aD v):=by
 have z1:szA B qcc:=by rw [qcc,szA];exact ⟨by decide,by decide,Nat.zero_le _,Nat.zero_le _,Nat.zero_le _,(fun _ h=>by cases h),(by rw [aR];trivial),(by rw [aR];trivial)⟩
 have z2:szA B qcU:=by rw [qcU,szA];exact ⟨by decide,by decide,Nat.zero_le _,Nat.zero_le _,Nat.zero_le _,(fun _ h=>by cases h),(by rw [aR];trivial),(by rw [aR];trivial)⟩
 have z3:szA B qcL:=by rw [qcL,szA];exact ⟨by decide,by decide,Nat.zero_le _,Nat.zero_le _,Nat.zero_le _,(fun _ h=>by cases h),(by rw [aR];trivial),(by rw [aR];trivial)⟩
 have z4:szA B V0:=by rw [V0,szA];exact ⟨by decide,by decide,Nat.zero_le _,Nat.zero_le _,Nat.zero_le _,(fun _ h=>by cases h),(by rw [aR];trivial),(by rw [aR];trivial)⟩
 rw [bL];refine ⟨show (Lit.int .i64 6).wf=true by decide,show (Lit.int .i64 0).wf=true by decide,Nat.zero_le _,Nat.zero_le _,show (4:Nat)*96≤_ by omega,?_,(by show aR _ [];rw [aR];trivial),?_⟩
 ·intro nm hn;have:∀ q∈bW,q.length≤100:=by decide
  exact Nat.le_trans (this nm hn) (by omega)
 ·show aR _ (bD v);unfold bD;rw [aR,aR,aR,aR,aR];exact ⟨qgD h z1,qgD h z2,qgD h z4,qgD h z3,trivial⟩
theorem qi3 {v:V} (h:szA 4611686018427387904 v):szA 4611686018427387904 (aD v):=qdC (by decide) h
