/- Merged: PoAw PoW6. -/
import Derived.Test.YtbfogkcnfnjcaaaTt24
import Derived.Test.YtbfogkcnfnjcaaaTt7
import Derived.Test.YtbfogkcnfnjcaaaTt35
import Derived.Test.YtbfogkcnfnjcaaaTt27
import Derived.Test.YtbfogkcnfnjcaaaTt22
import Derived.Test.YtbfogkcnfnjcaaaTt20
import Derived.Test.YtbfogkcnfnjcaaaTt23
import Derived.Test.YtbfogkcnfnjcaaaTt17
import Derived.Test.YtbfogkcnfnjcaaaTt16
import Derived.Test.YtbfogkcnfnjcaaaTt6
set_option linter.unusedSimpArgs false
namespace Go.Proofs.Ytbfogkcnfnjcaaa.Po
open Go.Proofs Go.RowKit
open Go.Proofs.Ytbfogkcnfnjcaaa.Utf
open Go.Proofs.Ytbfogkcnfnjcaaa.Sc
open Go.Proofs.Ytbfogkcnfnjcaaa.Re
open Go.Proofs.Ytbfogkcnfnjcaaa.Tr
open Go.Proofs.Ytbfogkcnfnjcaaa.Nu

theorem _root_.Go.Proofs.Ytbfogkcnfnjcaaa.Re.RdA.more {w : World} {lo hi hi' : Nat} {v : V} {cs : List Value} (h : RdA w lo hi v cs) (hh : hi ≤ hi') : RdA w lo hi' v cs := RdA.keep (fun _ _ _ => rfl) (Nat.le_refl _) hh _ _ h

end Go.Proofs.Ytbfogkcnfnjcaaa.Po
set_option linter.unusedSimpArgs false
namespace Go.Proofs.Ytbfogkcnfnjcaaa.Po
open Go.Proofs Go.RowKit
open Go.Proofs.Ytbfogkcnfnjcaaa.Utf
open Go.Proofs.Ytbfogkcnfnjcaaa.Sc
open Go.Proofs.Ytbfogkcnfnjcaaa.Re
open Go.Proofs.Ytbfogkcnfnjcaaa.Tr
open Go.Proofs.Ytbfogkcnfnjcaaa.Em

theorem _root_.Go.Proofs.Ytbfogkcnfnjcaaa.Re.RdA.wide {w : World} {lo hi : Nat} {v : V} {cs : List Value} (h : RdA w lo hi v cs) : RdA w 0 hi v cs := RdA.keep (fun _ _ _ => rfl) (Nat.zero_le _) (Nat.le_refl _) _ _ h
theorem same_self (v : V) (ca cb : List Value) (w : World) (hz : szA 4611686018427387904 v) (ha : RdA w 0 w.heap.size v ca) (hb : RdA w 0 w.heap.size v cb) :
    Calls Try.prog 13 #[.agg ca.toArray, .agg cb.toArray] w fun e w' => e = .returned (.bool true) ∧ Below w.heap.size w w' := by
  refine (SameA_any (ht v) v v ca cb w (Nat.le_refl _) hz ha hb).mono ?_
  rintro e w' ⟨⟨b, rfl, h⟩, hb⟩
  obtain rfl : b = true := h.2 rfl
  exact ⟨rfl, hb⟩
end Go.Proofs.Ytbfogkcnfnjcaaa.Po
