/- Merged: PoAw PoW6. -/
import Derived.Test.YtbfogkcnfnjcaaaTt23
import Derived.Test.YtbfogkcnfnjcaaaTt7
import Derived.Test.YtbfogkcnfnjcaaaTt34
import Derived.Test.YtbfogkcnfnjcaaaTt26
import Derived.Test.YtbfogkcnfnjcaaaTt21
import Derived.Test.YtbfogkcnfnjcaaaTt19
import Derived.Test.YtbfogkcnfnjcaaaTt22
import Derived.Test.YtbfogkcnfnjcaaaTt12
import Derived.Test.YtbfogkcnfnjcaaaTt11
import Derived.BigQuiet
import Derived.IntWalk
import Derived.Deep.RegionHeld3
import Derived.Test.YtbfogkcnfnjcaaaTt16
import Derived.Test.YtbfogkcnfnjcaaaTt6
set_option linter.unusedSimpArgs false
namespace Go.Proofs.Ytbfogkcnfnjcaaa.Po
open Go.Proofs Go.RowKit
open Go.Proofs.Ytbfogkcnfnjcaaa.Utf
open Go.Proofs.Ytbfogkcnfnjcaaa.Sc
open Go.Proofs.Ytbfogkcnfnjcaaa.Re
open Go.Proofs.Ytbfogkcnfnjcaaa.Tr
open Go.Proofs.Ytbfogkcnfnjcaaa.Nu

theorem _root_.Go.Proofs.Ytbfogkcnfnjcaaa.Re.RdA.more {w : World} {lo hi hi' : Nat} {v : V} {cs : List Value} (h : RdA w lo hi v cs) (hh : hi ≤ hi') : RdA w lo hi' v cs := RdA.keep (fun _ _ _ => rfl) (Nat.le_refl _) hh _ _ h

end Go.Proofs.Ytbfogkcnfnjcaaa.Po
set_option linter.unusedSimpArgs false
namespace Go.Proofs.Ytbfogkcnfnjcaaa.Po
open Go.Proofs Go.RowKit
open Go.Proofs.Ytbfogkcnfnjcaaa.Utf
open Go.Proofs.Ytbfogkcnfnjcaaa.Sc
open Go.Proofs.Ytbfogkcnfnjcaaa.Re
open Go.Proofs.Ytbfogkcnfnjcaaa.Tr
open Go.Proofs.Ytbfogkcnfnjcaaa.Em

theorem _root_.Go.Proofs.Ytbfogkcnfnjcaaa.Re.RdA.wide {w : World} {lo hi : Nat} {v : V} {cs : List Value} (h : RdA w lo hi v cs) : RdA w 0 hi v cs := RdA.keep (fun _ _ _ => rfl) (Nat.zero_le _) (Nat.le_refl _) _ _ h
theorem text_ok8 (v : V) (cv : List Value) (w : World) (hl : Em.lenV v) (zv : szU v ≤ 1048576) (fv : wfV v) (hc : chk v = 0) (hv : RdA w 0 w.heap.size v cv) : Calls Try.prog 16 #[.agg cv.toArray] w fun e w' => e = .returned (.tuple #[.string (strOf (txtR v)), .int .i64 0]) ∧ Below w.heap.size w w' := by
  refine (Em.Text_any v cv 0 w hl (by omega) (szA_of _ v fv (by omega)) hv).mono ?_
  rintro e w' ⟨e1, e2⟩
  rw [hc] at e1
  exact ⟨e1, e2⟩
end Go.Proofs.Ytbfogkcnfnjcaaa.Po
