/- Merged: ReAw0. -/
import Derived.Test.YtbfogkcnfnjcaaaTt6
namespace Go.Proofs.Ytbfogkcnfnjcaaa.Re
open Go.Proofs.Ytbfogkcnfnjcaaa.Utf
open Go.Proofs.Ytbfogkcnfnjcaaa.Sc
set_option linter.unusedSimpArgs false
theorem rdV_of {l : List UInt8} {ts : List Tok} {r : V × Int × Int} (h : scnS l = (ts, 0, 0)) (h2 : rdT ts (l.length : Int) = r) : rdV l = r := by
  unfold rdV
  rw [h]
  exact h2
end Go.Proofs.Ytbfogkcnfnjcaaa.Re
