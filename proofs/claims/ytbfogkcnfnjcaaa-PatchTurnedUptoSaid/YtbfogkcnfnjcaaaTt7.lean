/- Merged: EmPl2 ReAw0. -/
import Derived.Test.YtbfogkcnfnjcaaaTt6
namespace Go.Proofs.Ytbfogkcnfnjcaaa.Em
open Go.Proofs.Ytbfogkcnfnjcaaa.Utf
open Go.Proofs.Ytbfogkcnfnjcaaa.Sc
open Go.Proofs.Ytbfogkcnfnjcaaa.Re
open Go.Proofs.Ytbfogkcnfnjcaaa.Ch (qbL qbL_le)
open Go.Proofs.Ytbfogkcnfnjcaaa.Nu

theorem own_l {k n : Int} {s : List UInt8} {l ms : List V} {ns : List (List UInt8)} (h : own k n s l.length ns ms.length) (hk : k ≠ 5) : l = [] := List.eq_nil_of_length_eq_zero (h.1.2.2.2.1 hk)
theorem own_m {k n : Int} {s : List UInt8} {l ms : List V} {ns : List (List UInt8)} (h : own k n s l.length ns ms.length) (hk : k ≠ 6) : ms = [] := List.eq_nil_of_length_eq_zero (h.1.2.2.2.2 hk)
end Go.Proofs.Ytbfogkcnfnjcaaa.Em
namespace Go.Proofs.Ytbfogkcnfnjcaaa.Re
open Go.Proofs.Ytbfogkcnfnjcaaa.Utf
open Go.Proofs.Ytbfogkcnfnjcaaa.Sc
set_option linter.unusedSimpArgs false
theorem rdV_of {l : List UInt8} {ts : List Tok} {r : V × Int × Int} (h : scnS l = (ts, 0, 0)) (h2 : rdT ts (l.length : Int) = r) : rdV l = r := by
  unfold rdV
  rw [h]
  exact h2
end Go.Proofs.Ytbfogkcnfnjcaaa.Re
