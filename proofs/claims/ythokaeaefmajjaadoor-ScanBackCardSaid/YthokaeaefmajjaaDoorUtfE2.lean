import Derived.Test.YthokaeaefmajjaaDoorUtfE
import Derived.OpenShut
/- Words for what calls hand back; an owned row behind other calls. -/
namespace Go.Proofs.YthokaeaefmajjaaDoor.Utf
open Go.RowKit

theorem encL_le (xs : List Int) : (encL xs).length ≤ 4 * xs.length := by
  induction xs with
  | nil => simp [encL]
  | cons x xs ih =>
    rw [encL_cons]
    have := enc_le x
    simp
    omega
theorem encL_take (xs : List Int) (k : Nat) (h : k < xs.length) : encL (xs.take (k + 1)) = encL (xs.take k) ++ enc xs[k] := by
  rw [take_succ' xs k h, encL_append]; simp [encL]

end Go.Proofs.YthokaeaefmajjaaDoor.Utf
