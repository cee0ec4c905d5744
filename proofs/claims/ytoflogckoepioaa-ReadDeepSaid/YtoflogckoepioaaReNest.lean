import Derived.Test.YtoflogckoepioaaRePl5
/- What is read of lists within lists. No run of the program in this text. -/
namespace Go.Proofs.Ytoflogckoepioaa.Re
open Go.Proofs.Ytoflogckoepioaa.Utf
open Go.Proofs.Ytoflogckoepioaa.Sc

def nest (k : Nat) : List UInt8 := List.replicate k 91 ++ List.replicate k 93
def toksN (k : Nat) : List Tok := ((List.range k).map fun i : Nat => ((1 : Int), (0 : Int), [(91 : UInt8)], (i : Int))) ++ ((List.range k).map fun i : Nat => ((1 : Int), (0 : Int), [(93 : UInt8)], ((k + i : Nat) : Int)))
instance decT3 : DecidableEq (List UInt8 × Int) := inferInstance
instance decT2 : DecidableEq (Int × List UInt8 × Int) := inferInstance
instance decT1 : DecidableEq (Int × Int × List UInt8 × Int) := inferInstance
instance decTs : DecidableEq (List (Int × Int × List UInt8 × Int)) := inferInstance
theorem scn_nest1 : ∀ k, k < 40 → (scnS (nest k)).1 = toksN k ∧ (scnS (nest k)).2.2 = 0 := by decide +kernel
theorem rd_nest : ∀ k, k < 17 → 0 < k → (rdT (toksN k) ((k + k : Nat) : Int)).2.2 = 0 ∧ dp (rdT (toksN k) ((k + k : Nat) : Int)).1 1 = k := by decide +kernel
theorem rd_nest2 : ∀ k, k < 40 → 16 < k → (rdT (toksN k) ((k + k : Nat) : Int)).2 = (16, 51) := by decide +kernel
end Go.Proofs.Ytoflogckoepioaa.Re
