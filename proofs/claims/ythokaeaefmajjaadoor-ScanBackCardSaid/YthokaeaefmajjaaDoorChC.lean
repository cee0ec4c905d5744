import Derived.Test.YthokaeaefmajjaaDoorChPl5
import Derived.Test.YthokaeaefmajjaaDoorChA
import Derived.Test.YthokaeaefmajjaaDoorUtfE2
import Derived.Deep.RegionHeld3
import Derived.Deep.AppendLies
/- Contract of package chars' lay. -/
namespace Go.Proofs.YthokaeaefmajjaaDoor.Ch
open Go.RowKit
open Go.Proofs.YthokaeaefmajjaaDoor.Utf

theorem low32 {c : Int} (h0 : 0 ≤ c) (h1 : c < 32) : ∃ k : Nat, k < 32 ∧ c = k := ⟨c.toNat, by omega, by omega⟩
/-- the digits, by their text -/
def digits : ByteArray := ⟨#[48, 49, 50, 51, 52, 53, 54, 55, 56, 57, 97, 98, 99, 100, 101, 102]⟩
theorem digits_at (w : World) : ∀ k : Nat, k < 16 → (Instr.index 9 (.string digits) (.int .u8 (k : Nat))).run Tryd.prog w = .ok (.int .u8 (hexV k)) w := by
  intro k hk
  have : k = 0 ∨ k = 1 ∨ k = 2 ∨ k = 3 ∨ k = 4 ∨ k = 5 ∨ k = 6 ∨ k = 7 ∨ k = 8 ∨ k = 9 ∨ k = 10 ∨ k = 11 ∨ k = 12 ∨ k = 13 ∨ k = 14 ∨ k = 15 := by omega
  rcases this with rfl | rfl | rfl | rfl | rfl | rfl | rfl | rfl | rfl | rfl | rfl | rfl | rfl | rfl | rfl | rfl <;> rfl

end Go.Proofs.YthokaeaefmajjaaDoor.Ch
