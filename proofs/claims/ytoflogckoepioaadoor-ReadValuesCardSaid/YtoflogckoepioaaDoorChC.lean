import Derived.Test.YtoflogckoepioaaDoorChPl
import Derived.Test.YtoflogckoepioaaDoorChA
import Derived.Test.YtoflogckoepioaaDoorUtfE
import Derived.Deep.RegionHeld3
import Derived.Deep.AppendLies
/- Contract of package chars' lay. -/
namespace Go.Proofs.YtoflogckoepioaaDoor.Ch
open Go.RowKit
open Go.Proofs.YtoflogckoepioaaDoor.Utf

theorem low32 {c : Int} (h0 : 0 ≤ c) (h1 : c < 32) : ∃ k : Nat, k < 32 ∧ c = k := ⟨c.toNat, by omega, by omega⟩
/-- the digits, by their text -/
def digits : ByteArray := ⟨#[48, 49, 50, 51, 52, 53, 54, 55, 56, 57, 97, 98, 99, 100, 101, 102]⟩
set_option maxRecDepth 100000 in
theorem digits_at (w : World) : ∀ k : Nat, k < 16 → (Instr.index 9 (.string digits) (.int .u8 (k : Nat))).run Tryd.prog w = .ok (.int .u8 (hexV k)) w := by
  intro k hk
  have : k = 0 ∨ k = 1 ∨ k = 2 ∨ k = 3 ∨ k = 4 ∨ k = 5 ∨ k = 6 ∨ k = 7 ∨ k = 8 ∨ k = 9 ∨ k = 10 ∨ k = 11 ∨ k = 12 ∨ k = 13 ∨ k = 14 ∨ k = 15 := by omega
  rcases this with rfl | rfl | rfl | rfl | rfl | rfl | rfl | rfl | rfl | rfl | rfl | rfl | rfl | rfl | rfl | rfl <;> rfl

end Go.Proofs.YtoflogckoepioaaDoor.Ch
/- Contract of package chars' Quote. -/
namespace Go.Proofs.YtoflogckoepioaaDoor.Ch
open Go.RowKit
open Go.Proofs.YtoflogckoepioaaDoor.Utf

/-- What Quote tells: the text between quotes; or that its bytes aren't right. -/
def quoteR (l : List UInt8) : List UInt8 × Bool := if (ptsL l).2 < l.length then ([], false) else (34 :: (qbL l ++ [34]), true)
theorem quoteR_no {l : List UInt8} (h : (ptsL l).2 < l.length) : quoteR l = ([], false) := by rw [quoteR, if_pos h]
theorem quoteR_yes {l : List UInt8} (h : ¬ (ptsL l).2 < l.length) : quoteR l = (34 :: (qbL l ++ [34]), true) := by rw [quoteR, if_neg h]

/-- What a call hands back: a text and a bool; what was there stays. -/
def GivesQuote (r : List UInt8 × Bool) (w : World) (e : Ending) (w' : World) : Prop :=
  e = .returned (.tuple #[.string (strOf r.1), .bool r.2]) ∧ Below w.heap.size w w'
theorem retq {a a' : ByteArray} {b b' : Bool} (h1 : a = a') (h2 : b = b') : Ending.returned (.tuple #[.string a, .bool b]) = .returned (.tuple #[.string a', .bool b']) := by rw [h1, h2]

theorem qbL_take (l : List UInt8) (k : Nat) (h : k < l.length) : qbL (l.take (k + 1)) = qbL (l.take k) ++ toB (qbZ (byt l k)) := by
  rw [take_succ' l k h, qbL_append]
  have : (l[k].toNat : Int) = byt l k := by unfold byt; rw [List.getD_eq_getElem?_getD, List.getElem?_eq_getElem h]; rfl
  simp [qbL, qb, this]
theorem qbL_take_le (l : List UInt8) (k : Nat) : (qbL (l.take k)).length ≤ (qbL l).length := by
  have := congrArg List.length (qbL_append (l.take k) (l.drop k))
  rw [List.take_append_drop, List.length_append] at this
  omega

end Go.Proofs.YtoflogckoepioaaDoor.Ch
