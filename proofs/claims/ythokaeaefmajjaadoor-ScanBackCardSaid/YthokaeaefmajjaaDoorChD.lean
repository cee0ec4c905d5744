import Derived.Test.YthokaeaefmajjaaDoorChC
/- Contract of package chars' Quote. -/
namespace Go.Proofs.YthokaeaefmajjaaDoor.Ch
open Go.RowKit
open Go.Proofs.YthokaeaefmajjaaDoor.Utf

/-- What Quote tells: the text between quotes; or that its bytes aren't right. -/
def quoteR (l : List UInt8) : List UInt8 × Bool := if (ptsL l).2 < l.length then ([], false) else (34 :: (qbL l ++ [34]), true)
theorem quoteR_no {l : List UInt8} (h : (ptsL l).2 < l.length) : quoteR l = ([], false) := by rw [quoteR, if_pos h]
theorem quoteR_yes {l : List UInt8} (h : ¬ (ptsL l).2 < l.length) : quoteR l = (34 :: (qbL l ++ [34]), true) := by rw [quoteR, if_neg h]

/-- What a call hands back: a text and a bool; what was there stays. -/
def GivesQuote (r : List UInt8 × Bool) (w : World) (e : Ending) (w' : World) : Prop :=
  e = .returned (.tuple #[.string (strOf r.1), .bool r.2]) ∧ Below w.heap.size w w'
theorem retq {a a' : ByteArray} {b b' : Bool} (h1 : a = a') (h2 : b = b') : Ending.returned (.tuple #[.string a, .bool b]) = .returned (.tuple #[.string a', .bool b']) := by rw [h1, h2]

theorem qbL_take (l : List UInt8) (k : Nat) (h : k < l.length) : qbL (l.take (k + 1)) = qbL (l.take k) ++ toB (qbZ (byt l k)) := by
  rw [take_succ' l k h, qbL_append]
  have : (l[k].toNat : Int) = byt l k := by unfold byt; rw [List.getD_eq_getElem?_getD, List.getElem?_eq_getElem h]; rfl
  simp [qbL, qb, this]
theorem qbL_take_le (l : List UInt8) (k : Nat) : (qbL (l.take k)).length ≤ (qbL l).length := by
  have := congrArg List.length (qbL_append (l.take k) (l.drop k))
  rw [List.take_append_drop, List.length_append] at this
  omega

end Go.Proofs.YthokaeaefmajjaaDoor.Ch
