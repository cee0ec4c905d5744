import Derived.Test.YtbepnjgbkfidiaaUtfA
import Derived.OpenShut
/- Where a loop over the points of a text stands. -/
namespace Go.Proofs.Ytbepnjgbkfidiaa.Utf
open Go.RowKit

/-- What a call hands back: a slice of its own with the cells xs, and a number; what was there stays. -/
def GivesList (E : TypeId) (xs : List Value) (m : Int) (w : World) (e : Ending) (w' : World) : Prop :=
  ∃ v, e = .returned (.tuple #[v, .int .i64 m]) ∧ w'.ownsRow w.heap.size E 1 v xs.length xs ∧ Below w.heap.size w w'

theorem infoI32 : (Try.prog.info? 21).map (fun i => (i.zero, i.size, i.bytes)) = some (some (.int .i32 0), 1, 4) := by kernel_rfl
theorem infoI64 : (Try.prog.info? 2).map (fun i => (i.zero, i.size, i.bytes)) = some (some (.int .i64 0), 1, 8) := by kernel_rfl

/-- where a loop over the points of s stands: at byte k, with the points ps -/
def PtsAt (l : List UInt8) (k : Nat) (ps : List Int) : Prop := k ≤ l.length ∧ ps.length ≤ k ∧ ptsL l = (ps ++ (ptsL (l.drop k)).1, k + (ptsL (l.drop k)).2)
theorem PtsAt.start (l : List UInt8) : PtsAt l 0 [] := ⟨by omega, by simp, by simp⟩
theorem PtsAt.step {l : List UInt8} {k : Nat} {ps : List Int} {p : Int} {m : Nat} (h : PtsAt l k ps) (ho : oneL (l.drop k) = (p, (m : Int))) (hm : m ≠ 0) : PtsAt l (k + m) (ps ++ [p]) := by
  obtain ⟨h1, h2, h3⟩ := h
  have hb := one_bounds ho
  rw [List.length_drop] at hb
  refine ⟨by omega, by simp; omega, ?_⟩
  rw [h3, ptsL_go (by rw [ho]; simpa using hm), ho, List.drop_drop]
  simp [Nat.add_assoc]
theorem PtsAt.stop {l : List UInt8} {k : Nat} {ps : List Int} (h : PtsAt l k ps) (ho : (oneL (l.drop k)).2 = 0) : ptsL l = (ps, k) := by
  rw [h.2.2, ptsL_stop ho]; simp
theorem PtsAt.end_ {l : List UInt8} {ps : List Int} (h : PtsAt l l.length ps) : ptsL l = (ps, l.length) := h.stop (by rw [List.drop_length]; rfl)
end Go.Proofs.Ytbepnjgbkfidiaa.Utf
/- Words for what calls hand back; an owned row behind other calls. -/
namespace Go.Proofs.Ytbepnjgbkfidiaa.Utf
open Go.RowKit

theorem encL_le (xs : List Int) : (encL xs).length ≤ 4 * xs.length := by
  induction xs with
  | nil => simp [encL]
  | cons x xs ih =>
    rw [encL_cons]
    have := enc_le x
    simp
    omega
theorem encL_take (xs : List Int) (k : Nat) (h : k < xs.length) : encL (xs.take (k + 1)) = encL (xs.take k) ++ enc xs[k] := by
  rw [take_succ' xs k h, encL_append]; simp [encL]

end Go.Proofs.Ytbepnjgbkfidiaa.Utf
