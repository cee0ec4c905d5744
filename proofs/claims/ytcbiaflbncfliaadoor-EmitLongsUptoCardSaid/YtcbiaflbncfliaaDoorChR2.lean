import Derived.Test.YtcbiaflbncfliaaDoorChR
import Derived.Test.YtcbiaflbncfliaaDoorUtfA
import Derived.Deep.QuietTactic
import Derived.BigQuiet
/- Contract of the document's answer for layer 2: Escape. -/
namespace Go.Proofs.YtcbiaflbncfliaaDoor.Ch
open Go.RowKit
open Go.Proofs.YtcbiaflbncfliaaDoor.Utf

/-- the letters behind a stroke, and the points that they stand for -/
def tabL (k : Nat) : Int := [34, 92, 47, 98, 102, 110, 114, 116].getD k 0
def tabP (k : Nat) : Int := [34, 92, 47, 8, 12, 10, 13, 9].getD k 0
theorem tab_cases {k : Nat} (h : k < 8) : k = 0 ∨ k = 1 ∨ k = 2 ∨ k = 3 ∨ k = 4 ∨ k = 5 ∨ k = 6 ∨ k = 7 := by omega
theorem tab_let {k : Nat} (h : k < 8) : letV (tabL k) = tabP k ∧ 0 ≤ tabP k ∧ tabP k ≤ 92 := by
  rcases tab_cases h with rfl | rfl | rfl | rfl | rfl | rfl | rfl | rfl <;> decide
theorem tab_none {c : Int} (h : ∀ j, j < 8 → c ≠ tabL j) : letV c = -1 := by
  have h0 : c ≠ 34 := h 0 (by omega)
  have h1 : c ≠ 92 := h 1 (by omega)
  have h2 : c ≠ 47 := h 2 (by omega)
  have h3 : c ≠ 98 := h 3 (by omega)
  have h4 : c ≠ 102 := h 4 (by omega)
  have h5 : c ≠ 110 := h 5 (by omega)
  have h6 : c ≠ 114 := h 6 (by omega)
  have h7 : c ≠ 116 := h 7 (by omega)
  unfold letV
  rw [if_neg h0, if_neg h1, if_neg h2, if_neg h3, if_neg h4, if_neg h5, if_neg h6, if_neg h7]
set_option maxRecDepth 100000 in
theorem tab_at (w : World) (k : Nat) (hk : k < 8) : (Instr.index 9 (.string ⟨#[34, 92, 47, 98, 102, 110, 114, 116]⟩) (.int .i64 (k : Nat))).run Tryd.prog w = .ok (.int .u8 (tabL k)) w := by
  rcases tab_cases hk with rfl | rfl | rfl | rfl | rfl | rfl | rfl | rfl <;> rfl

/-- the table lies as it was laid -/
def Tab (w : World) : Prop := 0 < w.heap.size ∧ ∀ k, k < 8 → w.cell? ⟨0, k, none⟩ = some (.int .i64 (tabP k))
theorem Tab.below {w w' : World} {B : Nat} (h : Tab w) (hb : Below B w w') (hB : 0 < B) (hs : w.heap.size ≤ w'.heap.size) : Tab w' :=
  ⟨by have := h.1; omega, fun k hk => (hb.cell (p := ⟨0, k, none⟩) hB).trans (h.2 k hk)⟩

/-- the ways of an escape that is no letter's -/
theorem escL_no {l : List UInt8} (h : l.length < 2 ∨ letV (byt l 1) = -1) (hu : unitL l < 0) : escL l = (0, 0) := (escU_none (by omega) hu).2
theorem escL_pt {l : List UInt8} {u : Int} (h : unitL l = u) (h0 : 0 ≤ u) (hp : isPt u = true) : escL l = (u, 6) := by rw [escL_unit (by omega), h, if_pos hp]
theorem escL_two {l : List UInt8} {u b : Int} (h : unitL l = u) (h0 : 0 ≤ u) (hp : isPt u = false) (hb : unitL (l.drop 6) = b) (hu : isUp u = true) (hl : isLo b = true) : escL l = (bothV u b, 12) := by
  rw [escL_unit (by omega), h, hb, if_neg (by rw [hp]; simp), if_pos ⟨hu, hl⟩]
theorem escL_half {l : List UInt8} {u b : Int} (h : unitL l = u) (h0 : 0 ≤ u) (hp : isPt u = false) (hb : unitL (l.drop 6) = b) (hu : ¬ (u ≤ 56319 ∧ 56320 ≤ b ∧ b ≤ 57343)) : escL l = (0, 0) := by
  rw [escL_unit (by omega), h, hb, if_neg (by rw [hp]; simp), if_neg]
  intro x
  have := isUp_bd x.1
  have := isLo_bd x.2
  omega

theorem ret2 {a a' b b' : Int} (h1 : a = a') (h2 : b = b') : Ending.returned (.tuple #[.int .i64 a, .int .i64 b]) = .returned (.tuple #[.int .i64 a', .int .i64 b']) := by rw [h1, h2]

end Go.Proofs.YtcbiaflbncfliaaDoor.Ch
