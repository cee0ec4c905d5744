import Derived.Test.YtoflogckoepioaaDoorRfH
import Derived.Test.YtoflogckoepioaaDoorReAw0
/- Contract of the awake of layer 5's law. -/
namespace Go.Proofs.YtoflogckoepioaaDoor.Re
open Go.RowKit
open Go.Proofs.YtoflogckoepioaaDoor.Utf
open Go.Proofs.YtoflogckoepioaaDoor.Sc

theorem val_closed (l : List UInt8) (r : V × Int × Int) (w : World) (hl : l.length ≤ 9223372036854775807) (h : rdV l = r) :
    Calls Tryd.prog 5 #[.string ⟨l.toArray⟩] w (GivesVal r w) := by
  have := Value_any ⟨l.toArray⟩ w hl
  rw [show (ByteArray.mk l.toArray).data.toList = l from rfl, h] at this
  exact this
/-- the cells of no value -/
theorem RdV.zero {w : World} {lo hi : Nat} {c0 c1 c2 c3 c4 : Value} (h : RdV w lo hi V0 [c0, c1, c2, c3, c4]) : ∃ A c A2 d, c0 = .int .i64 0 ∧ c1 = .int .i64 0 ∧ c2 = .string ⟨#[]⟩ ∧ c3 = .slice A 0 c ∧ c4 = .slice A2 0 d := by
  obtain ⟨A, c, A2, d, hcs, _⟩ := h.cells
  simp only [List.cons.injEq, and_true] at hcs
  obtain ⟨rfl, rfl, rfl, rfl, rfl⟩ := hcs
  exact ⟨A, c, A2, d, rfl, rfl, rfl, rfl, rfl⟩

/-- the cells of the first text's value -/
theorem aw_mem {w : World} {lo hi : Nat} {a0 a1 a2 a3 a4 : Value} (h : RdV w lo hi (lsV [nmV 1, mpV ([[97]], [V.mk 1 0 [] [] [] []])]) [a0, a1, a2, a3, a4]) :
    ∃ g c A2 c2 g2 d1, a0 = .int .i64 5 ∧ a1 = .int .i64 0 ∧ a2 = .string ⟨#[]⟩ ∧ a3 = .slice (some ⟨g, 0, none⟩) 2 c ∧ a4 = .slice A2 0 c2 ∧ g < hi ∧ g2 < hi ∧
      w.cell? ⟨g, 1, none⟩ = some (.int .i64 1) ∧ w.cell? ⟨g, 9, none⟩ = some (.slice (some ⟨g2, 0, none⟩) 1 d1) ∧ w.cell? ⟨g2, 1, none⟩ = some (.int .i64 1) := by
  obtain ⟨A, c, A2, c2, hcs, _, hl, _⟩ := h.cells
  simp only [List.cons.injEq, and_true] at hcs
  obtain ⟨rfl, rfl, rfl, rfl, rfl⟩ := hcs
  obtain ⟨g, rfl, _, hg, hL⟩ := hl (by decide)
  obtain ⟨cs0, k0, r0⟩ := RdL.at_ _ 0 hL 0 (by decide)
  obtain ⟨cs1, k1, r1⟩ := RdL.at_ _ 0 hL 1 (by decide)
  obtain ⟨B0, b0, B1, b1, rfl, _⟩ := r0.cells
  obtain ⟨C0, d0, C1, d1, rfl, _, _, hm⟩ := r1.cells
  obtain ⟨g2, rfl, _, hg2, hM⟩ := hm (by decide)
  obtain ⟨_, cs2, k2, r2⟩ := RdM.at_ _ _ 0 hM 0 (by decide) (by decide)
  obtain ⟨E0, e0, E1, e1, rfl, _⟩ := r2.cells
  exact ⟨g, c, A2, c2, g2, d1, rfl, rfl, rfl, rfl, rfl, hg, hg2, k0 1 _ rfl, k1 4 _ rfl, k2 0 _ rfl⟩

set_option maxRecDepth 100000 in
set_option maxHeartbeats 4000000 in
theorem awake_any5 (w : World) : Calls Tryd.prog 7 #[] w (Gives (.bool true) w) := by
  go_enter Tryd.func7, Tryd.ntmps7
  go_wp2_with fail
  refine (val_closed [91, 49, 44, 123, 34, 97, 34, 58, 110, 117, 108, 108, 125, 93] _ _ (by decide) aw5_1).mono ?_
  rintro e w1 ⟨_, _, _, _, _, rfl, _, hV, hb1⟩
  obtain ⟨g, c, A2, c2, g2, d1, rfl, rfl, rfl, rfl, rfl, hg, hg2, x1, x2, x3⟩ := aw_mem hV
  have z1 := heap_alloc_new w1 (.cells #[.int .i64 5, .int .i64 0, .string ⟨#[]⟩, .slice (some ⟨g, 0, none⟩) 2 c, .slice A2 0 c2] 25)
  have s1 : (w1.alloc (.cells #[.int .i64 5, .int .i64 0, .string ⟨#[]⟩, .slice (some ⟨g, 0, none⟩) 2 c, .slice A2 0 c2] 25)).heap.size = w1.heap.size + 1 := szAlloc' _ _
  have B1 : Below w1.heap.size w1 (w1.alloc (.cells #[.int .i64 5, .int .i64 0, .string ⟨#[]⟩, .slice (some ⟨g, 0, none⟩) 2 c, .slice A2 0 c2] 25)) := (Below.refl _ _).alloc (Nat.le_refl _) _
  clear hV
  go_wp2_with fail
  refine (val_closed [91, 49, 44, 93] _ _ (by decide) aw5_2).mono ?_
  rintro e w2 ⟨_, _, _, _, _, rfl, _, hV, hb2⟩
  obtain ⟨D0, e0, D1, e1, rfl, rfl, rfl, rfl, rfl⟩ := hV.zero
  rw [s1] at hb2
  have y1 : w2.cell? ⟨g, 1, none⟩ = some (.int .i64 1) := (hb2.cell (by show g < w1.heap.size + 1; omega)).trans ((B1.cell hg).trans x1)
  have y2 : w2.cell? ⟨g, 9, none⟩ = some (.slice (some ⟨g2, 0, none⟩) 1 d1) := (hb2.cell (by show g < w1.heap.size + 1; omega)).trans ((B1.cell hg).trans x2)
  have y3 : w2.cell? ⟨g2, 1, none⟩ = some (.int .i64 1) := (hb2.cell (by show g2 < w1.heap.size + 1; omega)).trans ((B1.cell hg2).trans x3)
  have z2 := (hb2.block w1.heap.size (by omega)).trans z1
  have n2 := hb2.size
  rw [s1] at n2
  have B2 : Below w2.heap.size w2 (w2.alloc (.cells #[.int .i64 0, .int .i64 0, .string ⟨#[]⟩, .slice D0 0 e0, .slice D1 0 e1] 25)) := (Below.refl _ _).alloc (Nat.le_refl _) _
  have s2 : (w2.alloc (.cells #[.int .i64 0, .int .i64 0, .string ⟨#[]⟩, .slice D0 0 e0, .slice D1 0 e1] 25)).heap.size = w2.heap.size + 1 := szAlloc' _ _
  have T2 : Below w.heap.size w w2 := hb1.trans ((B1.mono hb1.size).trans (hb2.mono (by have := hb1.size; omega)))
  clear hV x1 x2 x3 z1 B1 hb2 s1 hb1
  go_wp2_with fail
  refine (val_closed [123, 34, 97, 34, 58, 49, 44, 34, 97, 34, 58, 50, 125] _ _ (by decide) aw5_3).mono ?_
  rintro e w3 ⟨_, _, _, _, _, rfl, _, hV, hb3⟩
  obtain ⟨F0, f0, F1, f1, rfl, rfl, rfl, rfl, rfl⟩ := hV.zero
  rw [s2] at hb3
  have x1 : w3.cell? ⟨g, 1, none⟩ = some (.int .i64 1) := (hb3.cell (by show g < w2.heap.size + 1; omega)).trans ((B2.cell (by show g < w2.heap.size; omega)).trans y1)
  have x2 : w3.cell? ⟨g, 9, none⟩ = some (.slice (some ⟨g2, 0, none⟩) 1 d1) := (hb3.cell (by show g < w2.heap.size + 1; omega)).trans ((B2.cell (by show g < w2.heap.size; omega)).trans y2)
  have x3 : w3.cell? ⟨g2, 1, none⟩ = some (.int .i64 1) := (hb3.cell (by show g2 < w2.heap.size + 1; omega)).trans ((B2.cell (by show g2 < w2.heap.size; omega)).trans y3)
  have z3 := (hb3.block w1.heap.size (by omega)).trans ((B2.block w1.heap.size (by omega)).trans z2)
  have n3 := hb3.size
  rw [s2] at n3
  have B3 : Below w3.heap.size w3 (w3.alloc (.cells #[.int .i64 0, .int .i64 0, .string ⟨#[]⟩, .slice F0 0 f0, .slice F1 0 f1] 25)) := (Below.refl _ _).alloc (Nat.le_refl _) _
  have s3 : (w3.alloc (.cells #[.int .i64 0, .int .i64 0, .string ⟨#[]⟩, .slice F0 0 f0, .slice F1 0 f1] 25)).heap.size = w3.heap.size + 1 := szAlloc' _ _
  have T3 : Below w.heap.size w w3 := T2.trans ((B2.mono T2.size).trans (hb3.mono (by have := T2.size; omega)))
  clear hV y1 y2 y3 z2 B2 hb3 s2
  go_wp2_with fail
  refine (val_closed [] _ _ (by decide) aw5_4).mono ?_
  rintro e w4 ⟨_, _, _, _, _, rfl, _, hV, hb4⟩
  obtain ⟨G0, g0, G1, g1, rfl, rfl, rfl, rfl, rfl⟩ := hV.zero
  rw [s3] at hb4
  have y1 : w4.cell? ⟨g, 1, none⟩ = some (.int .i64 1) := (hb4.cell (by show g < w3.heap.size + 1; omega)).trans ((B3.cell (by show g < w3.heap.size; omega)).trans x1)
  have y2 : w4.cell? ⟨g, 9, none⟩ = some (.slice (some ⟨g2, 0, none⟩) 1 d1) := (hb4.cell (by show g < w3.heap.size + 1; omega)).trans ((B3.cell (by show g < w3.heap.size; omega)).trans x2)
  have y3 : w4.cell? ⟨g2, 1, none⟩ = some (.int .i64 1) := (hb4.cell (by show g2 < w3.heap.size + 1; omega)).trans ((B3.cell (by show g2 < w3.heap.size; omega)).trans x3)
  have z4 := (hb4.block w1.heap.size (by omega)).trans ((B3.block w1.heap.size (by omega)).trans z3)
  have n4 := hb4.size
  rw [s3] at n4
  have B4 : Below w4.heap.size w4 (w4.alloc (.cells #[.int .i64 0, .int .i64 0, .string ⟨#[]⟩, .slice G0 0 g0, .slice G1 0 g1] 25)) := (Below.refl _ _).alloc (Nat.le_refl _) _
  obtain ⟨v0, v1, v2, v3, v4⟩ := cells5 ((B4.block w1.heap.size (by omega)).trans z4)
  have u1 := (B4.cell (p := ⟨g, 1, none⟩) (by show g < w4.heap.size; omega)).trans y1
  have u2 := (B4.cell (p := ⟨g, 9, none⟩) (by show g < w4.heap.size; omega)).trans y2
  have u3 := (B4.cell (p := ⟨g2, 1, none⟩) (by show g2 < w4.heap.size; omega)).trans y3
  have T4 : Below w.heap.size w w4 := T3.trans ((B3.mono T3.size).trans (hb4.mono (by have := T3.size; omega)))
  clear hV x1 x2 x3 z3 B3 hb4 s3 z4 y1 y2 y3 B4
  go_wp2_with fail
  go_ret
  exact ⟨rfl, T4.alloc T4.size _⟩
end Go.Proofs.YtoflogckoepioaaDoor.Re
