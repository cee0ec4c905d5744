import Derived.Test.YtflnooigjaffdaaChW0
import Derived.Test.YtflnooigjaffdaaChPl6
/- The walk of the law CharsPairs. -/
namespace Go.Proofs.Ytflnooigjaffdaa.Ch
open Go.RowKit
open Go.Proofs.Ytflnooigjaffdaa.Utf

/-- the digits of a number of 16 bits, the great ones first -/
def hexDs (n : Int) : List Int := [hexU (n / 4096 % 16), hexU (n / 256 % 16), hexU (n / 16 % 16), hexU (n % 16)]
def unitB (n : Int) (k : Nat) : List Int := [92, 117] ++ (hexDs n).take k
theorem hexDs_byte (n : Int) : ∀ x ∈ hexDs n, 0 ≤ x ∧ x < 256 := by
  have a := hexU_bd (d := n / 4096 % 16) (by omega) (by omega)
  have b := hexU_bd (d := n / 256 % 16) (by omega) (by omega)
  have c := hexU_bd (d := n / 16 % 16) (by omega) (by omega)
  have d := hexU_bd (d := n % 16) (by omega) (by omega)
  intro x hx
  simp [hexDs] at hx
  omega
theorem unitB_byte (n : Int) (k : Nat) : ∀ x ∈ unitB n k, 0 ≤ x ∧ x < 256 := by
  intro x hx
  simp only [unitB, List.mem_append] at hx
  rcases hx with hx | hx
  · simp at hx; omega
  · exact hexDs_byte n x (List.mem_of_mem_take hx)
theorem wraps_u16 (n : Int) (h₀ : 0 ≤ n) (h₁ : n < 2 ^ 16) : IntKind.u16.wrap n = n := by rw [IntKind.wrap_u16]; omega
theorem u16_and15 (x : Int) (h0 : 0 ≤ x) (h1 : x < 65536) : bits .and .u16 x 15 = x % 16 := bits_mask .u16 16 (by decide) wraps_u16 4 (by decide) x h0 h1

theorem toB_app (a b : List Int) : toB (a ++ b) = toB a ++ toB b := by simp [toB]

set_option maxRecDepth 100000 in
set_option maxHeartbeats 4000000 in
theorem unit_any (n : Int) (w : World) (h0 : 0 ≤ n) (h1 : n ≤ 65535) : Calls Try.prog 11 #[.int .u16 n] w (Gives (.string (strOf (toB (unitB n 4)))) w) := by
  obtain ⟨i0, hi, hz0, hz1, hz2⟩ := info_parts infoU8
  have e3 := u16_and15 (n / 4096) (by omega) (by omega)
  have e2 := u16_and15 (n / 256) (by omega) (by omega)
  have e1 := u16_and15 (n / 16) (by omega) (by omega)
  have e0 := u16_and15 n h0 (by omega)
  go_enter Try.func11, Try.ntmps11
  go_wp2_with fail
  have hs0 : Lib.byteCells (toB (unitB n 0)) = [.int .u8 92, .int .u8 117] := rfl
  have HS0 := Lib.hid hs0; clear hs0
  go_loopw [3, 4, 5] (fun v i _ wr => ∃ k : Nat, k ≤ 4 ∧ i = .int .i64 (3 - (k : Int)) ∧ wr.ownsRow w.heap.size 5 1 v (2 + k) (Lib.byteCells (toB (unitB n k))) ∧ Below w.heap.size w wr) (fun _ i _ _ => (intOf i + 1).toNat)
  case atStart => exact ⟨0, by omega, rfl, by rw [HS0.out]; exact World.ownsRow_lit w #[.int .u8 92, .int .u8 117] 2 (Nat.le_refl _) (by decide) rfl, (Below.refl _ _).alloc (Nat.le_refl _) _⟩
  case round =>
    obtain ⟨k, hk, rfl, hown, hbel⟩ := hrel
    have hB := hbel.size
    rcases (show k = 0 ∨ k = 1 ∨ k = 2 ∨ k = 3 ∨ k = 4 by omega) with rfl | rfl | rfl | rfl | rfl
    · have g0 : 0 ≤ n / 4096 % 16 := by omega
      have g1 : n / 4096 % 16 < 16 := by omega
      by_cases hd : n / 4096 % 16 < 10
      · have hdd : decide (n / 4096 % 16 < 10) = true := decide_eq_true hd
        have hx : hexU (n / 4096 % 16) = 48 + n / 4096 % 16 := by unfold hexU; rw [if_pos hd]
        have hu : unitB n 1 = unitB n 0 ++ [48 + n / 4096 % 16] := by rw [← hx]; rfl
        have HU := Lib.hid hu; clear hu hx
        have hb1 : Lib.byteCells (toB [48 + n / 4096 % 16]) = [.int .u8 (48 + n / 4096 % 16)] := byteCells_toB [48 + n / 4096 % 16] (by intro x hx; simp at hx; omega)
        have HB1 := Lib.hid hb1; clear hb1
        go_wp2_with (at_builtin; refine wpList_append_own _ rfl (.tmp 19) (.tmp 22) 33 rfl w.heap.size 5 i0 (.int .u8 0) 1 1 Try.underlying33 hi hz0 hz1 hz2 rfl (by decide) _ (2 + 0) _ rfl (hown.alloc _) ⟨wr.heap.size, 0, none⟩ 1 1 [.int .u8 (48 + n / 4096 % 16)] rfl rfl (cells_new _ _ _) ?_ ?_ ?_ ?_ ?_; (intro u hu; simp at hu; subst hu; rfl); (unfold maxLen; omega); omega; (simp; omega); intro v1 w1 hown1 hg1 _)
        go_roundw
        case rel => exact ⟨1, by omega, by go_num, by rw [HU.out, toB_app, Lib.byteCells_append, HB1.out]; exact hown1, (hbel.alloc hB _).grown hg1 (by simp; omega) (fun g hg => (hown.lt g hg).1)⟩
        case measure => simp [intOf]
      · have hdd : decide (n / 4096 % 16 < 10) = false := decide_eq_false hd
        have hx : hexU (n / 4096 % 16) = 65 + n / 4096 % 16 - 10 := by unfold hexU; rw [if_neg hd]; omega
        have hu : unitB n 1 = unitB n 0 ++ [65 + n / 4096 % 16 - 10] := by rw [← hx]; rfl
        have HU := Lib.hid hu; clear hu hx
        have hb1 : Lib.byteCells (toB [65 + n / 4096 % 16 - 10]) = [.int .u8 (65 + n / 4096 % 16 - 10)] := byteCells_toB [65 + n / 4096 % 16 - 10] (by intro x hx; simp at hx; omega)
        have HB1 := Lib.hid hb1; clear hb1
        go_wp2_with (at_builtin; refine wpList_append_own _ rfl (.tmp 24) (.tmp 28) 33 rfl w.heap.size 5 i0 (.int .u8 0) 1 1 Try.underlying33 hi hz0 hz1 hz2 rfl (by decide) _ (2 + 0) _ rfl (hown.alloc _) ⟨wr.heap.size, 0, none⟩ 1 1 [.int .u8 (65 + n / 4096 % 16 - 10)] rfl rfl (cells_new _ _ _) ?_ ?_ ?_ ?_ ?_; (intro u hu; simp at hu; subst hu; rfl); (unfold maxLen; omega); omega; (simp; omega); intro v1 w1 hown1 hg1 _)
        go_roundw
        case rel => exact ⟨1, by omega, by go_num, by rw [HU.out, toB_app, Lib.byteCells_append, HB1.out]; exact hown1, (hbel.alloc hB _).grown hg1 (by simp; omega) (fun g hg => (hown.lt g hg).1)⟩
        case measure => simp [intOf]
    · have g0 : 0 ≤ n / 256 % 16 := by omega
      have g1 : n / 256 % 16 < 16 := by omega
      by_cases hd : n / 256 % 16 < 10
      · have hdd : decide (n / 256 % 16 < 10) = true := decide_eq_true hd
        have hx : hexU (n / 256 % 16) = 48 + n / 256 % 16 := by unfold hexU; rw [if_pos hd]
        have hu : unitB n 2 = unitB n 1 ++ [48 + n / 256 % 16] := by rw [← hx]; rfl
        have HU := Lib.hid hu; clear hu hx
        have hb1 : Lib.byteCells (toB [48 + n / 256 % 16]) = [.int .u8 (48 + n / 256 % 16)] := byteCells_toB [48 + n / 256 % 16] (by intro x hx; simp at hx; omega)
        have HB1 := Lib.hid hb1; clear hb1
        go_wp2_with (at_builtin; refine wpList_append_own _ rfl (.tmp 19) (.tmp 22) 33 rfl w.heap.size 5 i0 (.int .u8 0) 1 1 Try.underlying33 hi hz0 hz1 hz2 rfl (by decide) _ (2 + 1) _ rfl (hown.alloc _) ⟨wr.heap.size, 0, none⟩ 1 1 [.int .u8 (48 + n / 256 % 16)] rfl rfl (cells_new _ _ _) ?_ ?_ ?_ ?_ ?_; (intro u hu; simp at hu; subst hu; rfl); (unfold maxLen; omega); omega; (simp; omega); intro v1 w1 hown1 hg1 _)
        go_roundw
        case rel => exact ⟨2, by omega, by go_num, by rw [HU.out, toB_app, Lib.byteCells_append, HB1.out]; exact hown1, (hbel.alloc hB _).grown hg1 (by simp; omega) (fun g hg => (hown.lt g hg).1)⟩
        case measure => simp [intOf]
      · have hdd : decide (n / 256 % 16 < 10) = false := decide_eq_false hd
        have hx : hexU (n / 256 % 16) = 65 + n / 256 % 16 - 10 := by unfold hexU; rw [if_neg hd]; omega
        have hu : unitB n 2 = unitB n 1 ++ [65 + n / 256 % 16 - 10] := by rw [← hx]; rfl
        have HU := Lib.hid hu; clear hu hx
        have hb1 : Lib.byteCells (toB [65 + n / 256 % 16 - 10]) = [.int .u8 (65 + n / 256 % 16 - 10)] := byteCells_toB [65 + n / 256 % 16 - 10] (by intro x hx; simp at hx; omega)
        have HB1 := Lib.hid hb1; clear hb1
        go_wp2_with (at_builtin; refine wpList_append_own _ rfl (.tmp 24) (.tmp 28) 33 rfl w.heap.size 5 i0 (.int .u8 0) 1 1 Try.underlying33 hi hz0 hz1 hz2 rfl (by decide) _ (2 + 1) _ rfl (hown.alloc _) ⟨wr.heap.size, 0, none⟩ 1 1 [.int .u8 (65 + n / 256 % 16 - 10)] rfl rfl (cells_new _ _ _) ?_ ?_ ?_ ?_ ?_; (intro u hu; simp at hu; subst hu; rfl); (unfold maxLen; omega); omega; (simp; omega); intro v1 w1 hown1 hg1 _)
        go_roundw
        case rel => exact ⟨2, by omega, by go_num, by rw [HU.out, toB_app, Lib.byteCells_append, HB1.out]; exact hown1, (hbel.alloc hB _).grown hg1 (by simp; omega) (fun g hg => (hown.lt g hg).1)⟩
        case measure => simp [intOf]
    · have g0 : 0 ≤ n / 16 % 16 := by omega
      have g1 : n / 16 % 16 < 16 := by omega
      by_cases hd : n / 16 % 16 < 10
      · have hdd : decide (n / 16 % 16 < 10) = true := decide_eq_true hd
        have hx : hexU (n / 16 % 16) = 48 + n / 16 % 16 := by unfold hexU; rw [if_pos hd]
        have hu : unitB n 3 = unitB n 2 ++ [48 + n / 16 % 16] := by rw [← hx]; rfl
        have HU := Lib.hid hu; clear hu hx
        have hb1 : Lib.byteCells (toB [48 + n / 16 % 16]) = [.int .u8 (48 + n / 16 % 16)] := byteCells_toB [48 + n / 16 % 16] (by intro x hx; simp at hx; omega)
        have HB1 := Lib.hid hb1; clear hb1
        go_wp2_with (at_builtin; refine wpList_append_own _ rfl (.tmp 19) (.tmp 22) 33 rfl w.heap.size 5 i0 (.int .u8 0) 1 1 Try.underlying33 hi hz0 hz1 hz2 rfl (by decide) _ (2 + 2) _ rfl (hown.alloc _) ⟨wr.heap.size, 0, none⟩ 1 1 [.int .u8 (48 + n / 16 % 16)] rfl rfl (cells_new _ _ _) ?_ ?_ ?_ ?_ ?_; (intro u hu; simp at hu; subst hu; rfl); (unfold maxLen; omega); omega; (simp; omega); intro v1 w1 hown1 hg1 _)
        go_roundw
        case rel => exact ⟨3, by omega, by go_num, by rw [HU.out, toB_app, Lib.byteCells_append, HB1.out]; exact hown1, (hbel.alloc hB _).grown hg1 (by simp; omega) (fun g hg => (hown.lt g hg).1)⟩
        case measure => simp [intOf]
      · have hdd : decide (n / 16 % 16 < 10) = false := decide_eq_false hd
        have hx : hexU (n / 16 % 16) = 65 + n / 16 % 16 - 10 := by unfold hexU; rw [if_neg hd]; omega
        have hu : unitB n 3 = unitB n 2 ++ [65 + n / 16 % 16 - 10] := by rw [← hx]; rfl
        have HU := Lib.hid hu; clear hu hx
        have hb1 : Lib.byteCells (toB [65 + n / 16 % 16 - 10]) = [.int .u8 (65 + n / 16 % 16 - 10)] := byteCells_toB [65 + n / 16 % 16 - 10] (by intro x hx; simp at hx; omega)
        have HB1 := Lib.hid hb1; clear hb1
        go_wp2_with (at_builtin; refine wpList_append_own _ rfl (.tmp 24) (.tmp 28) 33 rfl w.heap.size 5 i0 (.int .u8 0) 1 1 Try.underlying33 hi hz0 hz1 hz2 rfl (by decide) _ (2 + 2) _ rfl (hown.alloc _) ⟨wr.heap.size, 0, none⟩ 1 1 [.int .u8 (65 + n / 16 % 16 - 10)] rfl rfl (cells_new _ _ _) ?_ ?_ ?_ ?_ ?_; (intro u hu; simp at hu; subst hu; rfl); (unfold maxLen; omega); omega; (simp; omega); intro v1 w1 hown1 hg1 _)
        go_roundw
        case rel => exact ⟨3, by omega, by go_num, by rw [HU.out, toB_app, Lib.byteCells_append, HB1.out]; exact hown1, (hbel.alloc hB _).grown hg1 (by simp; omega) (fun g hg => (hown.lt g hg).1)⟩
        case measure => simp [intOf]
    · have g0 : 0 ≤ n % 16 := by omega
      have g1 : n % 16 < 16 := by omega
      by_cases hd : n % 16 < 10
      · have hdd : decide (n % 16 < 10) = true := decide_eq_true hd
        have hx : hexU (n % 16) = 48 + n % 16 := by unfold hexU; rw [if_pos hd]
        have hu : unitB n 4 = unitB n 3 ++ [48 + n % 16] := by rw [← hx]; rfl
        have HU := Lib.hid hu; clear hu hx
        have hb1 : Lib.byteCells (toB [48 + n % 16]) = [.int .u8 (48 + n % 16)] := byteCells_toB [48 + n % 16] (by intro x hx; simp at hx; omega)
        have HB1 := Lib.hid hb1; clear hb1
        go_wp2_with (at_builtin; refine wpList_append_own _ rfl (.tmp 19) (.tmp 22) 33 rfl w.heap.size 5 i0 (.int .u8 0) 1 1 Try.underlying33 hi hz0 hz1 hz2 rfl (by decide) _ (2 + 3) _ rfl (hown.alloc _) ⟨wr.heap.size, 0, none⟩ 1 1 [.int .u8 (48 + n % 16)] rfl rfl (cells_new _ _ _) ?_ ?_ ?_ ?_ ?_; (intro u hu; simp at hu; subst hu; rfl); (unfold maxLen; omega); omega; (simp; omega); intro v1 w1 hown1 hg1 _)
        go_roundw
        case rel => exact ⟨4, by omega, by go_num, by rw [HU.out, toB_app, Lib.byteCells_append, HB1.out]; exact hown1, (hbel.alloc hB _).grown hg1 (by simp; omega) (fun g hg => (hown.lt g hg).1)⟩
        case measure => simp [intOf]
      · have hdd : decide (n % 16 < 10) = false := decide_eq_false hd
        have hx : hexU (n % 16) = 65 + n % 16 - 10 := by unfold hexU; rw [if_neg hd]; omega
        have hu : unitB n 4 = unitB n 3 ++ [65 + n % 16 - 10] := by rw [← hx]; rfl
        have HU := Lib.hid hu; clear hu hx
        have hb1 : Lib.byteCells (toB [65 + n % 16 - 10]) = [.int .u8 (65 + n % 16 - 10)] := byteCells_toB [65 + n % 16 - 10] (by intro x hx; simp at hx; omega)
        have HB1 := Lib.hid hb1; clear hb1
        go_wp2_with (at_builtin; refine wpList_append_own _ rfl (.tmp 24) (.tmp 28) 33 rfl w.heap.size 5 i0 (.int .u8 0) 1 1 Try.underlying33 hi hz0 hz1 hz2 rfl (by decide) _ (2 + 3) _ rfl (hown.alloc _) ⟨wr.heap.size, 0, none⟩ 1 1 [.int .u8 (65 + n % 16 - 10)] rfl rfl (cells_new _ _ _) ?_ ?_ ?_ ?_ ?_; (intro u hu; simp at hu; subst hu; rfl); (unfold maxLen; omega); omega; (simp; omega); intro v1 w1 hown1 hg1 _)
        go_roundw
        case rel => exact ⟨4, by omega, by go_num, by rw [HU.out, toB_app, Lib.byteCells_append, HB1.out]; exact hown1, (hbel.alloc hB _).grown hg1 (by simp; omega) (fun g hg => (hown.lt g hg).1)⟩
        case measure => simp [intOf]
    · have hcv := (Rd.of_own hown).conv (P := Try.prog) Try.underlying33 Try.underlying5 Try.underlying9
      go_wp2_with fail
      go_ret
      exact ⟨rfl, hbel⟩
end Go.Proofs.Ytflnooigjaffdaa.Ch
