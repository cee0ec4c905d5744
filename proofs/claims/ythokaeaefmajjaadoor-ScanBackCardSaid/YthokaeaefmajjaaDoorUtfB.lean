import Derived.Test.YthokaeaefmajjaaDoorUtfA
import Derived.Test.YthokaeaefmajjaaDoorMem
import Derived.Laws.AppendOwn
/- Contracts: the document's answer Is, Bytes (new memory); package utf's lay. -/
namespace Go.Proofs.YthokaeaefmajjaaDoor.Utf
open Go.RowKit

theorem Is_any (n : Int) (w : World) : Calls Tryd.prog 33 #[.int .i64 n] w fun e w' => e = .returned (.bool (isPt n)) ∧ w = w' := by
  go_enter Tryd.func33, Tryd.ntmps33
  go_wp2
  all_goals
    go_ret
    exact ⟨ret_bool (by rw [Bool.eq_iff_iff]; simp [isPt]; omega), rfl⟩

set_option maxHeartbeats 400000 in
theorem Bytes_any (n : Int) (w : World) : Calls Tryd.prog 23 #[.int .i64 n] w (GivesRow 5 (Lib.byteCells (enc n)) w) := by
  by_cases hp : isPt n = true
  · have h0 := isPt_lo hp
    have h1 := isPt_hi hp
    have HP := Lib.hid hp
    by_cases c1 : n < 128
    · have e1 : n % 256 = n := by omega
      go_enter Tryd.func23, Tryd.ntmps23
      go_wp2_with (go_at_call 33; refine (Is_any _ _).mono ?_; rintro e w' ⟨rfl, rfl⟩)
      go_ret
      rw [byteCells_enc, encZ_1 HP.out c1]
      exact gives_new rfl rfl (by simp [maxLen])
    · by_cases c2 : n < 2048
      · have e1 : (192 + n / 64) % 256 = 192 + n / 64 := by omega
        have e2 : (128 + n % 64) % 256 = 128 + n % 64 := by omega
        go_enter Tryd.func23, Tryd.ntmps23
        go_wp2_with (go_at_call 33; refine (Is_any _ _).mono ?_; rintro e w' ⟨rfl, rfl⟩)
        go_ret
        rw [byteCells_enc, encZ_2 HP.out (by omega) c2]
        exact gives_new rfl rfl (by simp [maxLen])
      · by_cases c3 : n < 65536
        · have e1 : (224 + n / 4096) % 256 = 224 + n / 4096 := by omega
          have e2 : (128 + n / 64 % 64) % 256 = 128 + n / 64 % 64 := by omega
          have e3 : (128 + n % 64) % 256 = 128 + n % 64 := by omega
          go_enter Tryd.func23, Tryd.ntmps23
          go_wp2_with (go_at_call 33; refine (Is_any _ _).mono ?_; rintro e w' ⟨rfl, rfl⟩)
          go_ret
          rw [byteCells_enc, encZ_3 HP.out (by omega) c3]
          exact gives_new rfl rfl (by simp [maxLen])
        · have e1 : (240 + n / 262144) % 256 = 240 + n / 262144 := by omega
          have e2 : (128 + n / 4096 % 64) % 256 = 128 + n / 4096 % 64 := by omega
          have e3 : (128 + n / 64 % 64) % 256 = 128 + n / 64 % 64 := by omega
          have e4 : (128 + n % 64) % 256 = 128 + n % 64 := by omega
          go_enter Tryd.func23, Tryd.ntmps23
          go_wp2_with (go_at_call 33; refine (Is_any _ _).mono ?_; rintro e w' ⟨rfl, rfl⟩)
          go_ret
          rw [byteCells_enc, encZ_4 HP.out (by omega)]
          exact gives_new rfl rfl (by simp [maxLen])
  · have hp' : isPt n = false := by simpa using hp
    clear hp
    go_enter Tryd.func23, Tryd.ntmps23
    go_wp2_with (go_at_call 33; refine (Is_any _ _).mono ?_; rintro e w' ⟨rfl, rfl⟩)
    go_ret
    exact gives_nil (by rw [enc_no hp']; rfl)

set_option maxHeartbeats 1000000 in
theorem lay_any (v : Value) (xs : List Value) (n : Int) (B : Nat) (w : World) (hown : w.ownsRow B 5 1 v xs.length xs) (hB : B ≤ w.heap.size) (hr : xs.length + 4 ≤ 140737488355328) :
    Calls Tryd.prog 45 #[v, .int .i32 n] w (GivesOn 5 B (xs ++ Lib.byteCells (enc n)) w) := by
  obtain ⟨i0, hi, hz0, hz1, hz2⟩ := info_parts infoU8
  by_cases hp : isPt n = true
  · have h0 := isPt_lo hp
    have h1 := isPt_hi hp
    have HP := Lib.hid hp
    by_cases c1 : n < 128
    · have e1 : n % 256 = n := by omega
      rw [byteCells_enc, encZ_1 HP.out c1]
      go_enter Tryd.func45, Tryd.ntmps45
      go_wp2_with (first | (go_at_call 49; refine (isPoint_any _ _).mono ?_; rintro e w' ⟨rfl, rfl⟩) | (go_at_call 50; refine (six_any _ _ (by omega) (by omega)).mono ?_; rintro e w' ⟨rfl, rfl⟩) | (at_builtin; refine wpList_append_own _ rfl _ _ 52 rfl B 5 i0 (.int .u8 0) 1 1 Tryd.underlying52 hi hz0 hz1 hz2 rfl (by decide) v xs.length xs rfl (hown.alloc _) ⟨w.heap.size, 0, none⟩ 1 1 [.int .u8 n] rfl rfl (cells_new _ _ _) ?_ ?_ ?_ ?_ ?_; (intro u hu; simp at hu; rcases hu with rfl <;> rfl); (unfold maxLen; omega); omega; (simp; omega); intro v1 w1 hown1 hg1 _))
      go_ret
      exact ⟨v1, rfl, by rw [List.length_append]; exact hown1, ((Below.refl B w).alloc hB _).grown hg1 (by simp; omega) (fun k hk => (hown.lt k hk).1)⟩
    · by_cases c2 : n < 2048
      · have e1 : n / 64 % 256 = n / 64 := by omega
        have e2 : bits BinOp.or IntKind.u8 192 (n / 64) = 192 + n / 64 := u8_or192 _ (by omega) (by omega)
        rw [byteCells_enc, encZ_2 HP.out (by omega) c2]
        go_enter Tryd.func45, Tryd.ntmps45
        go_wp2_with (first | (go_at_call 49; refine (isPoint_any _ _).mono ?_; rintro e w' ⟨rfl, rfl⟩) | (go_at_call 50; refine (six_any _ _ (by omega) (by omega)).mono ?_; rintro e w' ⟨rfl, rfl⟩) | (at_builtin; refine wpList_append_own _ rfl _ _ 52 rfl B 5 i0 (.int .u8 0) 1 1 Tryd.underlying52 hi hz0 hz1 hz2 rfl (by decide) v xs.length xs rfl (hown.alloc _) ⟨w.heap.size, 0, none⟩ 2 2 [.int .u8 (192 + n / 64), .int .u8 (128 + n % 64)] rfl rfl (cells_new _ _ _) ?_ ?_ ?_ ?_ ?_; (intro u hu; simp at hu; rcases hu with rfl | rfl <;> rfl); (unfold maxLen; omega); omega; (simp; omega); intro v1 w1 hown1 hg1 _))
        go_ret
        exact ⟨v1, rfl, by rw [List.length_append]; exact hown1, ((Below.refl B w).alloc hB _).grown hg1 (by simp; omega) (fun k hk => (hown.lt k hk).1)⟩
      · by_cases c3 : n < 65536
        · have e1 : n / 4096 % 256 = n / 4096 := by omega
          have e2 : bits BinOp.or IntKind.u8 224 (n / 4096) = 224 + n / 4096 := u8_or224 _ (by omega) (by omega)
          rw [byteCells_enc, encZ_3 HP.out (by omega) c3]
          go_enter Tryd.func45, Tryd.ntmps45
          go_wp2_with (first | (go_at_call 49; refine (isPoint_any _ _).mono ?_; rintro e w' ⟨rfl, rfl⟩) | (go_at_call 50; refine (six_any _ _ (by omega) (by omega)).mono ?_; rintro e w' ⟨rfl, rfl⟩) | (at_builtin; refine wpList_append_own _ rfl _ _ 52 rfl B 5 i0 (.int .u8 0) 1 1 Tryd.underlying52 hi hz0 hz1 hz2 rfl (by decide) v xs.length xs rfl (hown.alloc _) ⟨w.heap.size, 0, none⟩ 3 3 [.int .u8 (224 + n / 4096), .int .u8 (128 + n / 64 % 64), .int .u8 (128 + n % 64)] rfl rfl (cells_new _ _ _) ?_ ?_ ?_ ?_ ?_; (intro u hu; simp at hu; rcases hu with rfl | rfl | rfl <;> rfl); (unfold maxLen; omega); omega; (simp; omega); intro v1 w1 hown1 hg1 _))
          go_ret
          exact ⟨v1, rfl, by rw [List.length_append]; exact hown1, ((Below.refl B w).alloc hB _).grown hg1 (by simp; omega) (fun k hk => (hown.lt k hk).1)⟩
        · have e1 : n / 262144 % 256 = n / 262144 := by omega
          have e2 : bits BinOp.or IntKind.u8 240 (n / 262144) = 240 + n / 262144 := u8_or240 _ (by omega) (by omega)
          rw [byteCells_enc, encZ_4 HP.out (by omega)]
          go_enter Tryd.func45, Tryd.ntmps45
          go_wp2_with (first | (go_at_call 49; refine (isPoint_any _ _).mono ?_; rintro e w' ⟨rfl, rfl⟩) | (go_at_call 50; refine (six_any _ _ (by omega) (by omega)).mono ?_; rintro e w' ⟨rfl, rfl⟩) | (at_builtin; refine wpList_append_own _ rfl _ _ 52 rfl B 5 i0 (.int .u8 0) 1 1 Tryd.underlying52 hi hz0 hz1 hz2 rfl (by decide) v xs.length xs rfl (hown.alloc _) ⟨w.heap.size, 0, none⟩ 4 4 [.int .u8 (240 + n / 262144), .int .u8 (128 + n / 4096 % 64), .int .u8 (128 + n / 64 % 64), .int .u8 (128 + n % 64)] rfl rfl (cells_new _ _ _) ?_ ?_ ?_ ?_ ?_; (intro u hu; simp at hu; rcases hu with rfl | rfl | rfl | rfl <;> rfl); (unfold maxLen; omega); omega; (simp; omega); intro v1 w1 hown1 hg1 _))
          go_ret
          exact ⟨v1, rfl, by rw [List.length_append]; exact hown1, ((Below.refl B w).alloc hB _).grown hg1 (by simp; omega) (fun k hk => (hown.lt k hk).1)⟩
  · have hp' : isPt n = false := by simpa using hp
    clear hp
    go_enter Tryd.func45, Tryd.ntmps45
    go_wp2_with (go_at_call 49; refine (isPoint_any _ _).mono ?_; rintro e w' ⟨rfl, rfl⟩)
    go_ret
    rw [enc_no hp']
    exact ⟨v, rfl, by simpa [Lib.byteCells] using hown, Below.refl _ _⟩
end Go.Proofs.YthokaeaefmajjaaDoor.Utf
