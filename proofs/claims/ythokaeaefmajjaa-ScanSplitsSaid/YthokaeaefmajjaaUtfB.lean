import Derived.Test.YthokaeaefmajjaaUtfA
import Derived.Test.YthokaeaefmajjaaMem
import Derived.Laws.AppendOwn
/- Contracts: the document's answer Is, Bytes (new memory); package utf's lay. -/
namespace Go.Proofs.Ythokaeaefmajjaa.Utf
open Go.RowKit

set_option maxHeartbeats 1000000 in
theorem lay_any (v : Value) (xs : List Value) (n : Int) (B : Nat) (w : World) (hown : w.ownsRow B 5 1 v xs.length xs) (hB : B ≤ w.heap.size) (hr : xs.length + 4 ≤ 140737488355328) :
    Calls Try.prog 29 #[v, .int .i32 n] w (GivesOn 5 B (xs ++ Lib.byteCells (enc n)) w) := by
  obtain ⟨i0, hi, hz0, hz1, hz2⟩ := info_parts infoU8
  by_cases hp : isPt n = true
  · have h0 := isPt_lo hp
    have h1 := isPt_hi hp
    have HP := Lib.hid hp
    by_cases c1 : n < 128
    · have e1 : n % 256 = n := by omega
      rw [byteCells_enc, encZ_1 HP.out c1]
      go_enter Try.func29, Try.ntmps29
      go_wp2_with (first | (go_at_call 33; refine (isPoint_any _ _).mono ?_; rintro e w' ⟨rfl, rfl⟩) | (go_at_call 34; refine (six_any _ _ (by omega) (by omega)).mono ?_; rintro e w' ⟨rfl, rfl⟩) | (at_builtin; refine wpList_append_own _ rfl _ _ 44 rfl B 5 i0 (.int .u8 0) 1 1 Try.underlying44 hi hz0 hz1 hz2 rfl (by decide) v xs.length xs rfl (hown.alloc _) ⟨w.heap.size, 0, none⟩ 1 1 [.int .u8 n] rfl rfl (cells_new _ _ _) ?_ ?_ ?_ ?_ ?_; (intro u hu; simp at hu; rcases hu with rfl <;> rfl); (unfold maxLen; omega); omega; (simp; omega); intro v1 w1 hown1 hg1 _))
      go_ret
      exact ⟨v1, rfl, by rw [List.length_append]; exact hown1, ((Below.refl B w).alloc hB _).grown hg1 (by simp; omega) (fun k hk => (hown.lt k hk).1)⟩
    · by_cases c2 : n < 2048
      · have e1 : n / 64 % 256 = n / 64 := by omega
        have e2 : bits BinOp.or IntKind.u8 192 (n / 64) = 192 + n / 64 := u8_or192 _ (by omega) (by omega)
        rw [byteCells_enc, encZ_2 HP.out (by omega) c2]
        go_enter Try.func29, Try.ntmps29
        go_wp2_with (first | (go_at_call 33; refine (isPoint_any _ _).mono ?_; rintro e w' ⟨rfl, rfl⟩) | (go_at_call 34; refine (six_any _ _ (by omega) (by omega)).mono ?_; rintro e w' ⟨rfl, rfl⟩) | (at_builtin; refine wpList_append_own _ rfl _ _ 44 rfl B 5 i0 (.int .u8 0) 1 1 Try.underlying44 hi hz0 hz1 hz2 rfl (by decide) v xs.length xs rfl (hown.alloc _) ⟨w.heap.size, 0, none⟩ 2 2 [.int .u8 (192 + n / 64), .int .u8 (128 + n % 64)] rfl rfl (cells_new _ _ _) ?_ ?_ ?_ ?_ ?_; (intro u hu; simp at hu; rcases hu with rfl | rfl <;> rfl); (unfold maxLen; omega); omega; (simp; omega); intro v1 w1 hown1 hg1 _))
        go_ret
        exact ⟨v1, rfl, by rw [List.length_append]; exact hown1, ((Below.refl B w).alloc hB _).grown hg1 (by simp; omega) (fun k hk => (hown.lt k hk).1)⟩
      · by_cases c3 : n < 65536
        · have e1 : n / 4096 % 256 = n / 4096 := by omega
          have e2 : bits BinOp.or IntKind.u8 224 (n / 4096) = 224 + n / 4096 := u8_or224 _ (by omega) (by omega)
          rw [byteCells_enc, encZ_3 HP.out (by omega) c3]
          go_enter Try.func29, Try.ntmps29
          go_wp2_with (first | (go_at_call 33; refine (isPoint_any _ _).mono ?_; rintro e w' ⟨rfl, rfl⟩) | (go_at_call 34; refine (six_any _ _ (by omega) (by omega)).mono ?_; rintro e w' ⟨rfl, rfl⟩) | (at_builtin; refine wpList_append_own _ rfl _ _ 44 rfl B 5 i0 (.int .u8 0) 1 1 Try.underlying44 hi hz0 hz1 hz2 rfl (by decide) v xs.length xs rfl (hown.alloc _) ⟨w.heap.size, 0, none⟩ 3 3 [.int .u8 (224 + n / 4096), .int .u8 (128 + n / 64 % 64), .int .u8 (128 + n % 64)] rfl rfl (cells_new _ _ _) ?_ ?_ ?_ ?_ ?_; (intro u hu; simp at hu; rcases hu with rfl | rfl | rfl <;> rfl); (unfold maxLen; omega); omega; (simp; omega); intro v1 w1 hown1 hg1 _))
          go_ret
          exact ⟨v1, rfl, by rw [List.length_append]; exact hown1, ((Below.refl B w).alloc hB _).grown hg1 (by simp; omega) (fun k hk => (hown.lt k hk).1)⟩
        · have e1 : n / 262144 % 256 = n / 262144 := by omega
          have e2 : bits BinOp.or IntKind.u8 240 (n / 262144) = 240 + n / 262144 := u8_or240 _ (by omega) (by omega)
          rw [byteCells_enc, encZ_4 HP.out (by omega)]
          go_enter Try.func29, Try.ntmps29
          go_wp2_with (first | (go_at_call 33; refine (isPoint_any _ _).mono ?_; rintro e w' ⟨rfl, rfl⟩) | (go_at_call 34; refine (six_any _ _ (by omega) (by omega)).mono ?_; rintro e w' ⟨rfl, rfl⟩) | (at_builtin; refine wpList_append_own _ rfl _ _ 44 rfl B 5 i0 (.int .u8 0) 1 1 Try.underlying44 hi hz0 hz1 hz2 rfl (by decide) v xs.length xs rfl (hown.alloc _) ⟨w.heap.size, 0, none⟩ 4 4 [.int .u8 (240 + n / 262144), .int .u8 (128 + n / 4096 % 64), .int .u8 (128 + n / 64 % 64), .int .u8 (128 + n % 64)] rfl rfl (cells_new _ _ _) ?_ ?_ ?_ ?_ ?_; (intro u hu; simp at hu; rcases hu with rfl | rfl | rfl | rfl <;> rfl); (unfold maxLen; omega); omega; (simp; omega); intro v1 w1 hown1 hg1 _))
          go_ret
          exact ⟨v1, rfl, by rw [List.length_append]; exact hown1, ((Below.refl B w).alloc hB _).grown hg1 (by simp; omega) (fun k hk => (hown.lt k hk).1)⟩
  · have hp' : isPt n = false := by simpa using hp
    clear hp
    go_enter Try.func29, Try.ntmps29
    go_wp2_with (go_at_call 33; refine (isPoint_any _ _).mono ?_; rintro e w' ⟨rfl, rfl⟩)
    go_ret
    rw [enc_no hp']
    exact ⟨v, rfl, by simpa [Lib.byteCells] using hown, Below.refl _ _⟩
end Go.Proofs.Ythokaeaefmajjaa.Utf
