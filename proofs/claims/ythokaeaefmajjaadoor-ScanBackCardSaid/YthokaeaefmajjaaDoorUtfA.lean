import Derived.Test.YthokaeaefmajjaaDoorProg
import Derived.Test.YthokaeaefmajjaaDoorUtfPl
import Derived.WalkKit
import Derived.Deep.QuietTactic
import Derived.BigQuiet
import Derived.WalkLawsBesides
import Derived.WalkSpells
import Derived.Lib.Hide
/- Contracts of package utf's small calls: isPoint, six, behind, One. -/
namespace Go.Proofs.YthokaeaefmajjaaDoor.Utf
open Go.RowKit

theorem isPoint_any (n : Int) (w : World) : Calls Tryd.prog 49 #[.int .i32 n] w fun e w' => e = .returned (.bool (isPt n)) ∧ w = w' := by
  go_enter Tryd.func49, Tryd.ntmps49
  go_wp2
  all_goals
    go_ret
    exact ⟨ret_bool (by rw [Bool.eq_iff_iff]; simp [isPt]; omega), rfl⟩

theorem six_any (n : Int) (w : World) (h0 : 0 ≤ n) (h1 : n ≤ 2147483647) : Calls Tryd.prog 50 #[.int .i32 n] w fun e w' => e = .returned (.int .u8 (128 + n % 64)) ∧ w = w' := by
  have e1 := and63i n h0 h1
  have e2 : bits BinOp.or IntKind.u8 128 (n % 64) = 128 + n % 64 := u8_or128 _ (by omega) (by omega)
  have e3 : n % 64 % 256 = n % 64 := by omega
  go_enter Tryd.func50, Tryd.ntmps50
  go_wp2
  go_ret
  exact ⟨rfl, rfl⟩

set_option maxHeartbeats 400000 in
theorem behind_any (s : ByteArray) (bs : Int) (n : Nat) (least : Int) (w : World) (hs : s.size ≤ maxLen) (hb0 : 0 ≤ bs) (hb1 : bs ≤ 31) (hn0 : 2 ≤ n) (hn1 : n ≤ 4) :
    Calls Tryd.prog 47 #[.string s, .int .i32 bs, .int .i64 n, .int .i32 least] w fun e w' =>
      e = .returned (.tuple #[.int .i32 (behS s.data.toList bs n least).1, .int .i64 (behS s.data.toList bs n least).2]) ∧ w = w' := by
  unfold maxLen at hs
  by_cases hl : s.size < n
  · have hd : decide (s.size < n) = true := by simpa using hl
    go_enter Tryd.func47, Tryd.ntmps47
    go_wp2
    go_ret2
    exact ⟨by rw [behS_short _ _ _ _ (by rw [len_data]; exact hl)]; rfl, rfl⟩
  · have hd : decide (s.size < n) = false := by simpa using hl
    go_enter Tryd.func47, Tryd.ntmps47
    go_wp2
    go_loop [1, 10] (fun b i => ∃ k : Nat, k < n ∧ i = .int .i64 (k + 1 : Nat) ∧ b = .int .i32 (accN bs s.data.toList k) ∧ contN s.data.toList k = true) (fun _ i => n - (intOf i).toNat)
    case atStart => exact ⟨0, by omega, by go_num, rfl, rfl⟩
    case round =>
      obtain ⟨k, hk, rfl, rfl, hcont⟩ := hrel
      have HC := Lib.hid hcont; clear hcont
      have a0 := accN_lo bs s.data.toList hb0 k
      have a1 := accN_hi bs s.data.toList hb1 k (by omega)
      by_cases hlt : k + 1 < n
      · have hd1 : decide (k + 1 < n) = true := by simpa using hlt
        have hlt2 : k + 1 < s.size := by omega
        have g := byt_get s (k + 1) hlt2
        have G := Lib.hid g
        have g0 := byt_lo s.data.toList (k + 1)
        have g1 := byt_hi s.data.toList (k + 1)
        have t1 := and192_ne _ g0 g1
        have t2 : bits .and .u8 (byt s.data.toList (k + 1)) 63 = byt s.data.toList (k + 1) % 64 := u8_and63 _ g0 (by omega)
        rw [g] at t1 t2 g0 g1
        clear g
        by_cases hc : (s[k + 1].toNat : Int) / 64 = 2
        · have t3 : decide ((s[k + 1].toNat : Int) / 64 = 2) = true := by simpa using hc
          have H3 := Lib.hid hc; clear hc
          go_wp2
          go_round
          case rel => exact ⟨k + 1, hlt, by go_num, by rw [accN, G.out], by rw [contN, HC.out, G.out, t3]; rfl⟩
          case measure => simp [intOf]; omega
        · have t3 : decide ((s[k + 1].toNat : Int) / 64 = 2) = false := by simpa using hc
          have H3 := Lib.hid hc; clear hc
          go_wp2
          go_ret2
          exact ⟨by rw [behS_cont _ _ _ _ (by rw [len_data]; exact hl) (k + 1) (by omega) (by rw [contN, G.out, t3]; simp)]; rfl, rfl⟩
      · have hd1 : decide (k + 1 < n) = false := by simpa using hlt
        obtain rfl : n = k + 1 := by omega
        by_cases h1 : accN bs s.data.toList k < least
        · have h1d : decide (accN bs s.data.toList k < least) = true := by simpa using h1
          go_wp2_with (go_at_call 49; refine (isPoint_any _ _).mono ?_; rintro e w' ⟨rfl, rfl⟩)
          go_ret2
          exact ⟨by rw [behS_low _ _ _ _ (.inl h1)]; rfl, rfl⟩
        · have h1d : decide (accN bs s.data.toList k < least) = false := by simpa using h1
          by_cases h2 : isPt (accN bs s.data.toList k) = true
          · go_wp2_with (go_at_call 49; refine (isPoint_any _ _).mono ?_; rintro e w' ⟨rfl, rfl⟩)
            go_ret2
            exact ⟨by rw [behS_ok _ _ _ _ (by rw [len_data]; exact hl) HC.out (by omega) h2]; rfl, rfl⟩
          · have h2' : isPt (accN bs s.data.toList k) = false := by simpa using h2
            clear h2
            go_wp2_with (go_at_call 49; refine (isPoint_any _ _).mono ?_; rintro e w' ⟨rfl, rfl⟩)
            go_ret2
            exact ⟨by rw [behS_low _ _ _ _ (.inr h2')]; rfl, rfl⟩

theorem behind_int (s : ByteArray) (bs n least : Int) (w : World) (hs : s.size ≤ maxLen) (hb0 : 0 ≤ bs) (hb1 : bs ≤ 31) (hn0 : 2 ≤ n) (hn1 : n ≤ 4) :
    Calls Tryd.prog 47 #[.string s, .int .i32 bs, .int .i64 n, .int .i32 least] w fun e w' =>
      e = .returned (.tuple #[.int .i32 (behS s.data.toList bs n.toNat least).1, .int .i64 (behS s.data.toList bs n.toNat least).2]) ∧ w = w' := by
  obtain ⟨k, rfl⟩ := Int.eq_ofNat_of_zero_le (show 0 ≤ n by omega)
  exact behind_any s bs k least w hs hb0 hb1 (by omega) (by omega)

set_option maxRecDepth 100000 in
set_option maxHeartbeats 400000 in
theorem one_any (s : ByteArray) (p : Int) (w : World) (hs : s.size ≤ maxLen) :
    Calls Tryd.prog 43 #[.string s, .int .i64 p] w fun e w' =>
      e = .returned (.tuple #[.int .i32 (oneS s.data.toList p).1, .int .i64 (oneS s.data.toList p).2]) ∧ w = w' := by
  have hs' := hs
  unfold maxLen at hs
  by_cases h0 : p < 0
  · have hd : decide (p < 0) = true := by simpa using h0
    go_enter Tryd.func43, Tryd.ntmps43
    go_wp2
    go_ret2
    exact ⟨by rw [oneS_out _ _ (.inl h0)]; rfl, rfl⟩
  · obtain ⟨q, rfl⟩ := Int.eq_ofNat_of_zero_le (Int.not_lt.mp h0)
    by_cases h1 : q < s.size
    · have g := byt_get s q h1
      have G := Lib.hid g
      have g0 := byt_lo s.data.toList q
      have g1 := byt_hi s.data.toList q
      have t1 : bits .and .u8 (byt s.data.toList q) 31 = byt s.data.toList q % 32 := u8_and31 _ g0 (by omega)
      have t2 : bits .and .u8 (byt s.data.toList q) 15 = byt s.data.toList q % 16 := u8_and15 _ g0 (by omega)
      have t3 : bits .and .u8 (byt s.data.toList q) 7 = byt s.data.toList q % 8 := u8_and7 _ g0 (by omega)
      rw [g] at t1 t2 t3 g0 g1
      clear g
      have e0 := oneS_in s q h1
      have hx : (s.data.toList.drop q).take (s.size - q) = s.data.toList.drop q := List.take_of_length_le (by simp)
      have hxs : (s.extract q s.size).size ≤ maxLen := by simp; omega
      have HXS := Lib.hid hxs; clear hxs
      have E0 := Lib.hid e0; clear e0
      have HX := Lib.hid hx; clear hx
      go_enter Tryd.func43, Tryd.ntmps43
      go_wp2_with (go_at_call 47; refine (behind_int _ _ _ _ _ HXS.out (by omega) (by omega) (by omega) (by omega)).mono ?_; rintro e w' ⟨rfl, rfl⟩)
      all_goals go_ret2
      · exact ⟨by rw [E0.out, oneL_1 _ _ _ h1 G.out (by omega)]; rfl, rfl⟩
      · exact ⟨by rw [E0.out, oneL_2 _ _ _ h1 G.out (by omega) (by omega)]; rfl, rfl⟩
      · exact ⟨by rw [E0.out, HX.out, oneL_3 _ _ _ h1 G.out (by omega) (by omega)]; rfl, rfl⟩
      · exact ⟨by rw [E0.out, HX.out, oneL_4 _ _ _ h1 G.out (by omega) (by omega)]; rfl, rfl⟩
      · exact ⟨by rw [E0.out, HX.out, oneL_5 _ _ _ h1 G.out (by omega) (by omega)]; rfl, rfl⟩
      · exact ⟨by rw [E0.out, oneL_6 _ _ _ h1 G.out (by omega)]; rfl, rfl⟩
    · have hd : decide (q < s.size) = false := by simpa using h1
      go_enter Tryd.func43, Tryd.ntmps43
      go_wp2
      go_ret2
      exact ⟨by rw [oneS_out _ _ (.inr (by rw [len_data]; omega))]; rfl, rfl⟩
end Go.Proofs.YthokaeaefmajjaaDoor.Utf
