/- Merged: IdA IdB IdC IdD IdE IdG IdH IdAw IdW4 IdW5. -/
import Derived.Test.YtgmkejfepakehaaTt2
import Derived.Test.YtgmkejfepakehaaTt0
import Derived.Lib.ConvBytes
namespace Go.Proofs.Ytgmkejfepakehaa.Id
open Go.RowKit
open Go.Proofs.Ytgmkejfepakehaa.Utf
open Go.Proofs.Ytgmkejfepakehaa.Nu

set_option maxRecDepth 100000 in
set_option maxHeartbeats 1000000 in
theorem mayStand_any (b : Int) (w : World) : Calls Try.prog 22 #[.int .u8 b] w fun e w' => e = .returned (.bool (mayB b)) ∧ w = w' := by
  by_cases h : (65 ≤ b ∧ b ≤ 90) ∨ (97 ≤ b ∧ b ≤ 122) ∨ (48 ≤ b ∧ b ≤ 57)
  · rw [show mayB b = true from decide_eq_true (.inl h)]
    rcases h with ⟨h1, h2⟩ | ⟨h1, h2⟩ | ⟨h1, h2⟩
    · have t1 : decide (65 ≤ b) = true := decide_eq_true h1
      have t2 : decide (b ≤ 90) = true := decide_eq_true h2
      go_enter Try.func22, Try.ntmps22
      go_wp2
      go_ret
      exact ⟨rfl, rfl⟩
    · have t0 : decide (b ≤ 90) = false := decide_eq_false (by omega)
      have t3 : decide (65 ≤ b) = true := decide_eq_true (by omega)
      have t1 : decide (97 ≤ b) = true := decide_eq_true h1
      have t2 : decide (b ≤ 122) = true := decide_eq_true h2
      go_enter Try.func22, Try.ntmps22
      go_wp2
      go_ret
      exact ⟨rfl, rfl⟩
    · have t0 : decide (65 ≤ b) = false := decide_eq_false (by omega)
      have t3 : decide (97 ≤ b) = false := decide_eq_false (by omega)
      have t1 : decide (48 ≤ b) = true := decide_eq_true h1
      have t2 : decide (b ≤ 57) = true := decide_eq_true h2
      go_enter Try.func22, Try.ntmps22
      go_wp2
      go_ret
      exact ⟨rfl, rfl⟩
  · have hm : mayB b = (decide (b = 45) || decide (b = 95)) := by
      rw [Bool.eq_iff_iff]; simp only [mayB, Bool.or_eq_true, decide_eq_true_eq]
      exact ⟨fun h2 => h2.elim (fun h3 => absurd h3 h) id, .inr⟩
    rw [hm]
    go_enter Try.func22, Try.ntmps22
    go_wp2
    all_goals
      go_ret
      first | exact ⟨ret_bool rfl, rfl⟩ | exact ⟨ret_bool (by rw [Bool.eq_iff_iff]; simp only [beq_iff_eq, Bool.or_eq_true, decide_eq_true_eq] at *; omega), rfl⟩

set_option maxRecDepth 100000 in
set_option maxHeartbeats 1000000 in
theorem isNumber_any (n : Int) (w : World) : Calls Try.prog 21 #[.int .i64 n] w fun e w' => e = .returned (.bool (decide (0 ≤ n ∧ n ≤ 9007199254740991))) ∧ w = w' := by
  go_enter Try.func21, Try.ntmps21
  go_wp2
  all_goals
    go_ret
    exact ⟨ret_bool (by rw [Bool.eq_iff_iff]; simp; omega), rfl⟩

set_option maxRecDepth 100000 in
set_option maxHeartbeats 1000000 in
theorem letters_any (k : Int) (w : World) : Calls Try.prog 23 #[.int .i64 k] w fun e w' =>
    e = .returned (.tuple #[.int .u8 (if k = 1 ∨ k = 2 then ((kI k).toNat : Int) else 0), .int .u8 (if k = 1 ∨ k = 2 then ((kS k).toNat : Int) else 0), .bool (decide (k = 1 ∨ k = 2))]) ∧ w = w' := by
  by_cases h1 : k = 1
  · subst h1
    go_enter Try.func23, Try.ntmps23
    go_wp2
    go_ret3
    exact ⟨rfl, rfl⟩
  · have t1 : (k == 1) = false := beq_eq_false_iff_ne.2 h1
    by_cases h2 : k = 2
    · subst h2
      clear h1
      go_enter Try.func23, Try.ntmps23
      go_wp2
      go_ret3
      exact ⟨rfl, rfl⟩
    · have t2 : (k == 2) = false := beq_eq_false_iff_ne.2 h2
      have h : ¬ (k = 1 ∨ k = 2) := by omega
      rw [if_neg h, if_neg h, decide_eq_false h]
      clear h h1 h2
      go_enter Try.func23, Try.ntmps23
      go_wp2
      go_ret3
      exact ⟨rfl, rfl⟩

def kdI (b : Int) : Int := if b = 67 then 1 else if b = 66 then 2 else 0
set_option maxRecDepth 100000 in
set_option maxHeartbeats 1000000 in
theorem kindOf_any (b : Int) (w : World) : Calls Try.prog 19 #[.int .u8 b] w fun e w' =>
    e = .returned (.tuple #[.int .i64 (kdI b), .bool (decide (b = 67 ∨ b = 66))]) ∧ w = w' := by
  by_cases h1 : b = 67
  · subst h1
    go_enter Try.func19, Try.ntmps19
    go_wp2
    go_ret2
    exact ⟨rfl, rfl⟩
  · have t1 : (b == 67) = false := beq_eq_false_iff_ne.2 h1
    by_cases h2 : b = 66
    · subst h2
      clear h1
      go_enter Try.func19, Try.ntmps19
      go_wp2
      go_ret2
      exact ⟨rfl, rfl⟩
    · have t2 : (b == 66) = false := beq_eq_false_iff_ne.2 h2
      have h : ¬ (b = 67 ∨ b = 66) := by omega
      rw [kdI, if_neg h1, if_neg h2, decide_eq_false h]
      clear h h1 h2
      go_enter Try.func19, Try.ntmps19
      go_wp2
      go_ret2
      exact ⟨rfl, rfl⟩

set_option maxRecDepth 100000 in
set_option maxHeartbeats 1000000 in
theorem digit_any (n : Int) (w : World) (h0 : 0 ≤ n) (h1 : n < 32) : Calls Try.prog 24 #[.int .u8 n] w fun e w' => e = .returned (.int .u8 ((d32 n.toNat).toNat : Int)) ∧ w = w' := by
  rw [d32_int n h0, show n % 32 = n by omega]
  by_cases h : n < 10
  · have t1 : decide (n < 10) = true := decide_eq_true h
    have x1 : IntKind.u8.wrap (48 + n) = 48 + n := IntWalk.u8_in _ (by omega)
    rw [if_pos h]
    go_enter Try.func24, Try.ntmps24
    go_wp2
    go_ret
    exact ⟨ret_int (by omega), rfl⟩
  · have t1 : decide (n < 10) = false := decide_eq_false h
    have x1 : IntKind.u8.wrap (97 + n) = 97 + n := IntWalk.u8_in _ (by omega)
    have x2 : IntKind.u8.wrap (97 + n - 10) = 97 + n - 10 := IntWalk.u8_in _ (by omega)
    rw [if_neg h]
    go_enter Try.func24, Try.ntmps24
    go_wp2
    go_ret
    exact ⟨ret_int (by omega), rfl⟩

set_option maxRecDepth 100000 in
set_option maxHeartbeats 1000000 in
theorem worthOf_any (b : Int) (w : World) : Calls Try.prog 20 #[.int .u8 b] w fun e w' =>
    e = .returned (.tuple #[.int .i64 (wor b), .bool (isW b)]) ∧ w = w' := by
  by_cases h1 : 48 ≤ b ∧ b ≤ 57
  · obtain ⟨h2, h3⟩ := id h1
    have t1 : decide (48 ≤ b) = true := decide_eq_true h2
    have t2 : decide (b ≤ 57) = true := decide_eq_true h3
    have x1 : IntKind.u8.wrap (b - 48) = b - 48 := IntWalk.u8_in _ (by omega)
    have x2 : IntKind.i64.wrap (b - 48) = b - 48 := IntWalk.i64_in _ (by omega)
    rw [wor, if_pos h1, isW, decide_eq_true (.inl h1)]
    clear h1
    go_enter Try.func20, Try.ntmps20
    go_wp2
    go_ret2
    exact ⟨rfl, rfl⟩
  · by_cases h2 : 97 ≤ b ∧ b ≤ 118
    · obtain ⟨h4, h3⟩ := id h2
      have t0 : decide (48 ≤ b) = true := decide_eq_true (by omega)
      have t1 : decide (b ≤ 57) = false := decide_eq_false (by omega)
      have t2 : decide (97 ≤ b) = true := decide_eq_true h4
      have t3 : decide (b ≤ 118) = true := decide_eq_true h3
      have x1 : IntKind.u8.wrap (b - 97) = b - 97 := IntWalk.u8_in _ (by omega)
      have x2 : IntKind.i64.wrap (b - 97) = b - 97 := IntWalk.i64_in _ (by omega)
      have x3 : IntKind.i64.wrap (b - 97 + 10) = b - 97 + 10 := IntWalk.i64_in _ (by omega)
      rw [wor, if_neg h1, if_pos h2, isW, decide_eq_true (.inr h2), show b - 87 = b - 97 + 10 by omega]
      clear h1 h2
      go_enter Try.func20, Try.ntmps20
      go_wp2
      go_ret2
      first | exact ⟨rfl, rfl⟩ | exact ⟨by congr 4; omega, rfl⟩
    · rw [wor, if_neg h1, if_neg h2, isW, decide_eq_false (by omega)]
      go_enter Try.func20, Try.ntmps20
      go_wp2
      all_goals
        first
        | (go_ret2; exact ⟨rfl, rfl⟩)
        | (exfalso; omega)
end Go.Proofs.Ytgmkejfepakehaa.Id
namespace Go.Proofs.Ytgmkejfepakehaa.Id
open Go.RowKit
open Go.Proofs.Ytgmkejfepakehaa.Utf
open Go.Proofs.Ytgmkejfepakehaa.Nu

theorem may_parts {b : Int} (h : mayB b = true) : b = 45 ∨ b = 95 ∨ (48 ≤ b ∧ b ≤ 57) ∨ (65 ≤ b ∧ b ≤ 90) ∨ (97 ≤ b ∧ b ≤ 122) := by
  have := of_decide_eq_true (show decide _ = true from h)
  omega
theorem may_not {b : Int} (h : mayB b = false) : ¬ b = 45 ∧ ¬ b = 95 ∧ (b < 48 ∨ 57 < b) ∧ (b < 65 ∨ 90 < b) ∧ (b < 97 ∨ 122 < b) := by
  have := of_decide_eq_false (show decide _ = false from h)
  omega

set_option maxRecDepth 100000 in
set_option maxHeartbeats 1000000 in
theorem rIs_any (s : ByteArray) (w : World) (hs : s.size ≤ 9223372036854775807) :
    Calls Try.prog 12 #[.string s] w fun e w' => e = .returned (.bool (isL s.data.toList)) ∧ w = w' := by
  go_enter Try.func12, Try.ntmps12
  go_wp2
  go_loop [3] (fun i => ∃ k : Nat, i = .int .i64 k ∧ k ≤ s.size ∧ Aside (∀ j, j < k → mayB (byt s.data.toList j) = true)) (fun i => s.size - (intOf i).toNat)
  case atStart => exact ⟨0, rfl, by omega, fun j hj => absurd hj (by omega)⟩
  case round =>
    obtain ⟨k, rfl, hk, hm⟩ := hrel
    have HM := Lib.hid hm.out; clear hm
    by_cases hlt : k < s.size
    · have t1 : decide ((k : Int) < (s.size : Int)) = true := decide_eq_true (by omega)
      have t2 : decide (k < s.size) = true := decide_eq_true hlt
      have k0 : (0 : Int) ≤ (k : Int) := by omega
      have k1 : (k : Int) < (s.size : Int) := by omega
      have g := byt_get s k hlt
      by_cases hb : mayB (byt s.data.toList k) = true
      · have HN := Lib.hid (show ∀ j, j < k + 1 → mayB (byt s.data.toList j) = true from fun j hj => by
          by_cases h : j = k
          · rw [h]; exact hb
          · exact HM.out j (by omega))
        have hp := may_parts hb
        rw [g] at hp
        clear g hb
        rcases hp with hp | hp | hp | hp | hp
        · have b0 : ((s[k].toNat : Int) != 45) = false := by rw [bne_eq_false_iff_eq]; omega
          clear hp
          go_wp2
          go_round
          case rel => exact ⟨k + 1, by go_num, by omega, HN.out⟩
          case measure => simp [intOf]; omega
        · have b0 : ((s[k].toNat : Int) != 45) = true := by rw [bne_iff_ne]; omega
          have b1 : ((s[k].toNat : Int) != 95) = false := by rw [bne_eq_false_iff_eq]; omega
          clear hp
          go_wp2
          go_round
          case rel => exact ⟨k + 1, by go_num, by omega, HN.out⟩
          case measure => simp [intOf]; omega
        · have b0 : ((s[k].toNat : Int) != 45) = true := by rw [bne_iff_ne]; omega
          have b1 : ((s[k].toNat : Int) != 95) = true := by rw [bne_iff_ne]; omega
          have b2 : decide ((s[k].toNat : Int) < 48) = false := decide_eq_false (by omega)
          have b3 : decide (57 < (s[k].toNat : Int)) = false := decide_eq_false (by omega)
          clear hp
          go_wp2
          go_round
          case rel => exact ⟨k + 1, by go_num, by omega, HN.out⟩
          case measure => simp [intOf]; omega
        · have b0 : ((s[k].toNat : Int) != 45) = true := by rw [bne_iff_ne]; omega
          have b1 : ((s[k].toNat : Int) != 95) = true := by rw [bne_iff_ne]; omega
          have b2 : decide ((s[k].toNat : Int) < 48) = false := decide_eq_false (by omega)
          have b3 : decide (57 < (s[k].toNat : Int)) = true := decide_eq_true (by omega)
          have b4 : decide ((s[k].toNat : Int) < 65) = false := decide_eq_false (by omega)
          have b5 : decide (90 < (s[k].toNat : Int)) = false := decide_eq_false (by omega)
          clear hp
          go_wp2
          go_round
          case rel => exact ⟨k + 1, by go_num, by omega, HN.out⟩
          case measure => simp [intOf]; omega
        · have b0 : ((s[k].toNat : Int) != 45) = true := by rw [bne_iff_ne]; omega
          have b1 : ((s[k].toNat : Int) != 95) = true := by rw [bne_iff_ne]; omega
          have b2 : decide ((s[k].toNat : Int) < 48) = false := decide_eq_false (by omega)
          have b3 : decide (57 < (s[k].toNat : Int)) = true := decide_eq_true (by omega)
          have b4 : decide ((s[k].toNat : Int) < 65) = false := decide_eq_false (by omega)
          have b5 : decide (90 < (s[k].toNat : Int)) = true := decide_eq_true (by omega)
          have b6 : decide ((s[k].toNat : Int) < 97) = false := decide_eq_false (by omega)
          have b7 : decide (122 < (s[k].toNat : Int)) = false := decide_eq_false (by omega)
          clear hp
          go_wp2
          go_round
          case rel => exact ⟨k + 1, by go_num, by omega, HN.out⟩
          case measure => simp [intOf]; omega
      · have HF := Lib.hid (isL_no (by rw [len_data]; exact hlt) (by simpa using hb))
        have hp := may_not (show mayB (byt s.data.toList k) = false by simpa using hb)
        rw [g] at hp
        clear g hb
        obtain ⟨p1, p2, p3, p4, p5⟩ := hp
        have b0 : ((s[k].toNat : Int) != 45) = true := bne_iff_ne.2 p1
        have b1 : ((s[k].toNat : Int) != 95) = true := bne_iff_ne.2 p2
        clear p1 p2
        go_wp2
        all_goals
          first
          | (go_ret; exact ⟨by rw [HF.out]; rfl, rfl⟩)
          | (exfalso; omega)
    · have t1 : decide ((k : Int) < (s.size : Int)) = false := decide_eq_false (by omega)
      have t2 : decide (k < s.size) = false := decide_eq_false hlt
      have HT := Lib.hid (show isL s.data.toList = decide (1 ≤ s.size ∧ s.size ≤ 255) by rw [isL_of (fun j hj => HM.out j (by rw [len_data] at hj; omega)), len_data])
      go_wp2
      all_goals
        go_ret
        exact ⟨ret_bool (by rw [HT.out, Bool.eq_iff_iff]; simp; omega), rfl⟩

theorem bytesW_below (w : World) (e : TypeId) (s : ByteArray) : Below w.heap.size w (Lib.bytesWorld w e s) :=
  ⟨rfl, rfl, rfl, by rw [Lib.bytesWorld_size]; omega, fun j hj => Lib.bytesWorld_at_old w e s j hj⟩
theorem conv_bytes (w : World) (s : ByteArray) : (convert 9 37 (.string s)).run Try.prog w = .ok (.slice (some ⟨w.heap.size, 0, none⟩) s.size (grownCap w s.size 0 5)) (Lib.bytesWorld w 5 s) :=
  Lib.run_convert_string_bytes w _ _ _ s Try.underlying9 Try.underlying37 Try.underlying5

set_option maxRecDepth 100000 in
set_option maxHeartbeats 1000000 in
theorem Is_any (s : ByteArray) (w : World) (hs : s.size ≤ 9223372036854775807) :
    Calls Try.prog 11 #[.string s] w (Gives (.bool (isL s.data.toList)) w) := by
  by_cases h0 : s.size = 0
  · have t0 : ((s.size : Int) == 0) = true := beq_iff_eq.2 (by omega)
    have HF := Lib.hid (isL_len (l := s.data.toList) (.inl h0))
    have H0 := Lib.hid h0; clear h0
    go_enter Try.func11, Try.ntmps11
    go_wp2
    go_ret
    exact ⟨by rw [HF.out]; rfl, Below.refl _ _⟩
  · have t0 : ((s.size : Int) == 0) = false := beq_eq_false_iff_ne.2 (by omega)
    by_cases h1 : 255 < s.size
    · have t1 : decide (255 < (s.size : Int)) = true := decide_eq_true (by omega)
      have HF := Lib.hid (isL_len (l := s.data.toList) (.inr h1))
      clear h0
      go_enter Try.func11, Try.ntmps11
      go_wp2
      go_ret
      exact ⟨by rw [HF.out]; rfl, Below.refl _ _⟩
    · have t1 : decide (255 < (s.size : Int)) = false := decide_eq_false (by omega)
      have hcv := conv_bytes w s
      obtain ⟨W1, hW1⟩ : ∃ W1, W1 = Lib.bytesWorld w 5 s := ⟨_, rfl⟩
      have HBW := Lib.hid (show Below w.heap.size w W1 by rw [hW1]; exact bytesW_below _ _ _)
      have HC1 := Lib.hid (show ∀ j, j < s.size → W1.cell? ⟨w.heap.size, j, none⟩ = some (.int .u8 (s.data.toList.getD j 0).toNat) from fun j hj => by rw [hW1]; exact Lib.bytesWorld_cell w _ s j hj)
      rw [← hW1] at hcv
      obtain ⟨cp, hcp⟩ : ∃ cp, grownCap w s.size 0 5 = cp := ⟨_, rfl⟩
      rw [hcp] at hcv
      clear hW1 hcp
      have S0 := Lib.hid h0
      have hsz : s.size ≤ 255 := by omega
      clear h0 h1
      go_enter Try.func11, Try.ntmps11
      go_wp2_with fail
      go_loopw [16] (fun i wr => ∃ k : Nat, i = .int .i64 k ∧ k ≤ s.size ∧ Aside (∀ j, j < k → mayB (byt s.data.toList j) = true) ∧ wr = W1) (fun i _ => s.size - (intOf i).toNat)
      case atStart => exact ⟨0, rfl, by omega, (fun j hj => absurd hj (by omega)), rfl⟩
      case round =>
        obtain ⟨k, rfl, hk, hm, rfl⟩ := hrel
        have HM := Lib.hid hm.out; clear hm
        by_cases hlt : k < s.size
        · have t1 : decide ((k : Int) < (s.size : Int)) = true := decide_eq_true (by omega)
          have t2 : decide (k < s.size) = true := decide_eq_true hlt
          have k0 : (0 : Int) ≤ (k : Int) := by omega
          have k1 : (k : Int) < (s.size : Int) := by omega
          have k2 : ((k : Int)).toNat = k := by omega
          have hc := HC1.out k hlt
          obtain ⟨b, hb⟩ : ∃ b : Int, byt s.data.toList k = b := ⟨_, rfl⟩
          have hcb : wr.cell? ⟨w.heap.size, k, none⟩ = some (.int .u8 b) := by rw [hc, ← hb]; rfl
          clear hc
          by_cases hmb : mayB b = true
          · have HN := Lib.hid (show ∀ j, j < k + 1 → mayB (byt s.data.toList j) = true from fun j hj => by
              by_cases h : j = k
              · rw [h, hb]; exact hmb
              · exact HM.out j (by omega))
            clear hb
            go_wp2_with fail
            refine (mayStand_any _ _).mono ?_
            rw [hmb]
            rintro e w' ⟨rfl, rfl⟩
            go_wp2_with fail
            go_roundw
            case rel => exact ⟨k + 1, by go_num, by omega, HN.out, by trivial⟩
            case measure => simp [intOf]; omega
          · have hmf : mayB b = false := by simpa using hmb
            have HF := Lib.hid (isL_no (l := s.data.toList) (k := k) (by rw [len_data]; exact hlt) (by rw [hb]; exact hmf))
            clear hb hmb
            go_wp2_with fail
            refine (mayStand_any _ _).mono ?_
            rw [hmf]
            rintro e w' ⟨rfl, rfl⟩
            go_wp2_with fail
            go_ret
            exact ⟨by rw [HF.out]; rfl, HBW.out⟩
        · have t1 : decide ((k : Int) < (s.size : Int)) = false := decide_eq_false (by omega)
          have t2 : decide (k < s.size) = false := decide_eq_false hlt
          have HT := Lib.hid (show isL s.data.toList = true by
            rw [isL_of (fun j hj => HM.out j (by rw [len_data] at hj; omega)), len_data]
            exact decide_eq_true (by have := S0.out; omega))
          go_wp2_with fail
          go_ret
          exact ⟨by rw [HT.out]; rfl, HBW.out⟩
end Go.Proofs.Ytgmkejfepakehaa.Id
namespace Go.Proofs.Ytgmkejfepakehaa.Id
open Go.RowKit
open Go.Proofs.Ytgmkejfepakehaa.Utf
open Go.Proofs.Ytgmkejfepakehaa.Nu

def cellsI (L : UInt8) (i : Nat) (ds : List UInt8) : Array Value := (Value.int .u8 (L.toNat : Int) :: (List.replicate i (Value.int .u8 0) ++ Lib.byteCells ds)).toArray
theorem cellsI_size (L : UInt8) (i : Nat) (ds : List UInt8) : (cellsI L i ds).size = i + ds.length + 1 := by simp [cellsI, Lib.byteCells]
theorem cellsI_set (L : UInt8) (m : Nat) (ds : List UInt8) (b : UInt8) (z : Int) (hz : z = b.toNat) : (cellsI L (m + 1) ds).setIfInBounds (m + 1) (.int .u8 z) = cellsI L m (b :: ds) := by
  subst hz
  unfold cellsI
  have h1 : List.replicate (m + 1) (Value.int .u8 0) = List.replicate m (Value.int .u8 0) ++ [Value.int .u8 0] := by rw [List.replicate_succ']
  rw [h1, List.append_assoc, List.setIfInBounds_toArray, List.set_cons_succ, List.set_append_right _ _ (by simp)]
  simp [Lib.byteCells]
theorem cellsI_0 (L : UInt8) (ds : List UInt8) : cellsI L 0 ds = (Lib.byteCells (L :: ds)).toArray := rfl
theorem conv_id (w : World) (T : TypeId) (l : List UInt8) (h : l.length = 12) : (convert 37 9 (.slice (some ⟨w.heap.size, 0, none⟩) 12 12)).run Try.prog (w.alloc (.cells (Lib.byteCells l).toArray T)) = .ok (.string (strOf l)) (w.alloc (.cells (Lib.byteCells l).toArray T)) :=
  (Rd_new w T l 12 h.symm).conv (P := Try.prog) Try.underlying37 Try.underlying5 Try.underlying9
theorem i64_and31 (n : Int) : bits .and .i64 n 31 = n % 32 := by
  have h31 : (BitVec.ofInt 64 31).toNat = 2 ^ 5 - 1 := by decide
  have key : (BitVec.ofInt 64 n &&& BitVec.ofInt 64 31).toNat = (n % ((2 ^ 64 : Nat) : Int)).toNat % 2 ^ 5 := by
    rw [BitVec.toNat_and, BitVec.toNat_ofInt, h31, Nat.and_two_pow_sub_one_eq_mod]
  show IntKind.i64.wrap ((BitVec.ofInt 64 n &&& BitVec.ofInt 64 31).toNat : Nat) = n % 32
  rw [key, IntKind.wrap_i64]
  omega

set_option maxRecDepth 100000 in
set_option maxHeartbeats 1000000 in
theorem Make_any (k m : Int) (w : World) : Calls Try.prog 13 #[.int .i64 k, .int .i64 m] w (Gives (.string (strOf (mkL k m))) w) := by
  by_cases hk : k = 1 ∨ k = 2
  · have cl := fun wx => letters_any k wx
    rw [if_pos hk, if_pos hk, decide_eq_true hk] at cl
    have CL := Lib.hid cl; clear cl
    by_cases hn : 0 ≤ m ∧ m ≤ 9007199254740991
    · have cn := fun wx => isNumber_any m wx
      rw [decide_eq_true hn] at cn
      have CN := Lib.hid cn; clear cn
      have hM := MkI_0 hn.1 hn.2
      have hR : mkL k m = kI k :: b32 11 m.toNat := if_pos ⟨hk, hn⟩
      obtain ⟨L, hL⟩ : ∃ L, kI k = L := ⟨_, rfl⟩
      rw [hL] at hR
      have CL2 : ∀ wx, Calls Try.prog 23 #[.int .i64 k] wx fun e w' => e = .returned (.tuple #[.int .u8 (L.toNat : Int), .int .u8 ((kS k).toNat : Int), .bool true]) ∧ wx = w' := by rw [← hL]; exact CL.out
      obtain ⟨ls, hls⟩ : ∃ ls : Int, ((kS k).toNat : Int) = ls := ⟨_, rfl⟩
      rw [hls] at CL2
      have CL3 := Lib.hid CL2
      obtain ⟨lz, hlz⟩ : ∃ lz : Int, (L.toNat : Int) = lz := ⟨_, rfl⟩
      have HLZ := Lib.hid hlz
      have HR := Lib.hid hR; have HM := Lib.hid hM
      clear CL2 CL hls hL hR hM hk hn hlz
      rw [HLZ.out] at CL3
      go_enter Try.func13, Try.ntmps13
      go_wp2_with fail
      refine (CL3.out _).mono ?_
      rintro e w' ⟨rfl, rfl⟩
      go_wp2_with fail
      refine (CN.out _).mono ?_
      rintro e w' ⟨rfl, rfl⟩
      go_wp2_with fail
      go_loopw [1, 9] (fun a i wr => ∃ (j : Nat) (n : Int) (ds : List UInt8), MkI m j n ds ∧ i = .int .i64 j ∧ a = .int .i64 n ∧ wr = w.alloc (.cells (cellsI L j ds) 45)) (fun _ i _ => (intOf i).toNat)
      case atStart => exact ⟨11, m, [], HM.out, rfl, rfl, by rw [← HLZ.out]; rfl⟩
      case round =>
        obtain ⟨j, n, ds, hI, rfl, rfl, rfl⟩ := hrel
        have hb1 : 0 ≤ n := hI.2.1
        have hb2 : n ≤ 9007199254740991 := hI.2.2.1
        have hj : ds.length + j = 11 := hI.1
        have hsz : (cellsI L j ds).size = 12 := by rw [cellsI_size]; omega
        by_cases h0 : j = 0
        · subst h0
          have he := MkI_end hI
          have hc := fun wx => conv_id wx 45 (L :: ds) (by rw [List.length_cons]; omega)
          rw [← cellsI_0] at hc
          have HE := Lib.hid he
          clear he hI
          go_wp2_with fail
          go_ret
          exact ⟨by rw [HR.out, HE.out]; rfl, (Below.refl _ _).alloc (Nat.le_refl _) _⟩
        · obtain ⟨p, rfl⟩ : ∃ p, j = p + 1 := ⟨j - 1, by omega⟩
          have HN := Lib.hid (MkI_next hI)
          have hset := cellsI_set L p ds (d32 n.toNat) ((d32 n.toNat).toNat : Int) rfl
          have HSET := Lib.hid hset; clear hset hI
          have a1 := i64_and31 n
          have a2 : IntKind.u8.wrap (n % 32) = n % 32 := IntWalk.u8_in _ (by omega)
          have cd := fun wx => digit_any (n % 32) wx (by omega) (by omega)
          have hd : d32 (n % 32).toNat = d32 n.toNat := by unfold d32; rw [show (n % 32).toNat % 32 = n.toNat % 32 by omega]
          rw [hd] at cd
          have CD := Lib.hid cd
          clear cd hd
          have t1 : decide ((0 : Int) < (p : Int) + 1) = true := decide_eq_true (by omega)
          have t2 : decide (0 < p + 1) = true := decide_eq_true (by omega)
          have t3 : (p : Int) + 1 < 12 := by omega
          obtain ⟨dz, hdz⟩ : ∃ dz : Int, ((d32 n.toNat).toNat : Int) = dz := ⟨_, rfl⟩
          rw [hdz] at HSET CD
          clear hdz
          have hcell : ∃ v, (w.alloc (.cells (cellsI L (p + 1) ds) 45)).cell? ⟨w.heap.size, p + 1, none⟩ = some v := by
            unfold World.cell?
            rw [heap_alloc_new]
            exact ⟨(cellsI L (p + 1) ds)[p + 1]'(by omega), Array.getElem?_eq_getElem _⟩
          obtain ⟨cv, hcell⟩ := hcell
          go_wp2_with fail
          refine (CD.out _).mono ?_
          rintro e w' ⟨rfl, rfl⟩
          go_wp2_with fail
          go_roundw
          case rel => exact ⟨p, n / 32, _, HN.out, by go_num, by go_num, by rw [HSET.out]⟩
          case measure => simp [intOf]
    · have hR : mkL k m = [] := if_neg fun h => hn h.2
      have cn := fun wx => isNumber_any m wx
      rw [decide_eq_false hn] at cn
      have CN := Lib.hid cn; have HR := Lib.hid hR
      clear cn hn hR hk
      go_enter Try.func13, Try.ntmps13
      go_wp2_with fail
      refine (CL.out _).mono ?_
      rintro e w' ⟨rfl, rfl⟩
      go_wp2_with fail
      refine (CN.out _).mono ?_
      rintro e w' ⟨rfl, rfl⟩
      go_wp2_with fail
      go_ret
      exact ⟨by rw [HR.out]; rfl, Below.refl _ _⟩
  · have hR : mkL k m = [] := if_neg fun h => hk h.1
    have cl := fun wx => letters_any k wx
    rw [if_neg hk, if_neg hk, decide_eq_false hk] at cl
    have CL := Lib.hid cl; have HR := Lib.hid hR
    clear cl hk hR
    go_enter Try.func13, Try.ntmps13
    go_wp2_with fail
    refine (CL.out _).mono ?_
    rintro e w' ⟨rfl, rfl⟩
    go_wp2_with fail
    go_ret
    exact ⟨by rw [HR.out]; rfl, Below.refl _ _⟩
end Go.Proofs.Ytgmkejfepakehaa.Id
namespace Go.Proofs.Ytgmkejfepakehaa.Id
open Go.RowKit
open Go.Proofs.Ytgmkejfepakehaa.Utf
open Go.Proofs.Ytgmkejfepakehaa.Nu

theorem add_str (a b : List UInt8) (h : a.length + b.length ≤ 1000) (w : World) : (Op.stringOp .add (strOf a) (strOf b)).run Try.prog w = .ok (.string (strOf (a ++ b))) w := by
  rw [run_string_add_sum w _ _ (by rw [strOf_size, strOf_size]; omega)]
  unfold strOf; rw [ByteArray.mk_append_mk]

end Go.Proofs.Ytgmkejfepakehaa.Id
namespace Go.Proofs.Ytgmkejfepakehaa.Id
open Go.RowKit
open Go.Proofs.Ytgmkejfepakehaa.Utf
open Go.Proofs.Ytgmkejfepakehaa.Nu

def GivesN (r : Int × Int × Bool) (w : World) (e : Ending) (w' : World) : Prop :=
  e = .returned (.tuple #[.int .i64 r.1, .int .i64 r.2.1, .bool r.2.2]) ∧ Below w.heap.size w w'
theorem ext_drop (s : ByteArray) (n : Nat) : (s.extract n s.size).data.toList = s.data.toList.drop n := by
  rw [ByteArray.data_extract]; simp only [Array.toList_extract, List.extract]; exact List.take_of_length_le (by rw [List.length_drop, len_data]; exact Nat.le_refl _)
theorem byt_drop (l : List UInt8) (p k : Nat) : byt (l.drop p) k = byt l (p + k) := by
  unfold byt; rw [List.getD_eq_getElem?_getD, List.getElem?_drop, List.getD_eq_getElem?_getD]
theorem wraps_i64' (n : Int) (h0 : 0 ≤ n) (h1 : n < 2 ^ 63) : IntKind.i64.wrap n = n := by rw [IntKind.wrap_i64]; omega
theorem i64_or5 (x y : Int) (h0 : 0 ≤ x) (h1 : x ≤ 36028797018963967) (h2 : 0 ≤ y) (h3 : y < 32) : bits .or .i64 (x * 32) y = x * 32 + y :=
  bits_join .i64 63 (by decide) wraps_i64' 5 (x * 32) y (by omega) (by omega) (by omega) h2 h3 (by omega)
theorem pow32 {j k : Nat} (h : j ≤ k) : (32 : Int) ^ j ≤ 32 ^ k := by
  have := Nat.pow_le_pow_right (n := 32) (by decide) h
  exact_mod_cast this
theorem nu_none {l : List UInt8} (h : ¬ NuOk l) : nuL l = (0, 0, false) := if_neg h

set_option maxRecDepth 100000 in
set_option maxHeartbeats 1000000 in
theorem Number_any (s : ByteArray) (w : World) :
    Calls Try.prog 8 #[.string s] w (GivesN (nuL s.data.toList) w) := by
  by_cases h12 : s.size = 12
  · have t0 : ((s.size : Int) != 12) = false := by rw [bne_eq_false_iff_eq]; omega
    have k0 : (0 : Int) < (s.size : Int) := by omega
    have k1 : (1 : Int) ≤ (s.size : Int) := by omega
    have k0' : 0 < s.size := by omega
    have g := byt_get s 0 k0'
    have ck := fun wx => kindOf_any (s[0].toNat : Int) wx
    rw [← g] at ck
    by_cases hc : byt s.data.toList 0 = 67 ∨ byt s.data.toList 0 = 66
    · rw [decide_eq_true hc] at ck
      obtain ⟨kd, hkd⟩ : ∃ kd, kdI (byt s.data.toList 0) = kd := ⟨_, rfl⟩
      rw [hkd] at ck
      have HKD := Lib.hid (show kd = if byt s.data.toList 0 = 67 then 1 else 2 by
        rw [← hkd]; unfold kdI
        by_cases h : byt s.data.toList 0 = 67
        · rw [if_pos h, if_pos h]
        · rw [if_neg h, if_neg h, if_pos (hc.resolve_left h)])
      rw [g] at ck
      have CK := Lib.hid ck
      have HC := Lib.hid hc
      have H12 := Lib.hid h12
      clear ck hc hkd g
      have hcv := conv_bytes w (s.extract 1 s.size)
      have hxs : (s.extract 1 s.size).size = 11 := by rw [ByteArray.size_extract]; omega
      obtain ⟨W1, hW1⟩ : ∃ W1, W1 = Lib.bytesWorld w 5 (s.extract 1 s.size) := ⟨_, rfl⟩
      have HBW := Lib.hid (show Below w.heap.size w W1 by rw [hW1]; exact bytesW_below _ _ _)
      have HC1 := Lib.hid (show ∀ j, j < 11 → W1.cell? ⟨w.heap.size, j, none⟩ = some (.int .u8 (byt s.data.toList (1 + j))) from fun j hj => by
        rw [hW1, Lib.bytesWorld_cell w _ _ j (by rw [hxs]; exact hj), ext_drop, ← byt_drop]; rfl)
      rw [← hW1, hxs] at hcv
      obtain ⟨cp, hcp⟩ : ∃ cp, grownCap w 11 0 5 = cp := ⟨_, rfl⟩
      rw [hcp] at hcv
      clear hW1 hcp hxs h12
      go_enter Try.func8, Try.ntmps8
      go_wp2_with fail
      refine (CK.out _).mono ?_
      rintro e w' ⟨rfl, rfl⟩
      go_wp2_with fail
      go_loopw [7, 27] (fun n i wr => ∃ k : Nat, i = .int .i64 k ∧ k ≤ 11 ∧ n = .int .i64 (acc32 s.data.toList 1 k) ∧ Aside (∀ j, j < k → isW (byt s.data.toList (1 + j)) = true) ∧ wr = W1) (fun _ i _ => 11 - (intOf i).toNat)
      case atStart => exact ⟨0, rfl, by omega, rfl, (fun j hj => absurd hj (by omega)), rfl⟩
      case round =>
        obtain ⟨k, rfl, hk, rfl, hm, rfl⟩ := hrel
        have HM := Lib.hid hm.out; clear hm
        have hal := acc32_le s.data.toList 1 k
        by_cases hlt : k < 11
        · have t1 : decide ((k : Int) < 11) = true := decide_eq_true (by omega)
          have t2 : decide (k < 11) = true := decide_eq_true hlt
          have i0 : (0 : Int) ≤ (k : Int) := by omega
          have i1 : (k : Int) < 11 := by omega
          have i2 : ((k : Int)).toNat = k := by omega
          have hc := HC1.out k hlt
          have hpw : (32 : Int) ^ k ≤ 32 ^ 10 := pow32 (by omega)
          have hstep : acc32 s.data.toList 1 (k + 1) = acc32 s.data.toList 1 k * 32 + wor (byt s.data.toList (1 + k)) := rfl
          obtain ⟨b, hb⟩ : ∃ b : Int, byt s.data.toList (1 + k) = b := ⟨_, rfl⟩
          rw [hb] at hc hstep
          have hwl := wor_le b
          obtain ⟨a, ha⟩ : ∃ a : Int, acc32 s.data.toList 1 k = a := ⟨_, rfl⟩
          rw [ha] at hal hstep ⊢
          have ha0 : 0 ≤ a := hal.1
          have ha1 : a ≤ 36028797018963967 := by omega
          have x1 : IntKind.i64.wrap (a * 32) = a * 32 := IntWalk.i64_in _ (by omega)
          have x2 := i64_or5 a (wor b) ha0 ha1 hwl.1 hwl.2
          have HST := Lib.hid hstep
          have cw := fun wx => worthOf_any b wx
          by_cases hmb : isW b = true
          · rw [hmb] at cw
            have HN := Lib.hid (show ∀ j, j < k + 1 → isW (byt s.data.toList (1 + j)) = true from fun j hj => by
              by_cases h : j = k
              · rw [h, hb]; exact hmb
              · exact HM.out j (by omega))
            obtain ⟨wo, hwo⟩ : ∃ wo : Int, wor b = wo := ⟨_, rfl⟩
            rw [hwo] at cw x2 HST hwl
            have CW := Lib.hid cw
            clear hb hstep hwo hal hpw ha cw
            go_wp2_with fail
            refine (CW.out _).mono ?_
            rintro e w' ⟨rfl, rfl⟩
            go_wp2_with fail
            go_roundw
            case rel => exact ⟨k + 1, by go_num, by omega, by rw [HST.out], HN.out, by trivial⟩
            case measure => simp [intOf]; omega
          · have hmf : isW b = false := by simpa using hmb
            have HF := Lib.hid (nu_none (l := s.data.toList) fun h => hmb (by rw [← hb]; exact h.2.2.1 k hlt))
            rw [hmf] at cw
            obtain ⟨wo, hwo⟩ : ∃ wo : Int, wor b = wo := ⟨_, rfl⟩
            rw [hwo] at cw x2 HST hwl
            have CW := Lib.hid cw
            clear hb hmb hstep hwo hal hpw ha cw
            go_wp2_with fail
            refine (CW.out _).mono ?_
            rintro e w' ⟨rfl, rfl⟩
            go_wp2_with fail
            go_ret3
            exact ⟨by rw [HF.out]; rfl, HBW.out⟩
        · obtain rfl : k = 11 := by omega
          have cn := fun wx => isNumber_any (acc32 s.data.toList 1 11) wx
          by_cases hle : acc32 s.data.toList 1 11 ≤ 9007199254740991
          · have HT := Lib.hid (show nuL s.data.toList = (kd, acc32 s.data.toList 1 11, true) by
              rw [HKD.out]; exact if_pos ⟨H12.out, HC.out, HM.out, hle⟩)
            rw [decide_eq_true ⟨hal.1, hle⟩] at cn
            have CN := Lib.hid cn
            obtain ⟨a, ha⟩ : ∃ a : Int, acc32 s.data.toList 1 11 = a := ⟨_, rfl⟩
            rw [ha] at HT CN ⊢
            clear hal hle cn ha
            go_wp2_with fail
            refine (CN.out _).mono ?_
            rintro e w' ⟨rfl, rfl⟩
            go_wp2_with fail
            go_ret3
            exact ⟨by rw [HT.out]; rfl, HBW.out⟩
          · have HT := Lib.hid (nu_none (l := s.data.toList) fun h => hle h.2.2.2)
            rw [decide_eq_false fun h => hle h.2] at cn
            have CN := Lib.hid cn
            obtain ⟨a, ha⟩ : ∃ a : Int, acc32 s.data.toList 1 11 = a := ⟨_, rfl⟩
            rw [ha] at CN ⊢
            clear hal hle cn ha
            go_wp2_with fail
            refine (CN.out _).mono ?_
            rintro e w' ⟨rfl, rfl⟩
            go_wp2_with fail
            go_ret3
            exact ⟨by rw [HT.out]; rfl, HBW.out⟩
    · have HF := Lib.hid (nu_none (l := s.data.toList) fun h => hc h.2.1)
      rw [decide_eq_false hc, g] at ck
      obtain ⟨kd, hkd⟩ : ∃ kd, kdI (s[0].toNat : Int) = kd := ⟨_, rfl⟩
      rw [hkd] at ck
      have CK := Lib.hid ck
      clear hc ck g hkd h12
      go_enter Try.func8, Try.ntmps8
      go_wp2_with fail
      refine (CK.out _).mono ?_
      rintro e w' ⟨rfl, rfl⟩
      go_wp2_with fail
      go_ret3
      exact ⟨by rw [HF.out]; rfl, Below.refl _ _⟩
  · have HF := Lib.hid (nu_none (l := s.data.toList) fun h => h12 h.1)
    have t0 : ((s.size : Int) != 12) = true := bne_iff_ne.2 (by omega)
    clear h12
    go_enter Try.func8, Try.ntmps8
    go_wp2_with fail
    go_ret3
    exact ⟨by rw [HF.out]; rfl, Below.refl _ _⟩
end Go.Proofs.Ytgmkejfepakehaa.Id
namespace Go.Proofs.Ytgmkejfepakehaa.Id
open Go.RowKit
open Go.Proofs.Ytgmkejfepakehaa.Utf
open Go.Proofs.Ytgmkejfepakehaa.Nu

theorem enc_99 : Utf8.encode 99 = strOf [99] := by kernel_rfl
theorem enc_98 : Utf8.encode 98 = strOf [98] := by kernel_rfl
theorem letters_1 (w : World) : Calls Try.prog 23 #[.int .i64 1] w fun e w' => e = .returned (.tuple #[.int .u8 67, .int .u8 99, .bool true]) ∧ w = w' := letters_any 1 w
theorem letters_2 (w : World) : Calls Try.prog 23 #[.int .i64 2] w fun e w' => e = .returned (.tuple #[.int .u8 66, .int .u8 98, .bool true]) ∧ w = w' := letters_any 2 w
theorem letters_no (k : Int) (w : World) (hk : ¬ (k = 1 ∨ k = 2)) : Calls Try.prog 23 #[.int .i64 k] w fun e w' => e = .returned (.tuple #[.int .u8 0, .int .u8 0, .bool false]) ∧ w = w' := by
  have cl := letters_any k w
  rwa [if_neg hk, if_neg hk, decide_eq_false hk] at cl
theorem isNumber_yes (n : Int) (w : World) (h : 0 ≤ n ∧ n ≤ 9007199254740991) : Calls Try.prog 21 #[.int .i64 n] w fun e w' => e = .returned (.bool true) ∧ w = w' := by
  have c := isNumber_any n w
  rwa [decide_eq_true h] at c
theorem isNumber_no (n : Int) (w : World) (h : ¬ (0 ≤ n ∧ n ≤ 9007199254740991)) : Calls Try.prog 21 #[.int .i64 n] w fun e w' => e = .returned (.bool false) ∧ w = w' := by
  have c := isNumber_any n w
  rwa [decide_eq_false h] at c

set_option maxRecDepth 100000 in
set_option maxHeartbeats 1000000 in
theorem State_any (k m : Int) (w : World) : Calls Try.prog 15 #[.int .i64 k, .int .i64 m] w (Gives (.string (strOf (stL k m))) w) := by
  by_cases hk : k = 1 ∨ k = 2
  · by_cases hn : 0 ≤ m ∧ m ≤ 9007199254740991
    · have CN := Lib.hid (fun wx => isNumber_yes m wx hn)
      have hR : stL k m = kS k :: putL m := if_pos ⟨hk, hn⟩
      have cp := fun wx => Nu.Put_any m wx (by omega) (by omega)
      have hl := (putL_len m).2
      have CP := Lib.hid cp
      have HR := Lib.hid hR
      obtain ⟨ds, hds⟩ : ∃ ds, putL m = ds := ⟨_, rfl⟩
      rw [hds] at HR CP hl
      have ha : ∀ wx : World, (Op.stringOp .add (Utf8.encode 99) (strOf ds)).run Try.prog wx = .ok (.string (strOf (99 :: ds))) wx := fun wx => by rw [enc_99]; exact add_str [99] ds (by simp; omega) wx
      have ha2 : ∀ wx : World, (Op.stringOp .add (Utf8.encode 98) (strOf ds)).run Try.prog wx = .ok (.string (strOf (98 :: ds))) wx := fun wx => by rw [enc_98]; exact add_str [98] ds (by simp; omega) wx
      have hf : (∀ wx, Calls Try.prog 23 #[.int .i64 k] wx fun e w' => e = .returned (.tuple #[.int .u8 67, .int .u8 99, .bool true]) ∧ wx = w') ∧ kS k = 99 ∨ (∀ wx, Calls Try.prog 23 #[.int .i64 k] wx fun e w' => e = .returned (.tuple #[.int .u8 66, .int .u8 98, .bool true]) ∧ wx = w') ∧ kS k = 98 := by
        rcases hk with rfl | rfl
        · exact .inl ⟨letters_1, rfl⟩
        · exact .inr ⟨letters_2, rfl⟩
      clear hR cp hn hl hds hk
      rcases hf with ⟨cl, hS⟩ | ⟨cl, hS⟩
      all_goals
        have CL := Lib.hid cl
        rw [hS] at HR
        clear cl hS
        go_enter Try.func15, Try.ntmps15
        go_wp2_with fail
        refine (CL.out _).mono ?_
        rintro e w' ⟨rfl, rfl⟩
        go_wp2_with fail
        refine (CN.out _).mono ?_
        rintro e w' ⟨rfl, rfl⟩
        go_wp2_with fail
        refine (CP.out _).mono ?_
        rintro e w1 ⟨rfl, hb1⟩
        go_wp2_with fail
        go_ret
        exact ⟨by rw [HR.out]; rfl, hb1⟩
    · have hR : stL k m = [] := if_neg fun h => hn h.2
      have CN := Lib.hid (fun wx => isNumber_no m wx hn); have HR := Lib.hid hR
      have hf : ∃ a b : Int, ∀ wx, Calls Try.prog 23 #[.int .i64 k] wx fun e w' => e = .returned (.tuple #[.int .u8 a, .int .u8 b, .bool true]) ∧ wx = w' := by
        rcases hk with rfl | rfl
        · exact ⟨_, _, letters_1⟩
        · exact ⟨_, _, letters_2⟩
      obtain ⟨a, b, cl⟩ := hf
      have CL := Lib.hid cl
      clear hn hR hk cl
      go_enter Try.func15, Try.ntmps15
      go_wp2_with fail
      refine (CL.out _).mono ?_
      rintro e w' ⟨rfl, rfl⟩
      go_wp2_with fail
      refine (CN.out _).mono ?_
      rintro e w' ⟨rfl, rfl⟩
      go_wp2_with fail
      go_ret
      exact ⟨by rw [HR.out]; rfl, Below.refl _ _⟩
  · have hR : stL k m = [] := if_neg fun h => hk h.1
    have CL := Lib.hid (fun wx => letters_no k wx hk); have HR := Lib.hid hR
    clear hk hR
    go_enter Try.func15, Try.ntmps15
    go_wp2_with fail
    refine (CL.out _).mono ?_
    rintro e w' ⟨rfl, rfl⟩
    go_wp2_with fail
    go_ret
    exact ⟨by rw [HR.out]; rfl, Below.refl _ _⟩

end Go.Proofs.Ytgmkejfepakehaa.Id
namespace Go.Proofs.Ytgmkejfepakehaa.Id
open Go.RowKit
open Go.Proofs.Ytgmkejfepakehaa.Utf
open Go.Proofs.Ytgmkejfepakehaa.Nu

def GivesQ (r : Int × Int) (w : World) (e : Ending) (w' : World) : Prop :=
  e = .returned (.tuple #[.int .i64 r.1, .int .i64 r.2]) ∧ Below w.heap.size w w'
theorem sq_none {k : Int} {l : List UInt8} (h : ¬ SqOk k l) : sqL k l = (0, 100) := if_neg h
theorem empty_yes {s : ByteArray} (h : s.size = 0) : s = ⟨#[]⟩ := by
  cases s with | mk d => cases d with | mk l => cases l with | nil => rfl | cons a b => cases h
theorem empty_no {s : ByteArray} (h : ¬ s.size = 0) : (s.toList == []) = false := by
  rw [ByteArray.toList_eq]
  cases hl : s.data.toList with
  | nil => exact absurd (by rw [← len_data, hl]; rfl) h
  | cons a b => rfl

set_option maxRecDepth 100000 in
set_option maxHeartbeats 1000000 in
theorem Seq_any (k : Int) (s : ByteArray) (w : World) (hs : s.size ≤ 9223372036854775807) :
    Calls Try.prog 17 #[.int .i64 k, .string s] w (GivesQ (sqL k s.data.toList) w) := by
  by_cases hk : k = 1 ∨ k = 2
  · have hf : (∃ a : Int, ∀ wx, Calls Try.prog 23 #[.int .i64 k] wx fun e w' => e = .returned (.tuple #[.int .u8 a, .int .u8 (if k = 1 then 99 else 98), .bool true]) ∧ wx = w') := by
      rcases hk with rfl | rfl
      · exact ⟨_, letters_1⟩
      · exact ⟨_, letters_2⟩
    obtain ⟨la, cl⟩ := hf
    by_cases h0 : s.size = 0
    · have HF := Lib.hid (sq_none (k := k) (l := s.data.toList) fun h => by have := h.2.1; rw [len_data] at this; omega)
      obtain ⟨lc, hlc⟩ : ∃ lc : Int, (if k = 1 then 99 else 98 : Int) = lc := ⟨_, rfl⟩
      rw [hlc] at cl
      have CL := Lib.hid cl
      obtain rfl := empty_yes h0
      clear hk cl hlc h0 hs
      go_enter Try.func17, Try.ntmps17
      go_wp2_with fail
      refine (CL.out _).mono ?_
      rintro e w' ⟨rfl, rfl⟩
      go_wp2_with fail
      go_ret2
      exact ⟨by rw [HF.out]; rfl, Below.refl _ _⟩
    · have he := empty_no h0
      have k0 : (0 : Int) < (s.size : Int) := by omega
      have k1 : (1 : Int) ≤ (s.size : Int) := by omega
      have k0' : 0 < s.size := by omega
      have g := byt_get s 0 k0'
      by_cases hc : byt s.data.toList 0 = (if k = 1 then 99 else 98)
      · have hex := ext_drop s 1
        have ca := fun wx => Nu.All_any (s.extract 1 s.size) wx (by rw [ByteArray.size_extract]; omega)
        rw [hex] at ca
        have hb : ((s[0].toNat : Int) != (if k = 1 then 99 else 98)) = false := by rw [bne_eq_false_iff_eq, ← g]; exact hc
        by_cases ha : (allS (s.data.toList.drop 1)).2 = true
        · have hyes := all_yes ha
          have hm : maxN = 9007199254740991 := rfl
          by_cases hn : 0 ≤ (allS (s.data.toList.drop 1)).1
          · have HT := Lib.hid (show sqL k s.data.toList = ((allS (s.data.toList.drop 1)).1, 0) from if_pos ⟨hk, by rw [len_data]; omega, hc, ha, hn⟩)
            have CN := Lib.hid (fun wx => isNumber_yes (allS (s.data.toList.drop 1)).1 wx ⟨hn, by omega⟩)
            rcases hA : allS (s.data.toList.drop 1) with ⟨n, b⟩
            rw [hA] at ca HT CN ha
            obtain rfl : b = true := ha
            obtain ⟨lc, hlc⟩ : ∃ lc : Int, (if k = 1 then 99 else 98 : Int) = lc := ⟨_, rfl⟩
            rw [hlc] at cl hb
            have CL := Lib.hid cl; have CA := Lib.hid ca
            clear hk cl hlc h0 hs ca hA hc hex g hyes hn hm
            go_enter Try.func17, Try.ntmps17
            go_wp2_with fail
            refine (CL.out _).mono ?_
            rintro e w' ⟨rfl, rfl⟩
            go_wp2_with fail
            refine (CA.out _).mono ?_
            rintro e w1 ⟨rfl, hb1⟩
            go_wp2_with fail
            refine (CN.out _).mono ?_
            rintro e w' ⟨rfl, rfl⟩
            go_wp2_with fail
            go_ret2
            exact ⟨by rw [HT.out]; rfl, hb1⟩
          · have HF := Lib.hid (sq_none (k := k) (l := s.data.toList) fun h => hn h.2.2.2.2)
            have CN := Lib.hid (fun wx => isNumber_no (allS (s.data.toList.drop 1)).1 wx fun h => hn h.1)
            rcases hA : allS (s.data.toList.drop 1) with ⟨n, b⟩
            rw [hA] at ca CN ha
            obtain rfl : b = true := ha
            obtain ⟨lc, hlc⟩ : ∃ lc : Int, (if k = 1 then 99 else 98 : Int) = lc := ⟨_, rfl⟩
            rw [hlc] at cl hb
            have CL := Lib.hid cl; have CA := Lib.hid ca
            clear hk cl hlc h0 hs ca hA hc hex g hyes hn hm
            go_enter Try.func17, Try.ntmps17
            go_wp2_with fail
            refine (CL.out _).mono ?_
            rintro e w' ⟨rfl, rfl⟩
            go_wp2_with fail
            refine (CA.out _).mono ?_
            rintro e w1 ⟨rfl, hb1⟩
            go_wp2_with fail
            refine (CN.out _).mono ?_
            rintro e w' ⟨rfl, rfl⟩
            go_wp2_with fail
            go_ret2
            exact ⟨by rw [HF.out]; rfl, hb1⟩
        · have HF := Lib.hid (sq_none (k := k) (l := s.data.toList) fun h => ha h.2.2.2.1)
          rcases hA : allS (s.data.toList.drop 1) with ⟨n, b⟩
          rw [hA] at ca ha
          obtain rfl : b = false := by simpa using ha
          obtain ⟨lc, hlc⟩ : ∃ lc : Int, (if k = 1 then 99 else 98 : Int) = lc := ⟨_, rfl⟩
          rw [hlc] at cl hb
          have CL := Lib.hid cl; have CA := Lib.hid ca
          clear hk cl hlc h0 hs ca hA hc hex g ha
          go_enter Try.func17, Try.ntmps17
          go_wp2_with fail
          refine (CL.out _).mono ?_
          rintro e w' ⟨rfl, rfl⟩
          go_wp2_with fail
          refine (CA.out _).mono ?_
          rintro e w1 ⟨rfl, hb1⟩
          go_wp2_with fail
          go_ret2
          exact ⟨by rw [HF.out]; rfl, hb1⟩
      · have HF := Lib.hid (sq_none (k := k) (l := s.data.toList) fun h => hc h.2.2.1)
        have hb : ((s[0].toNat : Int) != (if k = 1 then 99 else 98)) = true := by rw [bne_iff_ne, ← g]; exact hc
        obtain ⟨lc, hlc⟩ : ∃ lc : Int, (if k = 1 then 99 else 98 : Int) = lc := ⟨_, rfl⟩
        rw [hlc] at cl hb
        have CL := Lib.hid cl
        clear hk cl hlc h0 hs hc g
        go_enter Try.func17, Try.ntmps17
        go_wp2_with fail
        refine (CL.out _).mono ?_
        rintro e w' ⟨rfl, rfl⟩
        go_wp2_with fail
        go_ret2
        exact ⟨by rw [HF.out]; rfl, Below.refl _ _⟩
  · have HF := Lib.hid (sq_none (k := k) (l := s.data.toList) fun h => hk h.1)
    have CL := Lib.hid (fun wx => letters_no k wx hk)
    clear hk
    go_enter Try.func17, Try.ntmps17
    go_wp2_with fail
    refine (CL.out _).mono ?_
    rintro e w' ⟨rfl, rfl⟩
    go_wp2_with fail
    go_ret2
    exact ⟨by rw [HF.out]; rfl, Below.refl _ _⟩

end Go.Proofs.Ytgmkejfepakehaa.Id
namespace Go.Proofs.Ytgmkejfepakehaa.Id
open Go.RowKit
open Go.Proofs.Ytgmkejfepakehaa.Utf
open Go.Proofs.Ytgmkejfepakehaa.Nu

theorem seq_closed (k : Int) (l : List UInt8) (r : Int × Int) (w : World) (hl : l.length ≤ 1000) (h : sqL k l = r) : Calls Try.prog 17 #[.int .i64 k, .string ⟨l.toArray⟩] w (GivesQ r w) := by
  have := Seq_any k (strOf l) w (by rw [strOf_size]; omega)
  rw [strOf_data, h] at this
  exact this
theorem make_closed (k n : Int) (l : List UInt8) (w : World) (h : mkL k n = l) : Calls Try.prog 13 #[.int .i64 k, .int .i64 n] w (Gives (.string (strOf l)) w) := by
  have := Make_any k n w
  rw [h] at this
  exact this
theorem state_closed (k n : Int) (l : List UInt8) (w : World) (h : stL k n = l) : Calls Try.prog 15 #[.int .i64 k, .int .i64 n] w (Gives (.string (strOf l)) w) := by
  have := State_any k n w
  rw [h] at this
  exact this
theorem is_closed (l : List UInt8) (b : Bool) (w : World) (hl : l.length ≤ 1000) (h : isL l = b) : Calls Try.prog 11 #[.string ⟨l.toArray⟩] w (Gives (.bool b) w) := by
  have := Id.Is_any (strOf l) w (by rw [strOf_size]; omega)
  rw [strOf_data, h] at this
  exact this
theorem aw1 : sqL 2 [98, 55] = (7, 0) := by decide +kernel
theorem aw2 : sqL 2 [98, 48, 55] = (0, 100) := by decide +kernel
theorem aw3 : sqL 1 [98, 55] = (0, 100) := by decide +kernel
theorem aw4 : mkL 1 35 = [67, 48, 48, 48, 48, 48, 48, 48, 48, 48, 49, 51] := by decide +kernel
theorem aw5 : stL 2 7 = [98, 55] := by decide +kernel
theorem aw6 : isL [97, 45, 66, 95, 57] = true := by decide +kernel
theorem aw7 : isL [97, 32, 98] = false := by decide +kernel

set_option maxRecDepth 100000 in
set_option maxHeartbeats 1000000 in
theorem awake_any10 (w : World) : Calls Try.prog 10 #[] w (Gives (.bool true) w) := by
  have he1 := strOf_list [67, 48, 48, 48, 48, 48, 48, 48, 48, 48, 49, 51]
  have he2 := strOf_list [98, 55]
  go_enter Try.func10, Try.ntmps10
  go_wp2_with fail
  refine (seq_closed 2 [98, 55] _ _ (by decide) aw1).mono ?_
  rintro e w1 ⟨rfl, hb1⟩
  go_wp2_with fail
  refine (seq_closed 2 [98, 48, 55] _ _ (by decide) aw2).mono ?_
  rintro e w2 ⟨rfl, hb2⟩
  go_wp2_with fail
  refine (seq_closed 1 [98, 55] _ _ (by decide) aw3).mono ?_
  rintro e w3 ⟨rfl, hb3⟩
  go_wp2_with fail
  refine (make_closed 1 35 _ _ aw4).mono ?_
  rintro e w4 ⟨rfl, hb4⟩
  go_wp2_with fail
  refine (state_closed 2 7 _ _ aw5).mono ?_
  rintro e w5 ⟨rfl, hb5⟩
  go_wp2_with fail
  refine (is_closed [97, 45, 66, 95, 57] _ _ (by decide) aw6).mono ?_
  rintro e w6 ⟨rfl, hb6⟩
  go_wp2_with fail
  refine (is_closed [97, 32, 98] _ _ (by decide) aw7).mono ?_
  rintro e w7 ⟨rfl, hb7⟩
  go_wp2_with fail
  go_ret
  have B2 := hb1.trans (hb2.mono hb1.size)
  have B3 := B2.trans (hb3.mono B2.size)
  have B4 := B3.trans (hb4.mono B3.size)
  have B5 := B4.trans (hb5.mono B4.size)
  have B6 := B5.trans (hb6.mono B5.size)
  exact ⟨rfl, B6.trans (hb7.mono B6.size)⟩
end Go.Proofs.Ytgmkejfepakehaa.Id
namespace Go.Proofs.Ytgmkejfepakehaa.Id
open Go.RowKit
open Go.Proofs.Ytgmkejfepakehaa.Utf
open Go.Proofs.Ytgmkejfepakehaa.Nu

theorem number_of {k n : Int} (h : okK k n) (w : World) : Calls Try.prog 8 #[.string (strOf (mkL k n))] w (GivesN (k, n, true) w) := by
  have := Number_any (strOf (mkL k n)) w
  rw [strOf_data, (mkL_ok h).2] at this
  exact this
end Go.Proofs.Ytgmkejfepakehaa.Id
namespace Go.Proofs.Ytgmkejfepakehaa.Id
open Go.RowKit
open Go.Proofs.Ytgmkejfepakehaa.Utf
open Go.Proofs.Ytgmkejfepakehaa.Nu

theorem str_nil (l : List UInt8) : ((strOf l).toList == []) = decide (l = []) := by
  rw [strOf_list, Bool.eq_iff_iff, beq_iff_eq, decide_eq_true_eq]
theorem str_ne {x y : List UInt8} (h : x ≠ y) : ((strOf x).toList == (strOf y).toList) = false := by
  rw [strOf_list, strOf_list, beq_eq_false_iff_ne]; exact h
theorem mk_nil {k n : Int} (h : okK k n) : decide (mkL k n = []) = false := decide_eq_false fun h2 => by
  have := mkL_len k n; rw [h2, if_pos h] at this; cases this
theorem seq_other {n : Int} (h : okK 1 n) (w : World) : Calls Try.prog 17 #[.int .i64 2, .string (strOf (stL 1 n))] w (GivesQ (0, 100) w) := by
  have := Seq_any 2 (strOf (stL 1 n)) w (by have := stL_len 1 n; rw [strOf_size]; omega)
  rw [strOf_data, sq_other h] at this
  exact this

set_option maxRecDepth 100000 in
set_option maxHeartbeats 1000000 in
theorem apart_walk (a b : Int) (w : World) (_ha : (Lit.int .i64 a).wf = true) (_hb : (Lit.int .i64 b).wf = true) :
    Calls Try.prog 7 #[.int .i64 a, .int .i64 b] w fun e w' => e = .returned (.bool true) ∧ Below w.heap.size w w' := by
  have C1 := Lib.hid (fun wx => Make_any 1 a wx)
  have C2 := Lib.hid (fun wx => Make_any 2 b wx)
  have C3 := Lib.hid (fun wx => State_any 1 a wx)
  have n1 := str_nil (mkL 1 a)
  have n2 := str_nil (mkL 2 b)
  by_cases oa : okK 1 a
  · rw [mk_nil oa] at n1
    by_cases ob : okK 2 b
    · rw [mk_nil ob] at n2
      have e1 := str_ne (mkL_ne (b := b) oa)
      have e2 := str_ne (stL_ne (b := b) oa)
      have C4 := Lib.hid (fun wx => seq_other oa wx)
      have C5 := Lib.hid (fun wx => number_of ob wx)
      have C6 := Lib.hid (fun wx => State_any 2 b wx)
      generalize strOf (mkL 1 a) = X at *
      generalize strOf (mkL 2 b) = Y at *
      generalize strOf (stL 1 a) = S at *
      generalize strOf (stL 2 b) = S2 at *
      clear oa ob
      go_enter Try.func7, Try.ntmps7
      go_wp2_with fail
      refine (C1.out _).mono ?_
      rintro e w1 ⟨rfl, hb1⟩
      go_wp2_with fail
      refine (C2.out _).mono ?_
      rintro e w2 ⟨rfl, hb2⟩
      go_wp2_with fail
      refine (C3.out _).mono ?_
      rintro e w3 ⟨rfl, hb3⟩
      go_wp2_with fail
      refine (awake_any10 _).mono ?_
      rintro e w4 ⟨rfl, hb4⟩
      go_wp2_with fail
      refine (C4.out _).mono ?_
      rintro e w5 ⟨rfl, hb5⟩
      go_wp2_with fail
      refine (C5.out _).mono ?_
      rintro e w6 ⟨rfl, hb6⟩
      go_wp2_with fail
      refine (C6.out _).mono ?_
      rintro e w7 ⟨rfl, hb7⟩
      go_wp2_with fail
      have B2 := hb1.trans (hb2.mono hb1.size)
      have B3 := B2.trans (hb3.mono B2.size)
      have B4 := B3.trans (hb4.mono B3.size)
      have B5 := B4.trans (hb5.mono B4.size)
      have B6 := B5.trans (hb6.mono B5.size)
      have B7 := B6.trans (hb7.mono B6.size)
      go_ret
      exact ⟨rfl, B7⟩
    · rw [decide_eq_true (mkL_no ob)] at n2
      generalize strOf (mkL 1 a) = X at *
      generalize strOf (mkL 2 b) = Y at *
      generalize strOf (stL 1 a) = S at *
      clear oa ob
      go_enter Try.func7, Try.ntmps7
      go_wp2_with fail
      refine (C1.out _).mono ?_
      rintro e w1 ⟨rfl, hb1⟩
      go_wp2_with fail
      refine (C2.out _).mono ?_
      rintro e w2 ⟨rfl, hb2⟩
      go_wp2_with fail
      refine (C3.out _).mono ?_
      rintro e w3 ⟨rfl, hb3⟩
      go_wp2_with fail
      refine (awake_any10 _).mono ?_
      rintro e w4 ⟨rfl, hb4⟩
      go_wp2_with fail
      refine (awake_any10 _).mono ?_
      rintro e w5 ⟨rfl, hb5⟩
      go_wp2_with fail
      have B2 := hb1.trans (hb2.mono hb1.size)
      have B3 := B2.trans (hb3.mono B2.size)
      have B4 := B3.trans (hb4.mono B3.size)
      have B5 := B4.trans (hb5.mono B4.size)
      go_ret
      exact ⟨rfl, B5⟩
  · rw [decide_eq_true (mkL_no oa)] at n1
    generalize strOf (mkL 1 a) = X at *
    generalize strOf (mkL 2 b) = Y at *
    generalize strOf (stL 1 a) = S at *
    clear oa n2
    go_enter Try.func7, Try.ntmps7
    go_wp2_with fail
    refine (C1.out _).mono ?_
    rintro e w1 ⟨rfl, hb1⟩
    go_wp2_with fail
    refine (C2.out _).mono ?_
    rintro e w2 ⟨rfl, hb2⟩
    go_wp2_with fail
    refine (C3.out _).mono ?_
    rintro e w3 ⟨rfl, hb3⟩
    go_wp2_with fail
    refine (awake_any10 _).mono ?_
    rintro e w4 ⟨rfl, hb4⟩
    go_wp2_with fail
    refine (awake_any10 _).mono ?_
    rintro e w5 ⟨rfl, hb5⟩
    go_wp2_with fail
    have B2 := hb1.trans (hb2.mono hb1.size)
    have B3 := B2.trans (hb3.mono B2.size)
    have B4 := B3.trans (hb4.mono B3.size)
    have B5 := B4.trans (hb5.mono B4.size)
    go_ret
    exact ⟨rfl, B5⟩
end Go.Proofs.Ytgmkejfepakehaa.Id
