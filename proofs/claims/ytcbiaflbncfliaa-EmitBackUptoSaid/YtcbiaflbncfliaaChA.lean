import Derived.Test.YtcbiaflbncfliaaUtfA
import Derived.Test.YtcbiaflbncfliaaChPl
import Derived.IntWalk
import Derived.Laws.Shifts
/- Contracts of package chars' small calls: digit, isUpper, isLower, both, fourAt, escapeAt. -/
namespace Go.Proofs.Ytcbiaflbncfliaa.Ch
open Go.RowKit
open Go.Proofs.Ytcbiaflbncfliaa.Utf

set_option maxRecDepth 100000 in
set_option maxHeartbeats 1000000 in
theorem digit_any (c : Int) (w : World) (h0 : 0 ≤ c) (h1 : c ≤ 255) : Calls Try.prog 74 #[.int .u8 c] w fun e w' => e = .returned (.int .i32 (digV c)) ∧ w = w' := by
  go_enter Try.func74, Try.ntmps74
  go_wp2
  all_goals
    go_ret
    exact ⟨ret_int (by unfold digV; (repeat' split) <;> omega), rfl⟩

set_option maxRecDepth 100000 in
set_option maxHeartbeats 1000000 in
theorem isUpper_any (n : Int) (w : World) : Calls Try.prog 61 #[.int .i32 n] w fun e w' => e = .returned (.bool (isUp n)) ∧ w = w' := by
  go_enter Try.func61, Try.ntmps61
  go_wp2
  all_goals
    go_ret
    exact ⟨ret_bool (by rw [Bool.eq_iff_iff]; simp [isUp]; omega), rfl⟩
set_option maxRecDepth 100000 in
set_option maxHeartbeats 1000000 in
theorem isLower_any (n : Int) (w : World) : Calls Try.prog 58 #[.int .i32 n] w fun e w' => e = .returned (.bool (isLo n)) ∧ w = w' := by
  go_enter Try.func58, Try.ntmps58
  go_wp2
  all_goals
    go_ret
    exact ⟨ret_bool (by rw [Bool.eq_iff_iff]; simp [isLo]; omega), rfl⟩
set_option maxRecDepth 100000 in
set_option maxHeartbeats 1000000 in
theorem both_any (u b : Int) (w : World) (hu : isUp u = true) (hb : isLo b = true) : Calls Try.prog 60 #[.int .i32 u, .int .i32 b] w fun e w' => e = .returned (.int .i32 (bothV u b)) ∧ w = w' := by
  have u1 := isUp_bd hu
  have b1 := isLo_bd hb
  clear hu hb
  go_enter Try.func60, Try.ntmps60
  go_wp2
  go_ret
  exact ⟨ret_int (by unfold bothV; omega), rfl⟩

theorem i32_or4 (x y : Int) (h0 : 0 ≤ x) (h1 : x ≤ 4095) (h2 : 0 ≤ y) (h3 : y < 16) : bits .or .i32 (x * 16) y = x * 16 + y :=
  bits_join .i32 31 (by decide) wraps_i32 4 (x * 16) y (by omega) (by omega) (by omega) h2 h3 (by omega)

def fourR (l : List UInt8) : Int × Int × Int := if 0 ≤ unitL l then (unitL l, 6, 0) else (0, 0, 20)
theorem fourR_no {l : List UInt8} (h : unitL l = -1) : fourR l = (0, 0, 20) := by rw [fourR, if_neg (by omega)]
theorem fourR_yes {l : List UInt8} (n : Int) (h : unitL l = n) (h0 : 0 ≤ n) : fourR l = (n, 6, 0) := by rw [fourR, if_pos (by omega), h]

set_option maxRecDepth 100000 in
set_option maxHeartbeats 400000 in
theorem fourAt_any (s : ByteArray) (q : Nat) (w : World) (hs : s.size ≤ maxLen) (hq : q + 1 < s.size) (hb0 : byt (s.data.toList.drop q) 0 = 92) (hb1 : byt (s.data.toList.drop q) 1 = 117) :
    Calls Try.prog 71 #[.string s, .int .i64 q] w fun e w' =>
      e = .returned (.tuple #[.int .i32 (fourR (s.data.toList.drop q)).1, .int .i64 (fourR (s.data.toList.drop q)).2.1, .int .i64 (fourR (s.data.toList.drop q)).2.2]) ∧ w = w' := by
  unfold maxLen at hs
  have B0 := Lib.hid hb0; clear hb0
  have B1 := Lib.hid hb1; clear hb1
  have hlen : (s.data.toList.drop q).length = s.size - q := by simp
  have HLEN := Lib.hid hlen; clear hlen
  by_cases hl : s.size - q < 6
  · have hd : decide ((s.size : Int) - (q : Int) < 6) = true := decide_eq_true (by omega)
    have hn : unitL (s.data.toList.drop q) = -1 := unitL_no fun x => by have := HLEN.out; omega
    have HN := Lib.hid hn; clear hn
    go_enter Try.func71, Try.ntmps71
    go_wp2_with fail
    go_ret3
    exact ⟨by rw [fourR_no HN.out]; rfl, rfl⟩
  · have hd : decide ((s.size : Int) - (q : Int) < 6) = false := decide_eq_false (by omega)
    go_enter Try.func71, Try.ntmps71
    go_wp2_with fail
    go_loop [7, 8, 9] (fun n i _ => ∃ k : Nat, k ≤ 4 ∧ i = .int .i64 (q + 2 + k : Nat) ∧ n = .int .i32 (hexN (s.data.toList.drop q) k) ∧ hexOk (s.data.toList.drop q) k = true) (fun _ i _ => q + 6 - (intOf i).toNat)
    case atStart => exact ⟨0, by omega, by go_num, rfl, rfl⟩
    case round =>
      obtain ⟨k, hk, rfl, rfl, hok⟩ := hrel
      have hbd := hex_bd (s.data.toList.drop q) k hok
      have OK := Lib.hid hok; clear hok
      by_cases hlt : k < 4
      · have hdk : decide (q + 2 + k < q + 6) = true := decide_eq_true (by omega)
        have a0 := hbd.1
        have a1 : hexN (s.data.toList.drop q) k ≤ 4095 := by
          have := hbd.2
          rcases (show k = 0 ∨ k = 1 ∨ k = 2 ∨ k = 3 by omega) with rfl | rfl | rfl | rfl <;> omega
        clear hbd
        have hlt2 : q + 2 + k < s.size := by omega
        have g : (s[q + 2 + k].toNat : Int) = byt (s.data.toList.drop q) (k + 2) := by rw [byt_drop, show q + (k + 2) = q + 2 + k by omega, byt_get s (q + 2 + k) hlt2]
        have g0 := byt_lo (s.data.toList.drop q) (k + 2)
        have g1 := byt_hi (s.data.toList.drop q) (k + 2)
        have v0 := digV_lo (byt (s.data.toList.drop q) (k + 2))
        have v1 := digV_hi (byt (s.data.toList.drop q) (k + 2))
        have hstep : hexN (s.data.toList.drop q) (k + 1) = hexN (s.data.toList.drop q) k * 16 + digV (byt (s.data.toList.drop q) (k + 2)) := rfl
        have hokst : hexOk (s.data.toList.drop q) (k + 1) = (hexOk (s.data.toList.drop q) k && decide (0 ≤ digV (byt (s.data.toList.drop q) (k + 2)))) := rfl
        rw [← g] at hstep hokst g0 g1 v0 v1
        clear g
        have HS := Lib.hid hstep; clear hstep
        have HO := Lib.hid hokst; clear hokst
        have hi1 : q + 2 + k < 9223372036854775807 := by omega
        by_cases hv : digV (s[q + 2 + k].toNat : Int) < 0
        · have hvd : decide (digV (s[q + 2 + k].toNat : Int) < 0) = true := decide_eq_true hv
          go_wp2_with (go_at_call 74; refine (digit_any _ _ (by omega) (by omega)).mono ?_; rintro e w' ⟨rfl, rfl⟩)
          go_ret3
          have hno : unitL (s.data.toList.drop q) = -1 := unitL_no fun x => by
            have := hexOk_mono (s.data.toList.drop q) (k + 1) (by rw [HO.out, decide_eq_false (by omega)]; simp) 4 (by omega)
            rw [this] at x
            simp at x
          exact ⟨by rw [fourR_no hno]; rfl, rfl⟩
        · have hvd : decide (digV (s[q + 2 + k].toNat : Int) < 0) = false := decide_eq_false hv
          go_wp2_with (go_at_call 74; refine (digit_any _ _ (by omega) (by omega)).mono ?_; rintro e w' ⟨rfl, rfl⟩)
          go_round
          case rel => exact ⟨k + 1, by omega, by go_num, by rw [HS.out, i32_or4 _ _ a0 a1 hv (by omega)], by rw [HO.out, OK.out, decide_eq_true (by omega)]; rfl⟩
          case measure => simp [intOf]; omega
      · have hdk : decide (q + 2 + k < q + 6) = false := decide_eq_false (by omega)
        obtain rfl : k = 4 := by omega
        have hu : unitL (s.data.toList.drop q) = hexN (s.data.toList.drop q) 4 := unitL_is (by rw [HLEN.out]; omega) B0.out B1.out OK.out
        have HU := Lib.hid hu; clear hu
        go_wp2_with fail
        go_ret3
        exact ⟨by rw [fourR_yes _ HU.out hbd.1]; rfl, rfl⟩


set_option maxRecDepth 100000 in
set_option maxHeartbeats 1000000 in
theorem escapeAt_any (s : ByteArray) (q : Nat) (w : World) (hs : s.size ≤ maxLen) (hq : q < s.size) (hb0 : byt (s.data.toList.drop q) 0 = 92) :
    Calls Try.prog 67 #[.string s, .int .i64 q] w fun e w' =>
      e = .returned (.tuple #[.int .i32 (escU (s.data.toList.drop q)).1, .int .i64 (escU (s.data.toList.drop q)).2.1, .int .i64 (escU (s.data.toList.drop q)).2.2]) ∧ w = w' := by
  have hs' := hs
  have HS := Lib.hid hs; clear hs
  unfold maxLen at hs'
  have B0 := Lib.hid hb0; clear hb0
  have hlen : (s.data.toList.drop q).length = s.size - q := by simp
  have HLEN := Lib.hid hlen; clear hlen
  by_cases hl : s.size - q < 2
  · have hd : decide ((s.size : Int) - (q : Int) < 2) = true := decide_eq_true (by omega)
    have hn : escU (s.data.toList.drop q) = (0, 0, 20) := by unfold escU; rw [if_pos (by have := HLEN.out; omega)]
    have HN := Lib.hid hn; clear hn
    go_enter Try.func67, Try.ntmps67
    go_wp2_with fail
    go_ret3
    exact ⟨by rw [HN.out]; rfl, rfl⟩
  · have hd : decide ((s.size : Int) - (q : Int) < 2) = false := decide_eq_false (by omega)
    have hlt : q + 1 < s.size := by omega
    have g : byt (s.data.toList.drop q) 1 = (s[q + 1].toNat : Int) := by rw [byt_drop, byt_get s (q + 1) hlt]
    have b0 := byt_lo (s.data.toList.drop q) 1
    have b1 := byt_hi (s.data.toList.drop q) 1
    rw [g] at b0 b1
    have hlet : ∀ p : Int, 0 ≤ p → letV (s[q + 1].toNat : Int) = p → escU (s.data.toList.drop q) = (p, 2, 0) := by
      intro p h0 hp
      rw [(escU_let (by have := HLEN.out; omega) (by rw [g, hp]; exact h0)).1, g, hp]
    have hnot : letV (s[q + 1].toNat : Int) = -1 → escU (s.data.toList.drop q) = fourR (s.data.toList.drop q) := by
      intro hp
      unfold escU fourR
      rw [if_neg (by have := HLEN.out; omega), if_neg (by rw [g, hp]; omega)]
    have hno : letV (s[q + 1].toNat : Int) = -1 → (s[q + 1].toNat : Int) ≠ 117 → escU (s.data.toList.drop q) = (0, 0, 20) := by
      intro hp h117
      rw [hnot hp, fourR_no (unitL_no fun x => h117 (by rw [← g]; exact x.2.2.1))]
    have LET := Lib.hid hlet; clear hlet
    have NOT := Lib.hid hnot; clear hnot
    have NO := Lib.hid hno; clear hno
    have G := Lib.hid g; clear g
    go_enter Try.func67, Try.ntmps67
    go_wp2_with (go_at_call 71; refine (fourAt_any s q _ HS.out hlt B0.out (G.out.trans (eq_of_beq (by assumption)))).mono ?_; rintro e w' ⟨rfl, rfl⟩)
    all_goals go_ret3
    · have e : (s[q + 1].toNat : Int) = 34 := eq_of_beq (by assumption)
      exact ⟨by rw [LET.out (s[q + 1].toNat : Int) (by omega) (by rw [e]; rfl)]; rfl, rfl⟩
    · have e : (s[q + 1].toNat : Int) = 92 := eq_of_beq (by assumption)
      exact ⟨by rw [LET.out (s[q + 1].toNat : Int) (by omega) (by rw [e]; rfl)]; rfl, rfl⟩
    · have e : (s[q + 1].toNat : Int) = 47 := eq_of_beq (by assumption)
      exact ⟨by rw [LET.out (s[q + 1].toNat : Int) (by omega) (by rw [e]; rfl)]; rfl, rfl⟩
    · have e : (s[q + 1].toNat : Int) = 98 := eq_of_beq (by assumption)
      exact ⟨by rw [LET.out 8 (by decide) (by rw [e]; rfl)]; rfl, rfl⟩
    · have e : (s[q + 1].toNat : Int) = 102 := eq_of_beq (by assumption)
      exact ⟨by rw [LET.out 12 (by decide) (by rw [e]; rfl)]; rfl, rfl⟩
    · have e : (s[q + 1].toNat : Int) = 110 := eq_of_beq (by assumption)
      exact ⟨by rw [LET.out 10 (by decide) (by rw [e]; rfl)]; rfl, rfl⟩
    · have e : (s[q + 1].toNat : Int) = 114 := eq_of_beq (by assumption)
      exact ⟨by rw [LET.out 13 (by decide) (by rw [e]; rfl)]; rfl, rfl⟩
    · have e : (s[q + 1].toNat : Int) = 116 := eq_of_beq (by assumption)
      exact ⟨by rw [LET.out 9 (by decide) (by rw [e]; rfl)]; rfl, rfl⟩
    · have e : (s[q + 1].toNat : Int) = 117 := eq_of_beq (by assumption)
      exact ⟨by rw [NOT.out (by rw [e]; rfl)]; rfl, rfl⟩
    · have c1 : (s[q + 1].toNat : Int) ≠ 34 := ne_of_beq_false (by assumption)
      have c2 : (s[q + 1].toNat : Int) ≠ 92 := ne_of_beq_false (by assumption)
      have c3 : (s[q + 1].toNat : Int) ≠ 47 := ne_of_beq_false (by assumption)
      have c4 : (s[q + 1].toNat : Int) ≠ 98 := ne_of_beq_false (by assumption)
      have c5 : (s[q + 1].toNat : Int) ≠ 102 := ne_of_beq_false (by assumption)
      have c6 : (s[q + 1].toNat : Int) ≠ 110 := ne_of_beq_false (by assumption)
      have c7 : (s[q + 1].toNat : Int) ≠ 114 := ne_of_beq_false (by assumption)
      have c8 : (s[q + 1].toNat : Int) ≠ 116 := ne_of_beq_false (by assumption)
      have c9 : (s[q + 1].toNat : Int) ≠ 117 := ne_of_beq_false (by assumption)
      exact ⟨by rw [NO.out (by unfold letV; rw [if_neg c1, if_neg c2, if_neg c3, if_neg c4, if_neg c5, if_neg c6, if_neg c7, if_neg c8]) c9]; rfl, rfl⟩

theorem one_nat (s : ByteArray) (q : Nat) (w : World) (hs : s.size ≤ maxLen) (hq : q < s.size) :
    Calls Try.prog 66 #[.string s, .int .i64 q] w fun e w' => e = .returned (.tuple #[.int .i32 (oneL (s.data.toList.drop q)).1, .int .i64 (oneL (s.data.toList.drop q)).2]) ∧ w = w' := by
  have := one_any s q w hs
  rw [oneS_in s q hq] at this
  exact this

set_option maxRecDepth 100000 in
set_option maxHeartbeats 400000 in
theorem unitAt_any (s : ByteArray) (q : Nat) (w : World) (hs : s.size ≤ maxLen) (hq : q < s.size) :
    Calls Try.prog 57 #[.string s, .int .i64 q] w fun e w' =>
      e = .returned (.tuple #[.int .i32 (uniL (s.data.toList.drop q)).1, .int .i64 (uniL (s.data.toList.drop q)).2.1, .int .i64 (uniL (s.data.toList.drop q)).2.2]) ∧ w = w' := by
  have C := one_nat s q w hs hq
  have h0 : (s.data.toList.drop q).length ≠ 0 := by simp; omega
  have HS := Lib.hid hs; clear hs
  have H0 := Lib.hid h0; clear h0
  rcases hO : oneL (s.data.toList.drop q) with ⟨p, n⟩
  rw [hO] at C
  by_cases hn : n = 0
  · subst hn
    have hr : uniL (s.data.toList.drop q) = (0, 0, 10) := uniL_bad (by rw [hO])
    have HR := Lib.hid hr; clear hr
    clear hO
    go_enter Try.func57, Try.ntmps57
    go_wp2_with (go_at_call 66; refine C.mono ?_; rintro e w' ⟨rfl, rfl⟩)
    go_ret3
    exact ⟨by rw [HR.out]; rfl, rfl⟩
  · have hnb : (n == 0) = false := by simpa using hn
    have hne : (oneL (s.data.toList.drop q)).2 ≠ 0 := by rw [hO]; exact hn
    by_cases h1 : byt (s.data.toList.drop q) 0 < 32
    · have e := one_low H0.out (by omega)
      have hp : p = byt (s.data.toList.drop q) 0 := by rw [hO] at e; exact congrArg Prod.fst e
      have hd : decide (p < 32) = true := decide_eq_true (by omega)
      have hr := uniL_ctl H0.out h1
      have HR := Lib.hid hr; clear hr
      clear hO hp e hne hn h1
      go_enter Try.func57, Try.ntmps57
      go_wp2_with (go_at_call 66; refine C.mono ?_; rintro e w' ⟨rfl, rfl⟩)
      go_ret3
      exact ⟨by rw [HR.out]; rfl, rfl⟩
    · by_cases h2 : byt (s.data.toList.drop q) 0 = 92
      · have e := one_low H0.out (by omega)
        obtain rfl : p = 92 := by rw [hO, h2] at e; exact congrArg Prod.fst e
        have hr := uniL_esc H0.out h2
        have HR := Lib.hid hr; clear hr
        have H2 := Lib.hid h2; clear h2
        have D := escapeAt_any s q w HS.out hq H2.out
        clear hO e hne hn h1
        go_enter Try.func57, Try.ntmps57
        go_wp2_with (first | (go_at_call 66; refine C.mono ?_; rintro e w' ⟨rfl, rfl⟩) | (go_at_call 67; refine D.mono ?_; rintro e w' ⟨rfl, rfl⟩))
        go_ret3
        exact ⟨by rw [HR.out]; rfl, rfl⟩
      · have hr := uniL_pt H0.out hne h1 h2
        rw [hO] at hr
        have hp : 32 ≤ p ∧ p ≠ 92 := by
          by_cases h3 : byt (s.data.toList.drop q) 0 < 128
          · have e := one_low H0.out h3
            rw [hO] at e
            have := congrArg Prod.fst e
            simp only at this
            omega
          · have := one_high (by omega) hne
            rw [hO] at this
            simp only at this
            omega
        have hd1 : decide (p < 32) = false := decide_eq_false (by omega)
        have hd2 : (p != 92) = true := by rw [bne_iff_ne]; exact hp.2
        have HR := Lib.hid hr; clear hr
        clear hO hp hne hn h1 h2
        go_enter Try.func57, Try.ntmps57
        go_wp2_with (go_at_call 66; refine C.mono ?_; rintro e w' ⟨rfl, rfl⟩)
        go_ret3
        exact ⟨by rw [HR.out]; rfl, rfl⟩
end Go.Proofs.Ytcbiaflbncfliaa.Ch
