/- Merged: ChA ChB. -/
import Derived.Test.YtbfogkcnfnjcaaaTt5
import Derived.Test.YtbfogkcnfnjcaaaTt6
import Derived.IntWalk
import Derived.Laws.Shifts
import Derived.OpenShut
namespace Go.Proofs.Ytbfogkcnfnjcaaa.Ch
open Go.RowKit
open Go.Proofs.Ytbfogkcnfnjcaaa.Utf

set_option maxRecDepth 100000 in
set_option maxHeartbeats 1000000 in
theorem digit_any (c : Int) (w : World) (h0 : 0 ≤ c) (h1 : c ≤ 255) : Calls Try.prog 105 #[.int .u8 c] w fun e w' => e = .returned (.int .i32 (digV c)) ∧ w = w' := by
  go_enter Try.func105, Try.ntmps105
  go_wp2
  all_goals
    go_ret
    exact ⟨ret_int (by unfold digV; (repeat' split) <;> omega), rfl⟩

set_option maxRecDepth 100000 in
set_option maxHeartbeats 1000000 in
theorem isUpper_any (n : Int) (w : World) : Calls Try.prog 95 #[.int .i32 n] w fun e w' => e = .returned (.bool (isUp n)) ∧ w = w' := by
  go_enter Try.func95, Try.ntmps95
  go_wp2
  all_goals
    go_ret
    exact ⟨ret_bool (by rw [Bool.eq_iff_iff]; simp [isUp]; omega), rfl⟩
set_option maxRecDepth 100000 in
set_option maxHeartbeats 1000000 in
theorem isLower_any (n : Int) (w : World) : Calls Try.prog 92 #[.int .i32 n] w fun e w' => e = .returned (.bool (isLo n)) ∧ w = w' := by
  go_enter Try.func92, Try.ntmps92
  go_wp2
  all_goals
    go_ret
    exact ⟨ret_bool (by rw [Bool.eq_iff_iff]; simp [isLo]; omega), rfl⟩
set_option maxRecDepth 100000 in
set_option maxHeartbeats 1000000 in
theorem both_any (u b : Int) (w : World) (hu : isUp u = true) (hb : isLo b = true) : Calls Try.prog 94 #[.int .i32 u, .int .i32 b] w fun e w' => e = .returned (.int .i32 (bothV u b)) ∧ w = w' := by
  have u1 := isUp_bd hu
  have b1 := isLo_bd hb
  clear hu hb
  go_enter Try.func94, Try.ntmps94
  go_wp2
  go_ret
  exact ⟨ret_int (by unfold bothV; omega), rfl⟩

theorem i32_or4 (x y : Int) (h0 : 0 ≤ x) (h1 : x ≤ 4095) (h2 : 0 ≤ y) (h3 : y < 16) : bits .or .i32 (x * 16) y = x * 16 + y :=
  bits_join .i32 31 (by decide) wraps_i32 4 (x * 16) y (by omega) (by omega) (by omega) h2 h3 (by omega)

def fourR (l : List UInt8) : Int × Int × Int := if 0 ≤ unitL l then (unitL l, 6, 0) else (0, 0, 20)
theorem fourR_no {l : List UInt8} (h : unitL l = -1) : fourR l = (0, 0, 20) := by rw [fourR, if_neg (by omega)]
theorem fourR_yes {l : List UInt8} (n : Int) (h : unitL l = n) (h0 : 0 ≤ n) : fourR l = (n, 6, 0) := by rw [fourR, if_pos (by omega), h]

set_option maxRecDepth 100000 in
set_option maxHeartbeats 400000 in
theorem fourAt_any (s : ByteArray) (q : Nat) (w : World) (hs : s.size ≤ maxLen) (hq : q + 1 < s.size) (hb0 : byt (s.data.toList.drop q) 0 = 92) (hb1 : byt (s.data.toList.drop q) 1 = 117) :
    Calls Try.prog 103 #[.string s, .int .i64 q] w fun e w' =>
      e = .returned (.tuple #[.int .i32 (fourR (s.data.toList.drop q)).1, .int .i64 (fourR (s.data.toList.drop q)).2.1, .int .i64 (fourR (s.data.toList.drop q)).2.2]) ∧ w = w' := by
  unfold maxLen at hs
  have B0 := Lib.hid hb0; clear hb0
  have B1 := Lib.hid hb1; clear hb1
  have hlen : (s.data.toList.drop q).length = s.size - q := by simp
  have HLEN := Lib.hid hlen; clear hlen
  by_cases hl : s.size - q < 6
  · have hd : decide ((s.size : Int) - (q : Int) < 6) = true := decide_eq_true (by omega)
    have hn : unitL (s.data.toList.drop q) = -1 := unitL_no fun x => by have := HLEN.out; omega
    have HN := Lib.hid hn; clear hn
    go_enter Try.func103, Try.ntmps103
    go_wp2_with fail
    go_ret3
    exact ⟨by rw [fourR_no HN.out]; rfl, rfl⟩
  · have hd : decide ((s.size : Int) - (q : Int) < 6) = false := decide_eq_false (by omega)
    go_enter Try.func103, Try.ntmps103
    go_wp2_with fail
    go_loop [7, 8, 9] (fun n i _ => ∃ k : Nat, k ≤ 4 ∧ i = .int .i64 (q + 2 + k : Nat) ∧ n = .int .i32 (hexN (s.data.toList.drop q) k) ∧ hexOk (s.data.toList.drop q) k = true) (fun _ i _ => q + 6 - (intOf i).toNat)
    case atStart => exact ⟨0, by omega, by go_num, rfl, rfl⟩
    case round =>
      obtain ⟨k, hk, rfl, rfl, hok⟩ := hrel
      have hbd := hex_bd (s.data.toList.drop q) k hok
      have OK := Lib.hid hok; clear hok
      by_cases hlt : k < 4
      · have hdk : decide (q + 2 + k < q + 6) = true := decide_eq_true (by omega)
        have a0 := hbd.1
        have a1 : hexN (s.data.toList.drop q) k ≤ 4095 := by
          have := hbd.2
          rcases (show k = 0 ∨ k = 1 ∨ k = 2 ∨ k = 3 by omega) with rfl | rfl | rfl | rfl <;> omega
        clear hbd
        have hlt2 : q + 2 + k < s.size := by omega
        have g : (s[q + 2 + k].toNat : Int) = byt (s.data.toList.drop q) (k + 2) := by rw [byt_drop, show q + (k + 2) = q + 2 + k by omega, byt_get s (q + 2 + k) hlt2]
        have g0 := byt_lo (s.data.toList.drop q) (k + 2)
        have g1 := byt_hi (s.data.toList.drop q) (k + 2)
        have v0 := digV_lo (byt (s.data.toList.drop q) (k + 2))
        have v1 := digV_hi (byt (s.data.toList.drop q) (k + 2))
        have hstep : hexN (s.data.toList.drop q) (k + 1) = hexN (s.data.toList.drop q) k * 16 + digV (byt (s.data.toList.drop q) (k + 2)) := rfl
        have hokst : hexOk (s.data.toList.drop q) (k + 1) = (hexOk (s.data.toList.drop q) k && decide (0 ≤ digV (byt (s.data.toList.drop q) (k + 2)))) := rfl
        rw [← g] at hstep hokst g0 g1 v0 v1
        clear g
        have HS := Lib.hid hstep; clear hstep
        have HO := Lib.hid hokst; clear hokst
        have hi1 : q + 2 + k < 9223372036854775807 := by omega
        by_cases hv : digV (s[q + 2 + k].toNat : Int) < 0
        · have hvd : decide (digV (s[q + 2 + k].toNat : Int) < 0) = true := decide_eq_true hv
          go_wp2_with (go_at_call 105; refine (digit_any _ _ (by omega) (by omega)).mono ?_; rintro e w' ⟨rfl, rfl⟩)
          go_ret3
          have hno : unitL (s.data.toList.drop q) = -1 := unitL_no fun x => by
            have := hexOk_mono (s.data.toList.drop q) (k + 1) (by rw [HO.out, decide_eq_false (by omega)]; simp) 4 (by omega)
            rw [this] at x
            simp at x
          exact ⟨by rw [fourR_no hno]; rfl, rfl⟩
        · have hvd : decide (digV (s[q + 2 + k].toNat : Int) < 0) = false := decide_eq_false hv
          go_wp2_with (go_at_call 105; refine (digit_any _ _ (by omega) (by omega)).mono ?_; rintro e w' ⟨rfl, rfl⟩)
          go_round
          case rel => exact ⟨k + 1, by omega, by go_num, by rw [HS.out, i32_or4 _ _ a0 a1 hv (by omega)], by rw [HO.out, OK.out, decide_eq_true (by omega)]; rfl⟩
          case measure => simp [intOf]; omega
      · have hdk : decide (q + 2 + k < q + 6) = false := decide_eq_false (by omega)
        obtain rfl : k = 4 := by omega
        have hu : unitL (s.data.toList.drop q) = hexN (s.data.toList.drop q) 4 := unitL_is (by rw [HLEN.out]; omega) B0.out B1.out OK.out
        have HU := Lib.hid hu; clear hu
        go_wp2_with fail
        go_ret3
        exact ⟨by rw [fourR_yes _ HU.out hbd.1]; rfl, rfl⟩


set_option maxRecDepth 100000 in
set_option maxHeartbeats 1000000 in
theorem escapeAt_any (s : ByteArray) (q : Nat) (w : World) (hs : s.size ≤ maxLen) (hq : q < s.size) (hb0 : byt (s.data.toList.drop q) 0 = 92) :
    Calls Try.prog 100 #[.string s, .int .i64 q] w fun e w' =>
      e = .returned (.tuple #[.int .i32 (escU (s.data.toList.drop q)).1, .int .i64 (escU (s.data.toList.drop q)).2.1, .int .i64 (escU (s.data.toList.drop q)).2.2]) ∧ w = w' := by
  have hs' := hs
  have HS := Lib.hid hs; clear hs
  unfold maxLen at hs'
  have B0 := Lib.hid hb0; clear hb0
  have hlen : (s.data.toList.drop q).length = s.size - q := by simp
  have HLEN := Lib.hid hlen; clear hlen
  by_cases hl : s.size - q < 2
  · have hd : decide ((s.size : Int) - (q : Int) < 2) = true := decide_eq_true (by omega)
    have hn : escU (s.data.toList.drop q) = (0, 0, 20) := by unfold escU; rw [if_pos (by have := HLEN.out; omega)]
    have HN := Lib.hid hn; clear hn
    go_enter Try.func100, Try.ntmps100
    go_wp2_with fail
    go_ret3
    exact ⟨by rw [HN.out]; rfl, rfl⟩
  · have hd : decide ((s.size : Int) - (q : Int) < 2) = false := decide_eq_false (by omega)
    have hlt : q + 1 < s.size := by omega
    have g : byt (s.data.toList.drop q) 1 = (s[q + 1].toNat : Int) := by rw [byt_drop, byt_get s (q + 1) hlt]
    have b0 := byt_lo (s.data.toList.drop q) 1
    have b1 := byt_hi (s.data.toList.drop q) 1
    rw [g] at b0 b1
    have hlet : ∀ p : Int, 0 ≤ p → letV (s[q + 1].toNat : Int) = p → escU (s.data.toList.drop q) = (p, 2, 0) := by
      intro p h0 hp
      rw [(escU_let (by have := HLEN.out; omega) (by rw [g, hp]; exact h0)).1, g, hp]
    have hnot : letV (s[q + 1].toNat : Int) = -1 → escU (s.data.toList.drop q) = fourR (s.data.toList.drop q) := by
      intro hp
      unfold escU fourR
      rw [if_neg (by have := HLEN.out; omega), if_neg (by rw [g, hp]; omega)]
    have hno : letV (s[q + 1].toNat : Int) = -1 → (s[q + 1].toNat : Int) ≠ 117 → escU (s.data.toList.drop q) = (0, 0, 20) := by
      intro hp h117
      rw [hnot hp, fourR_no (unitL_no fun x => h117 (by rw [← g]; exact x.2.2.1))]
    have LET := Lib.hid hlet; clear hlet
    have NOT := Lib.hid hnot; clear hnot
    have NO := Lib.hid hno; clear hno
    have G := Lib.hid g; clear g
    go_enter Try.func100, Try.ntmps100
    go_wp2_with (go_at_call 103; refine (fourAt_any s q _ HS.out hlt B0.out (G.out.trans (eq_of_beq (by assumption)))).mono ?_; rintro e w' ⟨rfl, rfl⟩)
    all_goals go_ret3
    · have e : (s[q + 1].toNat : Int) = 34 := eq_of_beq (by assumption)
      exact ⟨by rw [LET.out (s[q + 1].toNat : Int) (by omega) (by rw [e]; rfl)]; rfl, rfl⟩
    · have e : (s[q + 1].toNat : Int) = 92 := eq_of_beq (by assumption)
      exact ⟨by rw [LET.out (s[q + 1].toNat : Int) (by omega) (by rw [e]; rfl)]; rfl, rfl⟩
    · have e : (s[q + 1].toNat : Int) = 47 := eq_of_beq (by assumption)
      exact ⟨by rw [LET.out (s[q + 1].toNat : Int) (by omega) (by rw [e]; rfl)]; rfl, rfl⟩
    · have e : (s[q + 1].toNat : Int) = 98 := eq_of_beq (by assumption)
      exact ⟨by rw [LET.out 8 (by decide) (by rw [e]; rfl)]; rfl, rfl⟩
    · have e : (s[q + 1].toNat : Int) = 102 := eq_of_beq (by assumption)
      exact ⟨by rw [LET.out 12 (by decide) (by rw [e]; rfl)]; rfl, rfl⟩
    · have e : (s[q + 1].toNat : Int) = 110 := eq_of_beq (by assumption)
      exact ⟨by rw [LET.out 10 (by decide) (by rw [e]; rfl)]; rfl, rfl⟩
    · have e : (s[q + 1].toNat : Int) = 114 := eq_of_beq (by assumption)
      exact ⟨by rw [LET.out 13 (by decide) (by rw [e]; rfl)]; rfl, rfl⟩
    · have e : (s[q + 1].toNat : Int) = 116 := eq_of_beq (by assumption)
      exact ⟨by rw [LET.out 9 (by decide) (by rw [e]; rfl)]; rfl, rfl⟩
    · have e : (s[q + 1].toNat : Int) = 117 := eq_of_beq (by assumption)
      exact ⟨by rw [NOT.out (by rw [e]; rfl)]; rfl, rfl⟩
    · have c1 : (s[q + 1].toNat : Int) ≠ 34 := ne_of_beq_false (by assumption)
      have c2 : (s[q + 1].toNat : Int) ≠ 92 := ne_of_beq_false (by assumption)
      have c3 : (s[q + 1].toNat : Int) ≠ 47 := ne_of_beq_false (by assumption)
      have c4 : (s[q + 1].toNat : Int) ≠ 98 := ne_of_beq_false (by assumption)
      have c5 : (s[q + 1].toNat : Int) ≠ 102 := ne_of_beq_false (by assumption)
      have c6 : (s[q + 1].toNat : Int) ≠ 110 := ne_of_beq_false (by assumption)
      have c7 : (s[q + 1].toNat : Int) ≠ 114 := ne_of_beq_false (by assumption)
      have c8 : (s[q + 1].toNat : Int) ≠ 116 := ne_of_beq_false (by assumption)
      have c9 : (s[q + 1].toNat : Int) ≠ 117 := ne_of_beq_false (by assumption)
      exact ⟨by rw [NO.out (by unfold letV; rw [if_neg c1, if_neg c2, if_neg c3, if_neg c4, if_neg c5, if_neg c6, if_neg c7, if_neg c8]) c9]; rfl, rfl⟩

theorem one_nat (s : ByteArray) (q : Nat) (w : World) (hs : s.size ≤ maxLen) (hq : q < s.size) :
    Calls Try.prog 86 #[.string s, .int .i64 q] w fun e w' => e = .returned (.tuple #[.int .i32 (oneL (s.data.toList.drop q)).1, .int .i64 (oneL (s.data.toList.drop q)).2]) ∧ w = w' := by
  have := one_any s q w hs
  rw [oneS_in s q hq] at this
  exact this

set_option maxRecDepth 100000 in
set_option maxHeartbeats 400000 in
theorem unitAt_any (s : ByteArray) (q : Nat) (w : World) (hs : s.size ≤ maxLen) (hq : q < s.size) :
    Calls Try.prog 91 #[.string s, .int .i64 q] w fun e w' =>
      e = .returned (.tuple #[.int .i32 (uniL (s.data.toList.drop q)).1, .int .i64 (uniL (s.data.toList.drop q)).2.1, .int .i64 (uniL (s.data.toList.drop q)).2.2]) ∧ w = w' := by
  have C := one_nat s q w hs hq
  have h0 : (s.data.toList.drop q).length ≠ 0 := by simp; omega
  have HS := Lib.hid hs; clear hs
  have H0 := Lib.hid h0; clear h0
  rcases hO : oneL (s.data.toList.drop q) with ⟨p, n⟩
  rw [hO] at C
  by_cases hn : n = 0
  · subst hn
    have hr : uniL (s.data.toList.drop q) = (0, 0, 10) := uniL_bad (by rw [hO])
    have HR := Lib.hid hr; clear hr
    clear hO
    go_enter Try.func91, Try.ntmps91
    go_wp2_with (go_at_call 86; refine C.mono ?_; rintro e w' ⟨rfl, rfl⟩)
    go_ret3
    exact ⟨by rw [HR.out]; rfl, rfl⟩
  · have hnb : (n == 0) = false := by simpa using hn
    have hne : (oneL (s.data.toList.drop q)).2 ≠ 0 := by rw [hO]; exact hn
    by_cases h1 : byt (s.data.toList.drop q) 0 < 32
    · have e := one_low H0.out (by omega)
      have hp : p = byt (s.data.toList.drop q) 0 := by rw [hO] at e; exact congrArg Prod.fst e
      have hd : decide (p < 32) = true := decide_eq_true (by omega)
      have hr := uniL_ctl H0.out h1
      have HR := Lib.hid hr; clear hr
      clear hO hp e hne hn h1
      go_enter Try.func91, Try.ntmps91
      go_wp2_with (go_at_call 86; refine C.mono ?_; rintro e w' ⟨rfl, rfl⟩)
      go_ret3
      exact ⟨by rw [HR.out]; rfl, rfl⟩
    · by_cases h2 : byt (s.data.toList.drop q) 0 = 92
      · have e := one_low H0.out (by omega)
        obtain rfl : p = 92 := by rw [hO, h2] at e; exact congrArg Prod.fst e
        have hr := uniL_esc H0.out h2
        have HR := Lib.hid hr; clear hr
        have H2 := Lib.hid h2; clear h2
        have D := escapeAt_any s q w HS.out hq H2.out
        clear hO e hne hn h1
        go_enter Try.func91, Try.ntmps91
        go_wp2_with (first | (go_at_call 86; refine C.mono ?_; rintro e w' ⟨rfl, rfl⟩) | (go_at_call 100; refine D.mono ?_; rintro e w' ⟨rfl, rfl⟩))
        go_ret3
        exact ⟨by rw [HR.out]; rfl, rfl⟩
      · have hr := uniL_pt H0.out hne h1 h2
        rw [hO] at hr
        have hp : 32 ≤ p ∧ p ≠ 92 := by
          by_cases h3 : byt (s.data.toList.drop q) 0 < 128
          · have e := one_low H0.out h3
            rw [hO] at e
            have := congrArg Prod.fst e
            simp only at this
            omega
          · have := one_high (by omega) hne
            rw [hO] at this
            simp only at this
            omega
        have hd1 : decide (p < 32) = false := decide_eq_false (by omega)
        have hd2 : (p != 92) = true := by rw [bne_iff_ne]; exact hp.2
        have HR := Lib.hid hr; clear hr
        clear hO hp hne hn h1 h2
        go_enter Try.func91, Try.ntmps91
        go_wp2_with (go_at_call 86; refine C.mono ?_; rintro e w' ⟨rfl, rfl⟩)
        go_ret3
        exact ⟨by rw [HR.out]; rfl, rfl⟩
end Go.Proofs.Ytbfogkcnfnjcaaa.Ch
namespace Go.Proofs.Ytbfogkcnfnjcaaa.Ch
open Go.RowKit
open Go.Proofs.Ytbfogkcnfnjcaaa.Utf

def GivesRead (r : List UInt8 × Int × Int) (w : World) (e : Ending) (w' : World) : Prop :=
  e = .returned (.tuple #[.string (strOf r.1), .int .i64 r.2.1, .int .i64 r.2.2]) ∧ Below w.heap.size w w'

theorem ret3 {a a' : ByteArray} {b b' c c' : Int} (h1 : a = a') (h2 : b = b') (h3 : c = c') : Ending.returned (.tuple #[.string a, .int .i64 b, .int .i64 c]) = .returned (.tuple #[.string a', .int .i64 b', .int .i64 c']) := by rw [h1, h2, h3]

theorem unit_at (s : ByteArray) (k : Nat) (z u n e : Int) (w : World) (hz : z = (k : Int)) (hs : s.size ≤ maxLen) (hk : k < s.size) (h : Hid (uniL (s.data.toList.drop k) = (u, n, e))) :
    Calls Try.prog 91 #[.string s, .int .i64 z] w fun r w' => r = .returned (.tuple #[.int .i32 u, .int .i64 n, .int .i64 e]) ∧ w = w' := by
  subst hz
  have := unitAt_any s k w hs hk
  rw [h.out] at this
  exact this

def HeadAt (L : List UInt8) (k : Nat) (ps : List Int) (u : Int) : Prop :=
  (u = 0 ∧ RdAt L k ps) ∨ (isUp u = true ∧ ∃ j, k = j + 6 ∧ k ≤ L.length ∧ RdAt L j ps ∧ uniL (L.drop j) = (u, 6, 0))

set_option maxRecDepth 100000 in
set_option maxHeartbeats 8000000 in
theorem Read_in (s : ByteArray) (q : Nat) (w : World) (hs : s.size ≤ maxLen) (hq : q < s.size) (hb : byt s.data.toList q = 34) (hr : (readL (s.data.toList.drop (q + 1))).2.1 + 16 ≤ 140737488355328) :
    Calls Try.prog 79 #[.string s, .int .i64 q] w (GivesRead (readS s.data.toList q) w) := by
  obtain ⟨i0, hi, hz0, hz1, hz2⟩ := info_parts infoU8
  have hs' := hs
  have HS := Lib.hid hs; clear hs
  unfold maxLen at hs'
  have B := Lib.hid hb
  have hq34 : ((s[q].toNat : Int) != 34) = false := by
    rw [byt_get s q hq] at hb; rw [hb]; rfl
  clear hb
  obtain ⟨L, hL⟩ : ∃ L, L = s.data.toList.drop (q + 1) := ⟨_, rfl⟩
  have hdr : ∀ k, s.data.toList.drop (q + 1 + k) = L.drop k := fun k => by rw [hL, List.drop_drop]
  have hlen : L.length = s.size - (q + 1) := by rw [hL]; simp
  rw [← hL] at hr
  have hbad : ∀ (k : Nat) (ps : List Int) (e : Int), readL L = (ps, k, e) → e ≠ 0 → readS s.data.toList q = ([], (q : Int) + 1 + k, e) := fun k ps e h he => readS_bad (by rw [len_data]; exact hq) B.out (by rw [← hL]; exact h) he
  have hok : ∀ (k : Nat) (ps : List Int), readL L = (ps, k, 0) → readS s.data.toList q = (encL ps, (q : Int) + 1 + k + 1, 0) := fun k ps h => readS_ok (by rw [len_data]; exact hq) B.out (by rw [← hL]; exact h)
  have HL := Lib.hid hL; clear hL
  have HDR := Lib.hid hdr; clear hdr
  have HLEN := Lib.hid hlen; clear hlen
  have BAD := Lib.hid hbad; clear hbad
  have OK := Lib.hid hok; clear hok
  have HR := Lib.hid hr; clear hr
  have hq0 : decide ((q : Int) < 0) = false := decide_eq_false (by omega)
  have hq1 : decide (s.size ≤ q) = false := decide_eq_false (by omega)
  go_enter Try.func79, Try.ntmps79
  go_wp2_with fail
  go_loopw [7, 8, 9, 10, 11, 12] (fun v u i _ _ _ wr => ∃ (k : Nat) (ps : List Int) (u0 : Int), i = .int .i64 (q + 1 + k : Nat) ∧ u = .int .i32 u0 ∧ HeadAt L k ps u0 ∧ wr.ownsRow w.heap.size 5 1 v (Lib.byteCells (encL ps)).length (Lib.byteCells (encL ps)) ∧ Below w.heap.size w wr) (fun _ _ i _ _ _ _ => s.size - (intOf i).toNat)
  case atStart => exact ⟨0, [], 0, by go_num, rfl, .inl ⟨rfl, RdAt.start _⟩, World.ownsRow_nil _ _ _ _, Below.refl _ _⟩
  case round =>
    obtain ⟨k, ps, u0, rfl, rfl, hat, hown, hbel⟩ := hrel
    have hkl : k ≤ L.length := by
      rcases hat with ⟨_, h⟩ | ⟨_, j, _, h, _⟩
      · exact h.1
      · exact h
    have hk : q + 1 + k ≤ s.size := by have := HLEN.out; omega
    have hbB := hbel.size
    by_cases hgo : k < L.length ∧ byt (L.drop k) 0 ≠ 34
    · obtain ⟨hlt, hb34⟩ := hgo
      have hlt' : q + 1 + k < s.size := by have := HLEN.out; omega
      have hld : decide (q + 1 + k < s.size) = true := decide_eq_true hlt'
      have h0 : (L.drop k).length ≠ 0 := by simp; omega
      have hg : byt (L.drop k) 0 = (s[q + 1 + k].toNat : Int) := by rw [← HDR.out, byt_drop, Nat.add_zero, byt_get s _ hlt']
      have ht : ((s[q + 1 + k].toNat : Int) != 34) = true := by rw [bne_iff_ne, ← hg]; exact hb34
      have H0 := Lib.hid h0; clear h0
      have HB := Lib.hid hb34; clear hb34
      have HG := Lib.hid hg; clear hg
      rcases hU : uniL (L.drop k) with ⟨p, n, e⟩
      have hbd := uniL_bd (L.drop k)
      rw [hU] at hbd
      obtain ⟨p0, p1, n0, n1, n2, hee⟩ := hbd
      simp only at p0 p1 n0 n1 n2 hee
      rw [List.length_drop] at n2
      have HU := Lib.hid (show uniL (s.data.toList.drop (q + 1 + k)) = (p, n, e) by rw [HDR.out]; exact hU)
      have HV := Lib.hid hU; clear hU
      rcases hat with ⟨rfl, hrd⟩ | ⟨hup, j, rfl, _, hrd, huj⟩
      · have HRD := Lib.hid hrd; clear hrd
        by_cases he : e = 0
        · subst he
          clear hee
          by_cases hl : isLo p = true
          · go_wp2_with (first | (go_at_call 91; refine (unit_at s _ _ _ _ _ _ (by omega) HS.out hlt' HU).mono ?_; rintro r w' ⟨rfl, rfl⟩) | (go_at_call 92; refine (isLower_any _ _).mono ?_; rintro r w' ⟨rfl, rfl⟩))
            go_ret3
            refine ⟨?_, hbel⟩
            rw [BAD.out k ps 20 (HRD.out.err (stepL_lo H0.out (by rw [HV.out]; exact hl))) (by decide)]
            exact ret3 rfl rfl rfl
          · have hl' : isLo p = false := by simpa using hl
            clear hl
            by_cases hu : isUp p = true
            · obtain rfl : n = 6 := first_yes H0.out HV.out hu
              have hi1 : q + 1 + k + 6 ≤ s.size := by have := HLEN.out; omega
              go_wp2_with (first | (go_at_call 91; refine (unit_at s _ _ _ _ _ _ (by omega) HS.out hlt' HU).mono ?_; rintro r w' ⟨rfl, rfl⟩) | (go_at_call 92; refine (isLower_any _ _).mono ?_; rintro r w' ⟨rfl, rfl⟩) | (go_at_call 95; refine (isUpper_any _ _).mono ?_; rintro r w' ⟨rfl, rfl⟩))
              go_roundw
              case rel => exact ⟨k + 6, ps, p, by go_num, rfl, .inr ⟨hu, k, rfl, by omega, HRD.out, HV.out⟩, hown, hbel⟩
              case measure => simp [intOf]; omega
            · have hu' : isUp p = false := by simpa using hu
              clear hu
              have hst : stepL (L.drop k) = (p, n, 0) := by
                have := uniL_both H0.out HB.out (by rw [HV.out]) (by rw [HV.out]; exact hu') (by rw [HV.out]; exact hl')
                rw [this, HV.out]
              have hpos := uniL_pos H0.out HB.out (by rw [HV.out])
              rw [HV.out] at hpos
              simp only at hpos
              obtain ⟨m, rfl⟩ := Int.eq_ofNat_of_zero_le n0
              have hm : m ≠ 0 := by omega
              have HST := Lib.hid hst; clear hst
              have hkm : k + m ≤ L.length := by omega
              have hi1 : q + 1 + k + m ≤ s.size := by have := HLEN.out; omega
              have hle := HRD.out.le
              have hsz : (Lib.byteCells (encL ps)).length + 4 ≤ 140737488355328 := by rw [Lib.byteCells_length]; have := HRD.out.2.1; have := HR.out; omega
              have hle4 := enc_le p
              by_cases h92 : byt (L.drop k) 0 = 92
              · have h92' : ((s[q + 1 + k].toNat : Int) != 92) = false := by rw [← HG.out, h92]; rfl
                clear h92
                go_wp2_with (first | (go_at_call 91; refine (unit_at s _ _ _ _ _ _ (by omega) HS.out hlt' HU).mono ?_; rintro r w' ⟨rfl, rfl⟩) | (go_at_call 92; refine (isLower_any _ _).mono ?_; rintro r w' ⟨rfl, rfl⟩) | (go_at_call 95; refine (isUpper_any _ _).mono ?_; rintro r w' ⟨rfl, rfl⟩))
                refine (Put_any p wr).mono ?_
                rintro r w1 ⟨rfl, hb1⟩
                have hown1 := own_below hown hb1
                go_wp2_with (at_builtin; refine Lib.wpList_append_own_string _ rfl _ _ 57 9 rfl w.heap.size 5 i0 Try.underlying57 Try.underlying9 hi hz0 hz1 hz2 _ _ _ rfl hown1 (strOf (enc p)) rfl ?_ ?_ ?_ ?_; (rw [strOf_size]; unfold maxLen; omega); (rw [strOf_size]; omega); (have := hb1.size; omega); intro v2 w2 hown2 hg2 _)
                go_roundw
                case rel => exact ⟨k + m, ps ++ [p], 0, by go_num, rfl, .inl ⟨rfl, HRD.out.step HST.out hm⟩, by rw [encL_append, Lib.byteCells_append, List.length_append]; simpa [encL, strOf_size, strCells_of, Lib.byteCells_length] using hown2, (hbel.trans (hb1.mono hbB)).grown hg2 (by have := hb1.size; omega) (fun g hg => (hown.lt g hg).1)⟩
                case measure => simp [intOf]; omega
              · have h92' : ((s[q + 1 + k].toNat : Int) != 92) = true := by rw [bne_iff_ne, ← HG.out]; exact h92
                have ho1 := uniL_one H0.out h92 HV.out
                have hcell := strCells_extract s (q + 1 + k) m p (by rw [HDR.out]; exact ho1) hm
                have hxz : (s.extract (q + 1 + k) (q + 1 + k + m)).size = (enc p).length := by
                  rw [← Lib.strCells_length, hcell, Lib.byteCells_length]
                have HC := Lib.hid hcell; clear hcell
                have HX := Lib.hid hxz; clear hxz
                clear h92 ho1
                have f1 : (0 : Int) ≤ (q : Int) + 1 + k := by omega
                have f2 : (q : Int) + 1 + k ≤ (q : Int) + 1 + k + m := by omega
                have f3 : (q : Int) + 1 + k + m ≤ (s.size : Int) := by omega
                have f4 : ((q : Int) + 1 + k).toNat = q + 1 + k := by omega
                have f5 : ((q : Int) + 1 + k + m).toNat = q + 1 + k + m := by omega
                go_wp2_with (first | (go_at_call 91; refine (unit_at s _ _ _ _ _ _ (by omega) HS.out hlt' HU).mono ?_; rintro r w' ⟨rfl, rfl⟩) | (go_at_call 92; refine (isLower_any _ _).mono ?_; rintro r w' ⟨rfl, rfl⟩) | (go_at_call 95; refine (isUpper_any _ _).mono ?_; rintro r w' ⟨rfl, rfl⟩) | (at_builtin; refine Lib.wpList_append_own_string _ rfl _ _ 57 9 rfl w.heap.size 5 i0 Try.underlying57 Try.underlying9 hi hz0 hz1 hz2 _ _ _ rfl hown (s.extract (q + 1 + k) (q + 1 + k + m)) rfl ?_ ?_ ?_ ?_; (rw [HX.out]; unfold maxLen; omega); (rw [HX.out]; omega); omega; intro v2 w2 hown2 hg2 _))
                go_roundw
                case rel => exact ⟨k + m, ps ++ [p], 0, by go_num, rfl, .inl ⟨rfl, HRD.out.step HST.out hm⟩, by rw [encL_append, Lib.byteCells_append, List.length_append]; rw [HC.out, HX.out] at hown2; simpa [encL, Lib.byteCells_length] using hown2, hbel.grown hg2 hbB (fun g hg => (hown.lt g hg).1)⟩
                case measure => simp [intOf]; omega
        · have hne : (e != 0) = true := by rw [bne_iff_ne]; exact he
          go_wp2_with (first | (go_at_call 91; refine (unit_at s _ _ _ _ _ _ (by omega) HS.out hlt' HU).mono ?_; rintro r w' ⟨rfl, rfl⟩))
          go_ret3
          refine ⟨?_, hbel⟩
          have hst := uniL_err H0.out HB.out (by rw [HV.out]; exact he)
          rw [HV.out] at hst
          rw [BAD.out k ps e (HRD.out.err hst) he]
          exact ret3 rfl rfl rfl
      · have HRD := Lib.hid hrd; clear hrd
        have HUJ := Lib.hid huj; clear huj
        have hup1 := isUp_bd hup
        have hu0 : (u0 != 0) = true := by rw [bne_iff_ne]; omega
        by_cases he : e = 0
        · subst he
          clear hee
          by_cases hl : isLo p = true
          · obtain ⟨hpu, rfl⟩ := second_yes H0.out HV.out hl
            have hst := up_go hup HUJ.out (by rw [hpu]; exact hl)
            rw [hpu] at hst
            have hb0 := bothV_bd hup hl
            have HST := Lib.hid hst; clear hst hpu
            have hi1 : q + 1 + (j + 6) + 6 ≤ s.size := by have := HLEN.out; omega
            have hle := HRD.out.le
            have hsz : (Lib.byteCells (encL ps)).length + 4 ≤ 140737488355328 := by rw [Lib.byteCells_length]; have := HRD.out.2.1; have := HR.out; omega
            have hle4 := enc_le (bothV u0 p)
            go_wp2_with (first | (go_at_call 91; refine (unit_at s _ _ _ _ _ _ (by omega) HS.out hlt' HU).mono ?_; rintro r w' ⟨rfl, rfl⟩) | (go_at_call 92; refine (isLower_any _ _).mono ?_; rintro r w' ⟨rfl, rfl⟩) | (go_at_call 94; refine (both_any _ _ _ hup hl).mono ?_; rintro r w' ⟨rfl, rfl⟩))
            refine (Put_any _ _).mono ?_
            rintro r w1 ⟨rfl, hb1⟩
            have hown1 := own_below hown hb1
            go_wp2_with (at_builtin; refine Lib.wpList_append_own_string _ rfl _ _ 57 9 rfl w.heap.size 5 i0 Try.underlying57 Try.underlying9 hi hz0 hz1 hz2 _ _ _ rfl hown1 (strOf (enc (bothV u0 p))) rfl ?_ ?_ ?_ ?_; (rw [strOf_size]; unfold maxLen; omega); (rw [strOf_size]; omega); (have := hb1.size; omega); intro v2 w2 hown2 hg2 _)
            go_roundw
            case rel => exact ⟨j + 12, ps ++ [bothV u0 p], 0, by go_num, rfl, .inl ⟨rfl, HRD.out.step HST.out (by decide)⟩, by rw [encL_append, Lib.byteCells_append, List.length_append]; simpa [encL, strOf_size, strCells_of, Lib.byteCells_length] using hown2, (hbel.trans (hb1.mono hbB)).grown hg2 (by have := hb1.size; omega) (fun g hg => (hown.lt g hg).1)⟩
            case measure => simp [intOf]; omega
          · have hl' : isLo p = false := by simpa using hl
            clear hl
            go_wp2_with (first | (go_at_call 91; refine (unit_at s _ _ _ _ _ _ (by omega) HS.out hlt' HU).mono ?_; rintro r w' ⟨rfl, rfl⟩) | (go_at_call 92; refine (isLower_any _ _).mono ?_; rintro r w' ⟨rfl, rfl⟩))
            go_ret3
            refine ⟨?_, hbel⟩
            rw [BAD.out j ps 20 (HRD.out.err (up_stop hup HUJ.out (second_no H0.out HV.out (.inr hl')))) (by decide)]
            exact ret3 rfl (by simp only; omega) rfl
        · have hne : (e != 0) = true := by rw [bne_iff_ne]; exact he
          go_wp2_with (first | (go_at_call 91; refine (unit_at s _ _ _ _ _ _ (by omega) HS.out hlt' HU).mono ?_; rintro r w' ⟨rfl, rfl⟩))
          go_ret3
          refine ⟨?_, hbel⟩
          rw [BAD.out j ps 20 (HRD.out.err (up_stop hup HUJ.out (second_no H0.out HV.out (.inl he)))) (by decide)]
          exact ret3 rfl (by simp only; omega) rfl
    · have hcv := (Rd.of_own hown).conv (P := Try.prog) Try.underlying57 Try.underlying5 Try.underlying9
      by_cases hlt : k < L.length
      · have hb34 : byt (L.drop k) 0 = 34 := by
          by_cases h : byt (L.drop k) 0 = 34
          · exact h
          · exact absurd ⟨hlt, h⟩ hgo
        have hlt' : q + 1 + k < s.size := by have := HLEN.out; omega
        have hld : decide (q + 1 + k < s.size) = true := decide_eq_true hlt'
        have h0 : (L.drop k).length ≠ 0 := by simp; omega
        have hg : byt (L.drop k) 0 = (s[q + 1 + k].toNat : Int) := by rw [← HDR.out, byt_drop, Nat.add_zero, byt_get s _ hlt']
        have ht : ((s[q + 1 + k].toNat : Int) != 34) = false := by rw [← hg, hb34]; rfl
        have hend : ((q : Int) + 1 + k == (s.size : Int)) = false := by rw [beq_eq_false_iff_ne]; omega
        have hno : unitL (L.drop k) = -1 := unitL_low (by omega)
        have hst := stepL_quote h0 hb34
        have HST := Lib.hid hst; clear hst
        have HNO := Lib.hid hno; clear hno
        clear hg hb34 h0 hgo
        rcases hat with ⟨rfl, hrd⟩ | ⟨hup, j, rfl, _, hrd, huj⟩
        · have HRD := Lib.hid hrd; clear hrd
          go_wp2_with fail
          go_ret3
          refine ⟨?_, hbel⟩
          rw [OK.out k ps (HRD.out.err HST.out)]
          exact ret3 rfl rfl rfl
        · have HRD := Lib.hid hrd; clear hrd
          have HUJ := Lib.hid huj; clear huj
          have hup1 := isUp_bd hup
          have hu0 : (u0 != 0) = true := by rw [bne_iff_ne]; omega
          go_wp2_with fail
          go_ret3
          refine ⟨?_, hbel⟩
          rw [BAD.out j ps 20 (HRD.out.err (up_stop hup HUJ.out (by rw [HNO.out]; rfl))) (by decide)]
          exact ret3 rfl (by simp only; omega) rfl
      · obtain hkL : k = L.length := by omega
        have hks : q + 1 + k = s.size := by have := HLEN.out; omega
        have hld : decide (q + 1 + k < s.size) = false := decide_eq_false (by omega)
        have hend : ((q : Int) + 1 + k == (s.size : Int)) = true := by rw [beq_iff_eq]; omega
        have h0 : (L.drop k).length = 0 := by simp; omega
        have hst := stepL_end h0
        have hno := unitL_nil h0
        have HST := Lib.hid hst; clear hst
        have HNO := Lib.hid hno; clear hno
        have HKS := Lib.hid hks; clear hks
        clear h0 hkL hgo
        rcases hat with ⟨rfl, hrd⟩ | ⟨hup, j, rfl, _, hrd, huj⟩
        · have HRD := Lib.hid hrd; clear hrd
          go_wp2_with fail
          go_ret3
          refine ⟨?_, hbel⟩
          rw [BAD.out k ps 20 (HRD.out.err HST.out) (by decide)]
          exact ret3 rfl rfl rfl
        · have HRD := Lib.hid hrd; clear hrd
          have HUJ := Lib.hid huj; clear huj
          have hup1 := isUp_bd hup
          have hu0 : (u0 != 0) = true := by rw [bne_iff_ne]; omega
          go_wp2_with fail
          go_ret3
          refine ⟨?_, hbel⟩
          rw [BAD.out j ps 20 (HRD.out.err (up_stop hup HUJ.out (by rw [HNO.out]; rfl))) (by decide)]
          exact ret3 rfl (by simp only; omega) rfl

set_option maxRecDepth 100000 in
set_option maxHeartbeats 1000000 in
theorem Read_any (s : ByteArray) (a : Int) (w : World) (hs : s.size ≤ maxLen) (hr : ∀ q : Nat, a = q → q < s.size → byt s.data.toList q = 34 → (readL (s.data.toList.drop (q + 1))).2.1 + 16 ≤ 140737488355328) :
    Calls Try.prog 79 #[.string s, .int .i64 a] w (GivesRead (readS s.data.toList a) w) := by
  by_cases h0 : a < 0
  · have hd : decide (a < 0) = true := decide_eq_true h0
    go_enter Try.func79, Try.ntmps79
    go_wp2_with fail
    go_ret3
    refine ⟨?_, Below.refl _ _⟩
    rw [readS_out (.inl h0)]
    exact ret3 rfl rfl rfl
  · obtain ⟨q, rfl⟩ := Int.eq_ofNat_of_zero_le (Int.not_lt.mp h0)
    by_cases h1 : q < s.size
    · by_cases h2 : byt s.data.toList q = 34
      · exact Read_in s q w hs h1 h2 (hr q rfl h1 h2)
      · have hq34 : ((s[q].toNat : Int) != 34) = true := by rw [bne_iff_ne, ← byt_get s q h1]; exact h2
        have hq0 : decide ((q : Int) < 0) = false := decide_eq_false (by omega)
        have hq1 : decide (s.size ≤ q) = false := decide_eq_false (by omega)
        unfold maxLen at hs
        clear hr
        go_enter Try.func79, Try.ntmps79
        go_wp2_with fail
        go_ret3
        refine ⟨?_, Below.refl _ _⟩
        rw [readS_out (.inr (.inr (by rw [Int.toNat_natCast]; exact h2)))]
        exact ret3 rfl rfl rfl
    · have hq0 : decide ((q : Int) < 0) = false := decide_eq_false (by omega)
      have hq1 : decide (s.size ≤ q) = true := decide_eq_true (by omega)
      unfold maxLen at hs
      clear hr
      go_enter Try.func79, Try.ntmps79
      go_wp2_with fail
      go_ret3
      refine ⟨?_, Below.refl _ _⟩
      rw [readS_out (.inr (.inl (by rw [len_data]; omega)))]
      exact ret3 rfl rfl rfl
end Go.Proofs.Ytbfogkcnfnjcaaa.Ch
