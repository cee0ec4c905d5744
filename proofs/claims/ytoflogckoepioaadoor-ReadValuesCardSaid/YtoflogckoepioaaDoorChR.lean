import Derived.Test.YtoflogckoepioaaDoorChA
import Derived.Test.YtoflogckoepioaaDoorChB
import Derived.Test.YtoflogckoepioaaDoorChPl
/- Contracts of the document's answer for layer 2: digit, hex, Unit. -/
namespace Go.Proofs.YtoflogckoepioaaDoor.Ch
open Go.RowKit
open Go.Proofs.YtoflogckoepioaaDoor.Utf

set_option maxRecDepth 100000 in
set_option maxHeartbeats 1000000 in
theorem rdigit_any (c : Int) (w : World) (h0 : 0 ≤ c) (h1 : c ≤ 255) : Calls Tryd.prog 53 #[.int .u8 c] w fun e w' => e = .returned (.int .i64 (digV c)) ∧ w = w' := by
  go_enter Tryd.func53, Tryd.ntmps53
  go_wp2
  all_goals
    go_ret
    exact ⟨ret_int (by unfold digV; (repeat' split) <;> omega), rfl⟩
theorem unit_no (l : List UInt8) (h : l.length < 6 ∨ byt l 0 ≠ 92 ∨ byt l 1 ≠ 117 ∨ hexOk l 4 = false) : unitL l = -1 := unitL_no fun x => by
  rcases h with h | h | h | h
  · omega
  · exact h x.2.1
  · exact h x.2.2.1
  · rw [h] at x; simp at x

set_option maxRecDepth 100000 in
set_option maxHeartbeats 1000000 in
theorem Unit_any (s : ByteArray) (q : Nat) (z : Int) (w : World) (hz : z = (q : Int)) (hs : s.size ≤ maxLen) (hq : q ≤ 4611686018427387904) :
    Calls Tryd.prog 43 #[.string s, .int .i64 z] w fun e w' => e = .returned (.int .i64 (unitL (s.data.toList.drop q))) ∧ w = w' := by
  subst hz
  unfold maxLen at hs
  have hq0 : decide ((q : Int) < 0) = false := decide_eq_false (by omega)
  have hlen : (s.data.toList.drop q).length = s.size - q := by simp
  have HLEN := Lib.hid hlen; clear hlen
  by_cases hl : (s.size : Int) - (q : Int) < 6
  · have hd : decide ((s.size : Int) - (q : Int) < 6) = true := decide_eq_true hl
    have hn := unit_no (s.data.toList.drop q) (.inl (by have := HLEN.out; omega))
    rw [hn]
    clear hn
    go_enter Tryd.func43, Tryd.ntmps43
    go_wp2_with fail
    go_ret
    exact ⟨rfl, rfl⟩
  · have hd : decide ((s.size : Int) - (q : Int) < 6) = false := decide_eq_false hl
    have h0 : q < s.size := by omega
    have h1 : q + 1 < s.size := by omega
    have g0 : byt (s.data.toList.drop q) 0 = (s[q].toNat : Int) := by rw [byt_drop, Nat.add_zero, byt_get s q h0]
    have g1 : byt (s.data.toList.drop q) 1 = (s[q + 1].toNat : Int) := by rw [byt_drop, byt_get s (q + 1) h1]
    by_cases c0 : (s[q].toNat : Int) = 92
    · have t0 : ((s[q].toNat : Int) != 92) = false := by rw [c0]; rfl
      rw [c0] at g0
      by_cases c1 : (s[q + 1].toNat : Int) = 117
      · have t1 : ((s[q + 1].toNat : Int) != 117) = false := by rw [c1]; rfl
        rw [c1] at g1
        have G0 := Lib.hid g0; clear g0 c0
        have G1 := Lib.hid g1; clear g1 c1
        go_enter Tryd.func43, Tryd.ntmps43
        go_wp2_with fail
        go_loop [5, 6, 7] (fun n i _ => ∃ k : Nat, k ≤ 4 ∧ i = .int .i64 (k + 2 : Nat) ∧ n = .int .i64 (hexN (s.data.toList.drop q) k) ∧ hexOk (s.data.toList.drop q) k = true) (fun _ i _ => 6 - (intOf i).toNat)
        case atStart => exact ⟨0, by omega, by go_num, rfl, rfl⟩
        case round =>
          obtain ⟨k, hk, rfl, rfl, hok⟩ := hrel
          have hbd := hex_bd (s.data.toList.drop q) k hok
          have OK := Lib.hid hok; clear hok
          by_cases hlt : k < 4
          · have hdk : decide ((k : Int) + 2 < 6) = true := decide_eq_true (by omega)
            have a0 := hbd.1
            have a1 : hexN (s.data.toList.drop q) k ≤ 4095 := by
              have := hbd.2
              rcases (show k = 0 ∨ k = 1 ∨ k = 2 ∨ k = 3 by omega) with rfl | rfl | rfl | rfl <;> omega
            clear hbd
            have hlt2 : q + (k + 2) < s.size := by omega
            have g : (s[q + (k + 2)].toNat : Int) = byt (s.data.toList.drop q) (k + 2) := by rw [byt_drop, byt_get s (q + (k + 2)) hlt2]
            have g0 := byt_lo (s.data.toList.drop q) (k + 2)
            have g1 := byt_hi (s.data.toList.drop q) (k + 2)
            have v0 := digV_lo (byt (s.data.toList.drop q) (k + 2))
            have v1 := digV_hi (byt (s.data.toList.drop q) (k + 2))
            have hstep : hexN (s.data.toList.drop q) (k + 1) = hexN (s.data.toList.drop q) k * 16 + digV (byt (s.data.toList.drop q) (k + 2)) := rfl
            have hokst : hexOk (s.data.toList.drop q) (k + 1) = (hexOk (s.data.toList.drop q) k && decide (0 ≤ digV (byt (s.data.toList.drop q) (k + 2)))) := rfl
            rw [← g] at hstep hokst g0 g1 v0 v1
            clear g
            have HST := Lib.hid hstep; clear hstep
            have HO := Lib.hid hokst; clear hokst
            by_cases hv : digV (s[q + (k + 2)].toNat : Int) < 0
            · have hvd : decide (digV (s[q + (k + 2)].toNat : Int) < 0) = true := decide_eq_true hv
              have hno := unit_no (s.data.toList.drop q) (.inr (.inr (.inr (hexOk_mono (s.data.toList.drop q) (k + 1) (by rw [HO.out, decide_eq_false (by omega)]; simp) 4 (by omega)))))
              have HNO := Lib.hid hno; clear hno
              go_wp2_with (go_at_call 53; refine (rdigit_any _ _ (by omega) (by omega)).mono ?_; rintro e w' ⟨rfl, rfl⟩)
              go_ret
              exact ⟨ret_int HNO.out.symm, rfl⟩
            · have hvd : decide (digV (s[q + (k + 2)].toNat : Int) < 0) = false := decide_eq_false hv
              go_wp2_with (go_at_call 53; refine (rdigit_any _ _ (by omega) (by omega)).mono ?_; rintro e w' ⟨rfl, rfl⟩)
              go_round
              case rel => exact ⟨k + 1, by omega, by go_num, by rw [HST.out], by rw [HO.out, OK.out, decide_eq_true (by omega)]; rfl⟩
              case measure => simp [intOf]; omega
          · have hdk : decide ((k : Int) + 2 < 6) = false := decide_eq_false (by omega)
            obtain rfl : k = 4 := by omega
            have hu := unitL_is (by rw [HLEN.out]; omega) G0.out G1.out OK.out
            have HU := Lib.hid hu; clear hu
            go_wp2_with fail
            go_ret
            exact ⟨ret_int HU.out.symm, rfl⟩
      · have t1 : ((s[q + 1].toNat : Int) != 117) = true := by rw [bne_iff_ne]; exact c1
        have hn := unit_no (s.data.toList.drop q) (.inr (.inr (.inl (by rw [g1]; exact c1))))
        rw [hn]
        clear hn g0 g1 c0 c1
        go_enter Tryd.func43, Tryd.ntmps43
        go_wp2_with fail
        go_ret
        exact ⟨rfl, rfl⟩
    · have t0 : ((s[q].toNat : Int) != 92) = true := by rw [bne_iff_ne]; exact c0
      have hn := unit_no (s.data.toList.drop q) (.inr (.inl (by rw [g0]; exact c0)))
      rw [hn]
      clear hn g0 g1 c0
      go_enter Tryd.func43, Tryd.ntmps43
      go_wp2_with fail
      go_ret
      exact ⟨rfl, rfl⟩
end Go.Proofs.YtoflogckoepioaaDoor.Ch
