/- Merged: StW3. -/
import Derived.Test.YtfedidiieacakaaDoorTt8
import Derived.Test.YtfedidiieacakaaDoorTt7
import Derived.Laws.AppendOwnNone
import Derived.Test.YtfedidiieacakaaDoorTt4
namespace Go.Proofs.YtfedidiieacakaaDoor.St
open Go.RowKit
open Go.Proofs.YtfedidiieacakaaDoor.Utf
open Go.Proofs.YtfedidiieacakaaDoor.Nu

set_option maxRecDepth 100000 in
set_option maxHeartbeats 1000000 in
theorem days_walk (y m d : Int) (w : World) (_hy : (Lit.int .i64 y).wf = true) (_hm : (Lit.int .i64 m).wf = true) (_hd : (Lit.int .i64 d).wf = true) (T : Tab w) :
    Calls Tryd.prog 4 #[.int .i64 y, .int .i64 m, .int .i64 d] w fun e w' => e = .returned (.bool true) ∧ Below w.heap.size w w' := by
  have C1 := Lib.hid (fun wx (h : Tab wx) => Days_any y m d wx h)
  have C2 := Lib.hid (fun wx => rDays_any y m d wx)
  have C3 := Lib.hid (fun wx (h : Tab wx) => awake_any11 wx h)
  have C4 := Lib.hid (fun wx (h : Tab wx) => Days_any y m (d + 1) wx h)
  have C5 := Lib.hid (fun wx (h : Tab wx) => Days_any y (m + 1) 1 wx h)
  have C6 := Lib.hid (fun wx (h : Tab wx) => Days_any (y + 1) 1 1 wx h)
  by_cases hd : isDay y m d
  case neg =>
    rw [dayN_no hd, decide_eq_false hd] at C1 C2
    clear hd
    go_enter Tryd.func4, Tryd.ntmps4
    go_wp2_with fail
    refine (C1.out _ T).mono ?_
    rintro e x1 ⟨rfl, rfl⟩
    go_wp2_with fail
    refine (C2.out _).mono ?_
    rintro e x2 ⟨rfl, rfl⟩
    go_wp2_with fail
    refine (C3.out _ T).mono ?_
    rintro e x3 ⟨rfl, hb3⟩
    have HB3 := Lib.hid hb3
    clear hb3
    go_wp2_with fail
    go_ret
    exact ⟨rfl, HB3.out⟩
  have hbd := day0_bd hd
  obtain ⟨y0, y9, m1, m12, d1, d31⟩ := id hd
  have dm := (mlen_bd y m).2
  have hN := fun h => day0_next hd h
  rw [dayN_yes hd, decide_eq_true hd] at C1 C2
  obtain ⟨D, hD⟩ : ∃ D, day0 y m d = D := ⟨_, rfl⟩
  rw [hD] at C1 C2 hbd hN
  have t0 : (D - 719528 == D - 719528) = true := beq_self_eq_true _
  have t0' : (D - 719528 != D - 719528) = false := by rw [bne_eq_false_iff_eq]
  have HN := Lib.hid hN
  have b1 : d ≤ 31 := by omega
  clear hD hN d31 dm
  by_cases hl : y = 9999 ∧ m = 12 ∧ d = 31
  case pos =>
    obtain ⟨rfl, rfl, rfl⟩ := hl
    clear hd
    go_enter Tryd.func4, Tryd.ntmps4
    go_wp2_with fail
    refine (C1.out _ T).mono ?_
    rintro e x1 ⟨rfl, rfl⟩
    go_wp2_with fail
    refine (C2.out _).mono ?_
    rintro e x2 ⟨rfl, rfl⟩
    go_wp2_with fail
    refine (C3.out _ T).mono ?_
    rintro e x3 ⟨rfl, hb3⟩
    have HB3 := Lib.hid hb3
    clear hb3
    go_wp2_with fail
    go_ret
    exact ⟨rfl, HB3.out⟩
  have key := HN.out hl
  have hcs : (y == 9999) = false ∨ ((y == 9999) = true ∧ (m == 12) = false) ∨ ((y == 9999) = true ∧ (m == 12) = true ∧ (d == 31) = false) := by
    by_cases h1 : y = 9999
    · by_cases h2 : m = 12
      · exact .inr (.inr ⟨beq_iff_eq.2 h1, beq_iff_eq.2 h2, beq_eq_false_iff_ne.2 fun h3 => hl ⟨h1, h2, h3⟩⟩)
      · exact .inr (.inl ⟨beq_iff_eq.2 h1, beq_eq_false_iff_ne.2 h2⟩)
    · exact .inl (beq_eq_false_iff_ne.2 h1)
  clear hl hd
  have e1 : D + 1 - 719528 = D - 719528 + 1 := by omega
  rcases key with ⟨k1, k2⟩ | ⟨k1, k2, k3, k4⟩ | ⟨k1, k2, k3, k4⟩
  · rw [dayN_yes k1, decide_eq_true k1, k2, e1] at C4
    have t1 : (D - 719528 + 1 == D - 719528 + 1) = true := beq_self_eq_true _
    clear k1 k2 e1
    rcases hcs with c1 | ⟨c1, c2⟩ | ⟨c1, c2, c3⟩ <;>
    · go_enter Tryd.func4, Tryd.ntmps4
      go_wp2_with fail
      refine (C1.out _ T).mono ?_
      rintro e x1 ⟨rfl, rfl⟩
      go_wp2_with fail
      refine (C2.out _).mono ?_
      rintro e x2 ⟨rfl, rfl⟩
      go_wp2_with fail
      refine (C3.out _ T).mono ?_
      rintro e x3 ⟨rfl, hb3⟩
      have HB3 := Lib.hid hb3
      clear hb3
      go_wp2_with fail
      refine (C4.out _ (T.below HB3.out)).mono ?_
      rintro e x4 ⟨rfl, rfl⟩
      go_wp2_with fail
      go_ret
      exact ⟨rfl, HB3.out⟩
  · rw [dayN_no k1, decide_eq_false k1] at C4
    rw [dayN_yes k3, decide_eq_true k3, k4, e1] at C5
    have t1 : (D - 719528 + 1 == D - 719528 + 1) = true := beq_self_eq_true _
    have t2 : decide (m < 12) = true := decide_eq_true k2
    clear k1 k2 k3 k4 e1
    rcases hcs with c1 | ⟨c1, c2⟩ | ⟨c1, c2, c3⟩ <;>
    · go_enter Tryd.func4, Tryd.ntmps4
      go_wp2_with fail
      refine (C1.out _ T).mono ?_
      rintro e x1 ⟨rfl, rfl⟩
      go_wp2_with fail
      refine (C2.out _).mono ?_
      rintro e x2 ⟨rfl, rfl⟩
      go_wp2_with fail
      refine (C3.out _ T).mono ?_
      rintro e x3 ⟨rfl, hb3⟩
      have HB3 := Lib.hid hb3
      clear hb3
      go_wp2_with fail
      refine (C4.out _ (T.below HB3.out)).mono ?_
      rintro e x4 ⟨rfl, rfl⟩
      go_wp2_with fail
      refine (C5.out _ (T.below HB3.out)).mono ?_
      rintro e x5 ⟨rfl, rfl⟩
      go_wp2_with fail
      go_ret
      exact ⟨rfl, HB3.out⟩
  · rw [dayN_no k1, decide_eq_false k1] at C4
    rw [dayN_yes k3, decide_eq_true k3, k4, e1] at C6
    have t1 : (D - 719528 + 1 == D - 719528 + 1) = true := beq_self_eq_true _
    have t2 : decide (m < 12) = false := decide_eq_false k2
    clear k1 k2 k3 k4 e1
    rcases hcs with c1 | ⟨c1, c2⟩ | ⟨c1, c2, c3⟩ <;>
    · go_enter Tryd.func4, Tryd.ntmps4
      go_wp2_with fail
      refine (C1.out _ T).mono ?_
      rintro e x1 ⟨rfl, rfl⟩
      go_wp2_with fail
      refine (C2.out _).mono ?_
      rintro e x2 ⟨rfl, rfl⟩
      go_wp2_with fail
      refine (C3.out _ T).mono ?_
      rintro e x3 ⟨rfl, hb3⟩
      have HB3 := Lib.hid hb3
      clear hb3
      go_wp2_with fail
      refine (C4.out _ (T.below HB3.out)).mono ?_
      rintro e x4 ⟨rfl, rfl⟩
      go_wp2_with fail
      refine (C6.out _ (T.below HB3.out)).mono ?_
      rintro e x5 ⟨rfl, rfl⟩
      go_wp2_with fail
      go_ret
      exact ⟨rfl, HB3.out⟩
end Go.Proofs.YtfedidiieacakaaDoor.St
