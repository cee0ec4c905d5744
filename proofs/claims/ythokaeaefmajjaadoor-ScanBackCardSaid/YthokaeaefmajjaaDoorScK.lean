import Derived.Test.YthokaeaefmajjaaDoorScJ
import Derived.Test.YthokaeaefmajjaaDoorScPl3
import Derived.Test.YthokaeaefmajjaaDoorChR4
/- Contract of layer 4's law's write. -/
namespace Go.Proofs.YthokaeaefmajjaaDoor.Sc
open Go.RowKit
open Go.Proofs.YthokaeaefmajjaaDoor.Utf

set_option maxHeartbeats 2000000 in
theorem write_any (t : Tok) (w : World) (h : okT t) (hl : t.2.2.1.length ≤ 1048576) (ht : Ch.Tab w) :
    Calls Tryd.prog 9 #[.agg #[.int .i64 t.1, .int .i64 t.2.1, .string (strOf t.2.2.1), .int .i64 t.2.2.2]] w (Gives (.string (strOf (wr t))) w) := by
  obtain ⟨a, n, s, z⟩ := t
  simp only at hl
  simp only
  have htb : ∀ w', Below w.heap.size w w' → Ch.Tab w' := fun w' hb => ht.below hb ht.1 hb.size
  have HTB := Lib.hid htb; clear htb ht
  by_cases h3 : a = 3
  · subst h3
    have hn : n.natAbs ≤ Nu.maxN := by
      rcases h with h | h | h | h
      · exact absurd h.1 (by simp)
      · exact absurd h.1 (by simp)
      · exact h.2.1
      · exact absurd h.1 (by simp)
    have hm : Nu.maxN = 9007199254740991 := rfl
    have hw : wr (3, n, s, z) = Nu.putL n := rfl
    rw [hw]
    have hp := fun w => Nu.rPut_any 20 n w (by omega) (by omega) (by omega) (by omega) (by omega)
    generalize Nu.putL n = p at *
    generalize strOf p = P at *
    have HP := Lib.hid hp; clear hp
    go_enter Tryd.func9, Tryd.ntmps9
    go_wp2_with fail
    refine (HP.out _).mono ?_
    rintro e w1 ⟨rfl, hb1⟩
    go_wp2_with fail
    go_ret
    exact ⟨rfl, ((Below.refl _ _).alloc (Nat.le_refl _) _).trans (hb1.mono (by simp))⟩
  · have t3 : (a == 3) = false := by rw [beq_eq_false_iff_ne]; exact h3
    by_cases h4 : a = 4
    · subst h4
      have hn : (ptsL s).2 = s.length := by
        rcases h with h | h | h | h
        · exact absurd h.1 (by simp)
        · exact absurd h.1 (by simp)
        · exact absurd h.1 (by simp)
        · exact h.2.2
      have hw : wr (4, n, s, z) = 34 :: (Ch.qbL s ++ [34]) := rfl
      have hq := fun w ht => Ch.rQuote_any (strOf s) w (by rw [strOf_size]; exact hl) ht
      rw [strOf_data, Ch.quoteR_yes (by omega), ← hw] at hq
      generalize wr (4, n, s, z) = p at *
      have HQ := Lib.hid hq; clear hq hw
      go_enter Tryd.func9, Tryd.ntmps9
      go_wp2_with fail
      refine (HQ.out _ (HTB.out _ ((Below.refl _ _).alloc (Nat.le_refl _) _))).mono ?_
      rintro e w1 ⟨rfl, hb1⟩
      go_wp2_with fail
      go_ret
      exact ⟨rfl, ((Below.refl _ _).alloc (Nat.le_refl _) _).trans (hb1.mono (by simp))⟩
    · have t4 : (a == 4) = false := by rw [beq_eq_false_iff_ne]; exact h4
      have hw : wr (a, n, s, z) = s := by unfold wr; rw [if_neg h3, if_neg h4]
      rw [hw]
      clear hw
      go_enter Tryd.func9, Tryd.ntmps9
      go_wp2_with fail
      go_ret
      exact ⟨rfl, (Below.refl _ _).alloc (Nat.le_refl _) _⟩
end Go.Proofs.YthokaeaefmajjaaDoor.Sc
