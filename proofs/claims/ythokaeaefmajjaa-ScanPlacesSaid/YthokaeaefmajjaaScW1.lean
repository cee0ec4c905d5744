import Derived.Test.YthokaeaefmajjaaScG
import Derived.Test.YthokaeaefmajjaaScPl2
/- Walk of ScanPlaces. -/
namespace Go.Proofs.Ythokaeaefmajjaa.Sc
open Go.RowKit
open Go.Proofs.Ythokaeaefmajjaa.Utf

set_option maxHeartbeats 2000000 in
theorem places_walk (s : ByteArray) (w : World) (hs : s.size ≤ maxLen) :
    Calls Try.prog 4 #[.string s] w fun e w' => e = .returned (.bool true) ∧ Below w.heap.size w w' := by
  unfold maxLen at hs
  have HT := fun w => Tokens_any s w hs
  rcases hR : scnS s.data.toList with ⟨ts, at_, er⟩
  rw [hR] at HT
  have HTT := Lib.hid HT; clear HT
  go_enter Try.func4, Try.ntmps4
  go_wp2_with fail
  refine (HTT.out _).mono ?_
  rintro e w1 ⟨v1, rfl, hown1, hb1⟩
  have hr1 := RdT.of_own hown1
  clear hown1
  go_wp2_with fail
  refine (awake_any _).mono ?_
  rintro e w2 ⟨rfl, hb2⟩
  have B2 : Below w.heap.size w w2 := hb1.trans (hb2.mono hb1.size)
  have hr2 := hr1.below hb2 (Nat.le_refl _)
  clear hr1
  obtain ⟨A, c, hv, _⟩ := id hr2
  subst hv
  by_cases he : er = 0
  · subst he
    obtain ⟨hl, hsc, hscan, hpl⟩ := scnS_Scan (l := s.data.toList) (by rw [hR])
    rw [hR] at hscan hpl
    simp only at hscan hpl
    subst hpl
    have hasc := Lib.hid (fun i h => asc_at hscan.asc i h)
    have hn := hscan.le.2.1
    have hsz : ts.length ≤ 65536 := by omega
    have s12 := hb2.size
    clear hl hsc hscan hn hR hb1 hb2
    go_wp2_with fail
    go_loopw [6] (fun i wr => ∃ k : Nat, i = .int .i64 k ∧ k ≤ ts.length ∧ Below w2.heap.size w2 wr) (fun i _ => ts.length - (intOf i).toNat)
    case atStart => exact ⟨0, rfl, by omega, Below.refl _ _⟩
    case round =>
      obtain ⟨k, rfl, hk, hbel⟩ := hrel
      by_cases hlt : k < ts.length
      · have hlb : decide ((k : Int) < (ts.length : Int)) = true := decide_eq_true (by omega)
        have hlb2 : decide (k < ts.length) = true := decide_eq_true hlt
        have k0 : (0 : Int) ≤ (k : Int) := by omega
        have k1 : (k : Int) < (ts.length : Int) := by omega
        obtain ⟨q, q1, _, q2, q3, _⟩ := hasc.out k hlt
        obtain ⟨g, c', hg, _, _, _, _, a3⟩ := (hr2.below hbel s12).at_ k hlt
        rw [q1] at a3
        have e1 : A = some ⟨g, 0, none⟩ := by injection hg
        clear hg
        subst e1
        have q4 : q < s.size := q2
        rw [byt_get s q q4] at q3
        have z0 : (0 : Int) ≤ (q : Int) := by omega
        have z1 : (q : Int) < (s.size : Int) := by omega
        have z2 : decide ((q : Int) < 0) = false := decide_eq_false (by omega)
        have z3 : decide ((s.size : Int) ≤ (q : Int)) = false := decide_eq_false (by omega)
        have z4 : decide (s.size ≤ q) = false := decide_eq_false (by omega)
        rcases k with _ | j
        · go_wp2_with fail
          go_quiet ((go_at_call 9; refine Calls.quiet_of_same ((White_any _ _).mono fun e w' h => ⟨h.1, h.2.symm⟩)))
          go_wp2_with fail
          go_roundw
          case rel => exact ⟨1, by go_num, by omega, below_drewN hbel _⟩
          case measure => simp [intOf]; omega
        · obtain ⟨q', r1, _, _, _, r5⟩ := hasc.out j (by omega)
          have r6 := r5 hlt
          rw [r1, q1] at r6
          have z5 : decide ((q : Int) ≤ (q' : Int)) = false := decide_eq_false (by omega)
          have z5b : decide (q ≤ q') = false := decide_eq_false (by omega)
          have z6 : decide ((0 : Int) < ((j + 1 : Nat) : Int)) = true := decide_eq_true (by omega)
          have z7 : decide ((0 : Int) < (j : Int) + 1) = true := decide_eq_true (by omega)
          have j0 : (0 : Int) ≤ (j : Int) := by omega
          have j1 : (j : Int) < (ts.length : Int) := by omega
          obtain ⟨g2, c2, hg2, _, _, _, _, b3⟩ := (hr2.below hbel s12).at_ j (by omega)
          rw [r1] at b3
          have e2 : g = g2 := by injection hg2 with h _ _; injection h with h; injection h
          clear hg2
          subst e2
          clear r6 r1 r5 q1
          go_wp2_with fail
          go_quiet ((go_at_call 9; refine Calls.quiet_of_same ((White_any _ _).mono fun e w' h => ⟨h.1, h.2.symm⟩)))
          go_wp2_with fail
          go_roundw
          case rel => exact ⟨j + 1 + 1, by go_num, by omega, below_drewN hbel _⟩
          case measure => simp [intOf]; omega
      · have hlb : decide ((k : Int) < (ts.length : Int)) = false := decide_eq_false (by omega)
        have hlb2 : decide (k < ts.length) = false := decide_eq_false hlt
        go_wp2_with fail
        go_ret
        exact ⟨rfl, B2.trans (hbel.mono B2.size)⟩
  · obtain ⟨h1, h2, h3⟩ := scnS_bad (l := s.data.toList) (by rw [hR]; exact he)
    rw [hR] at h1 h2 h3
    simp only at h1 h2 h3
    subst h1
    rw [len_data] at h3
    have hne : (er != 0) = true := by rw [bne_iff_ne]; exact he
    have d1 : decide (0 ≤ at_) = true := decide_eq_true h2
    have d2 : decide (at_ ≤ (s.size : Int)) = true := decide_eq_true h3
    clear hR
    go_wp2_with fail
    go_ret
    exact ⟨rfl, B2⟩
end Go.Proofs.Ythokaeaefmajjaa.Sc
