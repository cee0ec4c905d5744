import Derived.Test.YthokaeaefmajjaaDoorChPl4
/- Plain facts on quoting: lengths; what stands behind what is read doesn't matter. No run of the program in this text. -/
namespace Go.Proofs.YthokaeaefmajjaaDoor.Ch
open Go.RowKit
open Go.Proofs.YthokaeaefmajjaaDoor.Utf

/-- what is read takes no more room when it is quoted -/
theorem step_qpt_len (l : List UInt8) (h : (stepL l).2.1 ≠ 0) : ((qpt (stepL l).1).length : Int) ≤ (stepL l).2.1 := by
  have six := qpt_le (stepL l).1
  unfold stepL at h six ⊢
  by_cases h0 : l.length = 0
  · rw [if_pos h0] at h; simp at h
  · rw [if_neg h0] at h six ⊢
    by_cases h1 : byt l 0 = 34
    · rw [if_pos h1] at h; simp at h
    · rw [if_neg h1] at h six ⊢
      by_cases h2 : byt l 0 < 32
      · rw [if_pos h2] at h; simp at h
      · rw [if_neg h2] at h six ⊢
        by_cases h3 : byt l 0 = 92
        · rw [if_pos h3] at h six ⊢
          by_cases h4 : (escL l).2 = 0
          · rw [if_pos h4] at h; simp at h
          · rw [if_neg h4] at six ⊢
            simp only at six ⊢
            clear h
            unfold escL at h4 six ⊢
            by_cases h5 : 2 ≤ l.length ∧ 0 ≤ letV (byt l 1)
            · rw [if_pos h5]
              simp only
              rcases (letV_set _ h5.2).1 with e | e | e | e | e | e | e | e <;> (rw [e]; decide)
            · rw [if_neg h5] at h4 six ⊢
              by_cases h6 : unitL l < 0
              · rw [if_pos h6] at h4; simp at h4
              · rw [if_neg h6] at h4 six ⊢
                by_cases h7 : isPt (unitL l) = true
                · rw [if_pos h7] at six ⊢; simp only at six ⊢; omega
                · rw [if_neg h7] at h4 six ⊢
                  by_cases h8 : isUp (unitL l) = true ∧ isLo (unitL (l.drop 6)) = true
                  · rw [if_pos h8] at six ⊢; simp only at six ⊢; omega
                  · rw [if_neg h8] at h4; simp at h4
        · rw [if_neg h3] at h six ⊢
          by_cases h4 : (oneL l).2 = 0
          · rw [if_pos h4] at h; simp at h
          · rw [if_neg h4]
            simp only
            have hp : special (oneL l).1 = false := by
              by_cases h5 : byt l 0 < 128
              · rw [one_low h0 h5]; simp [special]; omega
              · have := one_high (by omega) h4
                simp [special]; omega
            unfold qpt qptZ
            rw [if_neg (by rw [hp]; simp), toB_encZ]
            rcases oneL_reads l with h5 | ⟨_, h6, _⟩
            · rw [h5] at h4; simp at h4
            · omega
theorem readL_qlen (l : List UInt8) : (qL (readL l).1).length ≤ (readL l).2.1 := by
  induction l using pts_ind with
  | h l ih =>
    by_cases h : (stepL l).2.1 = 0
    · rw [readL_stop h]; simp [qL]
    · rcases stepL_n l with h1 | ⟨h3, h1, h4, h2, h5, _⟩
      · exact absurd h1.1 h
      · have hi := ih (stepL l).2.1.toNat (by omega) (by omega)
        have hs := step_qpt_len l h
        rw [readL_go h]
        simp only
        rw [qL_cons, List.length_append]
        omega

/-- what is read hangs on the bytes that are read alone -/
theorem oneL_pre (l r : List UInt8) (n : Nat) (h : (oneL l).2 = (n : Int)) (hn : n ≠ 0) : oneL (l.take n ++ r) = oneL l := by
  rcases oneL_reads l with h1 | ⟨h1, h2, h3⟩
  · rw [h1] at h; simp at h; omega
  · have e : n = (enc (oneL l).1).length := by omega
    have et := one_take (l := l) (p := (oneL l).1) (m := n) (by rw [Prod.ext_iff]; exact ⟨rfl, h⟩) hn
    rw [et, oneL_enc _ h1, Prod.ext_iff]
    exact ⟨rfl, by simp only; omega⟩
theorem stepL_pre (l r : List UInt8) (n : Nat) (h : (stepL l).2.1 = (n : Int)) (hn : n ≠ 0) : stepL (l.take n ++ r) = stepL l := by
  have hnn := stepL_n l
  have hnl : n ≤ l.length := by omega
  have h0 : l.length ≠ 0 := by omega
  have h0' : (l.take n ++ r).length ≠ 0 := by rw [List.length_append, List.length_take]; omega
  have b0 : byt (l.take n ++ r) 0 = byt l 0 := byt_pre l r n 0 (by omega) hnl
  by_cases h1 : byt l 0 = 34
  · rw [stepL_quote h0 h1] at h; simp at h; omega
  · by_cases h2 : byt l 0 < 32
    · rw [stepL_ctl h0 h2] at h; simp at h; omega
    · by_cases h3 : byt l 0 = 92
      · rw [stepL_esc h0 h3] at h ⊢
        rw [stepL_esc h0' (by omega)]
        by_cases h4 : (escL l).2 = 0
        · rw [if_pos h4] at h; simp at h; omega
        · rw [if_neg h4] at h
          simp only at h
          have e : escL (l.take n ++ r) = escL l := by
            by_cases h5 : 2 ≤ l.length ∧ 0 ≤ letV (byt l 1)
            · have e1 := (escU_let h5.1 h5.2).2
              rw [e1] at h ⊢
              simp only at h
              have b1 : byt (l.take n ++ r) 1 = byt l 1 := byt_pre l r n 1 (by omega) hnl
              rw [(escU_let (l := l.take n ++ r) (by rw [List.length_append, List.length_take]; omega) (by rw [b1]; exact h5.2)).2, b1]
            · by_cases h6 : 0 ≤ unitL l
              · have eu := escL_unit h6
                by_cases h7 : isPt (unitL l) = true
                · rw [if_pos h7] at eu
                  rw [eu] at h
                  simp only at h
                  have u1 := unitL_pre l r n (by omega) hnl h6
                  rw [escL_unit (by omega), u1, if_pos h7, eu]
                · rw [if_neg h7] at eu
                  by_cases h8 : isUp (unitL l) = true ∧ isLo (unitL (l.drop 6)) = true
                  · rw [if_pos h8] at eu
                    rw [eu] at h
                    simp only at h
                    have u1 := unitL_pre l r n (by omega) hnl h6
                    have hlo := isLo_bd h8.2
                    have ed : (l.take n ++ r).drop 6 = (l.drop 6).take (n - 6) ++ r := by
                      rw [List.drop_append_of_le_length (by rw [List.length_take]; omega), List.drop_take]
                    have u2 := unitL_pre (l.drop 6) r (n - 6) (by omega) (by rw [List.length_drop]; omega) (by omega)
                    rw [escL_unit (by omega), u1, if_neg h7, ed, u2, if_pos h8, eu]
                  · rw [if_neg h8] at eu
                    rw [eu] at h4; simp at h4
              · have := (escU_none (l := l) (by omega) (by omega)).2
                rw [this] at h4; simp at h4
          rw [e]
      · rw [stepL_pt h0 h2 h3 h1] at h ⊢
        rw [stepL_pt h0' (by omega) (by omega) (by omega)]
        by_cases h4 : (oneL l).2 = 0
        · rw [if_pos h4] at h; simp at h; omega
        · rw [if_neg h4] at h
          simp only at h
          rw [oneL_pre l r n h hn]
theorem readL_pre (l : List UInt8) : ∀ (r : List UInt8), (readL l).2.2 = 0 → readL (l.take ((readL l).2.1 + 1) ++ r) = readL l := by
  induction l using pts_ind with
  | h l ih =>
    intro r he
    by_cases h : (stepL l).2.1 = 0
    · have e := readL_stop h
      rw [e] at he ⊢
      simp only at he
      rcases stepL_e l h with h1 | h1 | ⟨_, h2, h3⟩
      · omega
      · omega
      · have b0 : byt (l.take 1 ++ r) 0 = 34 := by rw [byt_pre l r 1 0 (by omega) (by omega)]; exact h3
        have hs := stepL_quote (l := l.take 1 ++ r) (by rw [List.length_append, List.length_take]; omega) b0
        simp only
        rw [Nat.zero_add, readL_stop (by rw [hs]), hs, he]
    · rcases stepL_n l with h1 | ⟨h3, h1, h4, h2, h5, _⟩
      · exact absurd h1.1 h
      · obtain ⟨n, hn⟩ := Int.eq_ofNat_of_zero_le (show 0 ≤ (stepL l).2.1 by omega)
        have hi := ih n (by omega) (by omega) r
        have hg := readL_go h
        rw [hn, Int.toNat_natCast] at hg
        rw [hg] at he ⊢
        simp only at he ⊢
        have hi := hi he
        have es : l.take (n + (readL (l.drop n)).2.1 + 1) ++ r = l.take n ++ ((l.drop n).take ((readL (l.drop n)).2.1 + 1) ++ r) := by
          rw [Nat.add_assoc, List.take_add, List.append_assoc]
        have hstep := stepL_pre l ((l.drop n).take ((readL (l.drop n)).2.1 + 1) ++ r) n hn (by omega)
        rw [es, readL_go (by rw [hstep]; exact h), hstep, hn, Int.toNat_natCast]
        have ed : (l.take n ++ ((l.drop n).take ((readL (l.drop n)).2.1 + 1) ++ r)).drop n = (l.drop n).take ((readL (l.drop n)).2.1 + 1) ++ r := by
          rw [List.drop_append_of_le_length (by rw [List.length_take]; omega), List.drop_take, Nat.sub_self, List.take_zero, List.nil_append]
        rw [ed, hi]
end Go.Proofs.YthokaeaefmajjaaDoor.Ch
