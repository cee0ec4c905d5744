import Derived.Test.YthokaeaefmajjaaDoorChPl5
import Derived.Test.YthokaeaefmajjaaDoorUtfC
/- Plain facts for the laws of layer 2. No run of the program in this text. -/
namespace Go.Proofs.YthokaeaefmajjaaDoor.Ch
open Go.RowKit
open Go.Proofs.YthokaeaefmajjaaDoor.Utf

theorem qbL_right {l : List UInt8} (h : (ptsL l).2 = l.length) : l = encL (ptsL l).1 ∧ qbL l = qL (ptsL l).1 := by
  have e : encL (ptsL l).1 = l := by rw [encL_ptsL, h, List.take_length]
  have q := qbL_encL (ptsL l).1 (ptsL_all l)
  rw [e] at q
  exact ⟨e.symm, q⟩

/-- what is quoted is read as it was, whatever stands around it -/
theorem back_plain (H T l : List UInt8) (h : (ptsL l).2 = l.length) : readS (H ++ (34 :: (qbL l ++ [34])) ++ T) (H.length : Nat) = (l, (H.length : Int) + ((34 :: (qbL l ++ [34])).length : Nat), 0) := by
  obtain ⟨e1, e2⟩ := qbL_right h
  have hlt : H.length < (H ++ (34 :: (qbL l ++ [34])) ++ T).length := by simp
  have hb : byt (H ++ (34 :: (qbL l ++ [34])) ++ T) H.length = 34 := by
    have := byt_drop (H ++ (34 :: (qbL l ++ [34])) ++ T) H.length 0
    rw [Nat.add_zero] at this
    rw [← this, List.append_assoc, List.drop_left' rfl]
    rfl
  have hd : (H ++ (34 :: (qbL l ++ [34])) ++ T).drop (H.length + 1) = qL (ptsL l).1 ++ 34 :: T := by
    rw [List.append_assoc, ← List.drop_drop, List.drop_left' rfl, e2]
    simp
  have hr : readL (qL (ptsL l).1 ++ 34 :: T) = ((ptsL l).1, (qL (ptsL l).1).length, 0) := by
    rw [readL_qL _ (ptsL_all l), readL_close]
    simp
  rw [readS_ok hlt hb (by rw [hd]; exact hr), ← e1, e2]
  simp
  omega

/-- what is read can be quoted, and no greater than it stood there; it is read again as it was -/
theorem again_plain (l : List UInt8) (a : Int) (t : List UInt8) (n : Int) (h : readS l a = (t, n, 0)) :
    (ptsL t).2 = t.length ∧ ((qbL t).length : Int) + a + 2 ≤ n ∧ a < n ∧ 1 ≤ n ∧ n ≤ l.length ∧ byt l (n.toNat - 1) = 34 ∧ ∃ q : Nat, a = q ∧ q < l.length ∧ byt l q = 34 := by
  unfold readS at h
  by_cases h1 : a < 0 ∨ (l.length : Int) ≤ a ∨ byt l a.toNat ≠ 34
  · rw [if_pos h1] at h
    have := congrArg (fun x => x.2.2) h
    simp at this
  · rw [if_neg h1] at h
    obtain ⟨q, rfl⟩ := Int.eq_ofNat_of_zero_le (show 0 ≤ a by omega)
    rw [Int.toNat_natCast] at h h1
    obtain ⟨f1, f2, f3, f4⟩ := readL_facts (l.drop (q + 1))
    have f5 := readL_qlen (l.drop (q + 1))
    by_cases h2 : (readL (l.drop (q + 1))).2.2 = 0
    · rw [if_pos h2] at h
      rcases f4 with f4 | f4 | ⟨_, f6, f7⟩
      · omega
      · omega
      · have ht : encL (readL (l.drop (q + 1))).1 = t := congrArg Prod.fst h
        have hn : (q : Int) + 1 + (readL (l.drop (q + 1))).2.1 + 1 = n := congrArg (fun x => x.2.1) h
        rw [List.length_drop] at f6
        rw [byt_drop] at f7
        have e : ptsL (encL (readL (l.drop (q + 1))).1 ++ []) = _ := ptsL_encL _ f3 []
        rw [List.append_nil] at e
        refine ⟨?_, ?_, by omega, by omega, by omega, ?_, q, rfl, by omega, ?_⟩
        · rw [← ht, e]; simp [ptsL, ptsF]
        · rw [← ht, qbL_encL _ f3]; omega
        · have : n.toNat - 1 = q + 1 + (readL (l.drop (q + 1))).2.1 := by omega
          rw [this]; exact f7
        · by_cases h3 : byt l q = 34
          · exact h3
          · exact absurd (.inr (.inr h3)) h1
    · rw [if_neg h2] at h
      exact absurd (congrArg (fun x => x.2.2) h) h2
theorem bad_plain (l : List UInt8) (a : Int) (t : List UInt8) (n e : Int) (h : readS l a = (t, n, e)) (he : e ≠ 0) : t = [] ∧ (e = 10 ∨ e = 20) := by
  unfold readS at h
  by_cases h1 : a < 0 ∨ (l.length : Int) ≤ a ∨ byt l a.toNat ≠ 34
  · rw [if_pos h1] at h
    have h2 := congrArg Prod.fst h
    have h3 := congrArg (fun x => x.2.2) h
    simp only at h2 h3
    exact ⟨h2.symm, .inr h3.symm⟩
  · rw [if_neg h1] at h
    obtain ⟨f1, f2, f3, f4⟩ := readL_facts (l.drop (a.toNat + 1))
    by_cases h2 : (readL (l.drop (a.toNat + 1))).2.2 = 0
    · rw [if_pos h2] at h
      exact absurd (congrArg (fun x => x.2.2) h).symm he
    · rw [if_neg h2] at h
      have h3 := congrArg Prod.fst h
      have h4 := congrArg (fun x => x.2.2) h
      simp only at h3 h4
      refine ⟨h3.symm, ?_⟩
      rcases f4 with f4 | f4 | f4
      · left; omega
      · right; omega
      · exact absurd f4.1 h2

/-- what stands behind the closing quote means nothing -/
theorem begins_plain (l T : List UInt8) (a : Int) (t : List UInt8) (n : Int) (h : readS l a = (t, n, 0)) : readS (l.take n.toNat ++ T) a = (t, n, 0) ∧ (∀ q : Nat, a = q → (readL ((l.take n.toNat ++ T).drop (q + 1))).2.1 < l.length - (q + 1)) := by
  obtain ⟨_, _, h3, h4, h5, _, q, rfl, hq, hb⟩ := again_plain l a t n h
  rw [readS_in hq hb] at h
  by_cases h2 : (readL (l.drop (q + 1))).2.2 = 0
  · rw [if_pos h2] at h
    have ht : encL (readL (l.drop (q + 1))).1 = t := congrArg Prod.fst h
    have hn : (q : Int) + 1 + (readL (l.drop (q + 1))).2.1 + 1 = n := congrArg (fun x => x.2.1) h
    have hnn : n.toNat = q + 1 + ((readL (l.drop (q + 1))).2.1 + 1) := by omega
    have hp := readL_pre (l.drop (q + 1)) T h2
    have hd : (l.take n.toNat ++ T).drop (q + 1) = (l.drop (q + 1)).take ((readL (l.drop (q + 1))).2.1 + 1) ++ T := by
      rw [List.drop_append_of_le_length (by rw [List.length_take]; omega), List.drop_take, hnn]
      congr 2
      omega
    constructor
    · rw [readS_in (by rw [List.length_append, List.length_take]; omega) (by rw [byt_pre _ _ _ _ (by omega) (by omega)]; exact hb), hd, hp, if_pos h2, ht, hn]
    · intro q' hqq
      obtain rfl : q' = q := by omega
      rw [hd, hp]
      have := (readL_facts (l.drop (q' + 1))).2.2.2
      rw [List.length_drop] at this
      omega
  · rw [if_neg h2] at h
    exact absurd (congrArg (fun x => x.2.2) h) h2
end Go.Proofs.YthokaeaefmajjaaDoor.Ch
