import Derived.Test.YthokaeaefmajjaaDoorUtfPl2
/- Plain facts: the points of a text, one behind the other; the bytes of points. No run of the program in this text. -/
namespace Go.Proofs.YthokaeaefmajjaaDoor.Utf
open Go.RowKit

theorem oneL_n (l : List UInt8) : (oneL l = (0, 0)) ∨ (isPt (oneL l).1 = true ∧ 1 ≤ (oneL l).2 ∧ (oneL l).2 ≤ 4 ∧ (oneL l).2 ≤ l.length) := by
  rcases oneL_reads l with h | ⟨h1, h2, h3⟩
  · exact .inl h
  · refine .inr ⟨h1, ?_, ?_, ?_⟩
    · rcases Nat.eq_zero_or_pos (enc (oneL l).1).length with h0 | h0
      · have := List.eq_nil_of_length_eq_zero h0
        rw [enc, List.map_eq_nil_iff] at this
        unfold encZ at this
        rw [h1, if_neg (by decide)] at this
        split at this
        · cases this
        · split at this
          · cases this
          · split at this <;> cases this
      · omega
    · have := enc_le (oneL l).1; omega
    · have := congrArg List.length h3
      simp at this; omega
theorem oneL_pt {l : List UInt8} (h : (oneL l).2 ≠ 0) : isPt (oneL l).1 = true := by
  rcases oneL_n l with h1 | h1
  · rw [h1] at h; simp at h
  · exact h1.1

def ptsF : Nat → List UInt8 → List Int × Nat
  | 0, _ => ([], 0)
  | f + 1, l => if (oneL l).2 = 0 then ([], 0) else ((oneL l).1 :: (ptsF f (l.drop (oneL l).2.toNat)).1, (oneL l).2.toNat + (ptsF f (l.drop (oneL l).2.toNat)).2)
/-- the points of a text, and the place where they end -/
def ptsL (l : List UInt8) : List Int × Nat := ptsF l.length l

theorem oneL_nil : oneL [] = (0, 0) := rfl
theorem ptsF_nil (f : Nat) : ptsF f [] = ([], 0) := by cases f <;> rfl
theorem ptsF_fuel : ∀ (f g : Nat) (l : List UInt8), l.length ≤ f → l.length ≤ g → ptsF f l = ptsF g l := by
  intro f
  induction f with
  | zero =>
    intro g l h _
    rw [List.eq_nil_of_length_eq_zero (show l.length = 0 by omega), ptsF_nil, ptsF_nil]
  | succ f ih =>
    intro g l hf hg
    cases g with
    | zero => rw [List.eq_nil_of_length_eq_zero (show l.length = 0 by omega), ptsF_nil, ptsF_nil]
    | succ g =>
      rcases oneL_n l with h1 | ⟨_, h1, _, h2⟩
      · simp [ptsF, h1]
      · simp only [ptsF]
        rw [ih g (l.drop (oneL l).2.toNat) (by simp; omega) (by simp; omega)]
theorem ptsL_stop {l : List UInt8} (h : (oneL l).2 = 0) : ptsL l = ([], 0) := by
  unfold ptsL
  cases l with
  | nil => rfl
  | cons a l => simp [ptsF, h]
theorem ptsL_go {l : List UInt8} (h : (oneL l).2 ≠ 0) : ptsL l = ((oneL l).1 :: (ptsL (l.drop (oneL l).2.toNat)).1, (oneL l).2.toNat + (ptsL (l.drop (oneL l).2.toNat)).2) := by
  rcases oneL_n l with h1 | ⟨_, h1, _, h2⟩
  · rw [h1] at h; simp at h
  · obtain ⟨k, hk⟩ : ∃ k, l.length = k + 1 := ⟨l.length - 1, by omega⟩
    unfold ptsL
    rw [hk, ptsF, if_neg h, ptsF_fuel k _ _ (by simp; omega) (Nat.le_refl _)]

/-- the bytes of points, one behind the other -/
def encL (l : List Int) : List UInt8 := (l.map enc).flatten
theorem encL_cons (p : Int) (l : List Int) : encL (p :: l) = enc p ++ encL l := by simp [encL]
theorem encL_append (a b : List Int) : encL (a ++ b) = encL a ++ encL b := by simp [encL]
theorem encL_nil : encL [] = [] := rfl

theorem enc_pos {p : Int} (h : isPt p = true) : 1 ≤ (enc p).length := by
  have := oneL_n (enc p ++ [])
  rw [oneL_enc p h []] at this
  rcases this with h1 | h1
  · have := congrArg Prod.snd h1
    have h2 := congrArg Prod.fst h1
    simp at this h2
    subst h2
    have : enc 0 = [] := this
    exact absurd this (by decide)
  · have := h1.2.1
    simp at this
    omega

/-- a strong induction over texts: from what lies behind the first point -/
theorem pts_ind {P : List UInt8 → Prop} (h : ∀ l, (∀ k, 1 ≤ k → k ≤ l.length → P (l.drop k)) → P l) : ∀ l, P l := by
  have : ∀ n, ∀ l : List UInt8, l.length ≤ n → P l := by
    intro n
    induction n with
    | zero => intro l hl; exact h l fun k h1 h2 => by omega
    | succ n ih => intro l hl; exact h l fun k h1 h2 => ih _ (by simp; omega)
  exact fun l => this _ l (Nat.le_refl _)

theorem ptsL_le (l : List UInt8) : (ptsL l).2 ≤ l.length := by
  induction l using pts_ind with
  | h l ih =>
    by_cases h : (oneL l).2 = 0
    · rw [ptsL_stop h]; simp
    · rcases oneL_n l with h1 | ⟨_, h1, _, h2⟩
      · rw [h1] at h; simp at h
      · have := ih (oneL l).2.toNat (by omega) (by omega)
        rw [ptsL_go h]; simp at this ⊢; omega
theorem ptsL_num (l : List UInt8) : (ptsL l).1.length ≤ (ptsL l).2 := by
  induction l using pts_ind with
  | h l ih =>
    by_cases h : (oneL l).2 = 0
    · rw [ptsL_stop h]; simp
    · rcases oneL_n l with h1 | ⟨_, h1, _, h2⟩
      · rw [h1] at h; simp at h
      · have := ih (oneL l).2.toNat (by omega) (by omega)
        rw [ptsL_go h]; simp; omega
theorem ptsL_all (l : List UInt8) : ∀ p ∈ (ptsL l).1, isPt p = true := by
  induction l using pts_ind with
  | h l ih =>
    by_cases h : (oneL l).2 = 0
    · rw [ptsL_stop h]; simp
    · rcases oneL_n l with h1 | ⟨h3, h1, _, h2⟩
      · rw [h1] at h; simp at h
      · have := ih (oneL l).2.toNat (by omega) (by omega)
        rw [ptsL_go h]
        intro p hp
        simp at hp
        rcases hp with rfl | hp
        · exact h3
        · exact this p hp
theorem take_glue (a l : List UInt8) (k : Nat) (h : a ++ l.drop a.length = l) : a ++ (l.drop a.length).take k = l.take (a.length + k) := by
  have e : l.take a.length = a := by
    have := congrArg (List.take a.length) h
    rw [List.take_left] at this
    exact this.symm
  rw [List.take_add, e]
/-- the bytes of a text's points are the text up to where they end -/
theorem encL_ptsL (l : List UInt8) : encL (ptsL l).1 = l.take (ptsL l).2 := by
  induction l using pts_ind with
  | h l ih =>
    by_cases h : (oneL l).2 = 0
    · rw [ptsL_stop h]; simp [encL]
    · rcases oneL_reads l with h1 | ⟨h1, h2, h3⟩
      · rw [h1] at h; simp at h
      · rcases oneL_n l with h4 | ⟨_, h4, _, h5⟩
        · rw [h4] at h; simp at h
        · have := ih (oneL l).2.toNat (by omega) (by omega)
          rw [ptsL_go h, encL_cons, this]
          have hk : (oneL l).2.toNat = (enc (oneL l).1).length := by omega
          simp only [hk]
          exact take_glue _ _ _ h3
/-- the points of the bytes of points are these, and there they end if nothing goes on -/
theorem ptsL_encL (ps : List Int) (h : ∀ p ∈ ps, isPt p = true) (r : List UInt8) : ptsL (encL ps ++ r) = (ps ++ (ptsL r).1, (encL ps).length + (ptsL r).2) := by
  induction ps with
  | nil => simp [encL]
  | cons p ps ih =>
    have hp := h p (by simp)
    have h1 := oneL_enc p hp (encL ps ++ r)
    have h2 := enc_pos hp
    have h3 := ih fun q hq => h q (by simp [hq])
    rw [encL_cons, List.append_assoc]
    have hn : (oneL (enc p ++ (encL ps ++ r))).2 ≠ 0 := by rw [h1]; simp; intro h0; rw [h0] at h2; simp at h2
    rw [ptsL_go hn, h1]
    simp [h3]
    omega
end Go.Proofs.YthokaeaefmajjaaDoor.Utf
