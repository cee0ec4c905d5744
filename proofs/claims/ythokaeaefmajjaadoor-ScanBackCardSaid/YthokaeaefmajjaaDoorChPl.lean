import Derived.Test.YthokaeaefmajjaaDoorUtfPl3
/- Plain facts on quoted texts: what stands at a place of a quote, and what is read of one. No run of the program in this text. -/
namespace Go.Proofs.YthokaeaefmajjaaDoor.Ch
open Go.RowKit
open Go.Proofs.YthokaeaefmajjaaDoor.Utf

theorem byt_cons0 (a : UInt8) (l : List UInt8) : byt (a :: l) 0 = (a.toNat : Int) := rfl
theorem byt_cons1 (a : UInt8) (l : List UInt8) (k : Nat) : byt (a :: l) (k + 1) = byt l k := by simp [byt]
theorem byt_end (l : List UInt8) (k : Nat) (h : l.length ≤ k) : byt l k = 0 := by unfold byt; rw [List.getD_eq_getElem?_getD, List.getElem?_eq_none h]; rfl
theorem byt_app (l r : List UInt8) (k : Nat) (h : k < l.length) : byt (l ++ r) k = byt l k := by unfold byt; rw [List.getD_eq_getElem?_getD, List.getD_eq_getElem?_getD, List.getElem?_append_left h]
theorem byt_take (l : List UInt8) (n k : Nat) (h : k < n) : byt (l.take n) k = byt l k := by unfold byt; rw [List.getD_eq_getElem?_getD, List.getD_eq_getElem?_getD, List.getElem?_take_of_lt h]
theorem byt_pre (l r : List UInt8) (n k : Nat) (h : k < n) (hn : n ≤ l.length) : byt (l.take n ++ r) k = byt l k := by
  rw [byt_app _ _ _ (by rw [List.length_take]; omega), byt_take _ _ _ h]

/-- a hexadecimal digit's value; -1: it is none -/
def digV (c : Int) : Int := if 48 ≤ c ∧ c ≤ 57 then c - 48 else if 65 ≤ c ∧ c ≤ 70 then c - 55 else if 97 ≤ c ∧ c ≤ 102 then c - 87 else -1
theorem digV_lo (c : Int) : -1 ≤ digV c := by unfold digV; (repeat' split) <;> omega
theorem digV_hi (c : Int) : digV c ≤ 15 := by unfold digV; (repeat' split) <;> omega

/-- the number of k digits behind place 2, and whether they are digits -/
def hexN (l : List UInt8) : Nat → Int
  | 0 => 0
  | k + 1 => hexN l k * 16 + digV (byt l (k + 2))
def hexOk (l : List UInt8) : Nat → Bool
  | 0 => true
  | k + 1 => hexOk l k && decide (0 ≤ digV (byt l (k + 2)))
theorem hexOk_pre {l : List UInt8} {k : Nat} (h : hexOk l (k + 1) = true) : hexOk l k = true ∧ 0 ≤ digV (byt l (k + 2)) := by
  simpa [hexOk] using h
theorem hex_bd (l : List UInt8) : ∀ k, hexOk l k = true → 0 ≤ hexN l k ∧ hexN l k < 16 ^ k := by
  intro k
  induction k with
  | zero => intro _; simp [hexN]
  | succ k ih =>
    intro h
    obtain ⟨h1, h2⟩ := hexOk_pre h
    have := ih h1
    have h3 := digV_hi (byt l (k + 2))
    simp only [hexN, Int.pow_succ]
    omega
theorem hexOk_mono (l : List UInt8) (k : Nat) (h : hexOk l k = false) : ∀ n, k ≤ n → hexOk l n = false := by
  intro n hn
  induction n with
  | zero => have : k = 0 := by omega
            subst this; exact h
  | succ n ih =>
    by_cases e : k = n + 1
    · subst e; exact h
    · simp [hexOk, ih (by omega)]
theorem hex_cong (l m : List UInt8) : ∀ k, (∀ j, j < k + 2 → byt l j = byt m j) → hexN l k = hexN m k ∧ hexOk l k = hexOk m k := by
  intro k
  induction k with
  | zero => intro _; exact ⟨rfl, rfl⟩
  | succ k ih =>
    intro h
    have := ih fun j hj => h j (by omega)
    simp [hexN, hexOk, this.1, this.2, h (k + 2) (by omega)]

/-- the number of a stroke, u and four digits; -1: they don't stand there -/
def unitL (l : List UInt8) : Int := if 6 ≤ l.length ∧ byt l 0 = 92 ∧ byt l 1 = 117 ∧ hexOk l 4 = true then hexN l 4 else -1
theorem unitL_yes {l : List UInt8} (h : 0 ≤ unitL l) : 6 ≤ l.length ∧ byt l 0 = 92 ∧ byt l 1 = 117 ∧ hexOk l 4 = true ∧ unitL l = hexN l 4 := by
  unfold unitL at h ⊢
  split at h
  · rename_i h1
    rw [if_pos h1]
    exact ⟨h1.1, h1.2.1, h1.2.2.1, h1.2.2.2, rfl⟩
  · omega
theorem unitL_is {l : List UInt8} (h0 : 6 ≤ l.length) (h1 : byt l 0 = 92) (h2 : byt l 1 = 117) (h3 : hexOk l 4 = true) : unitL l = hexN l 4 := by
  rw [unitL, if_pos ⟨h0, h1, h2, h3⟩]
theorem unitL_no {l : List UInt8} (h : ¬ (6 ≤ l.length ∧ byt l 0 = 92 ∧ byt l 1 = 117 ∧ hexOk l 4 = true)) : unitL l = -1 := by
  rw [unitL, if_neg h]
theorem unitL_bd (l : List UInt8) : -1 ≤ unitL l ∧ unitL l ≤ 65535 := by
  by_cases h : 0 ≤ unitL l
  · obtain ⟨_, _, _, h4, h5⟩ := unitL_yes h
    have := hex_bd l 4 h4
    omega
  · unfold unitL
    split
    · rename_i h1
      have := hex_bd l 4 h1.2.2.2
      omega
    · omega
theorem unitL_pre (l r : List UInt8) (n : Nat) (hn : 6 ≤ n) (hl : n ≤ l.length) (h : 0 ≤ unitL l) : unitL (l.take n ++ r) = unitL l := by
  obtain ⟨h1, h2, h3, h4, h5⟩ := unitL_yes h
  have e := hex_cong (l.take n ++ r) l 4 fun j hj => byt_pre l r n j (by omega) hl
  rw [h5, unitL_is (by simp; omega) (by rw [byt_pre _ _ _ _ (by omega) hl]; exact h2) (by rw [byt_pre _ _ _ _ (by omega) hl]; exact h3) (by rw [e.2]; exact h4), e.1]

/-- the point that a letter behind a stroke stands for; -1: none -/
def letV (c : Int) : Int := if c = 34 then 34 else if c = 92 then 92 else if c = 47 then 47 else if c = 98 then 8 else if c = 102 then 12 else if c = 110 then 10 else if c = 114 then 13 else if c = 116 then 9 else -1
theorem letV_lo (c : Int) : -1 ≤ letV c := by unfold letV; (repeat' split) <;> omega
theorem letV_hi (c : Int) : letV c ≤ 92 := by unfold letV; (repeat' split) <;> omega
theorem letV_set (c : Int) (h : 0 ≤ letV c) : (letV c = 34 ∨ letV c = 92 ∨ letV c = 47 ∨ letV c = 8 ∨ letV c = 12 ∨ letV c = 10 ∨ letV c = 13 ∨ letV c = 9) ∧ c ≠ 117 := by
  unfold letV at h ⊢; (repeat' split at h) <;> simp_all

def isUp (u : Int) : Bool := decide (55296 ≤ u ∧ u < 56320)
def isLo (u : Int) : Bool := decide (56320 ≤ u ∧ u < 57344)
theorem isUp_bd {u : Int} (h : isUp u = true) : 55296 ≤ u ∧ u < 56320 := by simpa [isUp] using h
theorem isLo_bd {u : Int} (h : isLo u = true) : 56320 ≤ u ∧ u < 57344 := by simpa [isLo] using h
theorem isPt_of (u : Int) (h0 : 0 ≤ u) (h1 : u ≤ 65535) (hu : isUp u = false) (hl : isLo u = false) : isPt u = true := by
  simp [isUp, isLo, isPt] at *
  omega
theorem isPt_up {u : Int} (h : isUp u = true) : isPt u = false := by have := isUp_bd h; simp [isPt]; omega
theorem isPt_lo' {u : Int} (h : isLo u = true) : isPt u = false := by have := isLo_bd h; simp [isPt]; omega

/-- the point of two halves -/
def bothV (u b : Int) : Int := 65536 + (u - 55296) * 1024 + (b - 56320)
theorem bothV_bd {u b : Int} (hu : isUp u = true) (hb : isLo b = true) : 65536 ≤ bothV u b ∧ bothV u b ≤ 1114111 := by
  have := isUp_bd hu; have := isLo_bd hb; unfold bothV; omega

/-- what stands at a stroke: a number (a half of two, too), how many bytes it has, an error -/
def escU (l : List UInt8) : Int × Int × Int :=
  if l.length < 2 then (0, 0, 20) else if 0 ≤ letV (byt l 1) then (letV (byt l 1), 2, 0) else if 0 ≤ unitL l then (unitL l, 6, 0) else (0, 0, 20)
/-- likewise, within a quote -/
def uniL (l : List UInt8) : Int × Int × Int :=
  if (oneL l).2 = 0 then (0, 0, 10) else if (oneL l).1 < 32 then (0, 0, 20) else if (oneL l).1 = 92 then escU l else ((oneL l).1, (oneL l).2, 0)

/-- the point of an escape, and how many bytes it has; 0: none -/
def escL (l : List UInt8) : Int × Int :=
  if 2 ≤ l.length ∧ 0 ≤ letV (byt l 1) then (letV (byt l 1), 2)
  else if unitL l < 0 then (0, 0)
  else if isPt (unitL l) = true then (unitL l, 6)
  else if isUp (unitL l) = true ∧ isLo (unitL (l.drop 6)) = true then (bothV (unitL l) (unitL (l.drop 6)), 12)
  else (0, 0)
/-- the point that stands at a place of a quote, and how many bytes it has; 0: none, and an error, or none at the closing quote -/
def stepL (l : List UInt8) : Int × Int × Int :=
  if l.length = 0 then (0, 0, 20) else if byt l 0 = 34 then (0, 0, 0) else if byt l 0 < 32 then (0, 0, 20)
  else if byt l 0 = 92 then (if (escL l).2 = 0 then (0, 0, 20) else ((escL l).1, (escL l).2, 0))
  else if (oneL l).2 = 0 then (0, 0, 10) else ((oneL l).1, (oneL l).2, 0)

/-- a byte below 80 is a point by itself, and only such a point is -/
theorem one_low {l : List UInt8} (h0 : l.length ≠ 0) (h : byt l 0 < 128) : oneL l = (byt l 0, 1) := by
  unfold oneL; rw [if_neg h0, if_pos h]
theorem one_high {l : List UInt8} (h : 128 ≤ byt l 0) (hn : (oneL l).2 ≠ 0) : 128 ≤ (oneL l).1 := by
  rcases oneL_reads l with h1 | ⟨h1, h2, h3⟩
  · rw [h1] at hn; simp at hn
  · rcases Int.lt_or_le (oneL l).1 128 with h4 | h4
    · have e := byt_enc (oneL l).1 (l.drop (enc (oneL l).1).length) 0 (oneL l).1 (by rw [encZ_1 h1 h4]; rfl)
      rw [h3] at e
      omega
    · exact h4

theorem escL_n (l : List UInt8) : escL l = (0, 0) ∨ (isPt (escL l).1 = true ∧ 1 ≤ (escL l).2 ∧ (escL l).2 ≤ 12 ∧ (escL l).2 ≤ l.length ∧ ((enc (escL l).1).length : Int) ≤ (escL l).2) := by
  unfold escL
  by_cases h1 : 2 ≤ l.length ∧ 0 ≤ letV (byt l 1)
  · rw [if_pos h1]
    right
    have h3 := letV_hi (byt l 1)
    have hp : isPt (letV (byt l 1)) = true := by simp [isPt]; omega
    refine ⟨hp, by simp, by simp, by simp; omega, ?_⟩
    have : (enc (letV (byt l 1))).length = 1 := by rw [enc_len, encZ_1 hp (by omega)]; rfl
    simp [this]
  · rw [if_neg h1]
    by_cases h2 : unitL l < 0
    · rw [if_pos h2]; exact .inl rfl
    · rw [if_neg h2]
      obtain ⟨g1, _⟩ := unitL_yes (l := l) (by omega)
      have gb := unitL_bd l
      by_cases h3 : isPt (unitL l) = true
      · rw [if_pos h3]
        right
        refine ⟨h3, by simp, by simp, by simp; omega, ?_⟩
        have := enc_le (unitL l)
        simp; omega
      · rw [if_neg h3]
        by_cases h4 : isUp (unitL l) = true ∧ isLo (unitL (l.drop 6)) = true
        · rw [if_pos h4]
          right
          have hb := bothV_bd h4.1 h4.2
          have hl := isLo_bd h4.2
          obtain ⟨g2, _⟩ := unitL_yes (l := l.drop 6) (by omega)
          simp at g2
          refine ⟨by simp [isPt]; omega, by simp, by simp, by simp; omega, ?_⟩
          have := enc_le (bothV (unitL l) (unitL (l.drop 6)))
          simp; omega
        · rw [if_neg h4]; exact .inl rfl

theorem stepL_n (l : List UInt8) : ((stepL l).2.1 = 0 ∧ (stepL l).1 = 0) ∨ (isPt (stepL l).1 = true ∧ 1 ≤ (stepL l).2.1 ∧ (stepL l).2.1 ≤ 12 ∧ (stepL l).2.1 ≤ l.length ∧ ((enc (stepL l).1).length : Int) ≤ (stepL l).2.1 ∧ (stepL l).2.2 = 0) := by
  unfold stepL
  by_cases h0 : l.length = 0
  · rw [if_pos h0]; exact .inl ⟨rfl, rfl⟩
  · rw [if_neg h0]
    by_cases h1 : byt l 0 = 34
    · rw [if_pos h1]; exact .inl ⟨rfl, rfl⟩
    · rw [if_neg h1]
      by_cases h2 : byt l 0 < 32
      · rw [if_pos h2]; exact .inl ⟨rfl, rfl⟩
      · rw [if_neg h2]
        by_cases h3 : byt l 0 = 92
        · rw [if_pos h3]
          rcases escL_n l with h4 | ⟨a, b, c, d, e⟩
          · rw [h4]; exact .inl ⟨rfl, rfl⟩
          · rw [if_neg (by omega)]; exact .inr ⟨a, b, c, d, e, rfl⟩
        · rw [if_neg h3]
          rcases oneL_n l with h4 | ⟨a, b, c, d⟩
          · rw [h4]; exact .inl ⟨rfl, rfl⟩
          · rw [if_neg (by omega)]
            refine .inr ⟨a, b, by simp only; omega, d, ?_, rfl⟩
            rcases oneL_reads l with h5 | ⟨_, h6, _⟩
            · rw [h5] at b; simp at b
            · simp only; omega

/-- what is read from a place within a quote on: the points, how many bytes they have, the error -/
def readF : Nat → List UInt8 → List Int × Nat × Int
  | 0, l => ([], 0, (stepL l).2.2)
  | f + 1, l => if (stepL l).2.1 = 0 then ([], 0, (stepL l).2.2)
    else ((stepL l).1 :: (readF f (l.drop (stepL l).2.1.toNat)).1, (stepL l).2.1.toNat + (readF f (l.drop (stepL l).2.1.toNat)).2.1, (readF f (l.drop (stepL l).2.1.toNat)).2.2)
def readL (l : List UInt8) : List Int × Nat × Int := readF l.length l
theorem readF_nil (f : Nat) : readF f [] = ([], 0, 20) := by cases f <;> rfl
theorem readF_fuel : ∀ (f g : Nat) (l : List UInt8), l.length ≤ f → l.length ≤ g → readF f l = readF g l := by
  intro f
  induction f with
  | zero =>
    intro g l h _
    rw [List.eq_nil_of_length_eq_zero (show l.length = 0 by omega), readF_nil, readF_nil]
  | succ f ih =>
    intro g l hf hg
    cases g with
    | zero => rw [List.eq_nil_of_length_eq_zero (show l.length = 0 by omega), readF_nil, readF_nil]
    | succ g =>
      simp only [readF]
      by_cases h : (stepL l).2.1 = 0
      · rw [if_pos h, if_pos h]
      · rw [if_neg h, if_neg h]
        rcases stepL_n l with h1 | ⟨_, h1, _, h2, _⟩
        · exact absurd h1.1 h
        · rw [ih g (l.drop (stepL l).2.1.toNat) (by simp; omega) (by simp; omega)]
theorem readL_stop {l : List UInt8} (h : (stepL l).2.1 = 0) : readL l = ([], 0, (stepL l).2.2) := by
  unfold readL
  cases l with
  | nil => rfl
  | cons a l => simp only [List.length_cons, readF]; rw [if_pos h]
theorem readL_go {l : List UInt8} (h : (stepL l).2.1 ≠ 0) : readL l = ((stepL l).1 :: (readL (l.drop (stepL l).2.1.toNat)).1, (stepL l).2.1.toNat + (readL (l.drop (stepL l).2.1.toNat)).2.1, (readL (l.drop (stepL l).2.1.toNat)).2.2) := by
  rcases stepL_n l with h1 | ⟨_, h1, _, h2, _⟩
  · exact absurd h1.1 h
  · obtain ⟨k, hk⟩ : ∃ k, l.length = k + 1 := ⟨l.length - 1, by omega⟩
    unfold readL
    rw [hk, readF, if_neg h, readF_fuel k _ _ (by simp; omega) (Nat.le_refl _)]

theorem stepL_e (l : List UInt8) (h : (stepL l).2.1 = 0) : (stepL l).2.2 = 10 ∨ (stepL l).2.2 = 20 ∨ ((stepL l).2.2 = 0 ∧ l.length ≠ 0 ∧ byt l 0 = 34) := by
  unfold stepL at h ⊢
  by_cases h0 : l.length = 0
  · rw [if_pos h0]; exact .inr (.inl rfl)
  · rw [if_neg h0] at h ⊢
    by_cases h1 : byt l 0 = 34
    · rw [if_pos h1]; exact .inr (.inr ⟨rfl, h0, h1⟩)
    · rw [if_neg h1] at h ⊢
      by_cases h2 : byt l 0 < 32
      · rw [if_pos h2]; exact .inr (.inl rfl)
      · rw [if_neg h2] at h ⊢
        by_cases h3 : byt l 0 = 92
        · rw [if_pos h3] at h ⊢
          by_cases h4 : (escL l).2 = 0
          · rw [if_pos h4]; exact .inr (.inl rfl)
          · rw [if_neg h4] at h; exact absurd h h4
        · rw [if_neg h3] at h ⊢
          by_cases h4 : (oneL l).2 = 0
          · rw [if_pos h4]; exact .inl rfl
          · rw [if_neg h4] at h; exact absurd h h4

/-- what is read in all -/
theorem readL_facts (l : List UInt8) : (readL l).2.1 ≤ l.length ∧ (encL (readL l).1).length ≤ (readL l).2.1 ∧ (∀ p ∈ (readL l).1, isPt p = true) ∧
    ((readL l).2.2 = 10 ∨ (readL l).2.2 = 20 ∨ ((readL l).2.2 = 0 ∧ (readL l).2.1 < l.length ∧ byt l (readL l).2.1 = 34)) := by
  induction l using pts_ind with
  | h l ih =>
    by_cases h : (stepL l).2.1 = 0
    · rw [readL_stop h]
      refine ⟨by simp, by simp [encL], by simp, ?_⟩
      rcases stepL_e l h with h1 | h1 | ⟨h1, h2, h3⟩
      · exact .inl h1
      · exact .inr (.inl h1)
      · exact .inr (.inr ⟨h1, by simp only; omega, h3⟩)
    · rcases stepL_n l with h1 | ⟨h3, h1, h4, h2, h5, _⟩
      · exact absurd h1.1 h
      · have hi := ih (stepL l).2.1.toNat (by omega) (by omega)
        rw [readL_go h]
        obtain ⟨a, b, c, d⟩ := hi
        simp only [List.length_drop] at a
        refine ⟨by simp only; omega, by rw [encL_cons]; simp only [List.length_append]; omega, ?_, ?_⟩
        · intro p hp
          simp at hp
          rcases hp with rfl | hp
          · exact h3
          · exact c p hp
        · rcases d with d | d | ⟨d1, d2, d3⟩
          · exact .inl d
          · exact .inr (.inl d)
          · refine .inr (.inr ⟨d1, ?_, ?_⟩)
            · simp only [List.length_drop] at d2; simp only; omega
            · rw [byt_drop] at d3; exact d3
end Go.Proofs.YthokaeaefmajjaaDoor.Ch
