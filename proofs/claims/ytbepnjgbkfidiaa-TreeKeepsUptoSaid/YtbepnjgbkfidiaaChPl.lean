import Derived.Test.YtbepnjgbkfidiaaUtfPl
import Derived.Test.YtbepnjgbkfidiaaUtfA
import Derived.Lib.AppendStr
/- Plain facts on quoted texts: what stands at a place of a quote, and what is read of one. No run of the program in this text. -/
namespace Go.Proofs.Ytbepnjgbkfidiaa.Ch
open Go.RowKit
open Go.Proofs.Ytbepnjgbkfidiaa.Utf

theorem byt_cons0 (a : UInt8) (l : List UInt8) : byt (a :: l) 0 = (a.toNat : Int) := rfl
theorem byt_cons1 (a : UInt8) (l : List UInt8) (k : Nat) : byt (a :: l) (k + 1) = byt l k := by simp [byt]
theorem byt_end (l : List UInt8) (k : Nat) (h : l.length ≤ k) : byt l k = 0 := by unfold byt; rw [List.getD_eq_getElem?_getD, List.getElem?_eq_none h]; rfl
theorem byt_app (l r : List UInt8) (k : Nat) (h : k < l.length) : byt (l ++ r) k = byt l k := by unfold byt; rw [List.getD_eq_getElem?_getD, List.getD_eq_getElem?_getD, List.getElem?_append_left h]
theorem byt_take (l : List UInt8) (n k : Nat) (h : k < n) : byt (l.take n) k = byt l k := by unfold byt; rw [List.getD_eq_getElem?_getD, List.getD_eq_getElem?_getD, List.getElem?_take_of_lt h]
theorem byt_pre (l r : List UInt8) (n k : Nat) (h : k < n) (hn : n ≤ l.length) : byt (l.take n ++ r) k = byt l k := by
  rw [byt_app _ _ _ (by rw [List.length_take]; omega), byt_take _ _ _ h]

/-- a hexadecimal digit's value; -1: it is none -/
def digV (c : Int) : Int := if 48 ≤ c ∧ c ≤ 57 then c - 48 else if 65 ≤ c ∧ c ≤ 70 then c - 55 else if 97 ≤ c ∧ c ≤ 102 then c - 87 else -1
theorem digV_lo (c : Int) : -1 ≤ digV c := by unfold digV; (repeat' split) <;> omega
theorem digV_hi (c : Int) : digV c ≤ 15 := by unfold digV; (repeat' split) <;> omega

/-- the number of k digits behind place 2, and whether they are digits -/
def hexN (l : List UInt8) : Nat → Int
  | 0 => 0
  | k + 1 => hexN l k * 16 + digV (byt l (k + 2))
def hexOk (l : List UInt8) : Nat → Bool
  | 0 => true
  | k + 1 => hexOk l k && decide (0 ≤ digV (byt l (k + 2)))
theorem hexOk_pre {l : List UInt8} {k : Nat} (h : hexOk l (k + 1) = true) : hexOk l k = true ∧ 0 ≤ digV (byt l (k + 2)) := by
  simpa [hexOk] using h
theorem hex_bd (l : List UInt8) : ∀ k, hexOk l k = true → 0 ≤ hexN l k ∧ hexN l k < 16 ^ k := by
  intro k
  induction k with
  | zero => intro _; simp [hexN]
  | succ k ih =>
    intro h
    obtain ⟨h1, h2⟩ := hexOk_pre h
    have := ih h1
    have h3 := digV_hi (byt l (k + 2))
    simp only [hexN, Int.pow_succ]
    omega
theorem hexOk_mono (l : List UInt8) (k : Nat) (h : hexOk l k = false) : ∀ n, k ≤ n → hexOk l n = false := by
  intro n hn
  induction n with
  | zero => have : k = 0 := by omega
            subst this; exact h
  | succ n ih =>
    by_cases e : k = n + 1
    · subst e; exact h
    · simp [hexOk, ih (by omega)]
theorem hex_cong (l m : List UInt8) : ∀ k, (∀ j, j < k + 2 → byt l j = byt m j) → hexN l k = hexN m k ∧ hexOk l k = hexOk m k := by
  intro k
  induction k with
  | zero => intro _; exact ⟨rfl, rfl⟩
  | succ k ih =>
    intro h
    have := ih fun j hj => h j (by omega)
    simp [hexN, hexOk, this.1, this.2, h (k + 2) (by omega)]

/-- the number of a stroke, u and four digits; -1: they don't stand there -/
def unitL (l : List UInt8) : Int := if 6 ≤ l.length ∧ byt l 0 = 92 ∧ byt l 1 = 117 ∧ hexOk l 4 = true then hexN l 4 else -1
theorem unitL_yes {l : List UInt8} (h : 0 ≤ unitL l) : 6 ≤ l.length ∧ byt l 0 = 92 ∧ byt l 1 = 117 ∧ hexOk l 4 = true ∧ unitL l = hexN l 4 := by
  unfold unitL at h ⊢
  split at h
  · rename_i h1
    rw [if_pos h1]
    exact ⟨h1.1, h1.2.1, h1.2.2.1, h1.2.2.2, rfl⟩
  · omega
theorem unitL_is {l : List UInt8} (h0 : 6 ≤ l.length) (h1 : byt l 0 = 92) (h2 : byt l 1 = 117) (h3 : hexOk l 4 = true) : unitL l = hexN l 4 := by
  rw [unitL, if_pos ⟨h0, h1, h2, h3⟩]
theorem unitL_no {l : List UInt8} (h : ¬ (6 ≤ l.length ∧ byt l 0 = 92 ∧ byt l 1 = 117 ∧ hexOk l 4 = true)) : unitL l = -1 := by
  rw [unitL, if_neg h]
theorem unitL_bd (l : List UInt8) : -1 ≤ unitL l ∧ unitL l ≤ 65535 := by
  by_cases h : 0 ≤ unitL l
  · obtain ⟨_, _, _, h4, h5⟩ := unitL_yes h
    have := hex_bd l 4 h4
    omega
  · unfold unitL
    split
    · rename_i h1
      have := hex_bd l 4 h1.2.2.2
      omega
    · omega
theorem unitL_pre (l r : List UInt8) (n : Nat) (hn : 6 ≤ n) (hl : n ≤ l.length) (h : 0 ≤ unitL l) : unitL (l.take n ++ r) = unitL l := by
  obtain ⟨h1, h2, h3, h4, h5⟩ := unitL_yes h
  have e := hex_cong (l.take n ++ r) l 4 fun j hj => byt_pre l r n j (by omega) hl
  rw [h5, unitL_is (by simp; omega) (by rw [byt_pre _ _ _ _ (by omega) hl]; exact h2) (by rw [byt_pre _ _ _ _ (by omega) hl]; exact h3) (by rw [e.2]; exact h4), e.1]

/-- the point that a letter behind a stroke stands for; -1: none -/
def letV (c : Int) : Int := if c = 34 then 34 else if c = 92 then 92 else if c = 47 then 47 else if c = 98 then 8 else if c = 102 then 12 else if c = 110 then 10 else if c = 114 then 13 else if c = 116 then 9 else -1
theorem letV_lo (c : Int) : -1 ≤ letV c := by unfold letV; (repeat' split) <;> omega
theorem letV_hi (c : Int) : letV c ≤ 92 := by unfold letV; (repeat' split) <;> omega
theorem letV_set (c : Int) (h : 0 ≤ letV c) : (letV c = 34 ∨ letV c = 92 ∨ letV c = 47 ∨ letV c = 8 ∨ letV c = 12 ∨ letV c = 10 ∨ letV c = 13 ∨ letV c = 9) ∧ c ≠ 117 := by
  unfold letV at h ⊢; (repeat' split at h) <;> simp_all

def isUp (u : Int) : Bool := decide (55296 ≤ u ∧ u < 56320)
def isLo (u : Int) : Bool := decide (56320 ≤ u ∧ u < 57344)
theorem isUp_bd {u : Int} (h : isUp u = true) : 55296 ≤ u ∧ u < 56320 := by simpa [isUp] using h
theorem isLo_bd {u : Int} (h : isLo u = true) : 56320 ≤ u ∧ u < 57344 := by simpa [isLo] using h
theorem isPt_of (u : Int) (h0 : 0 ≤ u) (h1 : u ≤ 65535) (hu : isUp u = false) (hl : isLo u = false) : isPt u = true := by
  simp [isUp, isLo, isPt] at *
  omega
theorem isPt_up {u : Int} (h : isUp u = true) : isPt u = false := by have := isUp_bd h; simp [isPt]; omega
theorem isPt_lo' {u : Int} (h : isLo u = true) : isPt u = false := by have := isLo_bd h; simp [isPt]; omega

/-- the point of two halves -/
def bothV (u b : Int) : Int := 65536 + (u - 55296) * 1024 + (b - 56320)
theorem bothV_bd {u b : Int} (hu : isUp u = true) (hb : isLo b = true) : 65536 ≤ bothV u b ∧ bothV u b ≤ 1114111 := by
  have := isUp_bd hu; have := isLo_bd hb; unfold bothV; omega

/-- what stands at a stroke: a number (a half of two, too), how many bytes it has, an error -/
def escU (l : List UInt8) : Int × Int × Int :=
  if l.length < 2 then (0, 0, 20) else if 0 ≤ letV (byt l 1) then (letV (byt l 1), 2, 0) else if 0 ≤ unitL l then (unitL l, 6, 0) else (0, 0, 20)
/-- likewise, within a quote -/
def uniL (l : List UInt8) : Int × Int × Int :=
  if (oneL l).2 = 0 then (0, 0, 10) else if (oneL l).1 < 32 then (0, 0, 20) else if (oneL l).1 = 92 then escU l else ((oneL l).1, (oneL l).2, 0)

/-- the point of an escape, and how many bytes it has; 0: none -/
def escL (l : List UInt8) : Int × Int :=
  if 2 ≤ l.length ∧ 0 ≤ letV (byt l 1) then (letV (byt l 1), 2)
  else if unitL l < 0 then (0, 0)
  else if isPt (unitL l) = true then (unitL l, 6)
  else if isUp (unitL l) = true ∧ isLo (unitL (l.drop 6)) = true then (bothV (unitL l) (unitL (l.drop 6)), 12)
  else (0, 0)
/-- the point that stands at a place of a quote, and how many bytes it has; 0: none, and an error, or none at the closing quote -/
def stepL (l : List UInt8) : Int × Int × Int :=
  if l.length = 0 then (0, 0, 20) else if byt l 0 = 34 then (0, 0, 0) else if byt l 0 < 32 then (0, 0, 20)
  else if byt l 0 = 92 then (if (escL l).2 = 0 then (0, 0, 20) else ((escL l).1, (escL l).2, 0))
  else if (oneL l).2 = 0 then (0, 0, 10) else ((oneL l).1, (oneL l).2, 0)

/-- a byte below 80 is a point by itself, and only such a point is -/
theorem one_low {l : List UInt8} (h0 : l.length ≠ 0) (h : byt l 0 < 128) : oneL l = (byt l 0, 1) := by
  unfold oneL; rw [if_neg h0, if_pos h]
theorem one_high {l : List UInt8} (h : 128 ≤ byt l 0) (hn : (oneL l).2 ≠ 0) : 128 ≤ (oneL l).1 := by
  rcases oneL_reads l with h1 | ⟨h1, h2, h3⟩
  · rw [h1] at hn; simp at hn
  · rcases Int.lt_or_le (oneL l).1 128 with h4 | h4
    · have e := byt_enc (oneL l).1 (l.drop (enc (oneL l).1).length) 0 (oneL l).1 (by rw [encZ_1 h1 h4]; rfl)
      rw [h3] at e
      omega
    · exact h4

theorem escL_n (l : List UInt8) : escL l = (0, 0) ∨ (isPt (escL l).1 = true ∧ 1 ≤ (escL l).2 ∧ (escL l).2 ≤ 12 ∧ (escL l).2 ≤ l.length ∧ ((enc (escL l).1).length : Int) ≤ (escL l).2) := by
  unfold escL
  by_cases h1 : 2 ≤ l.length ∧ 0 ≤ letV (byt l 1)
  · rw [if_pos h1]
    right
    have h3 := letV_hi (byt l 1)
    have hp : isPt (letV (byt l 1)) = true := by simp [isPt]; omega
    refine ⟨hp, by simp, by simp, by simp; omega, ?_⟩
    have : (enc (letV (byt l 1))).length = 1 := by rw [enc_len, encZ_1 hp (by omega)]; rfl
    simp [this]
  · rw [if_neg h1]
    by_cases h2 : unitL l < 0
    · rw [if_pos h2]; exact .inl rfl
    · rw [if_neg h2]
      obtain ⟨g1, _⟩ := unitL_yes (l := l) (by omega)
      have gb := unitL_bd l
      by_cases h3 : isPt (unitL l) = true
      · rw [if_pos h3]
        right
        refine ⟨h3, by simp, by simp, by simp; omega, ?_⟩
        have := enc_le (unitL l)
        simp; omega
      · rw [if_neg h3]
        by_cases h4 : isUp (unitL l) = true ∧ isLo (unitL (l.drop 6)) = true
        · rw [if_pos h4]
          right
          have hb := bothV_bd h4.1 h4.2
          have hl := isLo_bd h4.2
          obtain ⟨g2, _⟩ := unitL_yes (l := l.drop 6) (by omega)
          simp at g2
          refine ⟨by simp [isPt]; omega, by simp, by simp, by simp; omega, ?_⟩
          have := enc_le (bothV (unitL l) (unitL (l.drop 6)))
          simp; omega
        · rw [if_neg h4]; exact .inl rfl

theorem stepL_n (l : List UInt8) : ((stepL l).2.1 = 0 ∧ (stepL l).1 = 0) ∨ (isPt (stepL l).1 = true ∧ 1 ≤ (stepL l).2.1 ∧ (stepL l).2.1 ≤ 12 ∧ (stepL l).2.1 ≤ l.length ∧ ((enc (stepL l).1).length : Int) ≤ (stepL l).2.1 ∧ (stepL l).2.2 = 0) := by
  unfold stepL
  by_cases h0 : l.length = 0
  · rw [if_pos h0]; exact .inl ⟨rfl, rfl⟩
  · rw [if_neg h0]
    by_cases h1 : byt l 0 = 34
    · rw [if_pos h1]; exact .inl ⟨rfl, rfl⟩
    · rw [if_neg h1]
      by_cases h2 : byt l 0 < 32
      · rw [if_pos h2]; exact .inl ⟨rfl, rfl⟩
      · rw [if_neg h2]
        by_cases h3 : byt l 0 = 92
        · rw [if_pos h3]
          rcases escL_n l with h4 | ⟨a, b, c, d, e⟩
          · rw [h4]; exact .inl ⟨rfl, rfl⟩
          · rw [if_neg (by omega)]; exact .inr ⟨a, b, c, d, e, rfl⟩
        · rw [if_neg h3]
          rcases oneL_n l with h4 | ⟨a, b, c, d⟩
          · rw [h4]; exact .inl ⟨rfl, rfl⟩
          · rw [if_neg (by omega)]
            refine .inr ⟨a, b, by simp only; omega, d, ?_, rfl⟩
            rcases oneL_reads l with h5 | ⟨_, h6, _⟩
            · rw [h5] at b; simp at b
            · simp only; omega

/-- what is read from a place within a quote on: the points, how many bytes they have, the error -/
def readF : Nat → List UInt8 → List Int × Nat × Int
  | 0, l => ([], 0, (stepL l).2.2)
  | f + 1, l => if (stepL l).2.1 = 0 then ([], 0, (stepL l).2.2)
    else ((stepL l).1 :: (readF f (l.drop (stepL l).2.1.toNat)).1, (stepL l).2.1.toNat + (readF f (l.drop (stepL l).2.1.toNat)).2.1, (readF f (l.drop (stepL l).2.1.toNat)).2.2)
def readL (l : List UInt8) : List Int × Nat × Int := readF l.length l
theorem readF_nil (f : Nat) : readF f [] = ([], 0, 20) := by cases f <;> rfl
theorem readF_fuel : ∀ (f g : Nat) (l : List UInt8), l.length ≤ f → l.length ≤ g → readF f l = readF g l := by
  intro f
  induction f with
  | zero =>
    intro g l h _
    rw [List.eq_nil_of_length_eq_zero (show l.length = 0 by omega), readF_nil, readF_nil]
  | succ f ih =>
    intro g l hf hg
    cases g with
    | zero => rw [List.eq_nil_of_length_eq_zero (show l.length = 0 by omega), readF_nil, readF_nil]
    | succ g =>
      simp only [readF]
      by_cases h : (stepL l).2.1 = 0
      · rw [if_pos h, if_pos h]
      · rw [if_neg h, if_neg h]
        rcases stepL_n l with h1 | ⟨_, h1, _, h2, _⟩
        · exact absurd h1.1 h
        · rw [ih g (l.drop (stepL l).2.1.toNat) (by simp; omega) (by simp; omega)]
theorem readL_stop {l : List UInt8} (h : (stepL l).2.1 = 0) : readL l = ([], 0, (stepL l).2.2) := by
  unfold readL
  cases l with
  | nil => rfl
  | cons a l => simp only [List.length_cons, readF]; rw [if_pos h]
theorem readL_go {l : List UInt8} (h : (stepL l).2.1 ≠ 0) : readL l = ((stepL l).1 :: (readL (l.drop (stepL l).2.1.toNat)).1, (stepL l).2.1.toNat + (readL (l.drop (stepL l).2.1.toNat)).2.1, (readL (l.drop (stepL l).2.1.toNat)).2.2) := by
  rcases stepL_n l with h1 | ⟨_, h1, _, h2, _⟩
  · exact absurd h1.1 h
  · obtain ⟨k, hk⟩ : ∃ k, l.length = k + 1 := ⟨l.length - 1, by omega⟩
    unfold readL
    rw [hk, readF, if_neg h, readF_fuel k _ _ (by simp; omega) (Nat.le_refl _)]

theorem stepL_e (l : List UInt8) (h : (stepL l).2.1 = 0) : (stepL l).2.2 = 10 ∨ (stepL l).2.2 = 20 ∨ ((stepL l).2.2 = 0 ∧ l.length ≠ 0 ∧ byt l 0 = 34) := by
  unfold stepL at h ⊢
  by_cases h0 : l.length = 0
  · rw [if_pos h0]; exact .inr (.inl rfl)
  · rw [if_neg h0] at h ⊢
    by_cases h1 : byt l 0 = 34
    · rw [if_pos h1]; exact .inr (.inr ⟨rfl, h0, h1⟩)
    · rw [if_neg h1] at h ⊢
      by_cases h2 : byt l 0 < 32
      · rw [if_pos h2]; exact .inr (.inl rfl)
      · rw [if_neg h2] at h ⊢
        by_cases h3 : byt l 0 = 92
        · rw [if_pos h3] at h ⊢
          by_cases h4 : (escL l).2 = 0
          · rw [if_pos h4]; exact .inr (.inl rfl)
          · rw [if_neg h4] at h; exact absurd h h4
        · rw [if_neg h3] at h ⊢
          by_cases h4 : (oneL l).2 = 0
          · rw [if_pos h4]; exact .inl rfl
          · rw [if_neg h4] at h; exact absurd h h4

/-- what is read in all -/
theorem readL_facts (l : List UInt8) : (readL l).2.1 ≤ l.length ∧ (encL (readL l).1).length ≤ (readL l).2.1 ∧ (∀ p ∈ (readL l).1, isPt p = true) ∧
    ((readL l).2.2 = 10 ∨ (readL l).2.2 = 20 ∨ ((readL l).2.2 = 0 ∧ (readL l).2.1 < l.length ∧ byt l (readL l).2.1 = 34)) := by
  induction l using pts_ind with
  | h l ih =>
    by_cases h : (stepL l).2.1 = 0
    · rw [readL_stop h]
      refine ⟨by simp, by simp [encL], by simp, ?_⟩
      rcases stepL_e l h with h1 | h1 | ⟨h1, h2, h3⟩
      · exact .inl h1
      · exact .inr (.inl h1)
      · exact .inr (.inr ⟨h1, by simp only; omega, h3⟩)
    · rcases stepL_n l with h1 | ⟨h3, h1, h4, h2, h5, _⟩
      · exact absurd h1.1 h
      · have hi := ih (stepL l).2.1.toNat (by omega) (by omega)
        rw [readL_go h]
        obtain ⟨a, b, c, d⟩ := hi
        simp only [List.length_drop] at a
        refine ⟨by simp only; omega, by rw [encL_cons]; simp only [List.length_append]; omega, ?_, ?_⟩
        · intro p hp
          simp at hp
          rcases hp with rfl | hp
          · exact h3
          · exact c p hp
        · rcases d with d | d | ⟨d1, d2, d3⟩
          · exact .inl d
          · exact .inr (.inl d)
          · refine .inr (.inr ⟨d1, ?_, ?_⟩)
            · simp only [List.length_drop] at d2; simp only; omega
            · rw [byt_drop] at d3; exact d3
end Go.Proofs.Ytbepnjgbkfidiaa.Ch
/- Plain facts on quoted texts: the program's way, half by half, against the document's; where a loop stands. No run of the program in this text. -/
namespace Go.Proofs.Ytbepnjgbkfidiaa.Ch
open Go.RowKit
open Go.Proofs.Ytbepnjgbkfidiaa.Utf

/-- no number is escaped where no stroke, u and letters' room stands -/
theorem unitL_low {l : List UInt8} (h : byt l 0 ≠ 92) : unitL l = -1 := unitL_no fun x => h x.2.1
theorem unitL_nil {l : List UInt8} (h : l.length = 0) : unitL l = -1 := unitL_no fun x => by omega

/-- the four ways of what stands within a quote -/
theorem uniL_bad {l : List UInt8} (h : (oneL l).2 = 0) : uniL l = (0, 0, 10) := by unfold uniL; rw [if_pos h]
theorem uniL_ctl {l : List UInt8} (h0 : l.length ≠ 0) (h : byt l 0 < 32) : uniL l = (0, 0, 20) := by
  have e := one_low h0 (by omega)
  unfold uniL; rw [e, if_neg (by simp), if_pos h]
theorem uniL_esc {l : List UInt8} (h0 : l.length ≠ 0) (h : byt l 0 = 92) : uniL l = escU l := by
  have e := one_low h0 (by omega)
  unfold uniL; rw [e, h]; rfl
theorem uniL_pt {l : List UInt8} (h0 : l.length ≠ 0) (h : (oneL l).2 ≠ 0) (h1 : ¬ byt l 0 < 32) (h2 : byt l 0 ≠ 92) : uniL l = ((oneL l).1, (oneL l).2, 0) := by
  unfold uniL
  rw [if_neg h]
  by_cases h3 : byt l 0 < 128
  · rw [one_low h0 h3, if_neg h1, if_neg h2]
  · have := one_high (by omega) h
    rw [if_neg (by omega), if_neg (by omega)]

theorem stepL_ctl {l : List UInt8} (h0 : l.length ≠ 0) (h : byt l 0 < 32) : stepL l = (0, 0, 20) := by
  unfold stepL; rw [if_neg h0, if_neg (by omega), if_pos h]
theorem stepL_esc {l : List UInt8} (h0 : l.length ≠ 0) (h : byt l 0 = 92) : stepL l = if (escL l).2 = 0 then (0, 0, 20) else ((escL l).1, (escL l).2, 0) := by
  unfold stepL; rw [if_neg h0, if_neg (by omega), if_neg (by omega), if_pos h]
theorem stepL_pt {l : List UInt8} (h0 : l.length ≠ 0) (h1 : ¬ byt l 0 < 32) (h2 : byt l 0 ≠ 92) (h3 : byt l 0 ≠ 34) : stepL l = if (oneL l).2 = 0 then (0, 0, 10) else ((oneL l).1, (oneL l).2, 0) := by
  unfold stepL; rw [if_neg h0, if_neg h3, if_neg h1, if_neg h2]
theorem stepL_quote {l : List UInt8} (h0 : l.length ≠ 0) (h : byt l 0 = 34) : stepL l = (0, 0, 0) := by
  unfold stepL; rw [if_neg h0, if_pos h]
theorem stepL_end {l : List UInt8} (h0 : l.length = 0) : stepL l = (0, 0, 20) := by
  unfold stepL; rw [if_pos h0]

/-- an escape: a letter's -/
theorem escU_let {l : List UInt8} (h : 2 ≤ l.length) (hl : 0 ≤ letV (byt l 1)) : escU l = (letV (byt l 1), 2, 0) ∧ escL l = (letV (byt l 1), 2) := by
  constructor
  · unfold escU; rw [if_neg (by omega), if_pos hl]
  · unfold escL; rw [if_pos ⟨h, hl⟩]
theorem not_let {l : List UInt8} (h : 0 ≤ unitL l) : ¬ 0 ≤ letV (byt l 1) := by
  obtain ⟨_, _, h3, _⟩ := unitL_yes h
  intro hc
  exact (letV_set _ hc).2 h3
theorem escU_unit {l : List UInt8} (h : 0 ≤ unitL l) : escU l = (unitL l, 6, 0) := by
  obtain ⟨h1, _⟩ := unitL_yes h
  unfold escU; rw [if_neg (by omega), if_neg (not_let h), if_pos h]
theorem escU_none {l : List UInt8} (h : l.length < 2 ∨ ¬ 0 ≤ letV (byt l 1)) (hu : unitL l < 0) : escU l = (0, 0, 20) ∧ escL l = (0, 0) := by
  constructor
  · unfold escU
    by_cases h1 : l.length < 2
    · rw [if_pos h1]
    · rw [if_neg h1, if_neg (by omega), if_neg (by omega)]
  · unfold escL; rw [if_neg (by omega), if_pos hu]
theorem escL_unit {l : List UInt8} (h : 0 ≤ unitL l) : escL l = if isPt (unitL l) = true then (unitL l, 6) else if isUp (unitL l) = true ∧ isLo (unitL (l.drop 6)) = true then (bothV (unitL l) (unitL (l.drop 6)), 12) else (0, 0) := by
  unfold escL; rw [if_neg (fun x => not_let h x.2), if_neg (by omega)]

/-- what stands within a quote: its number fits, its bytes are there -/
theorem uniL_bd (l : List UInt8) : 0 ≤ (uniL l).1 ∧ (uniL l).1 ≤ 1114111 ∧ 0 ≤ (uniL l).2.1 ∧ (uniL l).2.1 ≤ 6 ∧ (uniL l).2.1 ≤ l.length ∧ ((uniL l).2.2 = 0 ∨ (uniL l).2.2 = 10 ∨ (uniL l).2.2 = 20) := by
  unfold uniL
  rcases oneL_n l with h1 | ⟨a, b, c, d⟩
  · rw [h1]; simp
  · have a0 := isPt_lo a
    have a1 := isPt_hi a
    rw [if_neg (by omega)]
    by_cases h2 : (oneL l).1 < 32
    · rw [if_pos h2]; simp
    · rw [if_neg h2]
      by_cases h3 : (oneL l).1 = 92
      · rw [if_pos h3]
        unfold escU
        by_cases h4 : l.length < 2
        · rw [if_pos h4]; simp
        · rw [if_neg h4]
          by_cases h5 : 0 ≤ letV (byt l 1)
          · have := letV_hi (byt l 1)
            rw [if_pos h5]; exact ⟨by simp only; omega, by simp only; omega, by simp only; omega, by simp only; omega, by simp only; omega, .inl rfl⟩
          · rw [if_neg h5]
            by_cases h6 : 0 ≤ unitL l
            · obtain ⟨g, _⟩ := unitL_yes h6
              have := unitL_bd l
              rw [if_pos h6]; exact ⟨by simp only; omega, by simp only; omega, by simp only; omega, by simp only; omega, by simp only; omega, .inl rfl⟩
            · rw [if_neg h6]; simp
      · rw [if_neg h3]; exact ⟨by simp only; omega, by simp only; omega, by simp only; omega, by simp only; omega, by simp only; omega, .inl rfl⟩

/-- where the program's way stops at once, the document's does, with the same error -/
theorem uniL_err {l : List UInt8} (h0 : l.length ≠ 0) (hq : byt l 0 ≠ 34) (he : (uniL l).2.2 ≠ 0) : stepL l = (0, 0, (uniL l).2.2) := by
  by_cases h1 : byt l 0 < 32
  · rw [stepL_ctl h0 h1, uniL_ctl h0 h1]
  · by_cases h2 : byt l 0 = 92
    · rw [uniL_esc h0 h2] at he ⊢
      rw [stepL_esc h0 h2]
      by_cases h3 : 2 ≤ l.length ∧ 0 ≤ letV (byt l 1)
      · rw [(escU_let h3.1 h3.2).1] at he; simp at he
      · by_cases h4 : 0 ≤ unitL l
        · rw [escU_unit h4] at he; simp at he
        · have := escU_none (l := l) (by omega) (by omega)
          rw [this.1, this.2]; rfl
    · rw [stepL_pt h0 h1 h2 hq]
      by_cases h3 : (oneL l).2 = 0
      · rw [uniL_bad h3, if_pos h3]
      · rw [uniL_pt h0 h3 h1 h2] at he; simp at he
/-- a number that is neither half is the point of both ways -/
theorem uniL_both {l : List UInt8} (h0 : l.length ≠ 0) (hq : byt l 0 ≠ 34) (he : (uniL l).2.2 = 0) (hu : isUp (uniL l).1 = false) (hl : isLo (uniL l).1 = false) : stepL l = uniL l := by
  by_cases h1 : byt l 0 < 32
  · rw [uniL_ctl h0 h1] at he; simp at he
  · by_cases h2 : byt l 0 = 92
    · rw [uniL_esc h0 h2] at he hu hl ⊢
      rw [stepL_esc h0 h2]
      by_cases h3 : 2 ≤ l.length ∧ 0 ≤ letV (byt l 1)
      · have := escU_let h3.1 h3.2
        rw [this.1, this.2]; rfl
      · by_cases h4 : 0 ≤ unitL l
        · rw [escU_unit h4] at hu hl ⊢
          have gb := unitL_bd l
          rw [escL_unit h4, if_pos (isPt_of _ h4 gb.2 hu hl)]; rfl
        · have := escU_none (l := l) (by omega) (by omega)
          rw [this.1] at he; simp at he
    · rw [stepL_pt h0 h1 h2 hq]
      by_cases h3 : (oneL l).2 = 0
      · rw [uniL_bad h3] at he; simp at he
      · rw [uniL_pt h0 h3 h1 h2, if_neg h3]
/-- a half is always an escape -/
theorem uniL_half {l : List UInt8} (h0 : l.length ≠ 0) (h : isUp (uniL l).1 = true ∨ isLo (uniL l).1 = true) : byt l 0 = 92 ∧ 0 ≤ unitL l ∧ uniL l = (unitL l, 6, 0) := by
  have hp : isPt (uniL l).1 = false := by rcases h with h | h; exact isPt_up h; exact isPt_lo' h
  have h92 : ∀ n : Int, 0 ≤ n → n ≤ 92 → isPt n = true := by intro n a b; simp [isPt]; omega
  by_cases h1 : byt l 0 < 32
  · rw [uniL_ctl h0 h1] at hp; simp [isPt] at hp
  · by_cases h2 : byt l 0 = 92
    · refine ⟨h2, ?_⟩
      rw [uniL_esc h0 h2] at hp ⊢
      by_cases h3 : 2 ≤ l.length ∧ 0 ≤ letV (byt l 1)
      · rw [(escU_let h3.1 h3.2).1, h92 _ h3.2 (letV_hi _)] at hp; simp at hp
      · by_cases h4 : 0 ≤ unitL l
        · exact ⟨h4, escU_unit h4⟩
        · have := escU_none (l := l) (by omega) (by omega)
          rw [this.1] at hp; simp [isPt] at hp
    · by_cases h3 : (oneL l).2 = 0
      · rw [uniL_bad h3] at hp; simp [isPt] at hp
      · rw [uniL_pt h0 h3 h1 h2, oneL_pt h3] at hp; simp at hp
/-- a second half that stands first -/
theorem stepL_lo {l : List UInt8} (h0 : l.length ≠ 0) (h : isLo (uniL l).1 = true) : stepL l = (0, 0, 20) := by
  obtain ⟨a, b, c⟩ := uniL_half h0 (.inr h)
  rw [c] at h
  simp only at h
  have hu : isUp (unitL l) = false := by have := isLo_bd h; simp [isUp]; omega
  have e : escL l = (0, 0) := by rw [escL_unit b, if_neg (by rw [isPt_lo' h]; simp), if_neg (by rw [hu]; simp)]
  rw [stepL_esc h0 a, e]; rfl
/-- a first half: what it and the next one are -/
theorem stepL_up {l : List UInt8} (h0 : l.length ≠ 0) (h : isUp (uniL l).1 = true) : stepL l = if isLo (unitL (l.drop 6)) = true then (bothV (uniL l).1 (unitL (l.drop 6)), 12, 0) else (0, 0, 20) := by
  obtain ⟨a, b, c⟩ := uniL_half h0 (.inl h)
  rw [c] at h ⊢
  simp only at h ⊢
  by_cases h2 : isLo (unitL (l.drop 6)) = true
  · have e : escL l = (bothV (unitL l) (unitL (l.drop 6)), 12) := by rw [escL_unit b, if_neg (by rw [isPt_up h]; simp), if_pos ⟨h, h2⟩]
    rw [stepL_esc h0 a, e, if_pos h2]; rfl
  · have e : escL l = (0, 0) := by rw [escL_unit b, if_neg (by rw [isPt_up h]; simp), if_neg (fun x => h2 x.2)]
    rw [stepL_esc h0 a, e, if_neg h2]; rfl
/-- what comes behind a first half is a second one just if the program says so -/
theorem unitL_second {l : List UInt8} (h0 : l.length ≠ 0) (h : isLo (unitL l) = true) : byt l 0 = 92 ∧ uniL l = (unitL l, 6, 0) := by
  have hb := isLo_bd h
  obtain ⟨h1, h2, _⟩ := unitL_yes (l := l) (by omega)
  exact ⟨h2, by rw [uniL_esc h0 h2, escU_unit (by omega)]⟩

/-- WHERE A LOOP OVER A QUOTE STANDS: at byte k, with the points ps -/
def RdAt (l : List UInt8) (k : Nat) (ps : List Int) : Prop :=
  k ≤ l.length ∧ (encL ps).length ≤ k ∧ readL l = (ps ++ (readL (l.drop k)).1, k + (readL (l.drop k)).2.1, (readL (l.drop k)).2.2)
theorem RdAt.start (l : List UInt8) : RdAt l 0 [] := ⟨by omega, by simp [encL], by simp⟩
theorem RdAt.step {l : List UInt8} {k : Nat} {ps : List Int} {p : Int} {m : Nat} (h : RdAt l k ps) (hs : stepL (l.drop k) = (p, (m : Int), 0)) (hm : m ≠ 0) : RdAt l (k + m) (ps ++ [p]) := by
  obtain ⟨h1, h2, h3⟩ := h
  have hn := stepL_n (l.drop k)
  rw [hs] at hn
  simp only [List.length_drop] at hn
  have hg := readL_go (l := l.drop k) (by rw [hs]; simpa using hm)
  rw [hs] at hg
  simp only [Int.toNat_natCast, List.drop_drop] at hg
  refine ⟨by omega, ?_, ?_⟩
  · rw [encL_append]; simp [encL] at h2 ⊢; omega
  · rw [h3, hg]; simp [Nat.add_assoc]
theorem RdAt.stop {l : List UInt8} {k : Nat} {ps : List Int} (h : RdAt l k ps) (hs : (stepL (l.drop k)).2.1 = 0) : readL l = (ps, k, (stepL (l.drop k)).2.2) := by
  rw [h.2.2, readL_stop hs]; simp

/-- WHAT IS READ of the quote at a place: the text's bytes, a place, an error -/
def readS (l : List UInt8) (a : Int) : List UInt8 × Int × Int :=
  if a < 0 ∨ (l.length : Int) ≤ a ∨ byt l a.toNat ≠ 34 then ([], a, 20)
  else if (readL (l.drop (a.toNat + 1))).2.2 = 0 then (encL (readL (l.drop (a.toNat + 1))).1, a + 1 + (readL (l.drop (a.toNat + 1))).2.1 + 1, 0)
  else ([], a + 1 + (readL (l.drop (a.toNat + 1))).2.1, (readL (l.drop (a.toNat + 1))).2.2)
theorem readS_out {l : List UInt8} {a : Int} (h : a < 0 ∨ (l.length : Int) ≤ a ∨ byt l a.toNat ≠ 34) : readS l a = ([], a, 20) := by rw [readS, if_pos h]
theorem readS_in {l : List UInt8} {q : Nat} (h : q < l.length) (hb : byt l q = 34) : readS l q = if (readL (l.drop (q + 1))).2.2 = 0 then (encL (readL (l.drop (q + 1))).1, (q : Int) + 1 + (readL (l.drop (q + 1))).2.1 + 1, 0)
  else ([], (q : Int) + 1 + (readL (l.drop (q + 1))).2.1, (readL (l.drop (q + 1))).2.2) := by
  rw [readS, if_neg (by rw [Int.toNat_natCast]; omega), Int.toNat_natCast]
end Go.Proofs.Ytbepnjgbkfidiaa.Ch
/- What a loop over a quote ends with, told of numbers; bounds. No run of the program in this text. -/
namespace Go.Proofs.Ytbepnjgbkfidiaa.Ch
open Go.RowKit
open Go.Proofs.Ytbepnjgbkfidiaa.Utf

theorem RdAt.err {l : List UInt8} {k : Nat} {ps : List Int} {e : Int} (h : RdAt l k ps) (hs : stepL (l.drop k) = (0, 0, e)) : readL l = (ps, k, e) := by
  have := h.stop (by rw [hs])
  rw [this, hs]
theorem RdAt.le {l : List UInt8} {k : Nat} {ps : List Int} (h : RdAt l k ps) : k ≤ (readL l).2.1 := by
  rw [h.2.2]; simp only; omega
theorem readS_bad {l : List UInt8} {q k : Nat} {ps : List Int} {e : Int} (h : q < l.length) (hb : byt l q = 34) (hr : readL (l.drop (q + 1)) = (ps, k, e)) (he : e ≠ 0) : readS l q = ([], (q : Int) + 1 + k, e) := by
  rw [readS_in h hb, hr, if_neg he]
theorem readS_ok {l : List UInt8} {q k : Nat} {ps : List Int} (h : q < l.length) (hb : byt l q = 34) (hr : readL (l.drop (q + 1)) = (ps, k, 0)) : readS l q = (encL ps, (q : Int) + 1 + k + 1, 0) := by
  rw [readS_in h hb, hr, if_pos rfl]
theorem uniL_pos {l : List UInt8} (h0 : l.length ≠ 0) (hq : byt l 0 ≠ 34) (he : (uniL l).2.2 = 0) : 1 ≤ (uniL l).2.1 := by
  by_cases hu : isUp (uniL l).1 = true
  · rw [(uniL_half h0 (.inl hu)).2.2]; simp
  · by_cases hl : isLo (uniL l).1 = true
    · rw [(uniL_half h0 (.inr hl)).2.2]; simp
    · have e := uniL_both h0 hq he (by simpa using hu) (by simpa using hl)
      have hn := stepL_n l
      have h2 := he
      rw [← e] at he ⊢
      rcases hn with h | h
      · exfalso
        have h3 := stepL_e l h.1
        rw [he] at h3
        rcases h3 with h3 | h3 | h3
        · simp at h3
        · simp at h3
        · exact hq h3.2.2
      · exact h.2.1
/-- the bytes of a point that is read are those that stand there -/
theorem one_take {l : List UInt8} {p : Int} {m : Nat} (h : oneL l = (p, (m : Int))) (hm : m ≠ 0) : l.take m = enc p := by
  rcases oneL_reads l with h1 | ⟨_, h2, h3⟩
  · rw [h] at h1
    have := congrArg Prod.snd h1
    simp at this
    omega
  · rw [h] at h2 h3
    simp only at h2 h3
    have e : m = (enc p).length := by omega
    conv => lhs; rw [← h3]
    rw [e, List.take_left']
    rfl
/-- .. where it isn't escaped -/
theorem uniL_one {l : List UInt8} {p : Int} {m : Nat} (h0 : l.length ≠ 0) (h2 : byt l 0 ≠ 92) (h : uniL l = (p, (m : Int), 0)) : oneL l = (p, (m : Int)) := by
  by_cases h1 : byt l 0 < 32
  · rw [uniL_ctl h0 h1] at h
    have := congrArg (fun x => x.2.2) h
    simp at this
  · by_cases h3 : (oneL l).2 = 0
    · rw [uniL_bad h3] at h
      have := congrArg (fun x => x.2.2) h
      simp at this
    · rw [uniL_pt h0 h3 h1 h2] at h
      have a := congrArg Prod.fst h
      have b := congrArg (fun x => x.2.1) h
      simp only at a b
      rw [Prod.ext_iff]
      exact ⟨a, b⟩
/-- a first half, and what comes behind it -/
theorem up_len {l : List UInt8} {u : Int} (h : uniL l = (u, 6, 0)) : l.length ≠ 0 := by
  have := uniL_bd l
  rw [h] at this
  simp only at this
  omega
theorem up_stop {l : List UInt8} {j : Nat} {u : Int} (hup : isUp u = true) (h : uniL (l.drop j) = (u, 6, 0)) (hn : isLo (unitL (l.drop (j + 6))) = false) : stepL (l.drop j) = (0, 0, 20) := by
  rw [stepL_up (up_len h) (by rw [h]; exact hup), List.drop_drop, if_neg (by rw [hn]; simp)]
theorem up_go {l : List UInt8} {j : Nat} {u : Int} (hup : isUp u = true) (h : uniL (l.drop j) = (u, 6, 0)) (hn : isLo (unitL (l.drop (j + 6))) = true) : stepL (l.drop j) = (bothV u (unitL (l.drop (j + 6))), 12, 0) := by
  rw [stepL_up (up_len h) (by rw [h]; exact hup), List.drop_drop, if_pos hn, h]
/-- what is no second half -/
theorem second_no {l : List UInt8} {p n e : Int} (h0 : l.length ≠ 0) (h : uniL l = (p, n, e)) (hn : e ≠ 0 ∨ isLo p = false) : isLo (unitL l) = false := by
  cases hc : isLo (unitL l) with
  | false => rfl
  | true =>
    have := (unitL_second h0 hc).2
    rw [h] at this
    have a := congrArg Prod.fst this
    have b := congrArg (fun x => x.2.2) this
    simp only at a b
    rcases hn with hn | hn
    · exact absurd b hn
    · rw [a, hc] at hn; simp at hn
theorem second_yes {l : List UInt8} {p n : Int} (h0 : l.length ≠ 0) (h : uniL l = (p, n, 0)) (hn : isLo p = true) : unitL l = p ∧ n = 6 := by
  have := (uniL_half h0 (by rw [h]; exact .inr hn)).2.2
  rw [h] at this
  exact ⟨(congrArg Prod.fst this).symm, congrArg (fun x => x.2.1) this⟩
theorem first_yes {l : List UInt8} {p n : Int} (h0 : l.length ≠ 0) (h : uniL l = (p, n, 0)) (hn : isUp p = true) : n = 6 := by
  have := (uniL_half h0 (by rw [h]; exact .inl hn)).2.2
  rw [h] at this
  exact congrArg (fun x => x.2.1) this
theorem strCells_of (l : List UInt8) : Lib.strCells (strOf l) = Lib.byteCells l := rfl
theorem strCells_extract (s : ByteArray) (a m : Nat) (p : Int) (h : oneL (s.data.toList.drop a) = (p, (m : Int))) (hm : m ≠ 0) : Lib.strCells (s.extract a (a + m)) = Lib.byteCells (enc p) := by
  have e := one_take h hm
  unfold Lib.strCells Lib.byteCells
  rw [← e]
  congr 1
  simp [ByteArray.data_extract]
end Go.Proofs.Ytbepnjgbkfidiaa.Ch
/- Plain facts on quoting: what is quoted is read as it was; what is read behind its closing quote doesn't matter. No run of the program in this text. -/
namespace Go.Proofs.Ytbepnjgbkfidiaa.Ch
open Go.RowKit
open Go.Proofs.Ytbepnjgbkfidiaa.Utf

def toB (l : List Int) : List UInt8 := l.map fun x => UInt8.ofNat x.toNat
theorem toB_len (l : List Int) : (toB l).length = l.length := by simp [toB]
theorem byt_toB (xs : List Int) (r : List UInt8) (k : Nat) (x : Int) (h : xs[k]? = some x) (h0 : 0 ≤ x) (h1 : x < 256) : byt (toB xs ++ r) k = x := by
  have hk : k < xs.length := by
    rcases Nat.lt_or_ge k xs.length with h2 | h2
    · exact h2
    · rw [List.getElem?_eq_none h2] at h; cases h
  rw [byt_app _ _ _ (by rw [toB_len]; exact hk)]
  unfold byt toB
  rw [List.getD_eq_getElem?_getD, List.getElem?_map, h]
  simp
  omega
theorem byteCells_toB (l : List Int) (h : ∀ x ∈ l, 0 ≤ x ∧ x < 256) : Lib.byteCells (toB l) = l.map (Value.int .u8) := by
  simp only [Lib.byteCells, toB, List.map_map]
  apply List.map_congr_left
  intro x hx
  obtain ⟨h0, h1⟩ := h x hx
  simp [Function.comp]
  omega

/-- a small digit of hexadecimal, as a byte -/
def hexV (d : Int) : Int := if d < 10 then 48 + d else 87 + d
theorem hexV_bd {d : Int} (h0 : 0 ≤ d) (h1 : d ≤ 15) : 48 ≤ hexV d ∧ hexV d ≤ 102 := by unfold hexV; split <;> omega
theorem digV_hexV {d : Int} (h0 : 0 ≤ d) (h1 : d ≤ 15) : digV (hexV d) = d := by unfold digV hexV; (repeat' split) <;> omega
/-- a great one -/
def hexU (d : Int) : Int := if d < 10 then 48 + d else 55 + d
theorem hexU_bd {d : Int} (h0 : 0 ≤ d) (h1 : d ≤ 15) : 48 ≤ hexU d ∧ hexU d ≤ 70 := by unfold hexU; split <;> omega
theorem digV_hexU {d : Int} (h0 : 0 ≤ d) (h1 : d ≤ 15) : digV (hexU d) = d := by unfold digV hexU; (repeat' split) <;> omega

/-- a number that is escaped is there -/
theorem unitL_toB (a b c d x y z t : Int) (r : List UInt8) (ha : digV a = x) (hb : digV b = y) (hc : digV c = z) (hd : digV d = t) (h : 0 ≤ x ∧ 0 ≤ y ∧ 0 ≤ z ∧ 0 ≤ t)
    (ba : 0 ≤ a ∧ a < 256) (bb : 0 ≤ b ∧ b < 256) (bc : 0 ≤ c ∧ c < 256) (bd : 0 ≤ d ∧ d < 256) : unitL (toB [92, 117, a, b, c, d] ++ r) = ((x * 16 + y) * 16 + z) * 16 + t := by
  have e2 := byt_toB [92, 117, a, b, c, d] r 2 a rfl ba.1 ba.2
  have e3 := byt_toB [92, 117, a, b, c, d] r 3 b rfl bb.1 bb.2
  have e4 := byt_toB [92, 117, a, b, c, d] r 4 c rfl bc.1 bc.2
  have e5 := byt_toB [92, 117, a, b, c, d] r 5 d rfl bd.1 bd.2
  rw [unitL_is (by rw [List.length_append, toB_len]; simp) (byt_toB _ r 0 92 rfl (by decide) (by decide)) (byt_toB _ r 1 117 rfl (by decide) (by decide)) (by simp [hexOk, e2, e3, e4, e5, ha, hb, hc, hd, h])]
  simp [hexN, e2, e3, e4, e5, ha, hb, hc, hd]

/-- is a point, or a byte, quoted otherwise than as itself? -/
def special (p : Int) : Bool := decide (p < 32 ∨ p = 34 ∨ p = 92)
def escZ (p : Int) : List Int :=
  if p = 34 ∨ p = 92 then [92, p] else if p = 8 then [92, 98] else if p = 9 then [92, 116] else if p = 10 then [92, 110] else if p = 12 then [92, 102] else if p = 13 then [92, 114]
  else [92, 117, 48, 48, hexV (p / 16), hexV (p % 16)]
/-- what a point is, quoted; what a byte is -/
def qptZ (p : Int) : List Int := if special p = true then escZ p else encZ p
def qbZ (c : Int) : List Int := if special c = true then escZ c else [c]
def qpt (p : Int) : List UInt8 := toB (qptZ p)
def qb (c : UInt8) : List UInt8 := toB (qbZ c.toNat)
def qL (ps : List Int) : List UInt8 := (ps.map qpt).flatten
def qbL (l : List UInt8) : List UInt8 := (l.map qb).flatten
theorem qL_cons (p : Int) (ps : List Int) : qL (p :: ps) = qpt p ++ qL ps := by simp [qL]
theorem qbL_append (a b : List UInt8) : qbL (a ++ b) = qbL a ++ qbL b := by simp [qbL]
theorem qL_append (a b : List Int) : qL (a ++ b) = qL a ++ qL b := by simp [qL]

theorem escZ_byte {p : Int} (h0 : 0 ≤ p) (h1 : special p = true) : ∀ x ∈ escZ p, 0 ≤ x ∧ x < 256 := by
  simp [special] at h1
  have a := hexV_bd (d := p / 16)
  have b := hexV_bd (d := p % 16)
  intro x hx
  unfold escZ at hx
  by_cases c1 : p = 34 ∨ p = 92
  · rw [if_pos c1] at hx; simp at hx; omega
  · rw [if_neg c1] at hx
    have a := hexV_bd (d := p / 16) (by omega) (by omega)
    have b := hexV_bd (d := p % 16) (by omega) (by omega)
    (repeat' split at hx) <;> (simp at hx; omega)
theorem escZ_le (p : Int) : 2 ≤ (escZ p).length ∧ (escZ p).length ≤ 6 := by unfold escZ; (repeat' split) <;> simp
theorem qbZ_byte (c : Int) (h0 : 0 ≤ c) (h1 : c ≤ 255) : ∀ x ∈ qbZ c, 0 ≤ x ∧ x < 256 := by
  unfold qbZ
  by_cases h : special c = true
  · rw [if_pos h]; exact escZ_byte h0 h
  · rw [if_neg h]; intro x hx; simp at hx; omega
theorem qb_le (c : UInt8) : (qb c).length ≤ 6 := by
  unfold qb qbZ
  rw [toB_len]
  split
  · exact (escZ_le _).2
  · simp
theorem qpt_le (p : Int) : (qpt p).length ≤ 6 := by
  unfold qpt qptZ
  rw [toB_len]
  split
  · exact (escZ_le _).2
  · have := encZ_le p; omega
theorem qbL_le (l : List UInt8) : (qbL l).length ≤ 6 * l.length := by
  induction l with
  | nil => simp [qbL]
  | cons a l ih =>
    have := qb_le a
    simp [qbL] at ih ⊢
    omega

theorem toB_encZ (p : Int) : toB (encZ p) = enc p := rfl
theorem encZ_high {p : Int} (h : isPt p = true) (h1 : 128 ≤ p) : ∀ x ∈ encZ p, 128 ≤ x ∧ x < 256 := by
  have a := isPt_hi h
  intro x hx
  by_cases c1 : p < 2048
  · rw [encZ_2 h h1 c1] at hx; simp at hx; omega
  · by_cases c2 : p < 65536
    · rw [encZ_3 h (by omega) c2] at hx; simp at hx; omega
    · rw [encZ_4 h (by omega)] at hx; simp at hx; omega
theorem flat_self (xs : List Int) (h : ∀ x ∈ xs, 128 ≤ x ∧ x < 256) : qbL (toB xs) = toB xs := by
  induction xs with
  | nil => rfl
  | cons x xs ih =>
    have hx := h x (by simp)
    have e : qb (UInt8.ofNat x.toNat) = [UInt8.ofNat x.toNat] := by
      have : ((UInt8.ofNat x.toNat).toNat : Int) = x := by simp; omega
      unfold qb qbZ
      rw [this, if_neg (by simp [special]; omega)]
      rfl
    have := ih fun y hy => h y (by simp [hy])
    simp [qbL, toB] at this ⊢
    rw [e, this]
    rfl
/-- quoted byte by byte is quoted point by point -/
theorem qbL_enc {p : Int} (h : isPt p = true) : qbL (enc p) = qpt p := by
  have a := isPt_lo h
  by_cases h1 : p < 128
  · have e : enc p = [UInt8.ofNat p.toNat] := by unfold enc; rw [encZ_1 h h1]; rfl
    have e2 : ((UInt8.ofNat p.toNat).toNat : Int) = p := by simp; omega
    rw [e]
    simp only [qbL, List.map_cons, List.map_nil, List.flatten_cons, List.flatten_nil, List.append_nil]
    unfold qb qbZ qpt qptZ
    rw [e2, encZ_1 h h1]
  · have e := flat_self (encZ p) (encZ_high h (by omega))
    rw [toB_encZ] at e
    rw [e]
    unfold qpt qptZ
    rw [if_neg (by simp [special]; omega)]
    rfl
theorem qbL_encL (ps : List Int) (h : ∀ p ∈ ps, isPt p = true) : qbL (encL ps) = qL ps := by
  induction ps with
  | nil => rfl
  | cons p ps ih => rw [encL_cons, qbL_append, qL_cons, qbL_enc (h p (by simp)), ih fun q hq => h q (by simp [hq])]

/-- a point that is quoted is read as it was -/
theorem stepL_let (c p : Int) (r : List UInt8) (h0 : 0 ≤ c) (h1 : c < 256) (hp : letV c = p) (hp0 : 0 ≤ p) : stepL (toB [92, c] ++ r) = (p, 2, 0) := by
  have e0 := byt_toB [92, c] r 0 92 rfl (by decide) (by decide)
  have e1 := byt_toB [92, c] r 1 c rfl h0 h1
  have hl : 2 ≤ (toB [92, c] ++ r).length := by rw [List.length_append, toB_len]; simp
  have e := (escU_let (l := toB [92, c] ++ r) hl (by rw [e1, hp]; exact hp0)).2
  rw [stepL_esc (by omega) e0, e, e1, hp]
  rfl
theorem stepL_unit {l : List UInt8} {p : Int} (h : unitL l = p) (hp : isPt p = true) : stepL l = (p, 6, 0) := by
  have a := isPt_lo hp
  obtain ⟨h1, h2, _⟩ := unitL_yes (l := l) (by omega)
  have e : escL l = (p, 6) := by rw [escL_unit (by omega), h, if_pos hp]
  rw [stepL_esc (by omega) h2, e]
  rfl
theorem stepL_qpt {p : Int} (h : isPt p = true) (r : List UInt8) : stepL (qpt p ++ r) = (p, ((qpt p).length : Int), 0) ∧ (qpt p).length ≠ 0 := by
  have a := isPt_lo h
  unfold qpt qptZ
  by_cases hs : special p = true
  · rw [if_pos hs]
    have hs' : p < 32 ∨ p = 34 ∨ p = 92 := by simpa [special] using hs
    refine ⟨?_, by rw [toB_len]; have := escZ_le p; omega⟩
    unfold escZ
    by_cases c1 : p = 34 ∨ p = 92
    · rw [if_pos c1]
      rcases c1 with rfl | rfl
      · exact stepL_let 34 34 r (by decide) (by decide) (by decide) (by decide)
      · exact stepL_let 92 92 r (by decide) (by decide) (by decide) (by decide)
    · rw [if_neg c1]
      by_cases c2 : p = 8
      · subst c2; exact stepL_let 98 8 r (by decide) (by decide) (by decide) (by decide)
      · rw [if_neg c2]
        by_cases c3 : p = 9
        · subst c3; exact stepL_let 116 9 r (by decide) (by decide) (by decide) (by decide)
        · rw [if_neg c3]
          by_cases c4 : p = 10
          · subst c4; exact stepL_let 110 10 r (by decide) (by decide) (by decide) (by decide)
          · rw [if_neg c4]
            by_cases c5 : p = 12
            · subst c5; exact stepL_let 102 12 r (by decide) (by decide) (by decide) (by decide)
            · rw [if_neg c5]
              by_cases c6 : p = 13
              · subst c6; exact stepL_let 114 13 r (by decide) (by decide) (by decide) (by decide)
              · rw [if_neg c6]
                have b1 := hexV_bd (d := p / 16) (by omega) (by omega)
                have b2 := hexV_bd (d := p % 16) (by omega) (by omega)
                have := unitL_toB 48 48 (hexV (p / 16)) (hexV (p % 16)) 0 0 (p / 16) (p % 16) r (by decide) (by decide) (digV_hexV (by omega) (by omega)) (digV_hexV (by omega) (by omega)) (by omega) (by decide) (by decide) (by omega) (by omega)
                exact stepL_unit (p := p) (by rw [this]; omega) h
  · rw [if_neg hs, toB_encZ]
    have hs' : ¬ (p < 32 ∨ p = 34 ∨ p = 92) := by simpa [special] using hs
    have hpos := enc_pos h
    have e := oneL_enc p h r
    have h0 : (enc p ++ r).length ≠ 0 := by rw [List.length_append]; omega
    have hb : byt (enc p ++ r) 0 = p ∨ 128 ≤ byt (enc p ++ r) 0 := by
      by_cases h1 : p < 128
      · exact .inl (byt_enc p r 0 p (by rw [encZ_1 h h1]; rfl))
      · right
        have hz := encZ_high h (by omega)
        have hl : 0 < (encZ p).length := by rw [← enc_len]; omega
        have := byt_enc p r 0 (encZ p)[0] (List.getElem?_eq_getElem hl)
        have := hz _ (List.getElem_mem hl)
        omega
    refine ⟨?_, by omega⟩
    rw [stepL_pt h0 (by omega) (by omega) (by omega), e, if_neg (by simp only; omega)]

/-- what is quoted is read as it was, whatever comes behind -/
theorem readL_qL (ps : List Int) (h : ∀ p ∈ ps, isPt p = true) (r : List UInt8) : readL (qL ps ++ r) = (ps ++ (readL r).1, (qL ps).length + (readL r).2.1, (readL r).2.2) := by
  induction ps with
  | nil => simp [qL]
  | cons p ps ih =>
    obtain ⟨e, hn⟩ := stepL_qpt (h p (by simp)) (qL ps ++ r)
    rw [qL_cons, List.append_assoc, readL_go (by rw [e]; simp only; omega), e]
    simp only [Int.toNat_natCast, List.drop_left']
    rw [ih fun q hq => h q (by simp [hq])]
    simp [Nat.add_assoc]
theorem readL_close (r : List UInt8) : readL (34 :: r) = ([], 0, 0) := by
  have e : stepL (34 :: r) = (0, 0, 0) := stepL_quote (by simp) rfl
  rw [readL_stop (by rw [e]), e]
end Go.Proofs.Ytbepnjgbkfidiaa.Ch
/- Plain facts on quoting: lengths; what stands behind what is read doesn't matter. No run of the program in this text. -/
namespace Go.Proofs.Ytbepnjgbkfidiaa.Ch
open Go.RowKit
open Go.Proofs.Ytbepnjgbkfidiaa.Utf

/-- what is read takes no more room when it is quoted -/
theorem step_qpt_len (l : List UInt8) (h : (stepL l).2.1 ≠ 0) : ((qpt (stepL l).1).length : Int) ≤ (stepL l).2.1 := by
  have six := qpt_le (stepL l).1
  unfold stepL at h six ⊢
  by_cases h0 : l.length = 0
  · rw [if_pos h0] at h; simp at h
  · rw [if_neg h0] at h six ⊢
    by_cases h1 : byt l 0 = 34
    · rw [if_pos h1] at h; simp at h
    · rw [if_neg h1] at h six ⊢
      by_cases h2 : byt l 0 < 32
      · rw [if_pos h2] at h; simp at h
      · rw [if_neg h2] at h six ⊢
        by_cases h3 : byt l 0 = 92
        · rw [if_pos h3] at h six ⊢
          by_cases h4 : (escL l).2 = 0
          · rw [if_pos h4] at h; simp at h
          · rw [if_neg h4] at six ⊢
            simp only at six ⊢
            clear h
            unfold escL at h4 six ⊢
            by_cases h5 : 2 ≤ l.length ∧ 0 ≤ letV (byt l 1)
            · rw [if_pos h5]
              simp only
              rcases (letV_set _ h5.2).1 with e | e | e | e | e | e | e | e <;> (rw [e]; decide)
            · rw [if_neg h5] at h4 six ⊢
              by_cases h6 : unitL l < 0
              · rw [if_pos h6] at h4; simp at h4
              · rw [if_neg h6] at h4 six ⊢
                by_cases h7 : isPt (unitL l) = true
                · rw [if_pos h7] at six ⊢; simp only at six ⊢; omega
                · rw [if_neg h7] at h4 six ⊢
                  by_cases h8 : isUp (unitL l) = true ∧ isLo (unitL (l.drop 6)) = true
                  · rw [if_pos h8] at six ⊢; simp only at six ⊢; omega
                  · rw [if_neg h8] at h4; simp at h4
        · rw [if_neg h3] at h six ⊢
          by_cases h4 : (oneL l).2 = 0
          · rw [if_pos h4] at h; simp at h
          · rw [if_neg h4]
            simp only
            have hp : special (oneL l).1 = false := by
              by_cases h5 : byt l 0 < 128
              · rw [one_low h0 h5]; simp [special]; omega
              · have := one_high (by omega) h4
                simp [special]; omega
            unfold qpt qptZ
            rw [if_neg (by rw [hp]; simp), toB_encZ]
            rcases oneL_reads l with h5 | ⟨_, h6, _⟩
            · rw [h5] at h4; simp at h4
            · omega
theorem readL_qlen (l : List UInt8) : (qL (readL l).1).length ≤ (readL l).2.1 := by
  induction l using pts_ind with
  | h l ih =>
    by_cases h : (stepL l).2.1 = 0
    · rw [readL_stop h]; simp [qL]
    · rcases stepL_n l with h1 | ⟨h3, h1, h4, h2, h5, _⟩
      · exact absurd h1.1 h
      · have hi := ih (stepL l).2.1.toNat (by omega) (by omega)
        have hs := step_qpt_len l h
        rw [readL_go h]
        simp only
        rw [qL_cons, List.length_append]
        omega

/-- what is read hangs on the bytes that are read alone -/
theorem oneL_pre (l r : List UInt8) (n : Nat) (h : (oneL l).2 = (n : Int)) (hn : n ≠ 0) : oneL (l.take n ++ r) = oneL l := by
  rcases oneL_reads l with h1 | ⟨h1, h2, h3⟩
  · rw [h1] at h; simp at h; omega
  · have e : n = (enc (oneL l).1).length := by omega
    have et := one_take (l := l) (p := (oneL l).1) (m := n) (by rw [Prod.ext_iff]; exact ⟨rfl, h⟩) hn
    rw [et, oneL_enc _ h1, Prod.ext_iff]
    exact ⟨rfl, by simp only; omega⟩
theorem stepL_pre (l r : List UInt8) (n : Nat) (h : (stepL l).2.1 = (n : Int)) (hn : n ≠ 0) : stepL (l.take n ++ r) = stepL l := by
  have hnn := stepL_n l
  have hnl : n ≤ l.length := by omega
  have h0 : l.length ≠ 0 := by omega
  have h0' : (l.take n ++ r).length ≠ 0 := by rw [List.length_append, List.length_take]; omega
  have b0 : byt (l.take n ++ r) 0 = byt l 0 := byt_pre l r n 0 (by omega) hnl
  by_cases h1 : byt l 0 = 34
  · rw [stepL_quote h0 h1] at h; simp at h; omega
  · by_cases h2 : byt l 0 < 32
    · rw [stepL_ctl h0 h2] at h; simp at h; omega
    · by_cases h3 : byt l 0 = 92
      · rw [stepL_esc h0 h3] at h ⊢
        rw [stepL_esc h0' (by omega)]
        by_cases h4 : (escL l).2 = 0
        · rw [if_pos h4] at h; simp at h; omega
        · rw [if_neg h4] at h
          simp only at h
          have e : escL (l.take n ++ r) = escL l := by
            by_cases h5 : 2 ≤ l.length ∧ 0 ≤ letV (byt l 1)
            · have e1 := (escU_let h5.1 h5.2).2
              rw [e1] at h ⊢
              simp only at h
              have b1 : byt (l.take n ++ r) 1 = byt l 1 := byt_pre l r n 1 (by omega) hnl
              rw [(escU_let (l := l.take n ++ r) (by rw [List.length_append, List.length_take]; omega) (by rw [b1]; exact h5.2)).2, b1]
            · by_cases h6 : 0 ≤ unitL l
              · have eu := escL_unit h6
                by_cases h7 : isPt (unitL l) = true
                · rw [if_pos h7] at eu
                  rw [eu] at h
                  simp only at h
                  have u1 := unitL_pre l r n (by omega) hnl h6
                  rw [escL_unit (by omega), u1, if_pos h7, eu]
                · rw [if_neg h7] at eu
                  by_cases h8 : isUp (unitL l) = true ∧ isLo (unitL (l.drop 6)) = true
                  · rw [if_pos h8] at eu
                    rw [eu] at h
                    simp only at h
                    have u1 := unitL_pre l r n (by omega) hnl h6
                    have hlo := isLo_bd h8.2
                    have ed : (l.take n ++ r).drop 6 = (l.drop 6).take (n - 6) ++ r := by
                      rw [List.drop_append_of_le_length (by rw [List.length_take]; omega), List.drop_take]
                    have u2 := unitL_pre (l.drop 6) r (n - 6) (by omega) (by rw [List.length_drop]; omega) (by omega)
                    rw [escL_unit (by omega), u1, if_neg h7, ed, u2, if_pos h8, eu]
                  · rw [if_neg h8] at eu
                    rw [eu] at h4; simp at h4
              · have := (escU_none (l := l) (by omega) (by omega)).2
                rw [this] at h4; simp at h4
          rw [e]
      · rw [stepL_pt h0 h2 h3 h1] at h ⊢
        rw [stepL_pt h0' (by omega) (by omega) (by omega)]
        by_cases h4 : (oneL l).2 = 0
        · rw [if_pos h4] at h; simp at h; omega
        · rw [if_neg h4] at h
          simp only at h
          rw [oneL_pre l r n h hn]
theorem readL_pre (l : List UInt8) : ∀ (r : List UInt8), (readL l).2.2 = 0 → readL (l.take ((readL l).2.1 + 1) ++ r) = readL l := by
  induction l using pts_ind with
  | h l ih =>
    intro r he
    by_cases h : (stepL l).2.1 = 0
    · have e := readL_stop h
      rw [e] at he ⊢
      simp only at he
      rcases stepL_e l h with h1 | h1 | ⟨_, h2, h3⟩
      · omega
      · omega
      · have b0 : byt (l.take 1 ++ r) 0 = 34 := by rw [byt_pre l r 1 0 (by omega) (by omega)]; exact h3
        have hs := stepL_quote (l := l.take 1 ++ r) (by rw [List.length_append, List.length_take]; omega) b0
        simp only
        rw [Nat.zero_add, readL_stop (by rw [hs]), hs, he]
    · rcases stepL_n l with h1 | ⟨h3, h1, h4, h2, h5, _⟩
      · exact absurd h1.1 h
      · obtain ⟨n, hn⟩ := Int.eq_ofNat_of_zero_le (show 0 ≤ (stepL l).2.1 by omega)
        have hi := ih n (by omega) (by omega) r
        have hg := readL_go h
        rw [hn, Int.toNat_natCast] at hg
        rw [hg] at he ⊢
        simp only at he ⊢
        have hi := hi he
        have es : l.take (n + (readL (l.drop n)).2.1 + 1) ++ r = l.take n ++ ((l.drop n).take ((readL (l.drop n)).2.1 + 1) ++ r) := by
          rw [Nat.add_assoc, List.take_add, List.append_assoc]
        have hstep := stepL_pre l ((l.drop n).take ((readL (l.drop n)).2.1 + 1) ++ r) n hn (by omega)
        rw [es, readL_go (by rw [hstep]; exact h), hstep, hn, Int.toNat_natCast]
        have ed : (l.take n ++ ((l.drop n).take ((readL (l.drop n)).2.1 + 1) ++ r)).drop n = (l.drop n).take ((readL (l.drop n)).2.1 + 1) ++ r := by
          rw [List.drop_append_of_le_length (by rw [List.length_take]; omega), List.drop_take, Nat.sub_self, List.take_zero, List.nil_append]
        rw [ed, hi]
end Go.Proofs.Ytbepnjgbkfidiaa.Ch
/- Plain facts for the laws of layer 2. No run of the program in this text. -/
namespace Go.Proofs.Ytbepnjgbkfidiaa.Ch
open Go.RowKit
open Go.Proofs.Ytbepnjgbkfidiaa.Utf

theorem qbL_right {l : List UInt8} (h : (ptsL l).2 = l.length) : l = encL (ptsL l).1 ∧ qbL l = qL (ptsL l).1 := by
  have e : encL (ptsL l).1 = l := by rw [encL_ptsL, h, List.take_length]
  have q := qbL_encL (ptsL l).1 (ptsL_all l)
  rw [e] at q
  exact ⟨e.symm, q⟩

/-- what is quoted is read as it was, whatever stands around it -/
theorem back_plain (H T l : List UInt8) (h : (ptsL l).2 = l.length) : readS (H ++ (34 :: (qbL l ++ [34])) ++ T) (H.length : Nat) = (l, (H.length : Int) + ((34 :: (qbL l ++ [34])).length : Nat), 0) := by
  obtain ⟨e1, e2⟩ := qbL_right h
  have hlt : H.length < (H ++ (34 :: (qbL l ++ [34])) ++ T).length := by simp
  have hb : byt (H ++ (34 :: (qbL l ++ [34])) ++ T) H.length = 34 := by
    have := byt_drop (H ++ (34 :: (qbL l ++ [34])) ++ T) H.length 0
    rw [Nat.add_zero] at this
    rw [← this, List.append_assoc, List.drop_left' rfl]
    rfl
  have hd : (H ++ (34 :: (qbL l ++ [34])) ++ T).drop (H.length + 1) = qL (ptsL l).1 ++ 34 :: T := by
    rw [List.append_assoc, ← List.drop_drop, List.drop_left' rfl, e2]
    simp
  have hr : readL (qL (ptsL l).1 ++ 34 :: T) = ((ptsL l).1, (qL (ptsL l).1).length, 0) := by
    rw [readL_qL _ (ptsL_all l), readL_close]
    simp
  rw [readS_ok hlt hb (by rw [hd]; exact hr), ← e1, e2]
  simp
  omega

/-- what is read can be quoted, and no greater than it stood there; it is read again as it was -/
theorem again_plain (l : List UInt8) (a : Int) (t : List UInt8) (n : Int) (h : readS l a = (t, n, 0)) :
    (ptsL t).2 = t.length ∧ ((qbL t).length : Int) + a + 2 ≤ n ∧ a < n ∧ 1 ≤ n ∧ n ≤ l.length ∧ byt l (n.toNat - 1) = 34 ∧ ∃ q : Nat, a = q ∧ q < l.length ∧ byt l q = 34 := by
  unfold readS at h
  by_cases h1 : a < 0 ∨ (l.length : Int) ≤ a ∨ byt l a.toNat ≠ 34
  · rw [if_pos h1] at h
    have := congrArg (fun x => x.2.2) h
    simp at this
  · rw [if_neg h1] at h
    obtain ⟨q, rfl⟩ := Int.eq_ofNat_of_zero_le (show 0 ≤ a by omega)
    rw [Int.toNat_natCast] at h h1
    obtain ⟨f1, f2, f3, f4⟩ := readL_facts (l.drop (q + 1))
    have f5 := readL_qlen (l.drop (q + 1))
    by_cases h2 : (readL (l.drop (q + 1))).2.2 = 0
    · rw [if_pos h2] at h
      rcases f4 with f4 | f4 | ⟨_, f6, f7⟩
      · omega
      · omega
      · have ht : encL (readL (l.drop (q + 1))).1 = t := congrArg Prod.fst h
        have hn : (q : Int) + 1 + (readL (l.drop (q + 1))).2.1 + 1 = n := congrArg (fun x => x.2.1) h
        rw [List.length_drop] at f6
        rw [byt_drop] at f7
        have e : ptsL (encL (readL (l.drop (q + 1))).1 ++ []) = _ := ptsL_encL _ f3 []
        rw [List.append_nil] at e
        refine ⟨?_, ?_, by omega, by omega, by omega, ?_, q, rfl, by omega, ?_⟩
        · rw [← ht, e]; simp [ptsL, ptsF]
        · rw [← ht, qbL_encL _ f3]; omega
        · have : n.toNat - 1 = q + 1 + (readL (l.drop (q + 1))).2.1 := by omega
          rw [this]; exact f7
        · by_cases h3 : byt l q = 34
          · exact h3
          · exact absurd (.inr (.inr h3)) h1
    · rw [if_neg h2] at h
      exact absurd (congrArg (fun x => x.2.2) h) h2
theorem bad_plain (l : List UInt8) (a : Int) (t : List UInt8) (n e : Int) (h : readS l a = (t, n, e)) (he : e ≠ 0) : t = [] ∧ (e = 10 ∨ e = 20) := by
  unfold readS at h
  by_cases h1 : a < 0 ∨ (l.length : Int) ≤ a ∨ byt l a.toNat ≠ 34
  · rw [if_pos h1] at h
    have h2 := congrArg Prod.fst h
    have h3 := congrArg (fun x => x.2.2) h
    simp only at h2 h3
    exact ⟨h2.symm, .inr h3.symm⟩
  · rw [if_neg h1] at h
    obtain ⟨f1, f2, f3, f4⟩ := readL_facts (l.drop (a.toNat + 1))
    by_cases h2 : (readL (l.drop (a.toNat + 1))).2.2 = 0
    · rw [if_pos h2] at h
      exact absurd (congrArg (fun x => x.2.2) h).symm he
    · rw [if_neg h2] at h
      have h3 := congrArg Prod.fst h
      have h4 := congrArg (fun x => x.2.2) h
      simp only at h3 h4
      refine ⟨h3.symm, ?_⟩
      rcases f4 with f4 | f4 | f4
      · left; omega
      · right; omega
      · exact absurd f4.1 h2

/-- what stands behind the closing quote means nothing -/
theorem begins_plain (l T : List UInt8) (a : Int) (t : List UInt8) (n : Int) (h : readS l a = (t, n, 0)) : readS (l.take n.toNat ++ T) a = (t, n, 0) ∧ (∀ q : Nat, a = q → (readL ((l.take n.toNat ++ T).drop (q + 1))).2.1 < l.length - (q + 1)) := by
  obtain ⟨_, _, h3, h4, h5, _, q, rfl, hq, hb⟩ := again_plain l a t n h
  rw [readS_in hq hb] at h
  by_cases h2 : (readL (l.drop (q + 1))).2.2 = 0
  · rw [if_pos h2] at h
    have ht : encL (readL (l.drop (q + 1))).1 = t := congrArg Prod.fst h
    have hn : (q : Int) + 1 + (readL (l.drop (q + 1))).2.1 + 1 = n := congrArg (fun x => x.2.1) h
    have hnn : n.toNat = q + 1 + ((readL (l.drop (q + 1))).2.1 + 1) := by omega
    have hp := readL_pre (l.drop (q + 1)) T h2
    have hd : (l.take n.toNat ++ T).drop (q + 1) = (l.drop (q + 1)).take ((readL (l.drop (q + 1))).2.1 + 1) ++ T := by
      rw [List.drop_append_of_le_length (by rw [List.length_take]; omega), List.drop_take, hnn]
      congr 2
      omega
    constructor
    · rw [readS_in (by rw [List.length_append, List.length_take]; omega) (by rw [byt_pre _ _ _ _ (by omega) (by omega)]; exact hb), hd, hp, if_pos h2, ht, hn]
    · intro q' hqq
      obtain rfl : q' = q := by omega
      rw [hd, hp]
      have := (readL_facts (l.drop (q' + 1))).2.2.2
      rw [List.length_drop] at this
      omega
  · rw [if_neg h2] at h
    exact absurd (congrArg (fun x => x.2.2) h) h2
end Go.Proofs.Ytbepnjgbkfidiaa.Ch
