/- Merged: ChPl ScPl RePl ReMem RePl2 RePl5 EmPl. -/
import Derived.Test.YtbfogkcnfnjcaaaTt2
import Derived.Test.YtbfogkcnfnjcaaaTt5
import Derived.Lib.AppendStr
import Derived.Test.YtbfogkcnfnjcaaaTt1
namespace Go.Proofs.Ytbfogkcnfnjcaaa.Ch
open Go.RowKit
open Go.Proofs.Ytbfogkcnfnjcaaa.Utf

def digV (c : Int) : Int := if 48 ≤ c ∧ c ≤ 57 then c - 48 else if 65 ≤ c ∧ c ≤ 70 then c - 55 else if 97 ≤ c ∧ c ≤ 102 then c - 87 else -1
theorem digV_lo (c : Int) : -1 ≤ digV c := by unfold digV; (repeat' split) <;> omega
theorem digV_hi (c : Int) : digV c ≤ 15 := by unfold digV; (repeat' split) <;> omega

def hexN (l : List UInt8) : Nat → Int
  | 0 => 0
  | k + 1 => hexN l k * 16 + digV (byt l (k + 2))
def hexOk (l : List UInt8) : Nat → Bool
  | 0 => true
  | k + 1 => hexOk l k && decide (0 ≤ digV (byt l (k + 2)))
theorem hexOk_pre {l : List UInt8} {k : Nat} (h : hexOk l (k + 1) = true) : hexOk l k = true ∧ 0 ≤ digV (byt l (k + 2)) := by
  simpa [hexOk] using h
theorem hex_bd (l : List UInt8) : ∀ k, hexOk l k = true → 0 ≤ hexN l k ∧ hexN l k < 16 ^ k := by
  intro k
  induction k with
  | zero => intro _; simp [hexN]
  | succ k ih =>
    intro h
    obtain ⟨h1, h2⟩ := hexOk_pre h
    have := ih h1
    have h3 := digV_hi (byt l (k + 2))
    simp only [hexN, Int.pow_succ]
    omega
theorem hexOk_mono (l : List UInt8) (k : Nat) (h : hexOk l k = false) : ∀ n, k ≤ n → hexOk l n = false := by
  intro n hn
  induction n with
  | zero => have : k = 0 := by omega
            subst this; exact h
  | succ n ih =>
    by_cases e : k = n + 1
    · subst e; exact h
    · simp [hexOk, ih (by omega)]
def unitL (l : List UInt8) : Int := if 6 ≤ l.length ∧ byt l 0 = 92 ∧ byt l 1 = 117 ∧ hexOk l 4 = true then hexN l 4 else -1
theorem unitL_yes {l : List UInt8} (h : 0 ≤ unitL l) : 6 ≤ l.length ∧ byt l 0 = 92 ∧ byt l 1 = 117 ∧ hexOk l 4 = true ∧ unitL l = hexN l 4 := by
  unfold unitL at h ⊢
  split at h
  · rename_i h1
    rw [if_pos h1]
    exact ⟨h1.1, h1.2.1, h1.2.2.1, h1.2.2.2, rfl⟩
  · omega
theorem unitL_is {l : List UInt8} (h0 : 6 ≤ l.length) (h1 : byt l 0 = 92) (h2 : byt l 1 = 117) (h3 : hexOk l 4 = true) : unitL l = hexN l 4 := by
  rw [unitL, if_pos ⟨h0, h1, h2, h3⟩]
theorem unitL_no {l : List UInt8} (h : ¬ (6 ≤ l.length ∧ byt l 0 = 92 ∧ byt l 1 = 117 ∧ hexOk l 4 = true)) : unitL l = -1 := by
  rw [unitL, if_neg h]
theorem unitL_bd (l : List UInt8) : -1 ≤ unitL l ∧ unitL l ≤ 65535 := by
  by_cases h : 0 ≤ unitL l
  · obtain ⟨_, _, _, h4, h5⟩ := unitL_yes h
    have := hex_bd l 4 h4
    omega
  · unfold unitL
    split
    · rename_i h1
      have := hex_bd l 4 h1.2.2.2
      omega
    · omega
def letV (c : Int) : Int := if c = 34 then 34 else if c = 92 then 92 else if c = 47 then 47 else if c = 98 then 8 else if c = 102 then 12 else if c = 110 then 10 else if c = 114 then 13 else if c = 116 then 9 else -1
theorem letV_hi (c : Int) : letV c ≤ 92 := by unfold letV; (repeat' split) <;> omega
theorem letV_set (c : Int) (h : 0 ≤ letV c) : (letV c = 34 ∨ letV c = 92 ∨ letV c = 47 ∨ letV c = 8 ∨ letV c = 12 ∨ letV c = 10 ∨ letV c = 13 ∨ letV c = 9) ∧ c ≠ 117 := by
  unfold letV at h ⊢; (repeat' split at h) <;> simp_all

def isUp (u : Int) : Bool := decide (55296 ≤ u ∧ u < 56320)
def isLo (u : Int) : Bool := decide (56320 ≤ u ∧ u < 57344)
theorem isUp_bd {u : Int} (h : isUp u = true) : 55296 ≤ u ∧ u < 56320 := by simpa [isUp] using h
theorem isLo_bd {u : Int} (h : isLo u = true) : 56320 ≤ u ∧ u < 57344 := by simpa [isLo] using h
theorem isPt_of (u : Int) (h0 : 0 ≤ u) (h1 : u ≤ 65535) (hu : isUp u = false) (hl : isLo u = false) : isPt u = true := by
  simp [isUp, isLo, isPt] at *
  omega
theorem isPt_up {u : Int} (h : isUp u = true) : isPt u = false := by have := isUp_bd h; simp [isPt]; omega
theorem isPt_lo' {u : Int} (h : isLo u = true) : isPt u = false := by have := isLo_bd h; simp [isPt]; omega

def bothV (u b : Int) : Int := 65536 + (u - 55296) * 1024 + (b - 56320)
theorem bothV_bd {u b : Int} (hu : isUp u = true) (hb : isLo b = true) : 65536 ≤ bothV u b ∧ bothV u b ≤ 1114111 := by
  have := isUp_bd hu; have := isLo_bd hb; unfold bothV; omega

def escU (l : List UInt8) : Int × Int × Int :=
  if l.length < 2 then (0, 0, 20) else if 0 ≤ letV (byt l 1) then (letV (byt l 1), 2, 0) else if 0 ≤ unitL l then (unitL l, 6, 0) else (0, 0, 20)
def uniL (l : List UInt8) : Int × Int × Int :=
  if (oneL l).2 = 0 then (0, 0, 10) else if (oneL l).1 < 32 then (0, 0, 20) else if (oneL l).1 = 92 then escU l else ((oneL l).1, (oneL l).2, 0)

def escL (l : List UInt8) : Int × Int :=
  if 2 ≤ l.length ∧ 0 ≤ letV (byt l 1) then (letV (byt l 1), 2)
  else if unitL l < 0 then (0, 0)
  else if isPt (unitL l) = true then (unitL l, 6)
  else if isUp (unitL l) = true ∧ isLo (unitL (l.drop 6)) = true then (bothV (unitL l) (unitL (l.drop 6)), 12)
  else (0, 0)
def stepL (l : List UInt8) : Int × Int × Int :=
  if l.length = 0 then (0, 0, 20) else if byt l 0 = 34 then (0, 0, 0) else if byt l 0 < 32 then (0, 0, 20)
  else if byt l 0 = 92 then (if (escL l).2 = 0 then (0, 0, 20) else ((escL l).1, (escL l).2, 0))
  else if (oneL l).2 = 0 then (0, 0, 10) else ((oneL l).1, (oneL l).2, 0)

theorem one_low {l : List UInt8} (h0 : l.length ≠ 0) (h : byt l 0 < 128) : oneL l = (byt l 0, 1) := by
  unfold oneL; rw [if_neg h0, if_pos h]
theorem one_high {l : List UInt8} (h : 128 ≤ byt l 0) (hn : (oneL l).2 ≠ 0) : 128 ≤ (oneL l).1 := by
  rcases oneL_reads l with h1 | ⟨h1, h2, h3⟩
  · rw [h1] at hn; simp at hn
  · rcases Int.lt_or_le (oneL l).1 128 with h4 | h4
    · have e := byt_enc (oneL l).1 (l.drop (enc (oneL l).1).length) 0 (oneL l).1 (by rw [encZ_1 h1 h4]; rfl)
      rw [h3] at e
      omega
    · exact h4

theorem escL_n (l : List UInt8) : escL l = (0, 0) ∨ (isPt (escL l).1 = true ∧ 1 ≤ (escL l).2 ∧ (escL l).2 ≤ 12 ∧ (escL l).2 ≤ l.length ∧ ((enc (escL l).1).length : Int) ≤ (escL l).2) := by
  unfold escL
  by_cases h1 : 2 ≤ l.length ∧ 0 ≤ letV (byt l 1)
  · rw [if_pos h1]
    right
    have h3 := letV_hi (byt l 1)
    have hp : isPt (letV (byt l 1)) = true := by simp [isPt]; omega
    refine ⟨hp, by simp, by simp, by simp; omega, ?_⟩
    have : (enc (letV (byt l 1))).length = 1 := by rw [enc_len, encZ_1 hp (by omega)]; rfl
    simp [this]
  · rw [if_neg h1]
    by_cases h2 : unitL l < 0
    · rw [if_pos h2]; exact .inl rfl
    · rw [if_neg h2]
      obtain ⟨g1, _⟩ := unitL_yes (l := l) (by omega)
      have gb := unitL_bd l
      by_cases h3 : isPt (unitL l) = true
      · rw [if_pos h3]
        right
        refine ⟨h3, by simp, by simp, by simp; omega, ?_⟩
        have := enc_le (unitL l)
        simp; omega
      · rw [if_neg h3]
        by_cases h4 : isUp (unitL l) = true ∧ isLo (unitL (l.drop 6)) = true
        · rw [if_pos h4]
          right
          have hb := bothV_bd h4.1 h4.2
          have hl := isLo_bd h4.2
          obtain ⟨g2, _⟩ := unitL_yes (l := l.drop 6) (by omega)
          simp at g2
          refine ⟨by simp [isPt]; omega, by simp, by simp, by simp; omega, ?_⟩
          have := enc_le (bothV (unitL l) (unitL (l.drop 6)))
          simp; omega
        · rw [if_neg h4]; exact .inl rfl

theorem stepL_n (l : List UInt8) : ((stepL l).2.1 = 0 ∧ (stepL l).1 = 0) ∨ (isPt (stepL l).1 = true ∧ 1 ≤ (stepL l).2.1 ∧ (stepL l).2.1 ≤ 12 ∧ (stepL l).2.1 ≤ l.length ∧ ((enc (stepL l).1).length : Int) ≤ (stepL l).2.1 ∧ (stepL l).2.2 = 0) := by
  unfold stepL
  by_cases h0 : l.length = 0
  · rw [if_pos h0]; exact .inl ⟨rfl, rfl⟩
  · rw [if_neg h0]
    by_cases h1 : byt l 0 = 34
    · rw [if_pos h1]; exact .inl ⟨rfl, rfl⟩
    · rw [if_neg h1]
      by_cases h2 : byt l 0 < 32
      · rw [if_pos h2]; exact .inl ⟨rfl, rfl⟩
      · rw [if_neg h2]
        by_cases h3 : byt l 0 = 92
        · rw [if_pos h3]
          rcases escL_n l with h4 | ⟨a, b, c, d, e⟩
          · rw [h4]; exact .inl ⟨rfl, rfl⟩
          · rw [if_neg (by omega)]; exact .inr ⟨a, b, c, d, e, rfl⟩
        · rw [if_neg h3]
          rcases oneL_n l with h4 | ⟨a, b, c, d⟩
          · rw [h4]; exact .inl ⟨rfl, rfl⟩
          · rw [if_neg (by omega)]
            refine .inr ⟨a, b, by simp only; omega, d, ?_, rfl⟩
            rcases oneL_reads l with h5 | ⟨_, h6, _⟩
            · rw [h5] at b; simp at b
            · simp only; omega

def readF : Nat → List UInt8 → List Int × Nat × Int
  | 0, l => ([], 0, (stepL l).2.2)
  | f + 1, l => if (stepL l).2.1 = 0 then ([], 0, (stepL l).2.2)
    else ((stepL l).1 :: (readF f (l.drop (stepL l).2.1.toNat)).1, (stepL l).2.1.toNat + (readF f (l.drop (stepL l).2.1.toNat)).2.1, (readF f (l.drop (stepL l).2.1.toNat)).2.2)
def readL (l : List UInt8) : List Int × Nat × Int := readF l.length l
theorem readF_nil (f : Nat) : readF f [] = ([], 0, 20) := by cases f <;> rfl
theorem readF_fuel : ∀ (f g : Nat) (l : List UInt8), l.length ≤ f → l.length ≤ g → readF f l = readF g l := by
  intro f
  induction f with
  | zero =>
    intro g l h _
    rw [List.eq_nil_of_length_eq_zero (show l.length = 0 by omega), readF_nil, readF_nil]
  | succ f ih =>
    intro g l hf hg
    cases g with
    | zero => rw [List.eq_nil_of_length_eq_zero (show l.length = 0 by omega), readF_nil, readF_nil]
    | succ g =>
      simp only [readF]
      by_cases h : (stepL l).2.1 = 0
      · rw [if_pos h, if_pos h]
      · rw [if_neg h, if_neg h]
        rcases stepL_n l with h1 | ⟨_, h1, _, h2, _⟩
        · exact absurd h1.1 h
        · rw [ih g (l.drop (stepL l).2.1.toNat) (by simp; omega) (by simp; omega)]
theorem readL_stop {l : List UInt8} (h : (stepL l).2.1 = 0) : readL l = ([], 0, (stepL l).2.2) := by
  unfold readL
  cases l with
  | nil => rfl
  | cons a l => simp only [List.length_cons, readF]; rw [if_pos h]
theorem readL_go {l : List UInt8} (h : (stepL l).2.1 ≠ 0) : readL l = ((stepL l).1 :: (readL (l.drop (stepL l).2.1.toNat)).1, (stepL l).2.1.toNat + (readL (l.drop (stepL l).2.1.toNat)).2.1, (readL (l.drop (stepL l).2.1.toNat)).2.2) := by
  rcases stepL_n l with h1 | ⟨_, h1, _, h2, _⟩
  · exact absurd h1.1 h
  · obtain ⟨k, hk⟩ : ∃ k, l.length = k + 1 := ⟨l.length - 1, by omega⟩
    unfold readL
    rw [hk, readF, if_neg h, readF_fuel k _ _ (by simp; omega) (Nat.le_refl _)]

theorem stepL_e (l : List UInt8) (h : (stepL l).2.1 = 0) : (stepL l).2.2 = 10 ∨ (stepL l).2.2 = 20 ∨ ((stepL l).2.2 = 0 ∧ l.length ≠ 0 ∧ byt l 0 = 34) := by
  unfold stepL at h ⊢
  by_cases h0 : l.length = 0
  · rw [if_pos h0]; exact .inr (.inl rfl)
  · rw [if_neg h0] at h ⊢
    by_cases h1 : byt l 0 = 34
    · rw [if_pos h1]; exact .inr (.inr ⟨rfl, h0, h1⟩)
    · rw [if_neg h1] at h ⊢
      by_cases h2 : byt l 0 < 32
      · rw [if_pos h2]; exact .inr (.inl rfl)
      · rw [if_neg h2] at h ⊢
        by_cases h3 : byt l 0 = 92
        · rw [if_pos h3] at h ⊢
          by_cases h4 : (escL l).2 = 0
          · rw [if_pos h4]; exact .inr (.inl rfl)
          · rw [if_neg h4] at h; exact absurd h h4
        · rw [if_neg h3] at h ⊢
          by_cases h4 : (oneL l).2 = 0
          · rw [if_pos h4]; exact .inl rfl
          · rw [if_neg h4] at h; exact absurd h h4

theorem readL_facts (l : List UInt8) : (readL l).2.1 ≤ l.length ∧ (encL (readL l).1).length ≤ (readL l).2.1 ∧ (∀ p ∈ (readL l).1, isPt p = true) ∧
    ((readL l).2.2 = 10 ∨ (readL l).2.2 = 20 ∨ ((readL l).2.2 = 0 ∧ (readL l).2.1 < l.length ∧ byt l (readL l).2.1 = 34)) := by
  induction l using pts_ind with
  | h l ih =>
    by_cases h : (stepL l).2.1 = 0
    · rw [readL_stop h]
      refine ⟨by simp, by simp [encL], by simp, ?_⟩
      rcases stepL_e l h with h1 | h1 | ⟨h1, h2, h3⟩
      · exact .inl h1
      · exact .inr (.inl h1)
      · exact .inr (.inr ⟨h1, by simp only; omega, h3⟩)
    · rcases stepL_n l with h1 | ⟨h3, h1, h4, h2, h5, _⟩
      · exact absurd h1.1 h
      · have hi := ih (stepL l).2.1.toNat (by omega) (by omega)
        rw [readL_go h]
        obtain ⟨a, b, c, d⟩ := hi
        simp only [List.length_drop] at a
        refine ⟨by simp only; omega, by rw [encL_cons]; simp only [List.length_append]; omega, ?_, ?_⟩
        · intro p hp
          simp at hp
          rcases hp with rfl | hp
          · exact h3
          · exact c p hp
        · rcases d with d | d | ⟨d1, d2, d3⟩
          · exact .inl d
          · exact .inr (.inl d)
          · refine .inr (.inr ⟨d1, ?_, ?_⟩)
            · simp only [List.length_drop] at d2; simp only; omega
            · rw [byt_drop] at d3; exact d3
end Go.Proofs.Ytbfogkcnfnjcaaa.Ch
namespace Go.Proofs.Ytbfogkcnfnjcaaa.Ch
open Go.RowKit
open Go.Proofs.Ytbfogkcnfnjcaaa.Utf

theorem unitL_low {l : List UInt8} (h : byt l 0 ≠ 92) : unitL l = -1 := unitL_no fun x => h x.2.1
theorem unitL_nil {l : List UInt8} (h : l.length = 0) : unitL l = -1 := unitL_no fun x => by omega

theorem uniL_bad {l : List UInt8} (h : (oneL l).2 = 0) : uniL l = (0, 0, 10) := by unfold uniL; rw [if_pos h]
theorem uniL_ctl {l : List UInt8} (h0 : l.length ≠ 0) (h : byt l 0 < 32) : uniL l = (0, 0, 20) := by
  have e := one_low h0 (by omega)
  unfold uniL; rw [e, if_neg (by simp), if_pos h]
theorem uniL_esc {l : List UInt8} (h0 : l.length ≠ 0) (h : byt l 0 = 92) : uniL l = escU l := by
  have e := one_low h0 (by omega)
  unfold uniL; rw [e, h]; rfl
theorem uniL_pt {l : List UInt8} (h0 : l.length ≠ 0) (h : (oneL l).2 ≠ 0) (h1 : ¬ byt l 0 < 32) (h2 : byt l 0 ≠ 92) : uniL l = ((oneL l).1, (oneL l).2, 0) := by
  unfold uniL
  rw [if_neg h]
  by_cases h3 : byt l 0 < 128
  · rw [one_low h0 h3, if_neg h1, if_neg h2]
  · have := one_high (by omega) h
    rw [if_neg (by omega), if_neg (by omega)]

theorem stepL_ctl {l : List UInt8} (h0 : l.length ≠ 0) (h : byt l 0 < 32) : stepL l = (0, 0, 20) := by
  unfold stepL; rw [if_neg h0, if_neg (by omega), if_pos h]
theorem stepL_esc {l : List UInt8} (h0 : l.length ≠ 0) (h : byt l 0 = 92) : stepL l = if (escL l).2 = 0 then (0, 0, 20) else ((escL l).1, (escL l).2, 0) := by
  unfold stepL; rw [if_neg h0, if_neg (by omega), if_neg (by omega), if_pos h]
theorem stepL_pt {l : List UInt8} (h0 : l.length ≠ 0) (h1 : ¬ byt l 0 < 32) (h2 : byt l 0 ≠ 92) (h3 : byt l 0 ≠ 34) : stepL l = if (oneL l).2 = 0 then (0, 0, 10) else ((oneL l).1, (oneL l).2, 0) := by
  unfold stepL; rw [if_neg h0, if_neg h3, if_neg h1, if_neg h2]
theorem stepL_quote {l : List UInt8} (h0 : l.length ≠ 0) (h : byt l 0 = 34) : stepL l = (0, 0, 0) := by
  unfold stepL; rw [if_neg h0, if_pos h]
theorem stepL_end {l : List UInt8} (h0 : l.length = 0) : stepL l = (0, 0, 20) := by
  unfold stepL; rw [if_pos h0]

theorem escU_let {l : List UInt8} (h : 2 ≤ l.length) (hl : 0 ≤ letV (byt l 1)) : escU l = (letV (byt l 1), 2, 0) ∧ escL l = (letV (byt l 1), 2) := by
  constructor
  · unfold escU; rw [if_neg (by omega), if_pos hl]
  · unfold escL; rw [if_pos ⟨h, hl⟩]
theorem not_let {l : List UInt8} (h : 0 ≤ unitL l) : ¬ 0 ≤ letV (byt l 1) := by
  obtain ⟨_, _, h3, _⟩ := unitL_yes h
  intro hc
  exact (letV_set _ hc).2 h3
theorem escU_unit {l : List UInt8} (h : 0 ≤ unitL l) : escU l = (unitL l, 6, 0) := by
  obtain ⟨h1, _⟩ := unitL_yes h
  unfold escU; rw [if_neg (by omega), if_neg (not_let h), if_pos h]
theorem escU_none {l : List UInt8} (h : l.length < 2 ∨ ¬ 0 ≤ letV (byt l 1)) (hu : unitL l < 0) : escU l = (0, 0, 20) ∧ escL l = (0, 0) := by
  constructor
  · unfold escU
    by_cases h1 : l.length < 2
    · rw [if_pos h1]
    · rw [if_neg h1, if_neg (by omega), if_neg (by omega)]
  · unfold escL; rw [if_neg (by omega), if_pos hu]
theorem escL_unit {l : List UInt8} (h : 0 ≤ unitL l) : escL l = if isPt (unitL l) = true then (unitL l, 6) else if isUp (unitL l) = true ∧ isLo (unitL (l.drop 6)) = true then (bothV (unitL l) (unitL (l.drop 6)), 12) else (0, 0) := by
  unfold escL; rw [if_neg (fun x => not_let h x.2), if_neg (by omega)]

theorem uniL_bd (l : List UInt8) : 0 ≤ (uniL l).1 ∧ (uniL l).1 ≤ 1114111 ∧ 0 ≤ (uniL l).2.1 ∧ (uniL l).2.1 ≤ 6 ∧ (uniL l).2.1 ≤ l.length ∧ ((uniL l).2.2 = 0 ∨ (uniL l).2.2 = 10 ∨ (uniL l).2.2 = 20) := by
  unfold uniL
  rcases oneL_n l with h1 | ⟨a, b, c, d⟩
  · rw [h1]; simp
  · have a0 := isPt_lo a
    have a1 := isPt_hi a
    rw [if_neg (by omega)]
    by_cases h2 : (oneL l).1 < 32
    · rw [if_pos h2]; simp
    · rw [if_neg h2]
      by_cases h3 : (oneL l).1 = 92
      · rw [if_pos h3]
        unfold escU
        by_cases h4 : l.length < 2
        · rw [if_pos h4]; simp
        · rw [if_neg h4]
          by_cases h5 : 0 ≤ letV (byt l 1)
          · have := letV_hi (byt l 1)
            rw [if_pos h5]; exact ⟨by simp only; omega, by simp only; omega, by simp only; omega, by simp only; omega, by simp only; omega, .inl rfl⟩
          · rw [if_neg h5]
            by_cases h6 : 0 ≤ unitL l
            · obtain ⟨g, _⟩ := unitL_yes h6
              have := unitL_bd l
              rw [if_pos h6]; exact ⟨by simp only; omega, by simp only; omega, by simp only; omega, by simp only; omega, by simp only; omega, .inl rfl⟩
            · rw [if_neg h6]; simp
      · rw [if_neg h3]; exact ⟨by simp only; omega, by simp only; omega, by simp only; omega, by simp only; omega, by simp only; omega, .inl rfl⟩

theorem uniL_err {l : List UInt8} (h0 : l.length ≠ 0) (hq : byt l 0 ≠ 34) (he : (uniL l).2.2 ≠ 0) : stepL l = (0, 0, (uniL l).2.2) := by
  by_cases h1 : byt l 0 < 32
  · rw [stepL_ctl h0 h1, uniL_ctl h0 h1]
  · by_cases h2 : byt l 0 = 92
    · rw [uniL_esc h0 h2] at he ⊢
      rw [stepL_esc h0 h2]
      by_cases h3 : 2 ≤ l.length ∧ 0 ≤ letV (byt l 1)
      · rw [(escU_let h3.1 h3.2).1] at he; simp at he
      · by_cases h4 : 0 ≤ unitL l
        · rw [escU_unit h4] at he; simp at he
        · have := escU_none (l := l) (by omega) (by omega)
          rw [this.1, this.2]; rfl
    · rw [stepL_pt h0 h1 h2 hq]
      by_cases h3 : (oneL l).2 = 0
      · rw [uniL_bad h3, if_pos h3]
      · rw [uniL_pt h0 h3 h1 h2] at he; simp at he
theorem uniL_both {l : List UInt8} (h0 : l.length ≠ 0) (hq : byt l 0 ≠ 34) (he : (uniL l).2.2 = 0) (hu : isUp (uniL l).1 = false) (hl : isLo (uniL l).1 = false) : stepL l = uniL l := by
  by_cases h1 : byt l 0 < 32
  · rw [uniL_ctl h0 h1] at he; simp at he
  · by_cases h2 : byt l 0 = 92
    · rw [uniL_esc h0 h2] at he hu hl ⊢
      rw [stepL_esc h0 h2]
      by_cases h3 : 2 ≤ l.length ∧ 0 ≤ letV (byt l 1)
      · have := escU_let h3.1 h3.2
        rw [this.1, this.2]; rfl
      · by_cases h4 : 0 ≤ unitL l
        · rw [escU_unit h4] at hu hl ⊢
          have gb := unitL_bd l
          rw [escL_unit h4, if_pos (isPt_of _ h4 gb.2 hu hl)]; rfl
        · have := escU_none (l := l) (by omega) (by omega)
          rw [this.1] at he; simp at he
    · rw [stepL_pt h0 h1 h2 hq]
      by_cases h3 : (oneL l).2 = 0
      · rw [uniL_bad h3] at he; simp at he
      · rw [uniL_pt h0 h3 h1 h2, if_neg h3]
theorem uniL_half {l : List UInt8} (h0 : l.length ≠ 0) (h : isUp (uniL l).1 = true ∨ isLo (uniL l).1 = true) : byt l 0 = 92 ∧ 0 ≤ unitL l ∧ uniL l = (unitL l, 6, 0) := by
  have hp : isPt (uniL l).1 = false := by rcases h with h | h; exact isPt_up h; exact isPt_lo' h
  have h92 : ∀ n : Int, 0 ≤ n → n ≤ 92 → isPt n = true := by intro n a b; simp [isPt]; omega
  by_cases h1 : byt l 0 < 32
  · rw [uniL_ctl h0 h1] at hp; simp [isPt] at hp
  · by_cases h2 : byt l 0 = 92
    · refine ⟨h2, ?_⟩
      rw [uniL_esc h0 h2] at hp ⊢
      by_cases h3 : 2 ≤ l.length ∧ 0 ≤ letV (byt l 1)
      · rw [(escU_let h3.1 h3.2).1, h92 _ h3.2 (letV_hi _)] at hp; simp at hp
      · by_cases h4 : 0 ≤ unitL l
        · exact ⟨h4, escU_unit h4⟩
        · have := escU_none (l := l) (by omega) (by omega)
          rw [this.1] at hp; simp [isPt] at hp
    · by_cases h3 : (oneL l).2 = 0
      · rw [uniL_bad h3] at hp; simp [isPt] at hp
      · rw [uniL_pt h0 h3 h1 h2, oneL_pt h3] at hp; simp at hp
theorem stepL_lo {l : List UInt8} (h0 : l.length ≠ 0) (h : isLo (uniL l).1 = true) : stepL l = (0, 0, 20) := by
  obtain ⟨a, b, c⟩ := uniL_half h0 (.inr h)
  rw [c] at h
  simp only at h
  have hu : isUp (unitL l) = false := by have := isLo_bd h; simp [isUp]; omega
  have e : escL l = (0, 0) := by rw [escL_unit b, if_neg (by rw [isPt_lo' h]; simp), if_neg (by rw [hu]; simp)]
  rw [stepL_esc h0 a, e]; rfl
theorem stepL_up {l : List UInt8} (h0 : l.length ≠ 0) (h : isUp (uniL l).1 = true) : stepL l = if isLo (unitL (l.drop 6)) = true then (bothV (uniL l).1 (unitL (l.drop 6)), 12, 0) else (0, 0, 20) := by
  obtain ⟨a, b, c⟩ := uniL_half h0 (.inl h)
  rw [c] at h ⊢
  simp only at h ⊢
  by_cases h2 : isLo (unitL (l.drop 6)) = true
  · have e : escL l = (bothV (unitL l) (unitL (l.drop 6)), 12) := by rw [escL_unit b, if_neg (by rw [isPt_up h]; simp), if_pos ⟨h, h2⟩]
    rw [stepL_esc h0 a, e, if_pos h2]; rfl
  · have e : escL l = (0, 0) := by rw [escL_unit b, if_neg (by rw [isPt_up h]; simp), if_neg (fun x => h2 x.2)]
    rw [stepL_esc h0 a, e, if_neg h2]; rfl
theorem unitL_second {l : List UInt8} (h0 : l.length ≠ 0) (h : isLo (unitL l) = true) : byt l 0 = 92 ∧ uniL l = (unitL l, 6, 0) := by
  have hb := isLo_bd h
  obtain ⟨h1, h2, _⟩ := unitL_yes (l := l) (by omega)
  exact ⟨h2, by rw [uniL_esc h0 h2, escU_unit (by omega)]⟩

def RdAt (l : List UInt8) (k : Nat) (ps : List Int) : Prop :=
  k ≤ l.length ∧ (encL ps).length ≤ k ∧ readL l = (ps ++ (readL (l.drop k)).1, k + (readL (l.drop k)).2.1, (readL (l.drop k)).2.2)
theorem RdAt.start (l : List UInt8) : RdAt l 0 [] := ⟨by omega, by simp [encL], by simp⟩
theorem RdAt.step {l : List UInt8} {k : Nat} {ps : List Int} {p : Int} {m : Nat} (h : RdAt l k ps) (hs : stepL (l.drop k) = (p, (m : Int), 0)) (hm : m ≠ 0) : RdAt l (k + m) (ps ++ [p]) := by
  obtain ⟨h1, h2, h3⟩ := h
  have hn := stepL_n (l.drop k)
  rw [hs] at hn
  simp only [List.length_drop] at hn
  have hg := readL_go (l := l.drop k) (by rw [hs]; simpa using hm)
  rw [hs] at hg
  simp only [Int.toNat_natCast, List.drop_drop] at hg
  refine ⟨by omega, ?_, ?_⟩
  · rw [encL_append]; simp [encL] at h2 ⊢; omega
  · rw [h3, hg]; simp [Nat.add_assoc]
theorem RdAt.stop {l : List UInt8} {k : Nat} {ps : List Int} (h : RdAt l k ps) (hs : (stepL (l.drop k)).2.1 = 0) : readL l = (ps, k, (stepL (l.drop k)).2.2) := by
  rw [h.2.2, readL_stop hs]; simp

def readS (l : List UInt8) (a : Int) : List UInt8 × Int × Int :=
  if a < 0 ∨ (l.length : Int) ≤ a ∨ byt l a.toNat ≠ 34 then ([], a, 20)
  else if (readL (l.drop (a.toNat + 1))).2.2 = 0 then (encL (readL (l.drop (a.toNat + 1))).1, a + 1 + (readL (l.drop (a.toNat + 1))).2.1 + 1, 0)
  else ([], a + 1 + (readL (l.drop (a.toNat + 1))).2.1, (readL (l.drop (a.toNat + 1))).2.2)
theorem readS_out {l : List UInt8} {a : Int} (h : a < 0 ∨ (l.length : Int) ≤ a ∨ byt l a.toNat ≠ 34) : readS l a = ([], a, 20) := by rw [readS, if_pos h]
theorem readS_in {l : List UInt8} {q : Nat} (h : q < l.length) (hb : byt l q = 34) : readS l q = if (readL (l.drop (q + 1))).2.2 = 0 then (encL (readL (l.drop (q + 1))).1, (q : Int) + 1 + (readL (l.drop (q + 1))).2.1 + 1, 0)
  else ([], (q : Int) + 1 + (readL (l.drop (q + 1))).2.1, (readL (l.drop (q + 1))).2.2) := by
  rw [readS, if_neg (by rw [Int.toNat_natCast]; omega), Int.toNat_natCast]
end Go.Proofs.Ytbfogkcnfnjcaaa.Ch
namespace Go.Proofs.Ytbfogkcnfnjcaaa.Ch
open Go.RowKit
open Go.Proofs.Ytbfogkcnfnjcaaa.Utf

theorem RdAt.err {l : List UInt8} {k : Nat} {ps : List Int} {e : Int} (h : RdAt l k ps) (hs : stepL (l.drop k) = (0, 0, e)) : readL l = (ps, k, e) := by
  have := h.stop (by rw [hs])
  rw [this, hs]
theorem RdAt.le {l : List UInt8} {k : Nat} {ps : List Int} (h : RdAt l k ps) : k ≤ (readL l).2.1 := by
  rw [h.2.2]; simp only; omega
theorem readS_bad {l : List UInt8} {q k : Nat} {ps : List Int} {e : Int} (h : q < l.length) (hb : byt l q = 34) (hr : readL (l.drop (q + 1)) = (ps, k, e)) (he : e ≠ 0) : readS l q = ([], (q : Int) + 1 + k, e) := by
  rw [readS_in h hb, hr, if_neg he]
theorem readS_ok {l : List UInt8} {q k : Nat} {ps : List Int} (h : q < l.length) (hb : byt l q = 34) (hr : readL (l.drop (q + 1)) = (ps, k, 0)) : readS l q = (encL ps, (q : Int) + 1 + k + 1, 0) := by
  rw [readS_in h hb, hr, if_pos rfl]
theorem uniL_pos {l : List UInt8} (h0 : l.length ≠ 0) (hq : byt l 0 ≠ 34) (he : (uniL l).2.2 = 0) : 1 ≤ (uniL l).2.1 := by
  by_cases hu : isUp (uniL l).1 = true
  · rw [(uniL_half h0 (.inl hu)).2.2]; simp
  · by_cases hl : isLo (uniL l).1 = true
    · rw [(uniL_half h0 (.inr hl)).2.2]; simp
    · have e := uniL_both h0 hq he (by simpa using hu) (by simpa using hl)
      have hn := stepL_n l
      have h2 := he
      rw [← e] at he ⊢
      rcases hn with h | h
      · exfalso
        have h3 := stepL_e l h.1
        rw [he] at h3
        rcases h3 with h3 | h3 | h3
        · simp at h3
        · simp at h3
        · exact hq h3.2.2
      · exact h.2.1
theorem one_take {l : List UInt8} {p : Int} {m : Nat} (h : oneL l = (p, (m : Int))) (hm : m ≠ 0) : l.take m = enc p := by
  rcases oneL_reads l with h1 | ⟨_, h2, h3⟩
  · rw [h] at h1
    have := congrArg Prod.snd h1
    simp at this
    omega
  · rw [h] at h2 h3
    simp only at h2 h3
    have e : m = (enc p).length := by omega
    conv => lhs; rw [← h3]
    rw [e, List.take_left']
    rfl
theorem uniL_one {l : List UInt8} {p : Int} {m : Nat} (h0 : l.length ≠ 0) (h2 : byt l 0 ≠ 92) (h : uniL l = (p, (m : Int), 0)) : oneL l = (p, (m : Int)) := by
  by_cases h1 : byt l 0 < 32
  · rw [uniL_ctl h0 h1] at h
    have := congrArg (fun x => x.2.2) h
    simp at this
  · by_cases h3 : (oneL l).2 = 0
    · rw [uniL_bad h3] at h
      have := congrArg (fun x => x.2.2) h
      simp at this
    · rw [uniL_pt h0 h3 h1 h2] at h
      have a := congrArg Prod.fst h
      have b := congrArg (fun x => x.2.1) h
      simp only at a b
      rw [Prod.ext_iff]
      exact ⟨a, b⟩
theorem up_len {l : List UInt8} {u : Int} (h : uniL l = (u, 6, 0)) : l.length ≠ 0 := by
  have := uniL_bd l
  rw [h] at this
  simp only at this
  omega
theorem up_stop {l : List UInt8} {j : Nat} {u : Int} (hup : isUp u = true) (h : uniL (l.drop j) = (u, 6, 0)) (hn : isLo (unitL (l.drop (j + 6))) = false) : stepL (l.drop j) = (0, 0, 20) := by
  rw [stepL_up (up_len h) (by rw [h]; exact hup), List.drop_drop, if_neg (by rw [hn]; simp)]
theorem up_go {l : List UInt8} {j : Nat} {u : Int} (hup : isUp u = true) (h : uniL (l.drop j) = (u, 6, 0)) (hn : isLo (unitL (l.drop (j + 6))) = true) : stepL (l.drop j) = (bothV u (unitL (l.drop (j + 6))), 12, 0) := by
  rw [stepL_up (up_len h) (by rw [h]; exact hup), List.drop_drop, if_pos hn, h]
theorem second_no {l : List UInt8} {p n e : Int} (h0 : l.length ≠ 0) (h : uniL l = (p, n, e)) (hn : e ≠ 0 ∨ isLo p = false) : isLo (unitL l) = false := by
  cases hc : isLo (unitL l) with
  | false => rfl
  | true =>
    have := (unitL_second h0 hc).2
    rw [h] at this
    have a := congrArg Prod.fst this
    have b := congrArg (fun x => x.2.2) this
    simp only at a b
    rcases hn with hn | hn
    · exact absurd b hn
    · rw [a, hc] at hn; simp at hn
theorem second_yes {l : List UInt8} {p n : Int} (h0 : l.length ≠ 0) (h : uniL l = (p, n, 0)) (hn : isLo p = true) : unitL l = p ∧ n = 6 := by
  have := (uniL_half h0 (by rw [h]; exact .inr hn)).2.2
  rw [h] at this
  exact ⟨(congrArg Prod.fst this).symm, congrArg (fun x => x.2.1) this⟩
theorem first_yes {l : List UInt8} {p n : Int} (h0 : l.length ≠ 0) (h : uniL l = (p, n, 0)) (hn : isUp p = true) : n = 6 := by
  have := (uniL_half h0 (by rw [h]; exact .inl hn)).2.2
  rw [h] at this
  exact congrArg (fun x => x.2.1) this
theorem strCells_of (l : List UInt8) : Lib.strCells (strOf l) = Lib.byteCells l := rfl
theorem strCells_extract (s : ByteArray) (a m : Nat) (p : Int) (h : oneL (s.data.toList.drop a) = (p, (m : Int))) (hm : m ≠ 0) : Lib.strCells (s.extract a (a + m)) = Lib.byteCells (enc p) := by
  have e := one_take h hm
  unfold Lib.strCells Lib.byteCells
  rw [← e]
  congr 1
  simp [ByteArray.data_extract]
end Go.Proofs.Ytbfogkcnfnjcaaa.Ch
namespace Go.Proofs.Ytbfogkcnfnjcaaa.Ch
open Go.RowKit
open Go.Proofs.Ytbfogkcnfnjcaaa.Utf

def toB (l : List Int) : List UInt8 := l.map fun x => UInt8.ofNat x.toNat
theorem toB_len (l : List Int) : (toB l).length = l.length := by simp [toB]
theorem byteCells_toB (l : List Int) (h : ∀ x ∈ l, 0 ≤ x ∧ x < 256) : Lib.byteCells (toB l) = l.map (Value.int .u8) := by
  simp only [Lib.byteCells, toB, List.map_map]
  apply List.map_congr_left
  intro x hx
  obtain ⟨h0, h1⟩ := h x hx
  simp [Function.comp]
  omega

def hexV (d : Int) : Int := if d < 10 then 48 + d else 87 + d
theorem hexV_bd {d : Int} (h0 : 0 ≤ d) (h1 : d ≤ 15) : 48 ≤ hexV d ∧ hexV d ≤ 102 := by unfold hexV; split <;> omega
def special (p : Int) : Bool := decide (p < 32 ∨ p = 34 ∨ p = 92)
def escZ (p : Int) : List Int :=
  if p = 34 ∨ p = 92 then [92, p] else if p = 8 then [92, 98] else if p = 9 then [92, 116] else if p = 10 then [92, 110] else if p = 12 then [92, 102] else if p = 13 then [92, 114]
  else [92, 117, 48, 48, hexV (p / 16), hexV (p % 16)]
def qptZ (p : Int) : List Int := if special p = true then escZ p else encZ p
def qbZ (c : Int) : List Int := if special c = true then escZ c else [c]
def qpt (p : Int) : List UInt8 := toB (qptZ p)
def qb (c : UInt8) : List UInt8 := toB (qbZ c.toNat)
def qL (ps : List Int) : List UInt8 := (ps.map qpt).flatten
def qbL (l : List UInt8) : List UInt8 := (l.map qb).flatten
theorem qL_cons (p : Int) (ps : List Int) : qL (p :: ps) = qpt p ++ qL ps := by simp [qL]
theorem qbL_append (a b : List UInt8) : qbL (a ++ b) = qbL a ++ qbL b := by simp [qbL]
theorem escZ_byte {p : Int} (h0 : 0 ≤ p) (h1 : special p = true) : ∀ x ∈ escZ p, 0 ≤ x ∧ x < 256 := by
  simp [special] at h1
  have a := hexV_bd (d := p / 16)
  have b := hexV_bd (d := p % 16)
  intro x hx
  unfold escZ at hx
  by_cases c1 : p = 34 ∨ p = 92
  · rw [if_pos c1] at hx; simp at hx; omega
  · rw [if_neg c1] at hx
    have a := hexV_bd (d := p / 16) (by omega) (by omega)
    have b := hexV_bd (d := p % 16) (by omega) (by omega)
    (repeat' split at hx) <;> (simp at hx; omega)
theorem escZ_le (p : Int) : 2 ≤ (escZ p).length ∧ (escZ p).length ≤ 6 := by unfold escZ; (repeat' split) <;> simp
theorem qbZ_byte (c : Int) (h0 : 0 ≤ c) (h1 : c ≤ 255) : ∀ x ∈ qbZ c, 0 ≤ x ∧ x < 256 := by
  unfold qbZ
  by_cases h : special c = true
  · rw [if_pos h]; exact escZ_byte h0 h
  · rw [if_neg h]; intro x hx; simp at hx; omega
theorem qb_le (c : UInt8) : (qb c).length ≤ 6 := by
  unfold qb qbZ
  rw [toB_len]
  split
  · exact (escZ_le _).2
  · simp
theorem qpt_le (p : Int) : (qpt p).length ≤ 6 := by
  unfold qpt qptZ
  rw [toB_len]
  split
  · exact (escZ_le _).2
  · have := encZ_le p; omega
theorem qbL_le (l : List UInt8) : (qbL l).length ≤ 6 * l.length := by
  induction l with
  | nil => simp [qbL]
  | cons a l ih =>
    have := qb_le a
    simp [qbL] at ih ⊢
    omega

theorem toB_encZ (p : Int) : toB (encZ p) = enc p := rfl
theorem encZ_high {p : Int} (h : isPt p = true) (h1 : 128 ≤ p) : ∀ x ∈ encZ p, 128 ≤ x ∧ x < 256 := by
  have a := isPt_hi h
  intro x hx
  by_cases c1 : p < 2048
  · rw [encZ_2 h h1 c1] at hx; simp at hx; omega
  · by_cases c2 : p < 65536
    · rw [encZ_3 h (by omega) c2] at hx; simp at hx; omega
    · rw [encZ_4 h (by omega)] at hx; simp at hx; omega
theorem flat_self (xs : List Int) (h : ∀ x ∈ xs, 128 ≤ x ∧ x < 256) : qbL (toB xs) = toB xs := by
  induction xs with
  | nil => rfl
  | cons x xs ih =>
    have hx := h x (by simp)
    have e : qb (UInt8.ofNat x.toNat) = [UInt8.ofNat x.toNat] := by
      have : ((UInt8.ofNat x.toNat).toNat : Int) = x := by simp; omega
      unfold qb qbZ
      rw [this, if_neg (by simp [special]; omega)]
      rfl
    have := ih fun y hy => h y (by simp [hy])
    simp [qbL, toB] at this ⊢
    rw [e, this]
    rfl
theorem qbL_enc {p : Int} (h : isPt p = true) : qbL (enc p) = qpt p := by
  have a := isPt_lo h
  by_cases h1 : p < 128
  · have e : enc p = [UInt8.ofNat p.toNat] := by unfold enc; rw [encZ_1 h h1]; rfl
    have e2 : ((UInt8.ofNat p.toNat).toNat : Int) = p := by simp; omega
    rw [e]
    simp only [qbL, List.map_cons, List.map_nil, List.flatten_cons, List.flatten_nil, List.append_nil]
    unfold qb qbZ qpt qptZ
    rw [e2, encZ_1 h h1]
  · have e := flat_self (encZ p) (encZ_high h (by omega))
    rw [toB_encZ] at e
    rw [e]
    unfold qpt qptZ
    rw [if_neg (by simp [special]; omega)]
    rfl
theorem qbL_encL (ps : List Int) (h : ∀ p ∈ ps, isPt p = true) : qbL (encL ps) = qL ps := by
  induction ps with
  | nil => rfl
  | cons p ps ih => rw [encL_cons, qbL_append, qL_cons, qbL_enc (h p (by simp)), ih fun q hq => h q (by simp [hq])]

end Go.Proofs.Ytbfogkcnfnjcaaa.Ch
namespace Go.Proofs.Ytbfogkcnfnjcaaa.Ch
open Go.RowKit
open Go.Proofs.Ytbfogkcnfnjcaaa.Utf

theorem step_qpt_len (l : List UInt8) (h : (stepL l).2.1 ≠ 0) : ((qpt (stepL l).1).length : Int) ≤ (stepL l).2.1 := by
  have six := qpt_le (stepL l).1
  unfold stepL at h six ⊢
  by_cases h0 : l.length = 0
  · rw [if_pos h0] at h; simp at h
  · rw [if_neg h0] at h six ⊢
    by_cases h1 : byt l 0 = 34
    · rw [if_pos h1] at h; simp at h
    · rw [if_neg h1] at h six ⊢
      by_cases h2 : byt l 0 < 32
      · rw [if_pos h2] at h; simp at h
      · rw [if_neg h2] at h six ⊢
        by_cases h3 : byt l 0 = 92
        · rw [if_pos h3] at h six ⊢
          by_cases h4 : (escL l).2 = 0
          · rw [if_pos h4] at h; simp at h
          · rw [if_neg h4] at six ⊢
            simp only at six ⊢
            clear h
            unfold escL at h4 six ⊢
            by_cases h5 : 2 ≤ l.length ∧ 0 ≤ letV (byt l 1)
            · rw [if_pos h5]
              simp only
              rcases (letV_set _ h5.2).1 with e | e | e | e | e | e | e | e <;> (rw [e]; decide)
            · rw [if_neg h5] at h4 six ⊢
              by_cases h6 : unitL l < 0
              · rw [if_pos h6] at h4; simp at h4
              · rw [if_neg h6] at h4 six ⊢
                by_cases h7 : isPt (unitL l) = true
                · rw [if_pos h7] at six ⊢; simp only at six ⊢; omega
                · rw [if_neg h7] at h4 six ⊢
                  by_cases h8 : isUp (unitL l) = true ∧ isLo (unitL (l.drop 6)) = true
                  · rw [if_pos h8] at six ⊢; simp only at six ⊢; omega
                  · rw [if_neg h8] at h4; simp at h4
        · rw [if_neg h3] at h six ⊢
          by_cases h4 : (oneL l).2 = 0
          · rw [if_pos h4] at h; simp at h
          · rw [if_neg h4]
            simp only
            have hp : special (oneL l).1 = false := by
              by_cases h5 : byt l 0 < 128
              · rw [one_low h0 h5]; simp [special]; omega
              · have := one_high (by omega) h4
                simp [special]; omega
            unfold qpt qptZ
            rw [if_neg (by rw [hp]; simp), toB_encZ]
            rcases oneL_reads l with h5 | ⟨_, h6, _⟩
            · rw [h5] at h4; simp at h4
            · omega
theorem readL_qlen (l : List UInt8) : (qL (readL l).1).length ≤ (readL l).2.1 := by
  induction l using pts_ind with
  | h l ih =>
    by_cases h : (stepL l).2.1 = 0
    · rw [readL_stop h]; simp [qL]
    · rcases stepL_n l with h1 | ⟨h3, h1, h4, h2, h5, _⟩
      · exact absurd h1.1 h
      · have hi := ih (stepL l).2.1.toNat (by omega) (by omega)
        have hs := step_qpt_len l h
        rw [readL_go h]
        simp only
        rw [qL_cons, List.length_append]
        omega

end Go.Proofs.Ytbfogkcnfnjcaaa.Ch
namespace Go.Proofs.Ytbfogkcnfnjcaaa.Ch
open Go.RowKit
open Go.Proofs.Ytbfogkcnfnjcaaa.Utf

theorem again_plain (l : List UInt8) (a : Int) (t : List UInt8) (n : Int) (h : readS l a = (t, n, 0)) :
    (ptsL t).2 = t.length ∧ ((qbL t).length : Int) + a + 2 ≤ n ∧ a < n ∧ 1 ≤ n ∧ n ≤ l.length ∧ byt l (n.toNat - 1) = 34 ∧ ∃ q : Nat, a = q ∧ q < l.length ∧ byt l q = 34 := by
  unfold readS at h
  by_cases h1 : a < 0 ∨ (l.length : Int) ≤ a ∨ byt l a.toNat ≠ 34
  · rw [if_pos h1] at h
    have := congrArg (fun x => x.2.2) h
    simp at this
  · rw [if_neg h1] at h
    obtain ⟨q, rfl⟩ := Int.eq_ofNat_of_zero_le (show 0 ≤ a by omega)
    rw [Int.toNat_natCast] at h h1
    obtain ⟨f1, f2, f3, f4⟩ := readL_facts (l.drop (q + 1))
    have f5 := readL_qlen (l.drop (q + 1))
    by_cases h2 : (readL (l.drop (q + 1))).2.2 = 0
    · rw [if_pos h2] at h
      rcases f4 with f4 | f4 | ⟨_, f6, f7⟩
      · omega
      · omega
      · have ht : encL (readL (l.drop (q + 1))).1 = t := congrArg Prod.fst h
        have hn : (q : Int) + 1 + (readL (l.drop (q + 1))).2.1 + 1 = n := congrArg (fun x => x.2.1) h
        rw [List.length_drop] at f6
        rw [byt_drop] at f7
        have e : ptsL (encL (readL (l.drop (q + 1))).1 ++ []) = _ := ptsL_encL _ f3 []
        rw [List.append_nil] at e
        refine ⟨?_, ?_, by omega, by omega, by omega, ?_, q, rfl, by omega, ?_⟩
        · rw [← ht, e]; simp [ptsL, ptsF]
        · rw [← ht, qbL_encL _ f3]; omega
        · have : n.toNat - 1 = q + 1 + (readL (l.drop (q + 1))).2.1 := by omega
          rw [this]; exact f7
        · by_cases h3 : byt l q = 34
          · exact h3
          · exact absurd (.inr (.inr h3)) h1
    · rw [if_neg h2] at h
      exact absurd (congrArg (fun x => x.2.2) h) h2
end Go.Proofs.Ytbfogkcnfnjcaaa.Ch
namespace Go.Proofs.Ytbfogkcnfnjcaaa.Sc
open Go.RowKit
open Go.Proofs.Ytbfogkcnfnjcaaa.Utf
open Go.Proofs.Ytbfogkcnfnjcaaa.Ch (readS readS_in readS_out readL readL_facts again_plain qbL)
open Go.Proofs.Ytbfogkcnfnjcaaa.Nu

abbrev Tok := Int × Int × List UInt8 × Int
def isW (c : Int) : Bool := decide (c = 32 ∨ c = 9 ∨ c = 10 ∨ c = 13)
def isMk (c : Int) : Bool := decide (c = 123 ∨ c = 125 ∨ c = 91 ∨ c = 93 ∨ c = 58 ∨ c = 44)
def isNm (c : Int) : Bool := decide (c = 45 ∨ (48 ≤ c ∧ c ≤ 57))
def isPart (c : Int) : Bool := decide ((97 ≤ c ∧ c ≤ 122) ∨ (65 ≤ c ∧ c ≤ 90) ∨ (48 ≤ c ∧ c ≤ 57) ∨ c = 95)
theorem isW_iff (c : Int) : isW c = true ↔ (c = 32 ∨ c = 9 ∨ c = 10 ∨ c = 13) := by simp [isW]
theorem isMk_iff (c : Int) : isMk c = true ↔ (c = 123 ∨ c = 125 ∨ c = 91 ∨ c = 93 ∨ c = 58 ∨ c = 44) := by simp [isMk]
theorem isNm_iff (c : Int) : isNm c = true ↔ (c = 45 ∨ (48 ≤ c ∧ c ≤ 57)) := by simp [isNm]
theorem isPart_iff (c : Int) : isPart c = true ↔ ((97 ≤ c ∧ c ≤ 122) ∨ (65 ≤ c ∧ c ≤ 90) ∨ (48 ≤ c ∧ c ≤ 57) ∨ c = 95) := by simp [isPart]
theorem bool_no {b : Bool} {p : Prop} (h : b = true ↔ p) (hn : ¬ p) : b = false := by cases b with
  | false => rfl
  | true => exact absurd (h.1 rfl) hn

def wTrue : List UInt8 := [116, 114, 117, 101]
def wFalse : List UInt8 := [102, 97, 108, 115, 101]
def wNull : List UInt8 := [110, 117, 108, 108]
def hasW (l : List UInt8) (k : Nat) (w : List UInt8) : Prop := (l.drop k).take w.length = w ∧ isPart (byt l (k + w.length)) = false
instance (l : List UInt8) (k : Nat) (w : List UInt8) : Decidable (hasW l k w) := by unfold hasW; infer_instance
def wrd (l : List UInt8) (k : Nat) (w : List UInt8) : Option Tok × Int × Int :=
  if hasW l k w then (some (2, 0, w, (k : Int)), ((k + w.length : Nat) : Int), 0) else (none, (k : Int), 40)
def txT (l : List UInt8) (k : Nat) : Option Tok × Int × Int :=
  if (readS l k).2.2 = 0 then (some (4, 0, (readS l k).1, (k : Int)), (readS l k).2.1, 0) else (none, (readS l k).2.1, (readS l k).2.2)
def nmT (l : List UInt8) (k : Nat) : Option Tok × Int × Int :=
  if (rdS l k).2.2 = 0 then (some (3, (rdS l k).1, [], (k : Int)), (rdS l k).2.1, 0) else (none, (rdS l k).2.1, (rdS l k).2.2)
def stp (l : List UInt8) (k : Nat) : Option Tok × Int × Int :=
  if isW (byt l k) = true then (none, ((k + 1 : Nat) : Int), 0)
  else if isMk (byt l k) = true then (some (1, 0, [l.getD k 0], (k : Int)), ((k + 1 : Nat) : Int), 0)
  else if byt l k = 34 then txT l k
  else if isNm (byt l k) = true then nmT l k
  else if byt l k = 116 then wrd l k wTrue
  else if byt l k = 102 then wrd l k wFalse
  else if byt l k = 110 then wrd l k wNull
  else (none, (k : Int), 40)

def consR (ts : List Tok) (r : List Tok × Int × Int) : List Tok × Int × Int := if r.2.2 = 0 then (ts ++ r.1, r.2.1, 0) else r
theorem consR_nil (r : List Tok × Int × Int) : consR [] r = r := by
  unfold consR
  split
  · rename_i h; rw [Prod.ext_iff, Prod.ext_iff]; exact ⟨rfl, rfl, h.symm⟩
  · rfl
theorem consR_app (a b : List Tok) (r : List Tok × Int × Int) : consR (a ++ b) r = consR a (consR b r) := by
  unfold consR
  by_cases h : r.2.2 = 0
  · rw [if_pos h, if_pos h, if_pos rfl, List.append_assoc]
  · rw [if_neg h, if_neg h, if_neg h]
def scnF (l : List UInt8) : Nat → Nat → List Tok × Int × Int
  | 0, _ => ([], 0, 0)
  | f + 1, k => if k < l.length then (if (stp l k).2.2 = 0 then consR (stp l k).1.toList (scnF l f (stp l k).2.1.toNat) else ([], (stp l k).2.1, (stp l k).2.2)) else ([], 0, 0)
def scn (l : List UInt8) (k : Nat) : List Tok × Int × Int := scnF l (l.length - k) k
def scnS (l : List UInt8) : List Tok × Int × Int := if 65536 < l.length then ([], 0, 2) else scn l 0

theorem readS_ok_le {l : List UInt8} {k : Nat} (h : (readS l k).2.2 = 0) : ∃ m : Nat, (readS l k).2.1 = m ∧ k < m ∧ m ≤ l.length := by
  rcases hr : readS l k with ⟨t, n, e⟩
  rw [hr] at h
  simp only at h
  subst h
  obtain ⟨_, _, h3, h4, h5, _⟩ := again_plain l k t n hr
  exact ⟨n.toNat, by show n = _; omega, by omega, by omega⟩
theorem rdN_ok_le {l : List UInt8} {k : Nat} (hk : k < l.length) (h : (rdS l k).2.2 = 0) : ∃ m : Nat, (rdS l k).2.1 = m ∧ k < m ∧ m ≤ l.length := by
  have e : rdS l k = rdN l k := by rw [rdS, if_neg (by omega), Int.toNat_natCast]
  rw [e] at h ⊢
  unfold rdN at h ⊢
  split
  · rename_i hb; rw [if_pos hb] at h; simp at h
  · rename_i hb
    have h1 := fst_le l k hk
    have h2 := runL_le l (fstN l k) h1.2
    have h3 : runL l (fstN l k) ≠ 0 := fun h => hb (.inl h)
    exact ⟨_, rfl, by omega, h2⟩
theorem wrd_ok_le {l : List UInt8} {k : Nat} {w : List UInt8} (hw : w ≠ []) (h : (wrd l k w).2.2 = 0) : ∃ m : Nat, (wrd l k w).2.1 = m ∧ k < m ∧ m ≤ l.length := by
  unfold wrd at h ⊢
  split
  · rename_i hh
    have h1 := congrArg List.length hh.1
    have h2 : w.length ≠ 0 := fun h => hw (List.eq_nil_of_length_eq_zero h)
    rw [List.length_take, List.length_drop] at h1
    exact ⟨_, rfl, by omega, by omega⟩
  · rename_i hh; rw [if_neg hh] at h; simp at h
theorem stp_ok {l : List UInt8} {k : Nat} (hk : k < l.length) (h : (stp l k).2.2 = 0) : ∃ m : Nat, (stp l k).2.1 = m ∧ k < m ∧ m ≤ l.length := by
  unfold stp at h ⊢
  split
  · exact ⟨k + 1, rfl, by omega, by omega⟩
  · rename_i c1; rw [if_neg c1] at h
    split
    · exact ⟨k + 1, rfl, by omega, by omega⟩
    · rename_i c2; rw [if_neg c2] at h
      split
      · rename_i c3; rw [if_pos c3] at h
        unfold txT at h ⊢
        by_cases c : (readS l k).2.2 = 0
        · rw [if_pos c]; exact readS_ok_le c
        · rw [if_neg c] at h; exact absurd h c
      · rename_i c3; rw [if_neg c3] at h
        split
        · rename_i c4; rw [if_pos c4] at h
          unfold nmT at h ⊢
          by_cases c : (rdS l k).2.2 = 0
          · rw [if_pos c]; exact rdN_ok_le hk c
          · rw [if_neg c] at h; exact absurd h c
        · rename_i c4; rw [if_neg c4] at h
          split
          · rename_i c5; rw [if_pos c5] at h; exact wrd_ok_le (by decide) h
          · rename_i c5; rw [if_neg c5] at h
            split
            · rename_i c6; rw [if_pos c6] at h; exact wrd_ok_le (by decide) h
            · rename_i c6; rw [if_neg c6] at h
              split
              · rename_i c7; rw [if_pos c7] at h; exact wrd_ok_le (by decide) h
              · rename_i c7; rw [if_neg c7] at h; simp at h
theorem scnF_fuel (l : List UInt8) : ∀ f g k, l.length - k ≤ f → l.length - k ≤ g → scnF l f k = scnF l g k := by
  intro f
  induction f with
  | zero =>
    intro g k h1 h2
    cases g with
    | zero => rfl
    | succ g => rw [scnF, scnF, if_neg (by omega)]
  | succ f ih =>
    intro g k h1 h2
    cases g with
    | zero => rw [scnF, scnF, if_neg (by omega)]
    | succ g =>
      rw [scnF, scnF]
      by_cases hk : k < l.length
      · rw [if_pos hk, if_pos hk]
        by_cases he : (stp l k).2.2 = 0
        · obtain ⟨m, h3, h4, h5⟩ := stp_ok hk he
          rw [if_pos he, if_pos he, h3, Int.toNat_natCast, ih g m (by omega) (by omega)]
        · rw [if_neg he, if_neg he]
      · rw [if_neg hk, if_neg hk]
theorem scn_end {l : List UInt8} {k : Nat} (h : l.length ≤ k) : scn l k = ([], 0, 0) := by
  rw [scn, show l.length - k = 0 by omega, scnF]
theorem scn_err {l : List UInt8} {k : Nat} (hk : k < l.length) (h : (stp l k).2.2 ≠ 0) : scn l k = ([], (stp l k).2.1, (stp l k).2.2) := by
  rw [scn, show l.length - k = (l.length - k - 1) + 1 by omega, scnF, if_pos hk, if_neg h]
theorem scn_go {l : List UInt8} {k m : Nat} {o : Option Tok} (hk : k < l.length) (h : stp l k = (o, (m : Int), 0)) : scn l k = consR o.toList (scn l m) := by
  rw [scn, show l.length - k = (l.length - k - 1) + 1 by omega, scnF, if_pos hk, if_pos (by rw [h]), h]
  have := stp_ok hk (by rw [h])
  rw [h] at this
  obtain ⟨m', e, h4, h5⟩ := this
  simp only at e
  rw [scn]
  simp only [Int.toNat_natCast]
  rw [scnF_fuel l (l.length - k - 1) (l.length - m) m (by omega) (by omega)]

inductive Scan (l : List UInt8) : Nat → List Tok → Nat → Prop
  | nil (k : Nat) : Scan l k [] k
  | cons {k m n : Nat} {o : Option Tok} {ts : List Tok} : k < l.length → stp l k = (o, (m : Int), 0) → Scan l m ts n → Scan l k (o.toList ++ ts) n
theorem Scan.trans {l : List UInt8} {k m n : Nat} {ts us : List Tok} (h1 : Scan l k ts m) (h2 : Scan l m us n) : Scan l k (ts ++ us) n := by
  induction h1 with
  | nil k => exact h2
  | cons hk hs _ ih => rw [List.append_assoc]; exact .cons hk hs (ih h2)
theorem Scan.one {l : List UInt8} {k m : Nat} {o : Option Tok} (hk : k < l.length) (h : stp l k = (o, (m : Int), 0)) : Scan l k o.toList m := by
  have := Scan.cons hk h (.nil m)
  rwa [List.append_nil] at this
theorem Scan.snoc {l : List UInt8} {k m n : Nat} {o : Option Tok} {ts : List Tok} (h1 : Scan l k ts m) (hm : m < l.length) (h : stp l m = (o, (n : Int), 0)) : Scan l k (ts ++ o.toList) n := h1.trans (.one hm h)
theorem Scan.scn {l : List UInt8} {k m : Nat} {ts : List Tok} (h : Scan l k ts m) : scn l k = consR ts (scn l m) := by
  induction h with
  | nil k => rw [consR_nil]
  | cons hk hs _ ih => rw [scn_go hk hs, ih, ← consR_app]
theorem Scan.le {l : List UInt8} {k m : Nat} {ts : List Tok} (h : Scan l k ts m) : k ≤ m ∧ ts.length ≤ m - k ∧ (k ≤ l.length → m ≤ l.length) := by
  induction h with
  | nil k => simp
  | cons hk hs _ ih =>
    rename_i k m n o ts _
    have := stp_ok hk (by rw [hs])
    rw [hs] at this
    obtain ⟨m', e, h4, h5⟩ := this
    simp only at e
    have : o.toList.length ≤ 1 := by cases o <;> simp
    rw [List.length_append]
    omega
theorem scn_Scan (l : List UInt8) : ∀ f k, l.length - k ≤ f → k ≤ l.length → (scn l k).2.2 = 0 → Scan l k (scn l k).1 l.length ∧ (scn l k).2.1 = 0 := by
  intro f
  induction f with
  | zero =>
    intro k h1 h2 _
    obtain rfl : k = l.length := by omega
    rw [scn_end (Nat.le_refl _)]
    exact ⟨.nil _, rfl⟩
  | succ f ih =>
    intro k h1 h2 h3
    by_cases hk : k < l.length
    · by_cases he : (stp l k).2.2 = 0
      · obtain ⟨m, h4, h5, h6⟩ := stp_ok hk he
        have hs : stp l k = ((stp l k).1, (m : Int), 0) := by rw [Prod.ext_iff, Prod.ext_iff]; exact ⟨rfl, h4, he⟩
        rw [scn_go hk hs] at h3 ⊢
        have he2 : (scn l m).2.2 = 0 := by
          unfold consR at h3
          by_cases h : (scn l m).2.2 = 0
          · exact h
          · rw [if_neg h] at h3; exact h3
        obtain ⟨h7, h8⟩ := ih m (by omega) h6 he2
        rw [consR, if_pos he2]
        exact ⟨.cons hk hs h7, h8⟩
      · rw [scn_err hk he] at h3; exact absurd h3 he
    · obtain rfl : k = l.length := by omega
      rw [scn_end (Nat.le_refl _)]
      exact ⟨.nil _, rfl⟩
theorem scnS_Scan {l : List UInt8} (h : (scnS l).2.2 = 0) : l.length ≤ 65536 ∧ scnS l = scn l 0 ∧ Scan l 0 (scnS l).1 l.length ∧ (scnS l).2.1 = 0 := by
  unfold scnS at h ⊢
  by_cases hl : 65536 < l.length
  · rw [if_pos hl] at h; simp at h
  · rw [if_neg hl] at h ⊢
    exact ⟨by omega, rfl, scn_Scan l _ 0 (Nat.le_refl _) (by omega) h⟩
end Go.Proofs.Ytbfogkcnfnjcaaa.Sc
namespace Go.Proofs.Ytbfogkcnfnjcaaa.Sc
open Go.RowKit
open Go.Proofs.Ytbfogkcnfnjcaaa.Utf
open Go.Proofs.Ytbfogkcnfnjcaaa.Ch (readS readS_in readS_out readL readL_facts again_plain qbL)
open Go.Proofs.Ytbfogkcnfnjcaaa.Nu

def wrds (k : Nat) : List UInt8 := if k = 0 then wTrue else if k = 1 then wFalse else wNull
def wdF (l : List UInt8) (p : Nat) : Nat → Nat → Nat
  | 0, _ => 0
  | f + 1, k => if hasW l p (wrds k) then (wrds k).length else wdF l p f (k + 1)
def wdN (l : List UInt8) (p : Nat) : Nat := wdF l p 3 0
theorem wrds_len (k : Nat) : 4 ≤ (wrds k).length ∧ (wrds k).length ≤ 5 := by 
  unfold wrds
  split
  · decide
  · split <;> decide
theorem wrds_hd (k : Nat) : byt (wrds k) 0 = if k = 0 then 116 else if k = 1 then 102 else 110 := by 
  unfold wrds
  split
  · rfl
  · split <;> rfl
theorem hasW_hd {l : List UInt8} {p : Nat} {y : List UInt8} (h : hasW l p y) (hy : 0 < y.length) : byt y 0 = byt l p := by
  obtain ⟨h, _⟩ := h
  have h2 : (l.drop p)[0]? = y[0]? := by rw [← h, List.getElem?_take, if_pos hy]
  unfold byt
  rw [List.getD_eq_getElem?_getD, List.getD_eq_getElem?_getD, ← h2, List.getElem?_drop, Nat.add_zero]
theorem wdN_is {l : List UInt8} {p k : Nat} (hk : k < 3) (h : byt l p = byt (wrds k) 0) : wdN l p = if hasW l p (wrds k) then (wrds k).length else 0 := by
  have no : ∀ j, j < 3 → j ≠ k → ¬ hasW l p (wrds j) := by
    intro j hj hjk hh
    have h1 := hasW_hd hh (by have := (wrds_len j).1; omega)
    rw [h, wrds_hd, wrds_hd] at h1
    rcases (show k = 0 ∨ k = 1 ∨ k = 2 by omega) with rfl | rfl | rfl <;> rcases (show j = 0 ∨ j = 1 ∨ j = 2 by omega) with rfl | rfl | rfl <;> simp at h1 hjk
  unfold wdN
  rw [wdF, wdF, wdF, wdF]
  rcases (show k = 0 ∨ k = 1 ∨ k = 2 by omega) with rfl | rfl | rfl
  · rw [if_neg (no 1 (by omega) (by omega)), if_neg (no 2 (by omega) (by omega))]
  · rw [if_neg (no 0 (by omega) (by omega)), if_neg (no 2 (by omega) (by omega))]
  · rw [if_neg (no 0 (by omega) (by omega)), if_neg (no 1 (by omega) (by omega))]
theorem qb_pos (c : UInt8) : 1 ≤ (Ch.qb c).length := by
  unfold Ch.qb
  rw [Ch.toB_len]
  unfold Ch.qbZ
  split
  · have := (Ch.escZ_le (c.toNat : Int)).1; omega
  · simp
theorem len_qbL (l : List UInt8) : l.length ≤ (qbL l).length := by
  induction l with
  | nil => simp
  | cons c r ih =>
    have h := qb_pos c
    rw [show c :: r = [c] ++ r from rfl, Ch.qbL_append, List.length_append, List.length_append]
    have : (qbL [c]).length = (Ch.qb c).length := by simp [qbL]
    simp only [List.length_singleton]
    omega
def okT (t : Tok) : Prop :=
  (t.1 = 1 ∧ t.2.1 = 0 ∧ ∃ c : UInt8, t.2.2.1 = [c] ∧ isMk (c.toNat : Int) = true) ∨ (t.1 = 2 ∧ t.2.1 = 0 ∧ ∃ i, i < 3 ∧ t.2.2.1 = wrds i) ∨
  (t.1 = 3 ∧ t.2.1.natAbs ≤ maxN ∧ t.2.2.1 = []) ∨ (t.1 = 4 ∧ t.2.1 = 0 ∧ (ptsL t.2.2.1).2 = t.2.2.1.length)
def wr (t : Tok) : List UInt8 := if t.1 = 3 then putL t.2.1 else if t.1 = 4 then 34 :: (qbL t.2.2.1 ++ [34]) else t.2.2.1

theorem stp_okT {l : List UInt8} {k : Nat} {m : Int} {t : Tok} (h : stp l k = (some t, m, 0)) : okT t ∧ t.2.2.1.length ≤ l.length + 1 := by
  have key : ∀ i, i < 3 → wrd l k (wrds i) = (some t, m, 0) → okT t ∧ t.2.2.1.length ≤ l.length + 1 := by
    intro i hi hw
    have hle := wrd_ok_le (w := wrds i) (l := l) (k := k) (fun e => by have := (wrds_len i).1; rw [e] at this; simp at this) (by rw [hw])
    unfold wrd at hw
    split at hw
    · rename_i hh
      have e : (2, 0, wrds i, (k : Int)) = t := Option.some.inj (congrArg Prod.fst hw)
      subst e
      refine ⟨.inr (.inl ⟨rfl, rfl, i, hi, rfl⟩), ?_⟩
      have h1 := congrArg List.length hh.1
      rw [List.length_take, List.length_drop] at h1
      show (wrds i).length ≤ l.length + 1
      omega
    · exact absurd (congrArg (fun x => x.2.2) hw) (by simp)
  unfold stp at h
  by_cases c1 : isW (byt l k) = true
  · rw [if_pos c1] at h; exact absurd (congrArg Prod.fst h) (by simp)
  rw [if_neg c1] at h
  by_cases c2 : isMk (byt l k) = true
  · rw [if_pos c2] at h
    have e : (1, 0, [l.getD k 0], (k : Int)) = t := Option.some.inj (congrArg Prod.fst h)
    subst e
    exact ⟨.inl ⟨rfl, rfl, _, rfl, c2⟩, by simp⟩
  rw [if_neg c2] at h
  by_cases c3 : byt l k = 34
  · rw [if_pos c3] at h
    unfold txT at h
    split at h
    · rename_i he
      have e := Option.some.inj (congrArg Prod.fst h)
      subst e
      rcases hr : readS l k with ⟨tx, n, e⟩
      rw [hr] at he
      simp only at he
      subst he
      obtain ⟨f1, f2, f3, f4, f5, _⟩ := again_plain l k tx n hr
      refine ⟨.inr (.inr (.inr ⟨rfl, rfl, f1⟩)), ?_⟩
      have hq := len_qbL tx
      show tx.length ≤ l.length + 1
      omega
    · rename_i he; exact absurd (congrArg (fun x => x.2.2) h) he
  rw [if_neg c3] at h
  by_cases c4 : isNm (byt l k) = true
  · rw [if_pos c4] at h
    unfold nmT at h
    split at h
    · have e := Option.some.inj (congrArg Prod.fst h)
      subst e
      have hb := rdS_bounds l k
      refine ⟨.inr (.inr (.inl ⟨rfl, ?_, rfl⟩)), by simp⟩
      show (rdS l k).1.natAbs ≤ maxN
      omega
    · rename_i he; exact absurd (congrArg (fun x => x.2.2) h) he
  rw [if_neg c4] at h
  by_cases c5 : byt l k = 116
  · rw [if_pos c5] at h; exact key 0 (by omega) h
  rw [if_neg c5] at h
  by_cases c6 : byt l k = 102
  · rw [if_pos c6] at h; exact key 1 (by omega) h
  rw [if_neg c6] at h
  by_cases c7 : byt l k = 110
  · rw [if_pos c7] at h; exact key 2 (by omega) h
  rw [if_neg c7] at h
  exact absurd (congrArg Prod.fst h) (by simp)
theorem Scan.okT {l : List UInt8} {k n : Nat} {ts : List Tok} (h : Scan l k ts n) : ∀ t ∈ ts, okT t ∧ t.2.2.1.length ≤ l.length + 1 := by
  induction h with
  | nil k => simp
  | cons hk hs _ ih =>
    rename_i o ts _
    intro t ht
    rw [List.mem_append] at ht
    rcases ht with ht | ht
    · cases o with
      | none => simp at ht
      | some u =>
        simp at ht
        subst ht
        exact stp_okT hs
    · exact ih t ht
end Go.Proofs.Ytbfogkcnfnjcaaa.Sc
namespace Go.Proofs.Ytbfogkcnfnjcaaa.Re
open Go.Proofs.Ytbfogkcnfnjcaaa.Utf
open Go.Proofs.Ytbfogkcnfnjcaaa.Sc

inductive V : Type
  | mk (k n : Int) (s : List UInt8) (l : List V) (ns : List (List UInt8)) (ms : List V) : V
def V.k : V → Int | .mk k _ _ _ _ _ => k
def V.n : V → Int | .mk _ n _ _ _ _ => n
def V.s : V → List UInt8 | .mk _ _ s _ _ _ => s
def V.l : V → List V | .mk _ _ _ l _ _ => l
def V.ns : V → List (List UInt8) | .mk _ _ _ _ ns _ => ns
def V.ms : V → List V | .mk _ _ _ _ _ ms => ms
theorem V.eta (v : V) : V.mk v.k v.n v.s v.l v.ns v.ms = v := by cases v; rfl
def V0 : V := .mk 0 0 [] [] [] []
def txV (s : List UInt8) : V := .mk 4 0 s [] [] []
def nmV (n : Int) : V := .mk 3 n [] [] [] []
def wdV (s : List UInt8) : V := if s = wNull then .mk 1 0 [] [] [] [] else if s = wTrue then .mk 2 1 [] [] [] [] else .mk 2 0 [] [] [] []
def lsV (l : List V) : V := .mk 5 0 [] l [] []
def mpV (x : List (List UInt8) × List V) : V := .mk 6 0 [] [] x.1 x.2

mutual
/-- how high a value is -/
def ht : V → Nat
  | .mk _ _ _ l _ ms => max (htL l) (htL ms) + 1
def htL : List V → Nat
  | [] => 0
  | v :: r => max (ht v) (htL r)
end
theorem htL_mem {v : V} {l : List V} (h : v ∈ l) : ht v ≤ htL l := by
  induction l with
  | nil => cases h
  | cons a r ih =>
    rw [htL]
    rcases List.mem_cons.1 h with rfl | h
    · omega
    · have := ih h; omega

inductive Rs (α : Type) : Type
  | bad (a y : Int) : Rs α
  | ok (v : α) (i p : Nat) : Rs α
def Rs.map {α β : Type} (f : α → β) : Rs α → Rs β
  | .bad a y => .bad a y
  | .ok v i p => .ok (f v) i p

def tk (ts : List Tok) (E : Int) (i : Nat) : Tok := ts.getD i (0, 0, [], E)
def isM (t : Tok) (c : UInt8) : Bool := decide (t.1 = 1 ∧ t.2.2.1 = [c])
def badV (t : Tok) : Bool := decide (t.1 = 0 ∨ (t.1 = 1 ∧ t.2.2.1 ≠ [91] ∧ t.2.2.1 ≠ [123]))

mutual
/-- the value that begins with a token -/
def pV (ts : List Tok) (E : Int) : Nat → Nat → Nat → Nat → Rs V
  | 0, _, i, _ => .bad (tk ts E i).2.2.2 50
  | f + 1, d, i, p =>
    if badV (tk ts E i) = true then .bad (tk ts E i).2.2.2 50
    else if 16 < d then .bad (tk ts E i).2.2.2 51
    else if p = 8192 then .bad (tk ts E i).2.2.2 53
    else if (tk ts E i).1 = 4 then .ok (txV (tk ts E i).2.2.1) (i + 1) (p + 1)
    else if (tk ts E i).1 = 3 then .ok (nmV (tk ts E i).2.1) (i + 1) (p + 1)
    else if (tk ts E i).1 = 2 then .ok (wdV (tk ts E i).2.2.1) (i + 1) (p + 1)
    else if (tk ts E i).2.2.1 = [91] then
      (if isM (tk ts E (i + 1)) 93 = true then .ok (lsV []) (i + 1 + 1) (p + 1) else (pL ts E f d (i + 1) (p + 1)).map lsV)
    else
      (if isM (tk ts E (i + 1)) 125 = true then .ok (mpV ([], [])) (i + 1 + 1) (p + 1) else (pM ts E f d (i + 1) (p + 1) []).map mpV)
/-- the values of a list, from one on -/
def pL (ts : List Tok) (E : Int) : Nat → Nat → Nat → Nat → Rs (List V)
  | 0, _, i, _ => .bad (tk ts E i).2.2.2 50
  | f + 1, d, i, p =>
    match pV ts E f (d + 1) i p with
    | .bad a y => .bad a y
    | .ok v j q =>
      if isM (tk ts E j) 93 = true then .ok [v] (j + 1) q
      else if isM (tk ts E j) 44 = true then (pL ts E f d (j + 1) q).map fun vs => v :: vs
      else .bad (tk ts E j).2.2.2 50
/-- the members of a map, from one on; ns: the names of those ahead -/
def pM (ts : List Tok) (E : Int) : Nat → Nat → Nat → Nat → List (List UInt8) → Rs (List (List UInt8) × List V)
  | 0, _, i, _, _ => .bad (tk ts E i).2.2.2 50
  | f + 1, d, i, p, ns =>
    if (tk ts E i).1 ≠ 4 then .bad (tk ts E i).2.2.2 50
    else if (tk ts E i).2.2.1 ∈ ns then .bad (tk ts E i).2.2.2 52
    else if isM (tk ts E (i + 1)) 58 = false then .bad (tk ts E (i + 1)).2.2.2 50
    else match pV ts E f (d + 1) (i + 1 + 1) p with
    | .bad a y => .bad a y
    | .ok v j q =>
      if isM (tk ts E j) 125 = true then .ok ([(tk ts E i).2.2.1], [v]) (j + 1) q
      else if isM (tk ts E j) 44 = true then (pM ts E f d (j + 1) q (ns ++ [(tk ts E i).2.2.1])).map fun x => ((tk ts E i).2.2.1 :: x.1, v :: x.2)
      else .bad (tk ts E j).2.2.2 50
end
def fuelOf (ts : List Tok) : Nat := 2 * ts.length + 4
def rdT (ts : List Tok) (E : Int) : V × Int × Int :=
  match pV ts E (fuelOf ts) 1 0 0 with
  | .bad a y => (V0, a, y)
  | .ok v i _ => if i < ts.length then (V0, (tk ts E i).2.2.2, 50) else (v, 0, 0)
def rdV (l : List UInt8) : V × Int × Int :=
  if (scnS l).2.2 ≠ 0 then (V0, (scnS l).2.1, (scnS l).2.2) else rdT (scnS l).1 (l.length : Int)

theorem tk_in {ts : List Tok} {E : Int} {i : Nat} (h : i < ts.length) : tk ts E i = ts[i] := by
  unfold tk; rw [List.getD_eq_getElem?_getD, List.getElem?_eq_getElem h]; rfl
theorem tk_out {ts : List Tok} {E : Int} {i : Nat} (h : ts.length ≤ i) : tk ts E i = (0, 0, [], E) := by
  unfold tk; rw [List.getD_eq_getElem?_getD, List.getElem?_eq_none h]; rfl
theorem isM_in {ts : List Tok} {E : Int} {i : Nat} {c : UInt8} (h : isM (tk ts E i) c = true) : i < ts.length := by
  rcases Nat.lt_or_ge i ts.length with h1 | h1
  · exact h1
  · rw [tk_out h1] at h; simp [isM] at h
theorem badV_in {ts : List Tok} {E : Int} {i : Nat} (h : badV (tk ts E i) = false) : i < ts.length := by
  rcases Nat.lt_or_ge i ts.length with h1 | h1
  · exact h1
  · rw [tk_out h1] at h; simp [badV] at h

mutual
/-- how many values there are in one -/
def cnt : V → Nat
  | .mk _ _ _ l _ ms => 1 + cntL l + cntL ms
def cntL : List V → Nat
  | [] => 0
  | v :: r => cnt v + cntL r
end
mutual
/-- how deep values lie -/
def dp : V → Nat → Nat
  | .mk _ _ _ l _ ms, d => max d (max (dpL l (d + 1)) (dpL ms (d + 1)))
def dpL : List V → Nat → Nat
  | [], _ => 0
  | v :: r, d => max (dp v d) (dpL r d)
end
mutual
/-- no name twice, a value for each name -/
def okV : V → Prop
  | .mk _ _ _ l ns ms => ns.length = ms.length ∧ ns.Nodup ∧ okL l ∧ okL ms
def okL : List V → Prop
  | [] => True
  | v :: r => okV v ∧ okL r
end
theorem cnt_pos (v : V) : 1 ≤ cnt v := by cases v; rw [cnt]; omega
end Go.Proofs.Ytbfogkcnfnjcaaa.Re
namespace Go.Proofs.Ytbfogkcnfnjcaaa.Re
open Go.RowKit
open Go.Proofs.Ytbfogkcnfnjcaaa.Utf
open Go.Proofs.Ytbfogkcnfnjcaaa.Sc

mutual
/-- In w the five cells cs read as the value v; what it holds lies in blocks from lo on, below hi. -/
def RdV (w : World) (lo hi : Nat) : V → List Value → Prop
  | .mk k n s l ns ms, cs => ∃ vl vm : Value, cs = [.int .i64 k, .int .i64 n, .string (strOf s), vl, vm] ∧
      (∃ A c, vl = .slice A l.length (l.length + c) ∧ (0 < l.length → ∃ g, A = some ⟨g, 0, none⟩ ∧ lo ≤ g ∧ g < hi ∧ RdL w lo hi g 0 l)) ∧
      (∃ A c, vm = .slice A ms.length (ms.length + c) ∧ ns.length = ms.length ∧ (0 < ms.length → ∃ g, A = some ⟨g, 0, none⟩ ∧ lo ≤ g ∧ g < hi ∧ RdM w lo hi g 0 ns ms))
def RdL (w : World) (lo hi : Nat) : Nat → Nat → List V → Prop
  | _, _, [] => True
  | g, i, v :: r => (∃ cs, (∀ j u, cs[j]? = some u → w.cell? ⟨g, i * 5 + j, none⟩ = some u) ∧ RdV w lo hi v cs) ∧ RdL w lo hi g (i + 1) r
def RdM (w : World) (lo hi : Nat) : Nat → Nat → List (List UInt8) → List V → Prop
  | _, _, _, [] => True
  | g, i, ns, v :: r => ∃ nm ns', ns = nm :: ns' ∧ w.cell? ⟨g, i * 6, none⟩ = some (.string (strOf nm)) ∧ (∃ cs, (∀ j u, cs[j]? = some u → w.cell? ⟨g, i * 6 + 1 + j, none⟩ = some u) ∧ RdV w lo hi v cs) ∧ RdM w lo hi g (i + 1) ns' r
end

section
variable {w w' : World} {lo hi lo' hi' : Nat}
mutual
theorem RdV.keep (hk : ∀ p : Addr, lo ≤ p.block → p.block < hi → w'.cell? p = w.cell? p) (h1 : lo' ≤ lo) (h2 : hi ≤ hi') : ∀ (v : V) (cs : List Value), RdV w lo hi v cs → RdV w' lo' hi' v cs
  | .mk k n s l ns ms, cs, h => by
    rw [RdV] at h ⊢
    obtain ⟨vl, vm, rfl, ⟨A, c, rfl, ha⟩, ⟨A2, c2, rfl, hn, hb⟩⟩ := h
    refine ⟨_, _, rfl, ⟨A, c, rfl, fun h0 => ?_⟩, ⟨A2, c2, rfl, hn, fun h0 => ?_⟩⟩
    · obtain ⟨g, e, g1, g2, h⟩ := ha h0
      exact ⟨g, e, by omega, by omega, RdL.keep hk h1 h2 l g 0 g1 g2 h⟩
    · obtain ⟨g, e, g1, g2, h⟩ := hb h0
      exact ⟨g, e, by omega, by omega, RdM.keep hk h1 h2 ms ns g 0 g1 g2 h⟩
theorem RdL.keep (hk : ∀ p : Addr, lo ≤ p.block → p.block < hi → w'.cell? p = w.cell? p) (h1 : lo' ≤ lo) (h2 : hi ≤ hi') : ∀ (l : List V) (g i : Nat), lo ≤ g → g < hi → RdL w lo hi g i l → RdL w' lo' hi' g i l
  | [], g, i, _, _, _ => by rw [RdL]; trivial
  | v :: r, g, i, g1, g2, h => by
    rw [RdL] at h ⊢
    obtain ⟨⟨cs, hc, hv⟩, hr⟩ := h
    exact ⟨⟨cs, fun j u hu => (hk ⟨g, i * 5 + j, none⟩ g1 g2).trans (hc j u hu), RdV.keep hk h1 h2 v cs hv⟩, RdL.keep hk h1 h2 r g (i + 1) g1 g2 hr⟩
theorem RdM.keep (hk : ∀ p : Addr, lo ≤ p.block → p.block < hi → w'.cell? p = w.cell? p) (h1 : lo' ≤ lo) (h2 : hi ≤ hi') : ∀ (ms : List V) (ns : List (List UInt8)) (g i : Nat), lo ≤ g → g < hi → RdM w lo hi g i ns ms → RdM w' lo' hi' g i ns ms
  | [], ns, g, i, _, _, _ => by rw [RdM]; trivial
  | v :: r, ns, g, i, g1, g2, h => by
    rw [RdM] at h ⊢
    obtain ⟨nm, ns', rfl, hm, ⟨cs, hc, hv⟩, hr⟩ := h
    exact ⟨nm, ns', rfl, (hk ⟨g, i * 6, none⟩ g1 g2).trans hm, ⟨cs, fun j u hu => (hk ⟨g, i * 6 + 1 + j, none⟩ g1 g2).trans (hc j u hu), RdV.keep hk h1 h2 v cs hv⟩, RdM.keep hk h1 h2 r ns' g (i + 1) g1 g2 hr⟩
end
theorem RdV.cells {v : V} {cs : List Value} (h : RdV w lo hi v cs) : ∃ A c A2 c2, cs = [.int .i64 v.k, .int .i64 v.n, .string (strOf v.s), .slice A v.l.length c, .slice A2 v.ms.length c2] ∧ v.ns.length = v.ms.length ∧
    (0 < v.l.length → ∃ g, A = some ⟨g, 0, none⟩ ∧ lo ≤ g ∧ g < hi ∧ RdL w lo hi g 0 v.l) ∧ (0 < v.ms.length → ∃ g, A2 = some ⟨g, 0, none⟩ ∧ lo ≤ g ∧ g < hi ∧ RdM w lo hi g 0 v.ns v.ms) := by
  obtain ⟨k, n, s, l, ns, ms⟩ := v
  rw [RdV] at h
  obtain ⟨vl, vm, rfl, ⟨A, c, rfl, ha⟩, ⟨A2, c2, rfl, hn, hb⟩⟩ := h
  exact ⟨A, _, A2, _, rfl, hn, ha, hb⟩
end
theorem cnt_eq (v : V) : cnt v = 1 + cntL v.l + cntL v.ms := by cases v; rw [cnt]; rfl
theorem ht_eq (v : V) : ht v = max (htL v.l) (htL v.ms) + 1 := by cases v; rw [ht]; rfl
theorem V.ext' {a b : V} (h1 : a.k = b.k) (h2 : a.n = b.n) (h3 : a.s = b.s) (h4 : a.l = b.l) (h5 : a.ns = b.ns) (h6 : a.ms = b.ms) : a = b := by
  rw [← V.eta a, ← V.eta b, h1, h2, h3, h4, h5, h6]
end Go.Proofs.Ytbfogkcnfnjcaaa.Re
namespace Go.Proofs.Ytbfogkcnfnjcaaa.Re
open Go.Proofs.Ytbfogkcnfnjcaaa.Utf
open Go.Proofs.Ytbfogkcnfnjcaaa.Sc

theorem map_ok {α β : Type} {f : α → β} {r : Rs α} {v : β} {j q : Nat} (h : r.map f = .ok v j q) : ∃ u, r = .ok u j q ∧ f u = v := by
  cases r with
  | bad a y => cases h
  | ok u i p => cases h; exact ⟨u, rfl, rfl⟩
theorem leaf (k n : Int) (s : List UInt8) : cnt (.mk k n s [] [] []) = 1 ∧ (∀ d, dp (.mk k n s [] [] []) d = d) ∧ okV (.mk k n s [] [] []) := by
  refine ⟨by simp [cnt, cntL], fun d => by simp [dp, dpL], by simp [okV, okL]⟩
theorem wdV_leaf (s : List UInt8) : ∃ k n, wdV s = .mk k n [] [] [] [] := by
  unfold wdV
  by_cases h : s = wNull
  · rw [if_pos h]; exact ⟨_, _, rfl⟩
  · rw [if_neg h]
    by_cases h2 : s = wTrue
    · rw [if_pos h2]; exact ⟨_, _, rfl⟩
    · rw [if_neg h2]; exact ⟨_, _, rfl⟩
theorem tk_kind {ts : List Tok} {E : Int} {i : Nat} (h : (tk ts E i).1 ≠ 0) : i < ts.length := by
  rcases Nat.lt_or_ge i ts.length with h1 | h1
  · exact h1
  · rw [tk_out h1] at h; exact absurd rfl h

theorem p_ok (ts : List Tok) (E : Int) : ∀ f,
    (∀ d i p v j q, pV ts E f d i p = .ok v j q → p ≤ 8192 → i < j ∧ j ≤ ts.length ∧ q = p + cnt v ∧ q ≤ 8192 ∧ dp v d ≤ 16 ∧ okV v) ∧
    (∀ d i p l j q, pL ts E f d i p = .ok l j q → p ≤ 8192 → i < j ∧ j ≤ ts.length ∧ q = p + cntL l ∧ q ≤ 8192 ∧ dpL l (d + 1) ≤ 16 ∧ okL l ∧ l ≠ []) ∧
    (∀ d i p ns x j q, pM ts E f d i p ns = .ok x j q → p ≤ 8192 → ns.Nodup → i < j ∧ j ≤ ts.length ∧ q = p + cntL x.2 ∧ q ≤ 8192 ∧ dpL x.2 (d + 1) ≤ 16 ∧ okL x.2 ∧ x.1.length = x.2.length ∧ (ns ++ x.1).Nodup ∧ x.1 ≠ []) := by
  intro f
  induction f with
  | zero => exact ⟨fun d i p v j q h => (by rw [pV] at h; cases h), fun d i p v j q h => (by rw [pL] at h; cases h), fun d i p ns v j q h => (by rw [pM] at h; cases h)⟩
  | succ f ih =>
    obtain ⟨iV, iL, iM⟩ := ih
    refine ⟨fun d i p v j q h hp => ?_, fun d i p l j q h hp => ?_, fun d i p ns x j q h hp hn => ?_⟩
    · rw [pV] at h
      by_cases c1 : badV (tk ts E i) = true
      · rw [if_pos c1] at h; cases h
      have hi := badV_in (ts := ts) (E := E) (i := i) (by simpa using c1)
      rw [if_neg c1] at h
      by_cases c2 : 16 < d
      · rw [if_pos c2] at h; cases h
      rw [if_neg c2] at h
      by_cases c3 : p = 8192
      · rw [if_pos c3] at h; cases h
      rw [if_neg c3] at h
      by_cases c4 : (tk ts E i).1 = 4
      · rw [if_pos c4] at h; cases h
        obtain ⟨l1, l2, l3⟩ := leaf 4 0 (tk ts E i).2.2.1
        exact ⟨by omega, by omega, by rw [txV, l1], by omega, by rw [txV, l2]; omega, l3⟩
      rw [if_neg c4] at h
      by_cases c5 : (tk ts E i).1 = 3
      · rw [if_pos c5] at h; cases h
        obtain ⟨l1, l2, l3⟩ := leaf 3 (tk ts E i).2.1 []
        exact ⟨by omega, by omega, by rw [nmV, l1], by omega, by rw [nmV, l2]; omega, l3⟩
      rw [if_neg c5] at h
      by_cases c6 : (tk ts E i).1 = 2
      · rw [if_pos c6] at h; cases h
        obtain ⟨k, n, hw⟩ := wdV_leaf (tk ts E i).2.2.1
        obtain ⟨l1, l2, l3⟩ := leaf k n []
        rw [hw]
        exact ⟨by omega, by omega, by rw [l1], by omega, by rw [l2]; omega, l3⟩
      rw [if_neg c6] at h
      by_cases c7 : (tk ts E i).2.2.1 = [91]
      · rw [if_pos c7] at h
        by_cases c8 : isM (tk ts E (i + 1)) 93 = true
        · rw [if_pos c8] at h; cases h
          have := isM_in c8
          obtain ⟨l1, l2, l3⟩ := leaf 5 0 []
          exact ⟨by omega, by omega, by rw [lsV, l1], by omega, by rw [lsV, l2]; omega, l3⟩
        · rw [if_neg c8] at h
          obtain ⟨u, h1, rfl⟩ := map_ok h
          obtain ⟨a1, a2, a3, a4, a5, a6, a7⟩ := iL d (i + 1) (p + 1) u j q h1 (by omega)
          refine ⟨by omega, a2, ?_, a4, ?_, ?_⟩
          · rw [lsV, cnt, cntL]; omega
          · rw [lsV, dp, dpL]; omega
          · rw [lsV, okV, okL]; exact ⟨rfl, List.nodup_nil, a6, trivial⟩
      · rw [if_neg c7] at h
        by_cases c8 : isM (tk ts E (i + 1)) 125 = true
        · rw [if_pos c8] at h; cases h
          have := isM_in c8
          obtain ⟨l1, l2, l3⟩ := leaf 6 0 []
          exact ⟨by omega, by omega, by rw [mpV, l1], by omega, by rw [mpV, l2]; omega, l3⟩
        · rw [if_neg c8] at h
          obtain ⟨u, h1, rfl⟩ := map_ok h
          obtain ⟨a1, a2, a3, a4, a5, a6, a7, a8, _⟩ := iM d (i + 1) (p + 1) [] u j q h1 (by omega) List.nodup_nil
          refine ⟨by omega, a2, ?_, a4, ?_, ?_⟩
          · rw [mpV, cnt, cntL]; omega
          · rw [mpV, dp, dpL]; omega
          · rw [mpV, okV, okL]; exact ⟨a7, by simpa using a8, trivial, a6⟩
    · rw [pL] at h
      rcases hv : pV ts E f (d + 1) i p with ⟨a, y⟩ | ⟨v, j1, q1⟩
      · rw [hv] at h; cases h
      · rw [hv] at h
        simp only at h
        obtain ⟨b1, b2, b3, b4, b5, b6⟩ := iV (d + 1) i p v j1 q1 hv hp
        by_cases c1 : isM (tk ts E j1) 93 = true
        · rw [if_pos c1] at h; cases h
          have := isM_in c1
          refine ⟨by omega, by omega, by rw [cntL, cntL]; omega, b4, by rw [dpL, dpL]; omega, ⟨b6, trivial⟩, by simp⟩
        · rw [if_neg c1] at h
          by_cases c2 : isM (tk ts E j1) 44 = true
          · rw [if_pos c2] at h
            obtain ⟨u, h1, rfl⟩ := map_ok h
            obtain ⟨a1, a2, a3, a4, a5, a6, a7⟩ := iL d (j1 + 1) q1 u j q h1 b4
            refine ⟨by omega, a2, by rw [cntL]; omega, a4, by rw [dpL]; omega, ⟨b6, a6⟩, by simp⟩
          · rw [if_neg c2] at h; cases h
    · rw [pM] at h
      by_cases c0 : (tk ts E i).1 ≠ 4
      · rw [if_pos c0] at h; cases h
      rw [if_neg c0] at h
      by_cases c1 : (tk ts E i).2.2.1 ∈ ns
      · rw [if_pos c1] at h; cases h
      rw [if_neg c1] at h
      by_cases c2 : isM (tk ts E (i + 1)) 58 = false
      · rw [if_pos c2] at h; cases h
      rw [if_neg c2] at h
      have hn2 : (ns ++ [(tk ts E i).2.2.1]).Nodup := by
        rw [List.nodup_append]
        refine ⟨hn, by simp, ?_⟩
        intro a ha b hb e
        simp at hb
        subst hb e
        exact c1 ha
      rcases hv : pV ts E f (d + 1) (i + 1 + 1) p with ⟨a, y⟩ | ⟨v, j1, q1⟩
      · rw [hv] at h; cases h
      · rw [hv] at h
        simp only at h
        obtain ⟨b1, b2, b3, b4, b5, b6⟩ := iV (d + 1) (i + 1 + 1) p v j1 q1 hv hp
        by_cases c3 : isM (tk ts E j1) 125 = true
        · rw [if_pos c3] at h; cases h
          have := isM_in c3
          refine ⟨by omega, by omega, by rw [cntL, cntL]; omega, b4, by rw [dpL, dpL]; omega, ⟨b6, trivial⟩, rfl, hn2, by simp⟩
        · rw [if_neg c3] at h
          by_cases c4 : isM (tk ts E j1) 44 = true
          · rw [if_pos c4] at h
            obtain ⟨u, h1, rfl⟩ := map_ok h
            obtain ⟨a1, a2, a3, a4, a5, a6, a7, a8, _⟩ := iM d (j1 + 1) q1 _ u j q h1 b4 hn2
            refine ⟨by omega, a2, by simp only [cntL]; omega, a4, by simp only [dpL]; omega, ⟨b6, a6⟩, by simp only [List.length_cons]; omega, by simpa using a8, by simp⟩
          · rw [if_neg c4] at h; cases h

def why (y : Int) : Prop := y = 50 ∨ y = 51 ∨ y = 52 ∨ y = 53
end Go.Proofs.Ytbfogkcnfnjcaaa.Re
namespace Go.Proofs.Ytbfogkcnfnjcaaa.Re
open Go.Proofs.Ytbfogkcnfnjcaaa.Utf
open Go.Proofs.Ytbfogkcnfnjcaaa.Sc

def gL (ts : List Tok) (E : Int) (f d j q : Nat) (first : Bool) : Rs (List V) :=
  if isM (tk ts E j) 93 = true then .ok [] (j + 1) q else if first = true then pL ts E f d j q
  else if isM (tk ts E j) 44 = true then pL ts E f d (j + 1) q else .bad (tk ts E j).2.2.2 50
def gM (ts : List Tok) (E : Int) (f d j q : Nat) (ns : List (List UInt8)) (first : Bool) : Rs (List (List UInt8) × List V) :=
  if isM (tk ts E j) 125 = true then .ok ([], []) (j + 1) q else if first = true then pM ts E f d j q ns
  else if isM (tk ts E j) 44 = true then pM ts E f d (j + 1) q ns else .bad (tk ts E j).2.2.2 50

theorem Rs.map_map {α β γ : Type} (r : Rs α) (f : α → β) (g : β → γ) : (r.map f).map g = r.map fun x => g (f x) := by cases r <;> rfl
theorem Rs.map_id {α : Type} (r : Rs α) : (r.map fun x => x) = r := by cases r <;> rfl
theorem Rs.map_congr {α β : Type} {f g : α → β} (r : Rs α) (h : ∀ x, f x = g x) : r.map f = r.map g := by rw [funext h]
theorem pL_bad {ts : List Tok} {E : Int} {f d i p : Nat} {a y : Int} (h : pV ts E f (d + 1) i p = .bad a y) : pL ts E (f + 1) d i p = .bad a y := by rw [pL, h]
theorem pL_ok {ts : List Tok} {E : Int} {f d i p j q : Nat} {v : V} (h : pV ts E f (d + 1) i p = .ok v j q) : pL ts E (f + 1) d i p = (gL ts E f d j q false).map fun l => v :: l := by
  rw [pL, h]
  simp only
  unfold gL
  by_cases c1 : isM (tk ts E j) 93 = true
  · rw [if_pos c1, if_pos c1]; rfl
  · rw [if_neg c1, if_neg c1, if_neg (show ¬ (false = true) by decide)]
    by_cases c2 : isM (tk ts E j) 44 = true
    · rw [if_pos c2, if_pos c2]
    · rw [if_neg c2, if_neg c2]; rfl
theorem gL_step {ts : List Tok} {E : Int} {f d i p j q : Nat} {v : V} (acc : List V) (h : pV ts E f (d + 1) i p = .ok v j q) :
    (pL ts E (f + 1) d i p).map (fun l => acc ++ l) = (gL ts E f d j q false).map fun l => (acc ++ [v]) ++ l := by
  rw [pL_ok h, Rs.map_map]
  exact Rs.map_congr _ fun x => by simp
theorem pM_bad {ts : List Tok} {E : Int} {f d i p : Nat} {ns : List (List UInt8)} {a y : Int} (h4 : (tk ts E i).1 = 4) (hn : (tk ts E i).2.2.1 ∉ ns) (hc : isM (tk ts E (i + 1)) 58 = true)
    (h : pV ts E f (d + 1) (i + 1 + 1) p = .bad a y) : pM ts E (f + 1) d i p ns = .bad a y := by
  rw [pM, if_neg (by omega), if_neg hn, if_neg (by rw [hc]; decide), h]
theorem pM_ok {ts : List Tok} {E : Int} {f d i p j q : Nat} {ns : List (List UInt8)} {v : V} (h4 : (tk ts E i).1 = 4) (hn : (tk ts E i).2.2.1 ∉ ns) (hc : isM (tk ts E (i + 1)) 58 = true)
    (h : pV ts E f (d + 1) (i + 1 + 1) p = .ok v j q) : pM ts E (f + 1) d i p ns = (gM ts E f d j q (ns ++ [(tk ts E i).2.2.1]) false).map fun x => ((tk ts E i).2.2.1 :: x.1, v :: x.2) := by
  rw [pM, if_neg (by omega), if_neg hn, if_neg (by rw [hc]; decide), h]
  simp only
  unfold gM
  by_cases c1 : isM (tk ts E j) 125 = true
  · rw [if_pos c1, if_pos c1]; rfl
  · rw [if_neg c1, if_neg c1, if_neg (show ¬ (false = true) by decide)]
    by_cases c2 : isM (tk ts E j) 44 = true
    · rw [if_pos c2, if_pos c2]
    · rw [if_neg c2, if_neg c2]; rfl
theorem gM_step {ts : List Tok} {E : Int} {f d i p j q : Nat} {ns : List (List UInt8)} {v : V} (an : List (List UInt8)) (av : List V) (h4 : (tk ts E i).1 = 4) (hn : (tk ts E i).2.2.1 ∉ ns) (hc : isM (tk ts E (i + 1)) 58 = true)
    (h : pV ts E f (d + 1) (i + 1 + 1) p = .ok v j q) :
    (pM ts E (f + 1) d i p ns).map (fun x => (an ++ x.1, av ++ x.2)) = (gM ts E f d j q (ns ++ [(tk ts E i).2.2.1]) false).map fun x => ((an ++ [(tk ts E i).2.2.1]) ++ x.1, (av ++ [v]) ++ x.2) := by
  rw [pM_ok h4 hn hc h, Rs.map_map]
  exact Rs.map_congr _ fun x => by simp
theorem pM_syn {ts : List Tok} {E : Int} {f d i p : Nat} {ns : List (List UInt8)} (h4 : (tk ts E i).1 ≠ 4) : pM ts E (f + 1) d i p ns = .bad (tk ts E i).2.2.2 50 := by rw [pM, if_pos h4]
theorem pM_twice {ts : List Tok} {E : Int} {f d i p : Nat} {ns : List (List UInt8)} (h4 : (tk ts E i).1 = 4) (hn : (tk ts E i).2.2.1 ∈ ns) : pM ts E (f + 1) d i p ns = .bad (tk ts E i).2.2.2 52 := by
  rw [pM, if_neg (by omega), if_pos hn]
theorem pM_colon {ts : List Tok} {E : Int} {f d i p : Nat} {ns : List (List UInt8)} (h4 : (tk ts E i).1 = 4) (hn : (tk ts E i).2.2.1 ∉ ns) (hc : isM (tk ts E (i + 1)) 58 = false) : pM ts E (f + 1) d i p ns = .bad (tk ts E (i + 1)).2.2.2 50 := by
  rw [pM, if_neg (by omega), if_neg hn, if_pos hc]
theorem pV_list {ts : List Tok} {E : Int} {f d i p : Nat} (h1 : badV (tk ts E i) = false) (h2 : ¬ 16 < d) (h3 : p ≠ 8192) (h4 : (tk ts E i).1 = 1) (h5 : (tk ts E i).2.2.1 = [91]) :
    pV ts E (f + 1) d i p = (gL ts E f d (i + 1) (p + 1) true).map lsV := by
  rw [pV, if_neg (by rw [h1]; decide), if_neg h2, if_neg h3, if_neg (by omega), if_neg (by omega), if_neg (by omega), if_pos h5]
  unfold gL
  by_cases c1 : isM (tk ts E (i + 1)) 93 = true
  · rw [if_pos c1, if_pos c1]; rfl
  · rw [if_neg c1, if_neg c1, if_pos rfl]
theorem pV_map {ts : List Tok} {E : Int} {f d i p : Nat} (h1 : badV (tk ts E i) = false) (h2 : ¬ 16 < d) (h3 : p ≠ 8192) (h4 : (tk ts E i).1 = 1) (h5 : (tk ts E i).2.2.1 ≠ [91]) :
    pV ts E (f + 1) d i p = (gM ts E f d (i + 1) (p + 1) [] true).map mpV := by
  rw [pV, if_neg (by rw [h1]; decide), if_neg h2, if_neg h3, if_neg (by omega), if_neg (by omega), if_neg (by omega), if_neg h5]
  unfold gM
  by_cases c1 : isM (tk ts E (i + 1)) 125 = true
  · rw [if_pos c1, if_pos c1]; rfl
  · rw [if_neg c1, if_neg c1, if_pos rfl]
end Go.Proofs.Ytbfogkcnfnjcaaa.Re
namespace Go.Proofs.Ytbfogkcnfnjcaaa.Em
open Go.Proofs.Ytbfogkcnfnjcaaa.Utf
open Go.Proofs.Ytbfogkcnfnjcaaa.Sc
open Go.Proofs.Ytbfogkcnfnjcaaa.Re
open Go.Proofs.Ytbfogkcnfnjcaaa.Ch (qbL qbL_le)
open Go.Proofs.Ytbfogkcnfnjcaaa.Nu

def okS (s : List UInt8) : Prop := (ptsL s).2 = s.length
instance (s : List UInt8) : Decidable (okS s) := by unfold okS; infer_instance
def nmsOk (ns : List (List UInt8)) : Prop := ns.length ≤ 8192 → (∀ x ∈ ns, okS x) ∧ ns.Nodup
instance (ns : List (List UInt8)) : Decidable (nmsOk ns) := by unfold nmsOk; infer_instance
def own (k n : Int) (s : List UInt8) (a : Nat) (ns : List (List UInt8)) (b : Nat) : Prop :=
  ((1 ≤ k ∧ k ≤ 6) ∧ ((k ≠ 2 ∧ k ≠ 3) → n = 0) ∧ (k ≠ 4 → s = []) ∧ (k ≠ 5 → a = 0) ∧ (k ≠ 6 → b = 0)) ∧
    (k = 2 → n = 0 ∨ n = 1) ∧ (k = 3 → -9007199254740991 ≤ n ∧ n ≤ 9007199254740991) ∧ (k = 4 → okS s) ∧ (k = 6 → nmsOk ns)
instance (k n : Int) (s : List UInt8) (a : Nat) (ns : List (List UInt8)) (b : Nat) : Decidable (own k n s a ns b) := by unfold own; infer_instance

def qt (s : List UInt8) : List UInt8 := 34 :: (qbL s ++ [34])
mutual
/-- a value's text -/
def emV : V → List UInt8
  | .mk k n s l ns ms => if k = 1 then wNull else if k = 2 then (if n = 1 then wTrue else wFalse) else if k = 3 then putL n else if k = 4 then qt s
    else if k = 5 then 91 :: ((emT l).drop 1 ++ [93]) else 123 :: ((emM ns ms).drop 1 ++ [125])
/-- the texts of values, each with a comma ahead -/
def emT : List V → List UInt8
  | [] => []
  | v :: r => 44 :: (emV v ++ emT r)
/-- the texts of members, each with a comma ahead -/
def emM : List (List UInt8) → List V → List UInt8
  | _, [] => []
  | ns, v :: r => 44 :: (qt (ns.headD []) ++ 58 :: (emV v ++ emM ns.tail r))
end
mutual
/-- how many values are right from one on, with those ahead; and why no more -/
def wk : V → Nat → Nat → Nat × Int
  | .mk k n s l ns ms, d, p => if 16 < d then (p, 51) else if p = 8192 then (p, 53) else if own k n s l.length ns ms.length then
      (if (wkL l (d + 1) (p + 1)).2 ≠ 0 then wkL l (d + 1) (p + 1) else wkL ms (d + 1) (wkL l (d + 1) (p + 1)).1) else (p, 1)
def wkL : List V → Nat → Nat → Nat × Int
  | [], _, p => (p, 0)
  | v :: r, d, p => if (wk v d p).2 ≠ 0 then wk v d p else wkL r d (wk v d p).1
end
mutual
/-- is each value right by itself? -/
def allV : V → Prop
  | .mk k n s l ns ms => own k n s l.length ns ms.length ∧ allL l ∧ allL ms
def allL : List V → Prop
  | [] => True
  | v :: r => allV v ∧ allL r
end
mutual
/-- can each value be written? -/
def okW : V → Prop
  | .mk k n s l ns ms => own k n s l.length ns ms.length ∧ (∀ x ∈ ns, okS x) ∧ okWL l ∧ okWL ms
def okWL : List V → Prop
  | [] => True
  | v :: r => okW v ∧ okWL r
end
mutual
/-- a value for each name -/
def lenV : V → Prop
  | .mk _ _ _ l ns ms => ns.length = ms.length ∧ lenL l ∧ lenL ms
def lenL : List V → Prop
  | [] => True
  | v :: r => lenV v ∧ lenL r
end
mutual
/-- no map is too great -/
def small : V → Prop
  | .mk _ _ _ l ns ms => ns.length ≤ 8192 ∧ smallL l ∧ smallL ms
def smallL : List V → Prop
  | [] => True
  | v :: r => small v ∧ smallL r
end
mutual
/-- how large a value is -/
def szU : V → Nat
  | .mk _ _ s l ns ms => 1 + s.length + szUL l + (ns.map fun x => 1 + x.length).sum + szUL ms
def szUL : List V → Nat
  | [] => 0
  | v :: r => szU v + szUL r
end

mutual
theorem wk_le : ∀ (v : V) (d p : Nat), p ≤ 8192 → (wk v d p).1 ≤ 8192 ∧ ((wk v d p).2 = 0 ∨ (wk v d p).2 = 1 ∨ (wk v d p).2 = 51 ∨ (wk v d p).2 = 53)
  | .mk k n s l ns ms, d, p, hp => by
    rw [wk]
    by_cases h1 : 16 < d
    · rw [if_pos h1]; simp; omega
    rw [if_neg h1]
    by_cases h2 : p = 8192
    · rw [if_pos h2]; simp; omega
    rw [if_neg h2]
    by_cases h3 : own k n s l.length ns ms.length
    · rw [if_pos h3]
      have a := wkL_le l (d + 1) (p + 1) (by omega)
      by_cases h4 : (wkL l (d + 1) (p + 1)).2 ≠ 0
      · rw [if_pos h4]; exact a
      · rw [if_neg h4]; exact wkL_le ms (d + 1) _ a.1
    · rw [if_neg h3]; simp; omega
theorem wkL_le : ∀ (l : List V) (d p : Nat), p ≤ 8192 → (wkL l d p).1 ≤ 8192 ∧ ((wkL l d p).2 = 0 ∨ (wkL l d p).2 = 1 ∨ (wkL l d p).2 = 51 ∨ (wkL l d p).2 = 53)
  | [], d, p, hp => by rw [wkL]; simp; omega
  | v :: r, d, p, hp => by
    rw [wkL]
    have a := wk_le v d p hp
    by_cases h4 : (wk v d p).2 ≠ 0
    · rw [if_pos h4]; exact a
    · rw [if_neg h4]; exact wkL_le r d _ a.1
end
mutual
theorem wk_ok : ∀ (v : V) (d p : Nat), p ≤ 8192 → (wk v d p).2 = 0 → (wk v d p).1 = p + cnt v ∧ p + cnt v ≤ 8192 ∧ dp v d ≤ 16 ∧ allV v
  | .mk k n s l ns ms, d, p, hp => by
    rw [wk]
    by_cases h1 : 16 < d
    · rw [if_pos h1]; intro h; simp at h
    rw [if_neg h1]
    by_cases h2 : p = 8192
    · rw [if_pos h2]; intro h; simp at h
    rw [if_neg h2]
    by_cases h3 : own k n s l.length ns ms.length
    · rw [if_pos h3]
      by_cases h4 : (wkL l (d + 1) (p + 1)).2 ≠ 0
      · rw [if_pos h4]; intro h; exact absurd h h4
      · rw [if_neg h4]
        intro h
        obtain ⟨a1, a2, a3, a4⟩ := wkL_ok l (d + 1) (p + 1) (by omega) (by simpa using h4)
        rw [a1] at h ⊢
        obtain ⟨b1, b2, b3, b4⟩ := wkL_ok ms (d + 1) (p + 1 + cntL l) (by omega) h
        rw [b1, cnt, dp, allV]
        exact ⟨by omega, by omega, by omega, h3, a4, b4⟩
    · rw [if_neg h3]; intro h; simp at h
theorem wkL_ok : ∀ (l : List V) (d p : Nat), p ≤ 8192 → (wkL l d p).2 = 0 → (wkL l d p).1 = p + cntL l ∧ p + cntL l ≤ 8192 ∧ dpL l d ≤ 16 ∧ allL l
  | [], d, p, hp => by rw [wkL, cntL, dpL, allL]; simp; omega
  | v :: r, d, p, hp => by
    rw [wkL]
    by_cases h4 : (wk v d p).2 ≠ 0
    · rw [if_pos h4]; intro h; exact absurd h h4
    · rw [if_neg h4]
      intro h
      obtain ⟨a1, a2, a3, a4⟩ := wk_ok v d p hp (by simpa using h4)
      rw [a1] at h ⊢
      obtain ⟨b1, b2, b3, b4⟩ := wkL_ok r d (p + cnt v) (by omega) h
      rw [b1, cntL, dpL, allL]
      exact ⟨by omega, by omega, by omega, a4, b4⟩
end
mutual
theorem wk_wrong : ∀ (v : V) (d p : Nat), (wk v d p).2 = 1 → ¬ allV v
  | .mk k n s l ns ms, d, p => by
    rw [wk, allV]
    split
    · intro h; simp at h
    split
    · intro h; simp at h
    split
    · rename_i h3
      split
      · intro h ⟨_, a, _⟩; exact wkL_wrong l _ _ h a
      · intro h ⟨_, _, b⟩; exact wkL_wrong ms _ _ h b
    · rename_i h3; intro _ ⟨a, _⟩; exact h3 a
theorem wkL_wrong : ∀ (l : List V) (d p : Nat), (wkL l d p).2 = 1 → ¬ allL l
  | [], d, p => by rw [wkL]; intro h; simp at h
  | v :: r, d, p => by
    rw [wkL, allL]
    split
    · intro h ⟨a, _⟩; exact wk_wrong v _ _ h a
    · intro h ⟨_, b⟩; exact wkL_wrong r _ _ h b
end
def chk (v : V) : Int := (wk v 1 0).2
theorem chk_ok {v : V} (h : chk v = 0) : cnt v ≤ 8192 ∧ dp v 1 ≤ 16 ∧ allV v := by
  obtain ⟨_, a, b, c⟩ := wk_ok v 1 0 (by omega) h
  exact ⟨by omega, b, c⟩
mutual
theorem len_small : ∀ v : V, lenV v → cnt v ≤ 8192 → small v
  | .mk k n s l ns ms, h, hc => by
    rw [lenV] at h
    rw [cnt] at hc
    rw [small]
    have := cntL_ge ms
    exact ⟨by omega, lenL_small l h.2.1 (by omega), lenL_small ms h.2.2 (by omega)⟩
theorem lenL_small : ∀ l : List V, lenL l → cntL l ≤ 8192 → smallL l
  | [], _, _ => by rw [smallL]; trivial
  | v :: r, h, hc => by
    rw [lenL] at h
    rw [cntL] at hc
    rw [smallL]
    exact ⟨len_small v h.1 (by omega), lenL_small r h.2 (by omega)⟩
theorem cntL_ge : ∀ l : List V, l.length ≤ cntL l
  | [] => by simp
  | v :: r => by
    rw [cntL, List.length_cons]
    have := cntL_ge r
    have := cnt_pos v
    omega
end
mutual
theorem okW_iff : ∀ v : V, small v → lenV v → (okW v ↔ allV v)
  | .mk k n s l ns ms, h, hl => by
    rw [small] at h
    rw [lenV] at hl
    rw [okW, allV, okWL_iff l h.2.1 hl.2.1, okWL_iff ms h.2.2 hl.2.2]
    refine ⟨fun ⟨a, _, b, c⟩ => ⟨a, b, c⟩, fun ⟨a, b, c⟩ => ⟨a, ?_, b, c⟩⟩
    by_cases hk : k = 6
    · exact (a.2.2.2.2 hk h.1).1
    · have := a.1.2.2.2.2 hk
      have e : ns = [] := List.eq_nil_of_length_eq_zero (by omega)
      subst e
      intro x hx
      cases hx
theorem okWL_iff : ∀ l : List V, smallL l → lenL l → (okWL l ↔ allL l)
  | [], _, _ => by rw [okWL, allL]
  | v :: r, h, hl => by
    rw [smallL] at h
    rw [lenL] at hl
    rw [okWL, allL, okW_iff v h.1 hl.1, okWL_iff r h.2 hl.2]
end
theorem chk_okW {v : V} (h : chk v = 0) (hl : lenV v) : okW v := (okW_iff v (len_small v hl (chk_ok h).1) hl).2 (chk_ok h).2.2

theorem qt_len (s : List UInt8) : (qt s).length ≤ 6 * s.length + 2 := by
  have := qbL_le s
  unfold qt
  simp only [List.length_cons, List.length_append, List.length_nil]
  omega
mutual
theorem emV_len : ∀ v : V, lenV v → (emV v).length + 1 ≤ 24 * szU v
  | .mk k n s l ns ms, h => by
    rw [lenV] at h
    have a := emT_len l h.2.1
    have b := emM_len ms ns h.1 h.2.2
    have c := qt_len s
    have d := (putL_len n).2
    rw [emV, szU]
    split
    · show 4 + 1 ≤ _; omega
    split
    · split
      · show 4 + 1 ≤ _; omega
      · show 5 + 1 ≤ _; omega
    split
    · omega
    split
    · omega
    split
    · simp only [List.length_cons, List.length_append, List.length_drop, List.length_nil]; omega
    · simp only [List.length_cons, List.length_append, List.length_drop, List.length_nil]; omega
theorem emT_len : ∀ l : List V, lenL l → (emT l).length ≤ 24 * szUL l
  | [], _ => by rw [emT]; simp
  | v :: r, h => by
    rw [lenL] at h
    have a := emV_len v h.1
    have b := emT_len r h.2
    rw [emT, szUL]
    simp only [List.length_cons, List.length_append]
    omega
theorem emM_len : ∀ (ms : List V) (ns : List (List UInt8)), ns.length = ms.length → lenL ms → (emM ns ms).length ≤ 24 * ((ns.map fun x => 1 + x.length).sum + szUL ms)
  | [], ns, _, _ => by rw [emM]; simp
  | v :: r, ns, hn, h => by
    rw [lenL] at h
    cases ns with
    | nil => simp at hn
    | cons x ns =>
      have a := emV_len v h.1
      have b := emM_len r ns (by simpa using hn) h.2
      have c := qt_len x
      rw [emM, szUL]
      simp only [List.length_cons, List.length_append, List.headD_cons, List.tail_cons, List.map_cons, List.sum_cons]
      omega
end
theorem emT_app : ∀ a b : List V, emT (a ++ b) = emT a ++ emT b := by
  intro a b
  induction a with
  | nil => rfl
  | cons v r ih => rw [List.cons_append, emT, emT, ih]; simp
theorem emM_app : ∀ (a b : List V) (na nb : List (List UInt8)), na.length = a.length → emM (na ++ nb) (a ++ b) = emM na a ++ emM nb b := by
  intro a b
  induction a with
  | nil => intro na nb h; obtain rfl := List.eq_nil_of_length_eq_zero h; simp [emM]
  | cons v r ih =>
    intro na nb h
    cases na with
    | nil => simp at h
    | cons x na =>
      have := ih na nb (by simpa using h)
      rw [List.cons_append, List.cons_append, emM, emM]
      simp [this]
theorem emT_take (l : List V) (k : Nat) (h : k < l.length) : emT (l.take (k + 1)) = emT (l.take k) ++ 44 :: emV l[k] := by
  rw [take_succ' l k h, emT_app, emT, emT, List.append_nil]
theorem emM_take (ns : List (List UInt8)) (ms : List V) (k : Nat) (h : k < ms.length) (hn : k < ns.length) (hl : ns.length = ms.length) :
    emM (ns.take (k + 1)) (ms.take (k + 1)) = emM (ns.take k) (ms.take k) ++ 44 :: (qt ns[k] ++ 58 :: emV ms[k]) := by
  rw [take_succ' ms k h, take_succ' ns k hn, emM_app _ _ _ _ (by simp [List.length_take]; omega), emM, emM]
  simp
end Go.Proofs.Ytbfogkcnfnjcaaa.Em
