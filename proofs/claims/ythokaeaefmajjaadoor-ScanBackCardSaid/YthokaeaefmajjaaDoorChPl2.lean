import Derived.Test.YthokaeaefmajjaaDoorChPl
/- Plain facts on quoted texts: the program's way, half by half, against the document's; where a loop stands. No run of the program in this text. -/
namespace Go.Proofs.YthokaeaefmajjaaDoor.Ch
open Go.RowKit
open Go.Proofs.YthokaeaefmajjaaDoor.Utf

/-- no number is escaped where no stroke, u and letters' room stands -/
theorem unitL_low {l : List UInt8} (h : byt l 0 ≠ 92) : unitL l = -1 := unitL_no fun x => h x.2.1
theorem unitL_nil {l : List UInt8} (h : l.length = 0) : unitL l = -1 := unitL_no fun x => by omega

/-- the four ways of what stands within a quote -/
theorem uniL_bad {l : List UInt8} (h : (oneL l).2 = 0) : uniL l = (0, 0, 10) := by unfold uniL; rw [if_pos h]
theorem uniL_ctl {l : List UInt8} (h0 : l.length ≠ 0) (h : byt l 0 < 32) : uniL l = (0, 0, 20) := by
  have e := one_low h0 (by omega)
  unfold uniL; rw [e, if_neg (by simp), if_pos h]
theorem uniL_esc {l : List UInt8} (h0 : l.length ≠ 0) (h : byt l 0 = 92) : uniL l = escU l := by
  have e := one_low h0 (by omega)
  unfold uniL; rw [e, h]; rfl
theorem uniL_pt {l : List UInt8} (h0 : l.length ≠ 0) (h : (oneL l).2 ≠ 0) (h1 : ¬ byt l 0 < 32) (h2 : byt l 0 ≠ 92) : uniL l = ((oneL l).1, (oneL l).2, 0) := by
  unfold uniL
  rw [if_neg h]
  by_cases h3 : byt l 0 < 128
  · rw [one_low h0 h3, if_neg h1, if_neg h2]
  · have := one_high (by omega) h
    rw [if_neg (by omega), if_neg (by omega)]

theorem stepL_ctl {l : List UInt8} (h0 : l.length ≠ 0) (h : byt l 0 < 32) : stepL l = (0, 0, 20) := by
  unfold stepL; rw [if_neg h0, if_neg (by omega), if_pos h]
theorem stepL_esc {l : List UInt8} (h0 : l.length ≠ 0) (h : byt l 0 = 92) : stepL l = if (escL l).2 = 0 then (0, 0, 20) else ((escL l).1, (escL l).2, 0) := by
  unfold stepL; rw [if_neg h0, if_neg (by omega), if_neg (by omega), if_pos h]
theorem stepL_pt {l : List UInt8} (h0 : l.length ≠ 0) (h1 : ¬ byt l 0 < 32) (h2 : byt l 0 ≠ 92) (h3 : byt l 0 ≠ 34) : stepL l = if (oneL l).2 = 0 then (0, 0, 10) else ((oneL l).1, (oneL l).2, 0) := by
  unfold stepL; rw [if_neg h0, if_neg h3, if_neg h1, if_neg h2]
theorem stepL_quote {l : List UInt8} (h0 : l.length ≠ 0) (h : byt l 0 = 34) : stepL l = (0, 0, 0) := by
  unfold stepL; rw [if_neg h0, if_pos h]
theorem stepL_end {l : List UInt8} (h0 : l.length = 0) : stepL l = (0, 0, 20) := by
  unfold stepL; rw [if_pos h0]

/-- an escape: a letter's -/
theorem escU_let {l : List UInt8} (h : 2 ≤ l.length) (hl : 0 ≤ letV (byt l 1)) : escU l = (letV (byt l 1), 2, 0) ∧ escL l = (letV (byt l 1), 2) := by
  constructor
  · unfold escU; rw [if_neg (by omega), if_pos hl]
  · unfold escL; rw [if_pos ⟨h, hl⟩]
theorem not_let {l : List UInt8} (h : 0 ≤ unitL l) : ¬ 0 ≤ letV (byt l 1) := by
  obtain ⟨_, _, h3, _⟩ := unitL_yes h
  intro hc
  exact (letV_set _ hc).2 h3
theorem escU_unit {l : List UInt8} (h : 0 ≤ unitL l) : escU l = (unitL l, 6, 0) := by
  obtain ⟨h1, _⟩ := unitL_yes h
  unfold escU; rw [if_neg (by omega), if_neg (not_let h), if_pos h]
theorem escU_none {l : List UInt8} (h : l.length < 2 ∨ ¬ 0 ≤ letV (byt l 1)) (hu : unitL l < 0) : escU l = (0, 0, 20) ∧ escL l = (0, 0) := by
  constructor
  · unfold escU
    by_cases h1 : l.length < 2
    · rw [if_pos h1]
    · rw [if_neg h1, if_neg (by omega), if_neg (by omega)]
  · unfold escL; rw [if_neg (by omega), if_pos hu]
theorem escL_unit {l : List UInt8} (h : 0 ≤ unitL l) : escL l = if isPt (unitL l) = true then (unitL l, 6) else if isUp (unitL l) = true ∧ isLo (unitL (l.drop 6)) = true then (bothV (unitL l) (unitL (l.drop 6)), 12) else (0, 0) := by
  unfold escL; rw [if_neg (fun x => not_let h x.2), if_neg (by omega)]

/-- what stands within a quote: its number fits, its bytes are there -/
theorem uniL_bd (l : List UInt8) : 0 ≤ (uniL l).1 ∧ (uniL l).1 ≤ 1114111 ∧ 0 ≤ (uniL l).2.1 ∧ (uniL l).2.1 ≤ 6 ∧ (uniL l).2.1 ≤ l.length ∧ ((uniL l).2.2 = 0 ∨ (uniL l).2.2 = 10 ∨ (uniL l).2.2 = 20) := by
  unfold uniL
  rcases oneL_n l with h1 | ⟨a, b, c, d⟩
  · rw [h1]; simp
  · have a0 := isPt_lo a
    have a1 := isPt_hi a
    rw [if_neg (by omega)]
    by_cases h2 : (oneL l).1 < 32
    · rw [if_pos h2]; simp
    · rw [if_neg h2]
      by_cases h3 : (oneL l).1 = 92
      · rw [if_pos h3]
        unfold escU
        by_cases h4 : l.length < 2
        · rw [if_pos h4]; simp
        · rw [if_neg h4]
          by_cases h5 : 0 ≤ letV (byt l 1)
          · have := letV_hi (byt l 1)
            rw [if_pos h5]; exact ⟨by simp only; omega, by simp only; omega, by simp only; omega, by simp only; omega, by simp only; omega, .inl rfl⟩
          · rw [if_neg h5]
            by_cases h6 : 0 ≤ unitL l
            · obtain ⟨g, _⟩ := unitL_yes h6
              have := unitL_bd l
              rw [if_pos h6]; exact ⟨by simp only; omega, by simp only; omega, by simp only; omega, by simp only; omega, by simp only; omega, .inl rfl⟩
            · rw [if_neg h6]; simp
      · rw [if_neg h3]; exact ⟨by simp only; omega, by simp only; omega, by simp only; omega, by simp only; omega, by simp only; omega, .inl rfl⟩

/-- where the program's way stops at once, the document's does, with the same error -/
theorem uniL_err {l : List UInt8} (h0 : l.length ≠ 0) (hq : byt l 0 ≠ 34) (he : (uniL l).2.2 ≠ 0) : stepL l = (0, 0, (uniL l).2.2) := by
  by_cases h1 : byt l 0 < 32
  · rw [stepL_ctl h0 h1, uniL_ctl h0 h1]
  · by_cases h2 : byt l 0 = 92
    · rw [uniL_esc h0 h2] at he ⊢
      rw [stepL_esc h0 h2]
      by_cases h3 : 2 ≤ l.length ∧ 0 ≤ letV (byt l 1)
      · rw [(escU_let h3.1 h3.2).1] at he; simp at he
      · by_cases h4 : 0 ≤ unitL l
        · rw [escU_unit h4] at he; simp at he
        · have := escU_none (l := l) (by omega) (by omega)
          rw [this.1, this.2]; rfl
    · rw [stepL_pt h0 h1 h2 hq]
      by_cases h3 : (oneL l).2 = 0
      · rw [uniL_bad h3, if_pos h3]
      · rw [uniL_pt h0 h3 h1 h2] at he; simp at he
/-- a number that is neither half is the point of both ways -/
theorem uniL_both {l : List UInt8} (h0 : l.length ≠ 0) (hq : byt l 0 ≠ 34) (he : (uniL l).2.2 = 0) (hu : isUp (uniL l).1 = false) (hl : isLo (uniL l).1 = false) : stepL l = uniL l := by
  by_cases h1 : byt l 0 < 32
  · rw [uniL_ctl h0 h1] at he; simp at he
  · by_cases h2 : byt l 0 = 92
    · rw [uniL_esc h0 h2] at he hu hl ⊢
      rw [stepL_esc h0 h2]
      by_cases h3 : 2 ≤ l.length ∧ 0 ≤ letV (byt l 1)
      · have := escU_let h3.1 h3.2
        rw [this.1, this.2]; rfl
      · by_cases h4 : 0 ≤ unitL l
        · rw [escU_unit h4] at hu hl ⊢
          have gb := unitL_bd l
          rw [escL_unit h4, if_pos (isPt_of _ h4 gb.2 hu hl)]; rfl
        · have := escU_none (l := l) (by omega) (by omega)
          rw [this.1] at he; simp at he
    · rw [stepL_pt h0 h1 h2 hq]
      by_cases h3 : (oneL l).2 = 0
      · rw [uniL_bad h3] at he; simp at he
      · rw [uniL_pt h0 h3 h1 h2, if_neg h3]
/-- a half is always an escape -/
theorem uniL_half {l : List UInt8} (h0 : l.length ≠ 0) (h : isUp (uniL l).1 = true ∨ isLo (uniL l).1 = true) : byt l 0 = 92 ∧ 0 ≤ unitL l ∧ uniL l = (unitL l, 6, 0) := by
  have hp : isPt (uniL l).1 = false := by rcases h with h | h; exact isPt_up h; exact isPt_lo' h
  have h92 : ∀ n : Int, 0 ≤ n → n ≤ 92 → isPt n = true := by intro n a b; simp [isPt]; omega
  by_cases h1 : byt l 0 < 32
  · rw [uniL_ctl h0 h1] at hp; simp [isPt] at hp
  · by_cases h2 : byt l 0 = 92
    · refine ⟨h2, ?_⟩
      rw [uniL_esc h0 h2] at hp ⊢
      by_cases h3 : 2 ≤ l.length ∧ 0 ≤ letV (byt l 1)
      · rw [(escU_let h3.1 h3.2).1, h92 _ h3.2 (letV_hi _)] at hp; simp at hp
      · by_cases h4 : 0 ≤ unitL l
        · exact ⟨h4, escU_unit h4⟩
        · have := escU_none (l := l) (by omega) (by omega)
          rw [this.1] at hp; simp [isPt] at hp
    · by_cases h3 : (oneL l).2 = 0
      · rw [uniL_bad h3] at hp; simp [isPt] at hp
      · rw [uniL_pt h0 h3 h1 h2, oneL_pt h3] at hp; simp at hp
/-- a second half that stands first -/
theorem stepL_lo {l : List UInt8} (h0 : l.length ≠ 0) (h : isLo (uniL l).1 = true) : stepL l = (0, 0, 20) := by
  obtain ⟨a, b, c⟩ := uniL_half h0 (.inr h)
  rw [c] at h
  simp only at h
  have hu : isUp (unitL l) = false := by have := isLo_bd h; simp [isUp]; omega
  have e : escL l = (0, 0) := by rw [escL_unit b, if_neg (by rw [isPt_lo' h]; simp), if_neg (by rw [hu]; simp)]
  rw [stepL_esc h0 a, e]; rfl
/-- a first half: what it and the next one are -/
theorem stepL_up {l : List UInt8} (h0 : l.length ≠ 0) (h : isUp (uniL l).1 = true) : stepL l = if isLo (unitL (l.drop 6)) = true then (bothV (uniL l).1 (unitL (l.drop 6)), 12, 0) else (0, 0, 20) := by
  obtain ⟨a, b, c⟩ := uniL_half h0 (.inl h)
  rw [c] at h ⊢
  simp only at h ⊢
  by_cases h2 : isLo (unitL (l.drop 6)) = true
  · have e : escL l = (bothV (unitL l) (unitL (l.drop 6)), 12) := by rw [escL_unit b, if_neg (by rw [isPt_up h]; simp), if_pos ⟨h, h2⟩]
    rw [stepL_esc h0 a, e, if_pos h2]; rfl
  · have e : escL l = (0, 0) := by rw [escL_unit b, if_neg (by rw [isPt_up h]; simp), if_neg (fun x => h2 x.2)]
    rw [stepL_esc h0 a, e, if_neg h2]; rfl
/-- what comes behind a first half is a second one just if the program says so -/
theorem unitL_second {l : List UInt8} (h0 : l.length ≠ 0) (h : isLo (unitL l) = true) : byt l 0 = 92 ∧ uniL l = (unitL l, 6, 0) := by
  have hb := isLo_bd h
  obtain ⟨h1, h2, _⟩ := unitL_yes (l := l) (by omega)
  exact ⟨h2, by rw [uniL_esc h0 h2, escU_unit (by omega)]⟩

/-- WHERE A LOOP OVER A QUOTE STANDS: at byte k, with the points ps -/
def RdAt (l : List UInt8) (k : Nat) (ps : List Int) : Prop :=
  k ≤ l.length ∧ (encL ps).length ≤ k ∧ readL l = (ps ++ (readL (l.drop k)).1, k + (readL (l.drop k)).2.1, (readL (l.drop k)).2.2)
theorem RdAt.start (l : List UInt8) : RdAt l 0 [] := ⟨by omega, by simp [encL], by simp⟩
theorem RdAt.step {l : List UInt8} {k : Nat} {ps : List Int} {p : Int} {m : Nat} (h : RdAt l k ps) (hs : stepL (l.drop k) = (p, (m : Int), 0)) (hm : m ≠ 0) : RdAt l (k + m) (ps ++ [p]) := by
  obtain ⟨h1, h2, h3⟩ := h
  have hn := stepL_n (l.drop k)
  rw [hs] at hn
  simp only [List.length_drop] at hn
  have hg := readL_go (l := l.drop k) (by rw [hs]; simpa using hm)
  rw [hs] at hg
  simp only [Int.toNat_natCast, List.drop_drop] at hg
  refine ⟨by omega, ?_, ?_⟩
  · rw [encL_append]; simp [encL] at h2 ⊢; omega
  · rw [h3, hg]; simp [Nat.add_assoc]
theorem RdAt.stop {l : List UInt8} {k : Nat} {ps : List Int} (h : RdAt l k ps) (hs : (stepL (l.drop k)).2.1 = 0) : readL l = (ps, k, (stepL (l.drop k)).2.2) := by
  rw [h.2.2, readL_stop hs]; simp

/-- WHAT IS READ of the quote at a place: the text's bytes, a place, an error -/
def readS (l : List UInt8) (a : Int) : List UInt8 × Int × Int :=
  if a < 0 ∨ (l.length : Int) ≤ a ∨ byt l a.toNat ≠ 34 then ([], a, 20)
  else if (readL (l.drop (a.toNat + 1))).2.2 = 0 then (encL (readL (l.drop (a.toNat + 1))).1, a + 1 + (readL (l.drop (a.toNat + 1))).2.1 + 1, 0)
  else ([], a + 1 + (readL (l.drop (a.toNat + 1))).2.1, (readL (l.drop (a.toNat + 1))).2.2)
theorem readS_out {l : List UInt8} {a : Int} (h : a < 0 ∨ (l.length : Int) ≤ a ∨ byt l a.toNat ≠ 34) : readS l a = ([], a, 20) := by rw [readS, if_pos h]
theorem readS_in {l : List UInt8} {q : Nat} (h : q < l.length) (hb : byt l q = 34) : readS l q = if (readL (l.drop (q + 1))).2.2 = 0 then (encL (readL (l.drop (q + 1))).1, (q : Int) + 1 + (readL (l.drop (q + 1))).2.1 + 1, 0)
  else ([], (q : Int) + 1 + (readL (l.drop (q + 1))).2.1, (readL (l.drop (q + 1))).2.2) := by
  rw [readS, if_neg (by rw [Int.toNat_natCast]; omega), Int.toNat_natCast]
end Go.Proofs.YthokaeaefmajjaaDoor.Ch
