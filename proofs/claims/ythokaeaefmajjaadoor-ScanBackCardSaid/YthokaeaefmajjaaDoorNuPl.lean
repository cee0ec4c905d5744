import Derived.Test.YthokaeaefmajjaaDoorBase
/- Plain facts on numbers in digits; no run of the program in this text. -/
namespace Go.Proofs.YthokaeaefmajjaaDoor.Nu
open Go.RowKit
open Go.Proofs.YthokaeaefmajjaaDoor.Utf

/-- the byte of a number's last digit -/
def dg (m : Nat) : UInt8 := UInt8.ofNat (48 + m % 10)
theorem dg_nat (m : Nat) : (dg m).toNat = 48 + m % 10 := by unfold dg; simp; omega
def digF : Nat → Nat → List UInt8
  | 0, _ => []
  | f + 1, m => if m < 10 then [dg m] else digF f (m / 10) ++ [dg m]
/-- the digits of a number -/
def digN (m : Nat) : List UInt8 := digF 20 m
/-- the digits of a number, of 0 none -/
def digZ (m : Nat) : List UInt8 := if m = 0 then [] else digN m
/-- the digits of a number, with its sign -/
def putL (n : Int) : List UInt8 := if n < 0 then 45 :: digN n.natAbs else digN n.natAbs

theorem digF_more (f : Nat) : ∀ m, m < 10 ^ f → 0 < f → digF (f + 1) m = digF f m := by
  induction f with
  | zero => intro m _ h; omega
  | succ f ih =>
    intro m hm _
    rw [digF]
    conv => rhs; rw [digF]
    by_cases h10 : m < 10
    · rw [if_pos h10, if_pos h10]
    · rw [if_neg h10, if_neg h10]
      have h1 : m / 10 < 10 ^ f := by
        rw [Nat.pow_succ] at hm
        omega
      have hf : 0 < f := by
        rcases Nat.eq_zero_or_pos f with rfl | h
        · simp at hm; omega
        · exact h
      rw [ih _ h1 hf]
theorem digN_one {m : Nat} (h : m < 10) : digN m = [dg m] := by rw [digN, digF, if_pos h]
theorem digN_step {m : Nat} (h : ¬ m < 10) (hm : m < 10 ^ 20) : digN m = digN (m / 10) ++ [dg m] := by
  rw [digN, digF, if_neg h, digN, digF_more 19 (m / 10) (by omega) (by omega)]
theorem digN_Z {m : Nat} (hm : m < 10 ^ 20) : digN m = digZ (m / 10) ++ [dg m] := by
  by_cases h : m < 10
  · rw [digN_one h, digZ, if_pos (by omega)]; rfl
  · rw [digN_step h hm, digZ, if_neg (by omega)]
theorem digZ_pos {m : Nat} (h : m ≠ 0) : digZ m = digN m := by rw [digZ, if_neg h]

/-- is a byte a digit? -/
def isD (b : Int) : Bool := decide (48 ≤ b ∧ b ≤ 57)
theorem isD_yes {b : Int} (h : isD b = true) : 48 ≤ b ∧ b ≤ 57 := by simpa [isD] using h
theorem isD_of {b : Int} (h : 48 ≤ b ∧ b ≤ 57) : isD b = true := by simpa [isD] using h
theorem isD_no {b : Int} (h : ¬ (48 ≤ b ∧ b ≤ 57)) : isD b = false := by rw [isD, decide_eq_false h]
theorem byt_out {l : List UInt8} {k : Nat} (h : l.length ≤ k) : byt l k = 0 := by
  unfold byt; rw [List.getD_eq_getElem?_getD, List.getElem?_eq_none h]; rfl
theorem byt_in {l : List UInt8} {k : Nat} (h : k < l.length) : byt l k = (l[k].toNat : Int) := by
  unfold byt; rw [List.getD_eq_getElem?_getD, List.getElem?_eq_getElem h]; rfl
theorem isD_in {l : List UInt8} {k : Nat} (h : isD (byt l k) = true) : k < l.length := by
  rcases Nat.lt_or_ge k l.length with h1 | h1
  · exact h1
  · rw [byt_out h1] at h; exact absurd h (by decide)

/-- the number that the k bytes from a place on are, as digits -/
def accD (l : List UInt8) (p : Nat) : Nat → Nat
  | 0 => 0
  | k + 1 => accD l p k * 10 + (byt l (p + k) - 48).toNat
/-- are the k bytes from a place on digits? -/
def digsK (l : List UInt8) (p : Nat) : Nat → Bool
  | 0 => true
  | k + 1 => digsK l p k && isD (byt l (p + k))
theorem digsK_iff (l : List UInt8) (p k : Nat) : digsK l p k = true ↔ ∀ j, j < k → isD (byt l (p + j)) = true := by
  induction k with
  | zero => simp [digsK]
  | succ k ih =>
    rw [digsK, Bool.and_eq_true, ih]
    constructor
    · intro ⟨h1, h2⟩ j hj
      rcases Nat.lt_or_ge j k with h | h
      · exact h1 j h
      · obtain rfl : j = k := by omega
        exact h2
    · intro h
      exact ⟨fun j hj => h j (by omega), h k (by omega)⟩
theorem digsK_in {l : List UInt8} {p k : Nat} (h : digsK l p k = true) (hk : 0 < k) : p + k ≤ l.length := by
  have := isD_in ((digsK_iff l p k).1 h (k - 1) (by omega))
  omega

/-- how many digits a text begins with -/
def runD : List UInt8 → Nat
  | [] => 0
  | b :: r => if isD (b.toNat : Int) = true then runD r + 1 else 0
theorem runD_spec (l : List UInt8) : ∀ p, digsK l p (runD (l.drop p)) = true ∧ isD (byt l (p + runD (l.drop p))) = false := by
  have key : ∀ (m : List UInt8), digsK m 0 (runD m) = true ∧ isD (byt m (runD m)) = false := by
    intro m
    induction m with
    | nil => exact ⟨rfl, by decide⟩
    | cons b r ih =>
      have hb : byt (b :: r) 0 = (b.toNat : Int) := rfl
      have hs : ∀ k, byt (b :: r) (k + 1) = byt r k := fun k => rfl
      rw [runD]
      by_cases h : isD (b.toNat : Int) = true
      · rw [if_pos h, hs]
        refine ⟨?_, ih.2⟩
        rw [digsK_iff]
        intro j hj
        rw [Nat.zero_add]
        cases j with
        | zero => rw [hb]; exact h
        | succ j =>
          rw [hs]
          have := (digsK_iff _ _ _).1 ih.1 j (by omega)
          rwa [Nat.zero_add] at this
      · rw [if_neg h]
        exact ⟨rfl, by rw [hb]; simpa using h⟩
  intro p
  obtain ⟨h1, h2⟩ := key (l.drop p)
  have hd : ∀ k, byt (l.drop p) k = byt l (p + k) := by
    intro k; unfold byt; rw [List.getD_eq_getElem?_getD, List.getElem?_drop, List.getD_eq_getElem?_getD]
  rw [hd] at h2
  refine ⟨?_, h2⟩
  rw [digsK_iff] at h1 ⊢
  intro j hj
  have := h1 j hj
  rwa [hd, Nat.zero_add] at this
/-- how many digits stand from a place on -/
def runL (l : List UInt8) (p : Nat) : Nat := runD (l.drop p)
theorem runL_eq {l : List UInt8} {p k : Nat} (h : digsK l p k = true) (hn : isD (byt l (p + k)) = false) : runL l p = k := by
  obtain ⟨h1, h2⟩ := runD_spec l p
  unfold runL
  rcases Nat.lt_trichotomy (runD (l.drop p)) k with h3 | h3 | h3
  · have := (digsK_iff _ _ _).1 h _ h3
    rw [h2] at this
    cases this
  · exact h3
  · have := (digsK_iff _ _ _).1 h1 _ h3
    rw [hn] at this
    cases this
theorem runL_digs (l : List UInt8) (p : Nat) : digsK l p (runL l p) = true := (runD_spec l p).1
theorem runL_stop (l : List UInt8) (p : Nat) : isD (byt l (p + runL l p)) = false := (runD_spec l p).2
theorem runL_le (l : List UInt8) (p : Nat) (h : p ≤ l.length) : p + runL l p ≤ l.length := by
  rcases Nat.eq_zero_or_pos (runL l p) with h0 | h0
  · omega
  · exact digsK_in (runL_digs l p) h0

theorem accD_mono (l : List UInt8) (p : Nat) : ∀ k j, k ≤ j → accD l p k ≤ accD l p j := by
  intro k j h
  induction j with
  | zero => obtain rfl : k = 0 := by omega
            exact Nat.le_refl _
  | succ j ih =>
    rcases Nat.lt_or_ge j k with h1 | h1
    · obtain rfl : k = j + 1 := by omega
      exact Nat.le_refl _
    · have := ih h1
      rw [accD]
      omega
theorem accD_ten (l : List UInt8) (p k j : Nat) (h : k < j) : accD l p k * 10 ≤ accD l p j := by
  have := accD_mono l p (k + 1) j h
  rw [accD] at this
  omega
theorem accD_pos {l : List UInt8} {p k : Nat} (hk : 0 < k) (hd : 48 < byt l p) : 0 < accD l p k := by
  have h1 := accD_mono l p 1 k hk
  rw [accD, accD, Nat.add_zero] at h1
  omega

/-- the greatest number that may be -/
def maxN : Nat := 9007199254740991
/-- where a number's digits begin -/
def fstN (l : List UInt8) (p : Nat) : Nat := if byt l p = 45 then p + 1 else p
/-- is what stands from a place on, as far as digits go, no number? -/
def badN (l : List UInt8) (f r : Nat) : Prop := r = 0 ∨ maxN < accD l f r ∨ (1 < r ∧ byt l f = 48) ∨ (byt l (f + r) = 46 ∨ byt l (f + r) = 101 ∨ byt l (f + r) = 69)
instance (l : List UInt8) (f r : Nat) : Decidable (badN l f r) := by unfold badN; infer_instance
/-- the number that begins at a place within a text, the place behind it, and why not -/
def rdN (l : List UInt8) (p : Nat) : Int × Int × Int :=
  if badN l (fstN l p) (runL l (fstN l p)) then (0, p, 30)
  else ((if byt l p = 45 then -(accD l (fstN l p) (runL l (fstN l p)) : Int) else (accD l (fstN l p) (runL l (fstN l p)) : Int)), (fstN l p + runL l (fstN l p) : Nat), 0)
def rdS (l : List UInt8) (a : Int) : Int × Int × Int := if a < 0 ∨ (l.length : Int) ≤ a then (0, a, 30) else rdN l a.toNat

theorem fst_le (l : List UInt8) (p : Nat) (h : p < l.length) : p ≤ fstN l p ∧ fstN l p ≤ l.length := by unfold fstN; split <;> omega

/-- what is read has few enough digits -/
theorem rdS_bounds (l : List UInt8) (a : Int) : -(maxN : Int) ≤ (rdS l a).1 ∧ (rdS l a).1 ≤ maxN := by
  have hm : maxN = 9007199254740991 := rfl
  unfold rdS
  split
  · simp [hm]
  · unfold rdN
    split
    · simp [hm]
    · rename_i h1 h2
      have h3 : ¬ maxN < accD l (fstN l a.toNat) (runL l (fstN l a.toNat)) := fun h => h2 (.inr (.inl h))
      show -(maxN : Int) ≤ (if byt l a.toNat = 45 then _ else _) ∧ (if byt l a.toNat = 45 then _ else _) ≤ (maxN : Int)
      split <;> omega
theorem rdS_place (l : List UInt8) (a : Int) : (rdS l a).2.1 = a ∨ (0 ≤ (rdS l a).2.1 ∧ (rdS l a).2.1 ≤ l.length) := by
  unfold rdS
  split
  · exact .inl rfl
  · unfold rdN
    split
    · exact .inl (by show ((a.toNat : Nat) : Int) = a; omega)
    · rename_i h1 h2
      have := fst_le l a.toNat (by omega)
      have := runL_le l (fstN l a.toNat) this.2
      refine .inr ?_
      show 0 ≤ ((_ : Nat) : Int) ∧ ((_ : Nat) : Int) ≤ _
      omega
theorem rdS_why (l : List UInt8) (a : Int) : (rdS l a).2.2 = 0 ∨ (rdS l a).2.2 = 30 ∧ (rdS l a).1 = 0 ∧ (rdS l a).2.1 = a := by
  unfold rdS
  split
  · exact .inr ⟨rfl, rfl, rfl⟩
  · unfold rdN
    split
    · exact .inr ⟨rfl, rfl, by show ((a.toNat : Nat) : Int) = a; omega⟩
    · exact .inl rfl
end Go.Proofs.YthokaeaefmajjaaDoor.Nu
