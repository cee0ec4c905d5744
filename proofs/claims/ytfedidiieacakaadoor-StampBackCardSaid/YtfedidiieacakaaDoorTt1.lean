/- Merged: StPl3 StT. -/
import Derived.Test.YtfedidiieacakaaDoorTt0
import Derived.Lib.Bytealg
import Derived.Test.YtfedidiieacakaaDoorProg
namespace Go.Proofs.YtfedidiieacakaaDoor.St
open Go.RowKit
open Go.Proofs.YtfedidiieacakaaDoor.Utf
open Go.Proofs.YtfedidiieacakaaDoor.Nu

def Lss (a b : List UInt8) : Prop := ∃ k, k ≤ a.length ∧ k < b.length ∧ (∀ i, i < k → byt a i = byt b i) ∧ (k = a.length ∨ (k < a.length ∧ byt a k < byt b k))
theorem Lss_cons {a b : List UInt8} (x : UInt8) (h : Lss a b) : Lss (x :: a) (x :: b) := by
  obtain ⟨k, h1, h2, h3, h4⟩ := h
  refine ⟨k + 1, by simpa using h1, by simpa using h2, fun i hi => ?_, ?_⟩
  · cases i with
    | zero => rfl
    | succ i => exact h3 i (by omega)
  · rcases h4 with h4 | ⟨h4, h5⟩
    · exact .inl (by simpa using h4)
    · exact .inr ⟨by simpa using h4, h5⟩
theorem Lss_head {x y : UInt8} (a b : List UInt8) (h : x < y) : Lss (x :: a) (y :: b) :=
  ⟨0, by simp, by simp, by simp, .inr ⟨by simp, by
    rw [byt_cons_0, byt_cons_0]
    have := UInt8.lt_iff_toNat_lt.1 h
    omega⟩⟩
theorem cmp_cases : ∀ a b : List UInt8, (Lib.compareBytes a b = -1 ∧ Op.bytesLess a b = true ∧ Lss a b) ∨ (Lib.compareBytes a b = 0 ∧ Op.bytesLess a b = false ∧ a = b) ∨ (Lib.compareBytes a b = 1 ∧ Op.bytesLess a b = false ∧ Lss b a)
  | [], [] => .inr (.inl ⟨rfl, rfl, rfl⟩)
  | [], y :: b => .inl ⟨rfl, rfl, 0, by simp, by simp, by simp, .inl rfl⟩
  | x :: a, [] => .inr (.inr ⟨rfl, rfl, 0, by simp, by simp, by simp, .inl rfl⟩)
  | x :: a, y :: b => by
    by_cases h : x < y
    · exact .inl ⟨by simp [Lib.compareBytes, h], by simp [Op.bytesLess, h], Lss_head a b h⟩
    · by_cases h2 : y < x
      · have hne : ¬ x = y := fun e => by subst e; exact h h2
        exact .inr (.inr ⟨by simp [Lib.compareBytes, h, h2], by simp [Op.bytesLess, h, hne], Lss_head b a h2⟩)
      · obtain rfl : x = y := by
          apply UInt8.toNat.inj
          rw [UInt8.lt_iff_toNat_lt] at h h2
          omega
        have e1 : Lib.compareBytes (x :: a) (x :: b) = Lib.compareBytes a b := by simp [Lib.compareBytes]
        have e2 : Op.bytesLess (x :: a) (x :: b) = Op.bytesLess a b := by simp [Op.bytesLess]
        rw [e1, e2]
        rcases cmp_cases a b with ⟨p, q, r⟩ | ⟨p, q, r⟩ | ⟨p, q, r⟩
        · exact .inl ⟨p, q, Lss_cons x r⟩
        · exact .inr (.inl ⟨p, q, by rw [r]⟩)
        · exact .inr (.inr ⟨p, q, Lss_cons x r⟩)
theorem accD_congr {a b : List UInt8} (p : Nat) : ∀ k, (∀ j, j < k → byt a (p + j) = byt b (p + j)) → accD a p k = accD b p k
  | 0, _ => rfl
  | k + 1, h => by rw [accD, accD, accD_congr p k (fun j hj => h j (by omega)), h k (by omega)]
theorem accD_less {a b : List UInt8} (p j : Nat) (he : ∀ i, i < j → byt a (p + i) = byt b (p + i)) (hl : byt a (p + j) < byt b (p + j)) :
    ∀ k, j < k → digsK a p k = true → digsK b p k = true → accD a p k < accD b p k
  | 0, h, _, _ => by omega
  | k + 1, h, ha, hb => by
    rw [digsK, Bool.and_eq_true] at ha hb
    have a1 := isD_yes ha.2
    have b1 := isD_yes hb.2
    rw [accD, accD]
    rcases Nat.lt_or_ge j k with hj | hj
    · have := accD_less p j he hl k hj ha.1 hb.1
      omega
    · obtain rfl : j = k := by omega
      rw [accD_congr p j he]
      omega

def partD (l : List UInt8) (i : Nat) : Nat := if 20 + i < l.length - 1 then (byt l (20 + i) - 48).toNat else 0
def accF (f : Nat → Nat) : Nat → Nat
  | 0 => 0
  | k + 1 => accF f k * 10 + f k
def partN (l : List UInt8) : Nat := accF (partD l) 9
theorem accF_le {f g : Nat → Nat} : ∀ k, (∀ i, i < k → f i ≤ g i) → accF f k ≤ accF g k
  | 0, _ => Nat.le_refl _
  | k + 1, h => by
    have := accF_le k (fun i hi => h i (by omega))
    have := h k (by omega)
    rw [accF, accF]; omega
theorem accF_pt {f g : Nat → Nat} (j : Nat) (hj : f j < g j) : ∀ k, j < k → (∀ i, i < k → f i ≤ g i) → accF f k < accF g k
  | 0, h, _ => by omega
  | k + 1, h, hl => by
    rw [accF, accF]
    have hk := hl k (by omega)
    rcases Nat.lt_or_ge j k with h1 | h1
    · have := accF_pt j hj k h1 (fun i hi => hl i (by omega))
      omega
    · obtain rfl : j = k := by omega
      have := accF_le j (fun i hi => hl i (by omega))
      omega
theorem accF_congr {f g : Nat → Nat} : ∀ k, (∀ i, i < k → f i = g i) → accF f k = accF g k
  | 0, _ => rfl
  | k + 1, h => by rw [accF, accF, accF_congr k (fun i hi => h i (by omega)), h k (by omega)]
theorem accF_less {f g : Nat → Nat} (j : Nat) (he : ∀ i, i < j → f i = g i) (hj : f j < g j) (hf : ∀ i, f i ≤ 9) (_hg : ∀ i, g i ≤ 9) : ∀ k, j < k → accF f k < accF g k
  | 0, h => by omega
  | k + 1, h => by
    rw [accF, accF]
    have := hf k
    rcases Nat.lt_or_ge j k with h1 | h1
    · have := accF_less j he hj hf _hg k h1
      omega
    · obtain rfl : j = k := by omega
      rw [accF_congr j he]
      omega
theorem endP_yes {l : List UInt8} (h : endP l 19 = true) : (l.length = 20 ∨ (22 ≤ l.length ∧ l.length ≤ 30 ∧ byt l 19 = 46 ∧ 48 < byt l (l.length - 2))) ∧ (∀ i, 20 ≤ i → i < l.length - 1 → isD (byt l i) = true) ∧ byt l (l.length - 1) = 90 := by
  rcases of_decide_eq_true h with ⟨h1, h2⟩ | ⟨h1, h2, h3, h4, h5, h6⟩
  · exact ⟨.inl h1, fun i _ _ => by omega, by rw [h1]; exact h2⟩
  · have hd : ∀ i, 20 ≤ i → i < l.length - 1 → isD (byt l i) = true := by
      intro i hi hl
      have := (digsK_iff _ _ _).1 h6 (i - 20) (by omega)
      rwa [show 19 + 1 + (i - 20) = i by omega] at this
    have := isD_yes (hd (l.length - 2) (by omega) (by omega))
    exact ⟨.inr ⟨h1, h2, h3, by omega⟩, hd, h4⟩
theorem partD_le {l : List UInt8} (h : endP l 19 = true) (i : Nat) : partD l i ≤ 9 := by
  unfold partD
  split
  · have := isD_yes ((endP_yes h).2.1 (20 + i) (by omega) (by omega))
    omega
  · omega

def noZ (l : List UInt8) : List UInt8 := l.take (l.length - 1)
theorem noZ_len (l : List UInt8) : (noZ l).length = l.length - 1 := by unfold noZ; rw [List.length_take]; omega
theorem noZ_byt {l : List UInt8} {k : Nat} (h : k < l.length - 1) : byt (noZ l) k = byt l k := by
  unfold noZ byt
  rw [List.getD_eq_getElem?_getD, List.getElem?_take, if_pos h, List.getD_eq_getElem?_getD]

def Erl (a b : List UInt8) : Prop := secV a < secV b ∨ (secV a = secV b ∧ partN a < partN b)

theorem sec_less {a b : List UInt8} (ha : secOk a) (hb : secOk b) (k : Nat) (hk : k < 19) (he : ∀ i, i < k → byt a i = byt b i) (hl : byt a k < byt b k) : secV a < secV b := by
  obtain ⟨fa, _, da, ha1, ha2, ha3⟩ := ha
  obtain ⟨fb, _, db, hb1, hb2, hb3⟩ := hb
  obtain ⟨a0, a5, a8, a11, a14, a17⟩ := frm_digs fa
  obtain ⟨b0, b5, b8, b11, b14, b17⟩ := frm_digs fb
  have e0 : 4 ≤ k → accD a 0 4 = accD b 0 4 := fun h => accD_congr 0 4 fun j hj => he _ (by omega)
  have e5 : 7 ≤ k → accD a 5 2 = accD b 5 2 := fun h => accD_congr 5 2 fun j hj => he _ (by omega)
  have e8 : 10 ≤ k → accD a 8 2 = accD b 8 2 := fun h => accD_congr 8 2 fun j hj => he _ (by omega)
  have e11 : 13 ≤ k → accD a 11 2 = accD b 11 2 := fun h => accD_congr 11 2 fun j hj => he _ (by omega)
  have e14 : 16 ≤ k → accD a 14 2 = accD b 14 2 := fun h => accD_congr 14 2 fun j hj => he _ (by omega)
  have sep : dgp k = true := by
    by_cases h : dgp k = true
    · exact h
    · have h := Bool.eq_false_iff.2 h
      rw [frm_sep fa k hk h, frm_sep fb k hk h] at hl
      exact absurd hl (by omega)
  have n4 : k ≠ 4 := fun h => by subst h; exact absurd sep (by decide)
  have n7 : k ≠ 7 := fun h => by subst h; exact absurd sep (by decide)
  have n10 : k ≠ 10 := fun h => by subst h; exact absurd sep (by decide)
  have n13 : k ≠ 13 := fun h => by subst h; exact absurd sep (by decide)
  have n16 : k ≠ 16 := fun h => by subst h; exact absurd sep (by decide)
  have pl : ∀ p n, p ≤ k → k < p + n → digsK a p n = true → digsK b p n = true → accD a p n < accD b p n := fun p n h1 h2 x y =>
    accD_less p (k - p) (fun i hi => he _ (by omega)) (by rw [show p + (k - p) = k by omega]; exact hl) n (by omega) x y
  have dl : ∀ (h : ((accD a 0 4 : Int) < accD b 0 4 ∨ (accD a 0 4 : Int) = accD b 0 4 ∧ ((accD a 5 2 : Int) < accD b 5 2 ∨ (accD a 5 2 : Int) = accD b 5 2 ∧ (accD a 8 2 : Int) < accD b 8 2))), secV a < secV b := by
    intro h
    have := day0_lt da db h
    unfold secV
    omega
  rcases Nat.lt_or_ge k 4 with h | h
  · have := pl 0 4 (by omega) (by omega) a0 b0
    exact dl (.inl (by omega))
  have e0 := e0 h
  rcases Nat.lt_or_ge k 7 with h | h
  · have := pl 5 2 (by omega) (by omega) a5 b5
    exact dl (.inr ⟨by omega, .inl (by omega)⟩)
  have e5 := e5 h
  rcases Nat.lt_or_ge k 10 with h | h
  · have := pl 8 2 (by omega) (by omega) a8 b8
    exact dl (.inr ⟨by omega, .inr ⟨by omega, by omega⟩⟩)
  have e8 := e8 h
  unfold secV
  rw [e0, e5, e8]
  rcases Nat.lt_or_ge k 13 with h | h
  · have := pl 11 2 (by omega) (by omega) a11 b11
    omega
  have e11 := e11 h
  rcases Nat.lt_or_ge k 16 with h | h
  · have := pl 14 2 (by omega) (by omega) a14 b14
    omega
  have e14 := e14 h
  have := pl 17 2 (by omega) (by omega) a17 b17
  omega
theorem sec_same {a b : List UInt8} (he : ∀ i, i < 19 → byt a i = byt b i) : secV a = secV b := by
  unfold secV
  rw [accD_congr 0 4 fun j hj => he _ (by omega), accD_congr 5 2 fun j hj => he _ (by omega), accD_congr 8 2 fun j hj => he _ (by omega), accD_congr 11 2 fun j hj => he _ (by omega), accD_congr 14 2 fun j hj => he _ (by omega), accD_congr 17 2 fun j hj => he _ (by omega)]
theorem Erl_of {a b : List UInt8} (ha : secOk a) (hb : secOk b) (h : Lss (noZ a) (noZ b)) : Erl a b := by
  obtain ⟨k, h1, h2, h3, h4⟩ := h
  rw [noZ_len] at h1 h2
  have he : ∀ i, i < k → byt a i = byt b i := fun i hi => by
    have := h3 i hi
    rwa [noZ_byt (by omega), noZ_byt (by omega)] at this
  obtain ⟨la, da, _⟩ := endP_yes ha.2.1
  obtain ⟨lb, db, _⟩ := endP_yes hb.2.1
  rcases Nat.lt_or_ge k 19 with hk | hk
  · rcases h4 with h4 | ⟨h4, h5⟩
    · rw [noZ_len] at h4; omega
    · rw [noZ_len] at h4
      rw [noZ_byt (by omega), noZ_byt (by omega)] at h5
      exact .inl (sec_less ha hb k hk he h5)
  · refine .inr ⟨sec_same fun i hi => he i (by omega), ?_⟩
    have pa := partD_le ha.2.1
    have pb := partD_le hb.2.1
    rcases h4 with h4 | ⟨h4, h5⟩
    · rw [noZ_len] at h4
      have hb22 : 22 ≤ b.length ∧ b.length ≤ 30 ∧ byt b 19 = 46 ∧ 48 < byt b (b.length - 2) := by
        rcases lb with lb | lb
        · omega
        · exact lb
      refine accF_pt (b.length - 22) ?_ 9 (by omega) fun i hi => ?_
      · unfold partD
        rw [if_neg (by omega), if_pos (by omega), show 20 + (b.length - 22) = b.length - 2 by omega]
        omega
      · unfold partD
        by_cases hi1 : 20 + i < a.length - 1
        · rw [if_pos hi1, if_pos (by omega), he _ (by omega)]
          exact Nat.le_refl _
        · rw [if_neg hi1]
          exact Nat.zero_le _
    · rw [noZ_len] at h4
      rw [noZ_byt (by omega), noZ_byt (by omega)] at h5
      have k20 : 20 ≤ k := by
        rcases Nat.lt_or_ge k 20 with h | h
        · obtain rfl : k = 19 := by omega
          have ea : byt a 19 = 46 := by rcases la with la | la; omega; exact la.2.2.1
          have eb : byt b 19 = 46 := by rcases lb with lb | lb; omega; exact lb.2.2.1
          omega
        · exact h
      refine accF_less (k - 20) (fun i hi => ?_) ?_ pa pb 9 (by omega)
      · unfold partD
        rw [if_pos (by omega), if_pos (by omega), he _ (by omega)]
      · have x := isD_yes (da k (by omega) (by omega))
        have y := isD_yes (db k (by omega) (by omega))
        unfold partD
        rw [if_pos (by omega), if_pos (by omega), show 20 + (k - 20) = k by omega]
        omega
theorem noZ_eq {a b : List UInt8} (ha : secOk a) (hb : secOk b) (h : noZ a = noZ b) : secV a = secV b ∧ partN a = partN b := by
  have hl : a.length - 1 = b.length - 1 := by rw [← noZ_len, ← noZ_len, h]
  have fa := frm_len ha.1
  have fb := frm_len hb.1
  obtain ⟨la, _, _⟩ := endP_yes ha.2.1
  obtain ⟨lb, _, _⟩ := endP_yes hb.2.1
  have he : ∀ i, i < a.length - 1 → byt a i = byt b i := fun i hi => by
    rw [← noZ_byt hi, ← noZ_byt (l := b) (by omega), h]
  refine ⟨sec_same fun i hi => he i (by omega), accF_congr 9 fun i hi => ?_⟩
  unfold partD
  rw [hl]
  split
  · rw [he _ (by omega)]
  · rfl

instance (a b : List UInt8) : Decidable (Erl a b) := by unfold Erl; infer_instance
def cmpS (a b : List UInt8) : Int := if secOk a then (if secOk b then Lib.compareBytes (noZ a) (noZ b) else 1) else if secOk b then -1 else Lib.compareBytes a b
theorem Erl_not {a b : List UInt8} (h : Erl a b) : ¬ Erl b a := by unfold Erl at *; omega
theorem cmp_erl {a b : List UInt8} (ha : secOk a) (hb : secOk b) : Lib.compareBytes (noZ a) (noZ b) = if Erl a b then -1 else if Erl b a then 1 else 0 := by
  rcases cmp_cases (noZ a) (noZ b) with ⟨p, q, r⟩ | ⟨p, q, r⟩ | ⟨p, q, r⟩
  · rw [p, if_pos (Erl_of ha hb r)]
  · have := noZ_eq ha hb r
    rw [p, if_neg (by unfold Erl; omega), if_neg (by unfold Erl; omega)]
  · have := Erl_of hb ha r
    rw [p, if_neg (Erl_not this), if_pos this]
end Go.Proofs.YtfedidiieacakaaDoor.St
namespace Go.Proofs.YtfedidiieacakaaDoor.St
open Go.RowKit
open Go.Proofs.YtfedidiieacakaaDoor.Utf

def mdl (k : Nat) : Int := [31, 28, 31, 30, 31, 30, 31, 31, 30, 31, 30, 31].getD k 0
def plc (k : Nat) : Int := [0, 4, 5, 7, 8, 10, 11, 13, 14, 16, 17, 19].getD k 0
def Tab (w : World) : Prop := (∀ k, k < 12 → w.cell? ⟨1, k, none⟩ = some (.int .i64 (mdl k))) ∧ ∀ k, k < 12 → w.cell? ⟨0, k, none⟩ = some (.int .i64 (plc k))
theorem Tab.lt {w : World} (h : Tab w) : 1 < w.heap.size ∧ 0 < w.heap.size :=
  ⟨cell_lt (h.1 0 (by omega)), cell_lt (h.2 0 (by omega))⟩
theorem Tab.below {w w' : World} (h : Tab w) (hb : Below w.heap.size w w') : Tab w' :=
  ⟨fun k hk => (hb.cell h.lt.1).trans (h.1 k hk), fun k hk => (hb.cell h.lt.2).trans (h.2 k hk)⟩
theorem mdl_is (y m : Int) (h1 : 1 ≤ m) (h2 : m ≤ 12) (h : ¬ (m = 2 ∧ leap y = true)) : mdl (m - 1).toNat = mlen y m := by
  have key : m = 1 ∨ m = 2 ∨ m = 3 ∨ m = 4 ∨ m = 5 ∨ m = 6 ∨ m = 7 ∨ m = 8 ∨ m = 9 ∨ m = 10 ∨ m = 11 ∨ m = 12 := by omega
  rcases key with rfl | rfl | rfl | rfl | rfl | rfl | rfl | rfl | rfl | rfl | rfl | rfl
  · rfl
  · have : ¬ leap y = true := fun h3 => h ⟨rfl, h3⟩
    unfold mlen; rw [if_pos rfl, if_neg this]; rfl
  all_goals rfl

end Go.Proofs.YtfedidiieacakaaDoor.St
