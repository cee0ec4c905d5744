/- Merged: TrS0 FoPl. -/
import Derived.Test.YtjbaogoapobhbaaDoorTt0
import Derived.Shelf.SlSortCmp.KitK
import Derived.Lib.Bytealg
import Derived.Sort.LotA
namespace Go.Proofs.YtjbaogoapobhbaaDoor.Tr
open Go.Proofs Go.RowKit Go.Sort Go.Shelf Go.Lib
open Go.Proofs.YtjbaogoapobhbaaDoor.Utf

structure M6 where
  nm : List UInt8
  k : Int
  n : Int
  s : ByteArray
  A : Option Addr
  l : Nat
  c : Nat
  A2 : Option Addr
  m : Nat
  c2 : Nat
instance : Inhabited M6 := ⟨⟨[], 0, 0, ⟨#[]⟩, none, 0, 0, none, 0, 0⟩⟩
abbrev ltN (a b : List UInt8) : Bool := decide (Lib.compareBytes a b < 0)
end Go.Proofs.YtjbaogoapobhbaaDoor.Tr
namespace Go.Proofs.YtjbaogoapobhbaaDoor.Fo
open Go.Proofs Go.RowKit
open Go.Proofs.YtjbaogoapobhbaaDoor.Utf
open Go.Proofs.YtjbaogoapobhbaaDoor.Tr (ltN)

def lowB (b : UInt8) : UInt8 := if 65 ≤ b ∧ b ≤ 90 then b + 32 else b
def low (l : List UInt8) : List UInt8 := l.map lowB
theorem lowB_nat (b : UInt8) : (lowB b).toNat = if 65 ≤ b.toNat ∧ b.toNat ≤ 90 then b.toNat + 32 else b.toNat := by
  unfold lowB
  have e : (65 ≤ b ∧ b ≤ 90) ↔ (65 ≤ b.toNat ∧ b.toNat ≤ 90) := by rw [UInt8.le_iff_toNat_le, UInt8.le_iff_toNat_le]; exact Iff.rfl
  by_cases h : 65 ≤ b ∧ b ≤ 90
  · rw [if_pos h, if_pos (e.1 h), UInt8.toNat_add]
    have := (e.1 h).2
    show (b.toNat + 32) % 256 = _
    omega
  · rw [if_neg h, if_neg fun h2 => h (e.2 h2)]
theorem low_len (l : List UInt8) : (low l).length = l.length := List.length_map ..
theorem low_app (a b : List UInt8) : low (a ++ b) = low a ++ low b := List.map_append
theorem lowB_is (b c : UInt8) (hc : c = 32 ∨ c = 34) : lowB b = c ↔ b = c := by
  rw [← UInt8.toNat_inj, ← UInt8.toNat_inj, lowB_nat]
  have : c.toNat = 32 ∨ c.toNat = 34 := by rcases hc with rfl | rfl <;> simp
  split <;> omega

def hasL : List UInt8 → List UInt8 → Bool
  | [], b => b.isEmpty
  | c :: r, b => b.isPrefixOf (c :: r) || hasL r b
def trm : List UInt8 → Nat → List UInt8 → List (List UInt8)
  | [], m, cur => if m = 0 then [] else if m = 1 then [cur] else if cur = [] then [] else [cur]
  | c :: r, m, cur =>
    if m = 0 then (if c = 32 then trm r 0 [] else if c = 34 then trm r 2 [] else trm r 1 [c])
    else if m = 1 then (if c = 32 then cur :: trm r 0 [] else if c = 34 then cur :: trm r 2 [] else trm r 1 (cur ++ [c]))
    else if c = 34 then (if cur = [] then [] else [cur]) ++ trm r 0 [] else trm r 2 (cur ++ [c])
def tms (q : List UInt8) : List (List UInt8) := trm q 0 []
theorem trm_end0 : trm [] 0 [] = [] := rfl
theorem trm_end1 (cur : List UInt8) : trm [] 1 cur = [cur] := rfl
theorem trm_end2 (cur : List UInt8) : trm [] 2 cur = if cur = [] then [] else [cur] := rfl
theorem trm_blank (r : List UInt8) : trm (32 :: r) 0 [] = trm r 0 [] := by rw [trm, if_pos rfl, if_pos rfl]
theorem trm_quote (r : List UInt8) : trm (34 :: r) 0 [] = trm r 2 [] := by rw [trm, if_pos rfl, if_neg (by decide), if_pos rfl]
theorem trm_word {c : UInt8} (r : List UInt8) (h1 : c ≠ 32) (h2 : c ≠ 34) : trm (c :: r) 0 [] = trm (c :: r) 1 [] := by
  rw [trm, trm, if_pos rfl, if_neg h1, if_neg h2, if_neg (by decide), if_pos rfl, if_neg h1, if_neg h2]
  rfl
theorem trm_go {c : UInt8} (r cur : List UInt8) (h1 : c ≠ 32) (h2 : c ≠ 34) : trm (c :: r) 1 cur = trm r 1 (cur ++ [c]) := by
  rw [trm, if_neg (by decide), if_pos rfl, if_neg h1, if_neg h2]
theorem trm_stop {c : UInt8} (r cur : List UInt8) (h : c = 32 ∨ c = 34) : trm (c :: r) 1 cur = cur :: trm (c :: r) 0 [] := by
  rcases h with rfl | rfl
  · rw [trm, if_neg (by decide), if_pos rfl, if_pos rfl, trm_blank]
  · rw [trm, if_neg (by decide), if_pos rfl, if_neg (by decide), if_pos rfl, trm_quote]
theorem trm_in {c : UInt8} (r cur : List UInt8) (h : c ≠ 34) : trm (c :: r) 2 cur = trm r 2 (cur ++ [c]) := by
  rw [trm, if_neg (by decide), if_neg (by decide), if_neg h]
theorem trm_close (r cur : List UInt8) : trm (34 :: r) 2 cur = (if cur = [] then [] else [cur]) ++ trm r 0 [] := by
  rw [trm, if_neg (by decide), if_neg (by decide), if_pos rfl]
theorem trm_len : ∀ (l : List UInt8) (m : Nat) (cur : List UInt8), (trm l m cur).length ≤ l.length + 1
  | [], m, cur => by
    rw [trm]
    split
    · simp
    · split
      · simp
      · split <;> simp
  | c :: r, m, cur => by
    have h0 := trm_len r 0 []
    have h1 := trm_len r 1 [c]
    have h2 := trm_len r 2 []
    have h3 := trm_len r 1 (cur ++ [c])
    have h4 := trm_len r 2 (cur ++ [c])
    rw [trm]
    simp only [List.length_cons]
    split
    · split
      · omega
      · split <;> omega
    · split
      · split
        · simp only [List.length_cons]; omega
        · split
          · simp only [List.length_cons]; omega
          · omega
      · split
        · split
          · simp only [List.nil_append]; omega
          · simp only [List.length_append, List.length_cons, List.length_nil]; omega
        · omega
theorem low_nil {l : List UInt8} : low l = [] ↔ l = [] := by unfold low; exact List.map_eq_nil_iff
theorem trm_low : ∀ (l : List UInt8) (m : Nat) (cur : List UInt8), trm (low l) m (low cur) = (trm l m cur).map low
  | [], m, cur => by
    show trm [] m (low cur) = _
    rw [trm, trm]
    by_cases h0 : m = 0
    · rw [if_pos h0, if_pos h0]; rfl
    · rw [if_neg h0, if_neg h0]
      by_cases h1 : m = 1
      · rw [if_pos h1, if_pos h1]; rfl
      · rw [if_neg h1, if_neg h1]
        by_cases h2 : cur = []
        · rw [if_pos h2, if_pos (low_nil.2 h2)]; rfl
        · rw [if_neg h2, if_neg fun h => h2 (low_nil.1 h)]; rfl
  | c :: r, m, cur => by
    show trm (lowB c :: low r) m (low cur) = _
    have h0 := trm_low r 0 []
    have h1 := trm_low r 1 [c]
    have h2 := trm_low r 2 []
    have h3 := trm_low r 1 (cur ++ [c])
    have h4 := trm_low r 2 (cur ++ [c])
    rw [low_app] at h3 h4
    change trm (low r) 0 [] = _ at h0
    change trm (low r) 1 [lowB c] = _ at h1
    change trm (low r) 2 [] = _ at h2
    change trm (low r) 1 (low cur ++ [lowB c]) = _ at h3
    change trm (low r) 2 (low cur ++ [lowB c]) = _ at h4
    have e1 := lowB_is c 32 (.inl rfl)
    have e2 := lowB_is c 34 (.inr rfl)
    rw [trm, trm]
    simp only [e1, e2, h0, h1, h2, h3, h4, low_nil]
    split
    · split
      · rfl
      · split <;> rfl
    · split
      · split
        · rfl
        · split <;> rfl
      · split
        · split <;> simp
        · rfl
theorem tms_low (q : List UInt8) : tms (low q) = (tms q).map low := trm_low q 0 []
def matS (q : List UInt8) (xs : List (List UInt8)) : Bool := (tms q).all fun t => xs.any fun x => hasL (low x) (low t)
theorem less_cmp : ∀ a b : List UInt8, Op.bytesLess a b = ltN a b
  | [], [] => by simp [Op.bytesLess, ltN, Lib.compareBytes]
  | [], _ :: _ => by simp [Op.bytesLess, ltN, Lib.compareBytes]
  | _ :: _, [] => by simp [Op.bytesLess, ltN, Lib.compareBytes]
  | x :: r, y :: t => by
    have ih := less_cmp r t
    unfold ltN at ih ⊢
    rw [Op.bytesLess, Lib.compareBytes, ih]
    by_cases h1 : x < y
    · rw [if_pos h1]; simp [h1]
    · rw [if_neg h1]
      by_cases h2 : y < x
      · rw [if_pos h2]
        have h3 : x ≠ y := fun e => by rw [e] at h2; exact absurd h2 (UInt8.lt_irrefl _)
        simp [h1, h3]
      · rw [if_neg h2]
        have h3 : x = y := UInt8.le_antisymm (UInt8.not_lt.1 h2) (UInt8.not_lt.1 h1)
        simp [h3]
def cmpF (a b : List UInt8) : Int := if ltN (low a) (low b) = true then -1 else if ltN (low b) (low a) = true then 1 else 0
end Go.Proofs.YtjbaogoapobhbaaDoor.Fo
