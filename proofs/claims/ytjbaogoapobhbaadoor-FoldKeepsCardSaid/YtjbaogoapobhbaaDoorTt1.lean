/- Merged: WoPl2 StPl3. -/
import Derived.Test.YtjbaogoapobhbaaDoorTt0
import Derived.Lib.Bytealg
namespace Go.Proofs.YtjbaogoapobhbaaDoor.Wo
open Go.RowKit
open Go.Proofs.YtjbaogoapobhbaaDoor.Utf
open Go.Proofs.YtjbaogoapobhbaaDoor.Nu

def hdP (c : UInt8) : List UInt8 → List UInt8
  | [] => []
  | x :: r => if x = c then [] else x :: hdP c r
def tlP (c : UInt8) : List UInt8 → List UInt8
  | [] => []
  | x :: r => if x = c then r else tlP c r
theorem hd_no (c : UInt8) : ∀ l, c ∉ hdP c l
  | [] => by simp [hdP]
  | x :: r => by
    rw [hdP]
    split
    · simp
    · rename_i h
      intro hm
      rcases List.mem_cons.1 hm with e | hm
      · exact h e.symm
      · exact hd_no c r hm
theorem cut_app {c : UInt8} : ∀ {l : List UInt8}, c ∈ l → l = hdP c l ++ c :: tlP c l
  | x :: r, h => by
    rw [hdP, tlP]
    by_cases hx : x = c
    · rw [if_pos hx, if_pos hx, hx]; rfl
    · rw [if_neg hx, if_neg hx, List.cons_append]
      rcases List.mem_cons.1 h with e | h
      · exact absurd e.symm hx
      · rw [← cut_app h]
theorem hd_all {c : UInt8} : ∀ {l : List UInt8}, c ∉ l → hdP c l = l
  | [], _ => rfl
  | x :: r, h => by rw [hdP, if_neg (fun e => h (by rw [e]; exact List.mem_cons_self)), hd_all (fun h2 => h (List.mem_cons_of_mem _ h2))]
theorem tl_all {c : UInt8} : ∀ {l : List UInt8}, c ∉ l → tlP c l = []
  | [], _ => rfl
  | x :: r, h => by rw [tlP, if_neg (fun e => h (by rw [e]; exact List.mem_cons_self)), tl_all (fun h2 => h (List.mem_cons_of_mem _ h2))]
theorem cut_len {c : UInt8} {l : List UInt8} (h : c ∈ l) : (hdP c l).length + 1 + (tlP c l).length = l.length := by
  conv => rhs; rw [cut_app h]
  simp; omega
theorem hd_le (c : UInt8) (l : List UInt8) : (hdP c l).length ≤ l.length := by
  by_cases h : c ∈ l
  · have := cut_len h; omega
  · rw [hd_all h]; exact Nat.le_refl _
theorem tl_le (c : UInt8) (l : List UInt8) : (tlP c l).length ≤ l.length := by
  by_cases h : c ∈ l
  · have := cut_len h; omega
  · rw [tl_all h]; exact Nat.zero_le _
theorem idx_cases (c : UInt8) : ∀ l : List UInt8, (Lib.indexByte l c = -1 ∧ c ∉ l) ∨ ∃ i : Nat, Lib.indexByte l c = i ∧ c ∈ l ∧ i + 1 ≤ l.length ∧ hdP c l = l.take i ∧ tlP c l = l.drop (i + 1)
  | [] => .inl ⟨rfl, by simp⟩
  | x :: r => by
    unfold Lib.indexByte
    by_cases hx : x = c
    · right
      subst hx
      exact ⟨0, by simp, by simp, by simp, by rw [hdP, if_pos rfl]; rfl, by rw [tlP, if_pos rfl]; rfl⟩
    · have hx' : (x == c) = false := beq_eq_false_iff_ne.2 hx
      rw [hx', hdP, tlP, if_neg hx, if_neg hx]
      rcases idx_cases c r with ⟨h1, h2⟩ | ⟨i, h1, h2, h3, h4, h5⟩
      · left
        rw [h1]
        refine ⟨rfl, fun hm => ?_⟩
        rcases List.mem_cons.1 hm with e | hm
        · exact hx e.symm
        · exact h2 hm
      · right
        have : ((i : Int) == -1) = false := beq_eq_false_iff_ne.2 (by omega)
        rw [h1, this]
        exact ⟨i + 1, by simp, List.mem_cons_of_mem _ h2, by simp; omega, by rw [h4]; rfl, by rw [h5]; rfl⟩
end Go.Proofs.YtjbaogoapobhbaaDoor.Wo
namespace Go.Proofs.YtjbaogoapobhbaaDoor.St
open Go.RowKit
open Go.Proofs.YtjbaogoapobhbaaDoor.Utf
open Go.Proofs.YtjbaogoapobhbaaDoor.Nu

def partD (l : List UInt8) (i : Nat) : Nat := if 20 + i < l.length - 1 then (byt l (20 + i) - 48).toNat else 0
def accF (f : Nat → Nat) : Nat → Nat
  | 0 => 0
  | k + 1 => accF f k * 10 + f k
def partN (l : List UInt8) : Nat := accF (partD l) 9
def Erl (a b : List UInt8) : Prop := secV a < secV b ∨ (secV a = secV b ∧ partN a < partN b)

instance (a b : List UInt8) : Decidable (Erl a b) := by unfold Erl; infer_instance
end Go.Proofs.YtjbaogoapobhbaaDoor.St
