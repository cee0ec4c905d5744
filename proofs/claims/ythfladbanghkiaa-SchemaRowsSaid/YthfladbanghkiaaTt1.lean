/- Merged: WoPl2 SmPl. -/
import Derived.Test.YthfladbanghkiaaTt0
import Derived.Lib.Bytealg
namespace Go.Proofs.Ythfladbanghkiaa.Wo
open Go.RowKit
open Go.Proofs.Ythfladbanghkiaa.Utf
open Go.Proofs.Ythfladbanghkiaa.Nu

def hdP (c : UInt8) : List UInt8 → List UInt8
  | [] => []
  | x :: r => if x = c then [] else x :: hdP c r
def tlP (c : UInt8) : List UInt8 → List UInt8
  | [] => []
  | x :: r => if x = c then r else tlP c r
theorem hd_no (c : UInt8) : ∀ l, c ∉ hdP c l
  | [] => by simp [hdP]
  | x :: r => by
    rw [hdP]
    split
    · simp
    · rename_i h
      intro hm
      rcases List.mem_cons.1 hm with e | hm
      · exact h e.symm
      · exact hd_no c r hm
theorem cut_app {c : UInt8} : ∀ {l : List UInt8}, c ∈ l → l = hdP c l ++ c :: tlP c l
  | x :: r, h => by
    rw [hdP, tlP]
    by_cases hx : x = c
    · rw [if_pos hx, if_pos hx, hx]; rfl
    · rw [if_neg hx, if_neg hx, List.cons_append]
      rcases List.mem_cons.1 h with e | h
      · exact absurd e.symm hx
      · rw [← cut_app h]
theorem hd_all {c : UInt8} : ∀ {l : List UInt8}, c ∉ l → hdP c l = l
  | [], _ => rfl
  | x :: r, h => by rw [hdP, if_neg (fun e => h (by rw [e]; exact List.mem_cons_self)), hd_all (fun h2 => h (List.mem_cons_of_mem _ h2))]
theorem tl_all {c : UInt8} : ∀ {l : List UInt8}, c ∉ l → tlP c l = []
  | [], _ => rfl
  | x :: r, h => by rw [tlP, if_neg (fun e => h (by rw [e]; exact List.mem_cons_self)), tl_all (fun h2 => h (List.mem_cons_of_mem _ h2))]
theorem spl_cut {c : UInt8} {l : List UInt8} (h : c ∈ l) : spl c l = hdP c l :: spl c (tlP c l) := by
  conv => lhs; rw [cut_app h]
  rw [spl_app, spl_no (hd_no c l)]; rfl
theorem cut_len {c : UInt8} {l : List UInt8} (h : c ∈ l) : (hdP c l).length + 1 + (tlP c l).length = l.length := by
  conv => rhs; rw [cut_app h]
  simp; omega
theorem tl_le (c : UInt8) (l : List UInt8) : (tlP c l).length ≤ l.length := by
  by_cases h : c ∈ l
  · have := cut_len h; omega
  · rw [tl_all h]; exact Nat.zero_le _
theorem idx_cases (c : UInt8) : ∀ l : List UInt8, (Lib.indexByte l c = -1 ∧ c ∉ l) ∨ ∃ i : Nat, Lib.indexByte l c = i ∧ c ∈ l ∧ i + 1 ≤ l.length ∧ hdP c l = l.take i ∧ tlP c l = l.drop (i + 1)
  | [] => .inl ⟨rfl, by simp⟩
  | x :: r => by
    unfold Lib.indexByte
    by_cases hx : x = c
    · right
      subst hx
      exact ⟨0, by simp, by simp, by simp, by rw [hdP, if_pos rfl]; rfl, by rw [tlP, if_pos rfl]; rfl⟩
    · have hx' : (x == c) = false := beq_eq_false_iff_ne.2 hx
      rw [hx', hdP, tlP, if_neg hx, if_neg hx]
      rcases idx_cases c r with ⟨h1, h2⟩ | ⟨i, h1, h2, h3, h4, h5⟩
      · left
        rw [h1]
        refine ⟨rfl, fun hm => ?_⟩
        rcases List.mem_cons.1 hm with e | hm
        · exact hx e.symm
        · exact h2 hm
      · right
        have : ((i : Int) == -1) = false := beq_eq_false_iff_ne.2 (by omega)
        rw [h1, this]
        exact ⟨i + 1, by simp, List.mem_cons_of_mem _ h2, by simp; omega, by rw [h4]; rfl, by rw [h5]; rfl⟩
theorem in_cut {l s : List UInt8} (hs : s ≠ []) (h : (32 : UInt8) ∈ l) : inS l s = (decide (hdP 32 l = s) || inS (tlP 32 l) s) := by
  unfold inS
  rw [spl_cut h, decide_eq_true hs, Bool.true_and, Bool.true_and, List.contains_cons]
  congr 1
  rw [Bool.eq_iff_iff, beq_iff_eq, decide_eq_true_eq]
  exact eq_comm
theorem in_no {l s : List UInt8} (hs : s ≠ []) (h : (32 : UInt8) ∉ l) : inS l s = decide (hdP 32 l = s) := by
  unfold inS
  rw [spl_no h, hd_all h, decide_eq_true hs, Bool.true_and, List.contains_cons, Bool.eq_iff_iff, Bool.or_eq_true, beq_iff_eq, decide_eq_true_eq]
  constructor
  · rintro (h1 | h1)
    · exact h1.symm
    · cases h1
  · exact fun h1 => .inl h1.symm
end Go.Proofs.Ythfladbanghkiaa.Wo
namespace Go.Proofs.Ythfladbanghkiaa.Sm
open Go.RowKit
open Go.Proofs.Ythfladbanghkiaa.Utf
open Go.Proofs.Ythfladbanghkiaa.Nu
open Go.Proofs.Ythfladbanghkiaa.Wo

structure Pr where
  nm : List UInt8
  fm : Int
  ar : List UInt8
  mu : Bool
  df : List UInt8
deriving DecidableEq
def Pr.zero : Pr := ⟨[], 0, [], false, []⟩
def formK (a : Int) : List UInt8 → Int
  | [] => a
  | c :: r => formK (a * 10 + (c.toNat : Int) - 48) r
def restF : List (List UInt8) → List UInt8 → Bool → Option (List UInt8 × Bool × List UInt8)
  | [], ar, mu => some (ar, mu, [])
  | q :: r, ar, mu =>
    if q = [33] then restF r ar true
    else if q = [61] then (match r with | [] => none | d :: _ => some (ar, mu, d))
    else if ar = [] then restF r q mu
    else restF r (ar ++ [32] ++ q) mu
def propF : List (List UInt8) → Option Pr
  | nm :: fm :: r => if fm.length ≤ 3 then (restF r [] false).map fun x => ⟨nm, formK 0 fm, x.1, x.2.1, x.2.2⟩ else none
  | _ => none
def nm0 : List UInt8 := [67, 97, 114, 100]
def nm1 : List UInt8 := [65, 100, 100, 114, 101, 115, 115]
def nm2 : List UInt8 := [65, 100, 100, 114, 101, 115, 115, 67, 111, 109, 112, 111, 110, 101, 110, 116]
def nm3 : List UInt8 := [65, 110, 110, 105, 118, 101, 114, 115, 97, 114, 121]
def nm4 : List UInt8 := [69, 109, 97, 105, 108, 65, 100, 100, 114, 101, 115, 115]
def nm5 : List UInt8 := [76, 97, 110, 103, 117, 97, 103, 101, 80, 114, 101, 102]
def nm6 : List UInt8 := [76, 105, 110, 107]
def nm7 : List UInt8 := [77, 101, 100, 105, 97]
def nm8 : List UInt8 := [78, 97, 109, 101]
def nm9 : List UInt8 := [78, 97, 109, 101, 67, 111, 109, 112, 111, 110, 101, 110, 116]
def nm10 : List UInt8 := [78, 105, 99, 107, 110, 97, 109, 101]
def nm11 : List UInt8 := [78, 111, 116, 101]
def nm12 : List UInt8 := [79, 110, 108, 105, 110, 101, 83, 101, 114, 118, 105, 99, 101]
def nm13 : List UInt8 := [79, 114, 103, 85, 110, 105, 116]
def nm14 : List UInt8 := [79, 114, 103, 97, 110, 105, 122, 97, 116, 105, 111, 110]
def nm15 : List UInt8 := [80, 97, 114, 116, 105, 97, 108, 68, 97, 116, 101]
def nm16 : List UInt8 := [80, 104, 111, 110, 101]
def nm17 : List UInt8 := [82, 101, 108, 97, 116, 105, 111, 110]
def nm18 : List UInt8 := [84, 105, 109, 101, 115, 116, 97, 109, 112]
def nm19 : List UInt8 := [84, 105, 116, 108, 101]
def ln0 : List UInt8 := [97, 100, 100, 114, 101, 115, 115, 101, 115, 32, 49, 52, 32, 65, 100, 100, 114, 101, 115, 115, 59, 97, 110, 110, 105, 118, 101, 114, 115, 97, 114, 105, 101, 115, 32, 49, 52, 32, 65, 110, 110, 105, 118, 101, 114, 115, 97, 114, 121, 59, 99, 114, 101, 97, 116, 101, 100, 32, 55, 59, 101, 109, 97, 105, 108, 115, 32, 49, 52, 32, 69, 109, 97, 105, 108, 65, 100, 100, 114, 101, 115, 115, 59, 107, 101, 121, 119, 111, 114, 100, 115, 32, 49, 54, 59, 107, 105, 110, 100, 32, 49, 49, 32, 97, 112, 112, 108, 105, 99, 97, 116, 105, 111, 110, 32, 100, 101, 118, 105, 99, 101, 32, 103, 114, 111, 117, 112, 32, 105, 110, 100, 105, 118, 105, 100, 117, 97, 108, 32, 108, 111, 99, 97, 116, 105, 111, 110, 32, 111, 114, 103, 32, 61, 32, 105, 110, 100, 105, 118, 105, 100, 117, 97, 108, 59, 108, 97, 110, 103, 117, 97, 103, 101, 32, 49, 48, 59, 108, 105, 110, 107, 115, 32, 49, 52, 32, 76, 105, 110, 107, 59, 109, 101, 100, 105, 97, 32, 49, 52, 32, 77, 101, 100, 105, 97, 59, 109, 101, 109, 98, 101, 114, 115, 32, 49, 54, 59, 110, 97, 109, 101, 32, 49, 50, 32, 78, 97, 109, 101, 59, 110, 105, 99, 107, 110, 97, 109, 101, 115, 32, 49, 52, 32, 78, 105, 99, 107, 110, 97, 109, 101, 59, 110, 111, 116, 101, 115, 32, 49, 52, 32, 78, 111, 116, 101, 59, 111, 110, 108, 105, 110, 101, 83, 101, 114, 118, 105, 99, 101, 115, 32, 49, 52, 32, 79, 110, 108, 105, 110, 101, 83, 101, 114, 118, 105, 99, 101, 59, 111, 114, 103, 97, 110, 105, 122, 97, 116, 105, 111, 110, 115, 32, 49, 52, 32, 79, 114, 103, 97, 110, 105, 122, 97, 116, 105, 111, 110, 59, 112, 104, 111, 110, 101, 115, 32, 49, 52, 32, 80, 104, 111, 110, 101, 59, 112, 114, 101, 102, 101, 114, 114, 101, 100, 76, 97, 110, 103, 117, 97, 103, 101, 115, 32, 49, 52, 32, 76, 97, 110, 103, 117, 97, 103, 101, 80, 114, 101, 102, 59, 112, 114, 111, 100, 73, 100, 32, 49, 59, 114, 101, 108, 97, 116, 101, 100, 84, 111, 32, 49, 53, 32, 82, 101, 108, 97, 116, 105, 111, 110, 59, 116, 105, 116, 108, 101, 115, 32, 49, 52, 32, 84, 105, 116, 108, 101, 59, 117, 105, 100, 32, 50, 32, 33, 59, 117, 112, 100, 97, 116, 101, 100, 32, 55, 59, 118, 101, 114, 115, 105, 111, 110, 32, 49, 49, 32, 49, 46, 48, 32, 33]
def ln1 : List UInt8 := [99, 111, 109, 112, 111, 110, 101, 110, 116, 115, 32, 49, 51, 32, 65, 100, 100, 114, 101, 115, 115, 67, 111, 109, 112, 111, 110, 101, 110, 116, 59, 99, 111, 110, 116, 101, 120, 116, 115, 32, 49, 55, 32, 98, 105, 108, 108, 105, 110, 103, 32, 100, 101, 108, 105, 118, 101, 114, 121, 32, 112, 114, 105, 118, 97, 116, 101, 32, 119, 111, 114, 107, 59, 99, 111, 111, 114, 100, 105, 110, 97, 116, 101, 115, 32, 56, 59, 99, 111, 117, 110, 116, 114, 121, 67, 111, 100, 101, 32, 49, 59, 100, 101, 102, 97, 117, 108, 116, 83, 101, 112, 97, 114, 97, 116, 111, 114, 32, 49, 59, 102, 117, 108, 108, 32, 49, 59, 105, 115, 79, 114, 100, 101, 114, 101, 100, 32, 51, 32, 61, 32, 102, 97, 108, 115, 101, 59, 112, 114, 101, 102, 32, 53, 59, 116, 105, 109, 101, 90, 111, 110, 101, 32, 49]
def ln2 : List UInt8 := [107, 105, 110, 100, 32, 49, 49, 32, 97, 112, 97, 114, 116, 109, 101, 110, 116, 32, 98, 108, 111, 99, 107, 32, 98, 117, 105, 108, 100, 105, 110, 103, 32, 99, 111, 117, 110, 116, 114, 121, 32, 100, 105, 114, 101, 99, 116, 105, 111, 110, 32, 100, 105, 115, 116, 114, 105, 99, 116, 32, 102, 108, 111, 111, 114, 32, 108, 97, 110, 100, 109, 97, 114, 107, 32, 108, 111, 99, 97, 108, 105, 116, 121, 32, 110, 97, 109, 101, 32, 110, 117, 109, 98, 101, 114, 32, 112, 111, 115, 116, 79, 102, 102, 105, 99, 101, 66, 111, 120, 32, 112, 111, 115, 116, 99, 111, 100, 101, 32, 114, 101, 103, 105, 111, 110, 32, 114, 111, 111, 109, 32, 115, 101, 112, 97, 114, 97, 116, 111, 114, 32, 115, 117, 98, 100, 105, 115, 116, 114, 105, 99, 116, 32, 33, 59, 118, 97, 108, 117, 101, 32, 49, 32, 33]
def ln3 : List UInt8 := [100, 97, 116, 101, 32, 49, 56, 32, 33, 59, 107, 105, 110, 100, 32, 49, 49, 32, 98, 105, 114, 116, 104, 32, 100, 101, 97, 116, 104, 32, 119, 101, 100, 100, 105, 110, 103, 32, 33]
def ln4 : List UInt8 := [97, 100, 100, 114, 101, 115, 115, 32, 49, 32, 33, 59, 99, 111, 110, 116, 101, 120, 116, 115, 32, 49, 55, 32, 112, 114, 105, 118, 97, 116, 101, 32, 119, 111, 114, 107, 59, 108, 97, 98, 101, 108, 32, 49, 59, 112, 114, 101, 102, 32, 53]
def ln5 : List UInt8 := [99, 111, 110, 116, 101, 120, 116, 115, 32, 49, 55, 32, 112, 114, 105, 118, 97, 116, 101, 32, 119, 111, 114, 107, 59, 108, 97, 110, 103, 117, 97, 103, 101, 32, 49, 48, 32, 33, 59, 112, 114, 101, 102, 32, 53]
def ln6 : List UInt8 := [99, 111, 110, 116, 101, 120, 116, 115, 32, 49, 55, 32, 112, 114, 105, 118, 97, 116, 101, 32, 119, 111, 114, 107, 59, 107, 105, 110, 100, 32, 49, 49, 32, 99, 111, 110, 116, 97, 99, 116, 59, 108, 97, 98, 101, 108, 32, 49, 59, 109, 101, 100, 105, 97, 84, 121, 112, 101, 32, 57, 59, 112, 114, 101, 102, 32, 53, 59, 117, 114, 105, 32, 56, 32, 33]
def ln7 : List UInt8 := [99, 111, 110, 116, 101, 120, 116, 115, 32, 49, 55, 32, 112, 114, 105, 118, 97, 116, 101, 32, 119, 111, 114, 107, 59, 107, 105, 110, 100, 32, 49, 49, 32, 108, 111, 103, 111, 32, 112, 104, 111, 116, 111, 32, 115, 111, 117, 110, 100, 32, 33, 59, 108, 97, 98, 101, 108, 32, 49, 59, 109, 101, 100, 105, 97, 84, 121, 112, 101, 32, 57, 59, 112, 114, 101, 102, 32, 53, 59, 117, 114, 105, 32, 56, 32, 33]
def ln8 : List UInt8 := [99, 111, 109, 112, 111, 110, 101, 110, 116, 115, 32, 49, 51, 32, 78, 97, 109, 101, 67, 111, 109, 112, 111, 110, 101, 110, 116, 59, 100, 101, 102, 97, 117, 108, 116, 83, 101, 112, 97, 114, 97, 116, 111, 114, 32, 49, 59, 102, 117, 108, 108, 32, 49, 59, 105, 115, 79, 114, 100, 101, 114, 101, 100, 32, 51, 32, 61, 32, 102, 97, 108, 115, 101]
def ln9 : List UInt8 := [107, 105, 110, 100, 32, 49, 49, 32, 99, 114, 101, 100, 101, 110, 116, 105, 97, 108, 32, 103, 101, 110, 101, 114, 97, 116, 105, 111, 110, 32, 103, 105, 118, 101, 110, 32, 103, 105, 118, 101, 110, 50, 32, 115, 101, 112, 97, 114, 97, 116, 111, 114, 32, 115, 117, 114, 110, 97, 109, 101, 32, 115, 117, 114, 110, 97, 109, 101, 50, 32, 116, 105, 116, 108, 101, 32, 33, 59, 118, 97, 108, 117, 101, 32, 49, 32, 33]
def ln10 : List UInt8 := [99, 111, 110, 116, 101, 120, 116, 115, 32, 49, 55, 32, 112, 114, 105, 118, 97, 116, 101, 32, 119, 111, 114, 107, 59, 110, 97, 109, 101, 32, 49, 32, 33, 59, 112, 114, 101, 102, 32, 53]
def ln11 : List UInt8 := [99, 114, 101, 97, 116, 101, 100, 32, 55, 59, 110, 111, 116, 101, 32, 49, 32, 33]
def ln12 : List UInt8 := [99, 111, 110, 116, 101, 120, 116, 115, 32, 49, 55, 32, 112, 114, 105, 118, 97, 116, 101, 32, 119, 111, 114, 107, 59, 108, 97, 98, 101, 108, 32, 49, 59, 112, 114, 101, 102, 32, 53, 59, 115, 101, 114, 118, 105, 99, 101, 32, 49, 59, 117, 114, 105, 32, 56, 59, 117, 115, 101, 114, 32, 49]
def ln13 : List UInt8 := [110, 97, 109, 101, 32, 49, 32, 33, 59, 115, 111, 114, 116, 65, 115, 32, 49]
def ln14 : List UInt8 := [99, 111, 110, 116, 101, 120, 116, 115, 32, 49, 55, 32, 112, 114, 105, 118, 97, 116, 101, 32, 119, 111, 114, 107, 59, 110, 97, 109, 101, 32, 49, 59, 115, 111, 114, 116, 65, 115, 32, 49, 59, 117, 110, 105, 116, 115, 32, 49, 51, 32, 79, 114, 103, 85, 110, 105, 116]
def ln15 : List UInt8 := [100, 97, 121, 32, 52, 59, 109, 111, 110, 116, 104, 32, 52, 59, 121, 101, 97, 114, 32, 52]
def ln16 : List UInt8 := [99, 111, 110, 116, 101, 120, 116, 115, 32, 49, 55, 32, 112, 114, 105, 118, 97, 116, 101, 32, 119, 111, 114, 107, 59, 102, 101, 97, 116, 117, 114, 101, 115, 32, 49, 55, 32, 102, 97, 120, 32, 109, 97, 105, 110, 45, 110, 117, 109, 98, 101, 114, 32, 109, 111, 98, 105, 108, 101, 32, 112, 97, 103, 101, 114, 32, 116, 101, 120, 116, 32, 116, 101, 120, 116, 112, 104, 111, 110, 101, 32, 118, 105, 100, 101, 111, 32, 118, 111, 105, 99, 101, 59, 108, 97, 98, 101, 108, 32, 49, 59, 110, 117, 109, 98, 101, 114, 32, 49, 32, 33, 59, 112, 114, 101, 102, 32, 53]
def ln17 : List UInt8 := [114, 101, 108, 97, 116, 105, 111, 110, 32, 49, 55, 32, 97, 99, 113, 117, 97, 105, 110, 116, 97, 110, 99, 101, 32, 97, 103, 101, 110, 116, 32, 99, 104, 105, 108, 100, 32, 99, 111, 45, 114, 101, 115, 105, 100, 101, 110, 116, 32, 99, 111, 45, 119, 111, 114, 107, 101, 114, 32, 99, 111, 108, 108, 101, 97, 103, 117, 101, 32, 99, 111, 110, 116, 97, 99, 116, 32, 99, 114, 117, 115, 104, 32, 100, 97, 116, 101, 32, 101, 109, 101, 114, 103, 101, 110, 99, 121, 32, 102, 114, 105, 101, 110, 100, 32, 107, 105, 110, 32, 109, 101, 32, 109, 101, 116, 32, 109, 117, 115, 101, 32, 110, 101, 105, 103, 104, 98, 111, 114, 32, 112, 97, 114, 101, 110, 116, 32, 115, 105, 98, 108, 105, 110, 103, 32, 115, 112, 111, 117, 115, 101, 32, 115, 119, 101, 101, 116, 104, 101, 97, 114, 116]
def ln18 : List UInt8 := [117, 116, 99, 32, 55, 32, 33]
def ln19 : List UInt8 := [107, 105, 110, 100, 32, 49, 49, 32, 114, 111, 108, 101, 32, 116, 105, 116, 108, 101, 32, 61, 32, 116, 105, 116, 108, 101, 59, 110, 97, 109, 101, 32, 49, 32, 33, 59, 111, 114, 103, 97, 110, 105, 122, 97, 116, 105, 111, 110, 73, 100, 32, 54]
def typS : List (List UInt8) := [nm0, nm1, nm2, nm3, nm4, nm5, nm6, nm7, nm8, nm9, nm10, nm11, nm12, nm13, nm14, nm15, nm16, nm17, nm18, nm19]
def tabN : List (List UInt8 × List UInt8) := [(nm0, ln0), (nm1, ln1), (nm2, ln2), (nm3, ln3), (nm4, ln4), (nm5, ln5), (nm6, ln6), (nm7, ln7), (nm8, ln8), (nm9, ln9), (nm10, ln10), (nm11, ln11), (nm12, ln12), (nm13, ln13), (nm14, ln14), (nm15, ln15), (nm16, ln16), (nm17, ln17), (nm18, ln18), (nm19, ln19)]
def tabF (l : List UInt8) : List (List UInt8 × List UInt8) → List UInt8
  | [] => []
  | x :: r => if l = x.1 then x.2 else tabF l r
def tabS (l : List UInt8) : List UInt8 := tabF l tabN
def lineP (t : List UInt8) : List Pr := (spl 59 t).map fun q => (propF (spl 32 q)).getD Pr.zero
def propsS (l : List UInt8) : List Pr := if tabS l = [] then [] else lineP (tabS l)
def findP (ps : List Pr) (n : List UInt8) : Option Pr := ps.find? fun p => decide (p.nm = n)

theorem tabF_cases (l : List UInt8) : ∀ T, tabF l T = [] ∨ ∃ x ∈ T, l = x.1 ∧ tabF l T = x.2
  | [] => .inl rfl
  | x :: r => by
    rw [tabF]
    by_cases h : l = x.1
    · rw [if_pos h]; exact .inr ⟨x, List.mem_cons_self, h, rfl⟩
    · rw [if_neg h]
      rcases tabF_cases l r with h1 | ⟨y, h1, h2, h3⟩
      · exact .inl h1
      · exact .inr ⟨y, List.mem_cons_of_mem _ h1, h2, h3⟩
def okQ (q : List UInt8) : Bool := (propF (spl 32 q)).isSome && decide (q.length ≤ 400)
theorem lines_ok : (tabN.all fun x => (spl 59 x.2).all okQ && decide (x.2 ≠ []) && decide (x.2.length ≤ 700)) = true := by decide +kernel
theorem tab_ok {l : List UInt8} (h : tabS l ≠ []) : (∀ q ∈ spl 59 (tabS l), okQ q = true) ∧ (tabS l).length ≤ 700 := by
  rcases tabF_cases l tabN with h1 | ⟨x, h1, h2, h3⟩
  · exact absurd h1 h
  · have := List.all_eq_true.1 lines_ok x h1
    simp only [Bool.and_eq_true, decide_eq_true_eq, List.all_eq_true] at this
    unfold tabS
    rw [h3]
    exact ⟨this.1.1, this.2⟩
theorem tab_len (l : List UInt8) : (tabS l).length ≤ 700 := by
  by_cases h : tabS l = []
  · rw [h]; simp
  · exact (tab_ok h).2
theorem tab_no {l : List UInt8} (h0 : l ≠ nm0) (h1 : l ≠ nm1) (h2 : l ≠ nm2) (h3 : l ≠ nm3) (h4 : l ≠ nm4) (h5 : l ≠ nm5) (h6 : l ≠ nm6) (h7 : l ≠ nm7) (h8 : l ≠ nm8) (h9 : l ≠ nm9) (h10 : l ≠ nm10) (h11 : l ≠ nm11) (h12 : l ≠ nm12) (h13 : l ≠ nm13) (h14 : l ≠ nm14) (h15 : l ≠ nm15) (h16 : l ≠ nm16) (h17 : l ≠ nm17) (h18 : l ≠ nm18) (h19 : l ≠ nm19) : tabS l = [] := by
  unfold tabS tabN
  simp only [tabF, if_neg h0, if_neg h1, if_neg h2, if_neg h3, if_neg h4, if_neg h5, if_neg h6, if_neg h7, if_neg h8, if_neg h9, if_neg h10, if_neg h11, if_neg h12, if_neg h13, if_neg h14, if_neg h15, if_neg h16, if_neg h17, if_neg h18, if_neg h19]
end Go.Proofs.Ythfladbanghkiaa.Sm
