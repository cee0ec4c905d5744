/- Merged: SmPl2. -/
import Derived.Test.YthfladbanghkiaaTt1
import GoSem.Op.String
namespace Go.Proofs.Ythfladbanghkiaa.Sm
open Go.RowKit
open Go.Proofs.Ythfladbanghkiaa.Utf
open Go.Proofs.Ythfladbanghkiaa.Nu
open Go.Proofs.Ythfladbanghkiaa.Wo

def rowK (x : Pr) : Prop :=
  (12 ≤ x.fm ∧ x.fm ≤ 15 ∧ propsS x.ar ≠ [] ∧ x.ar ≠ [] ∧ x.df = []) ∨
  (x.fm = 11 ∧ x.ar ≠ [] ∧ x.df = []) ∨ (x.fm = 11 ∧ x.ar ≠ [] ∧ x.df ≠ [] ∧ inS x.ar x.df = true) ∨
  (x.fm = 17 ∧ x.ar ≠ [] ∧ x.df = []) ∨
  (¬ (11 ≤ x.fm ∧ x.fm ≤ 15) ∧ x.fm ≠ 17 ∧ x.ar = [] ∧ x.df = []) ∨
  (x.fm = 3 ∧ x.ar = [] ∧ x.df = [102, 97, 108, 115, 101])
instance (x : Pr) : Decidable (rowK x) := by unfold rowK; infer_instance
def rowB (L : List Pr) (i : Nat) : Bool :=
  decide (i = 0 ∨ Op.bytesLess (L.getD (i - 1) Pr.zero).nm (L.getD i Pr.zero).nm = true) && decide (1 ≤ (L.getD i Pr.zero).fm ∧ (L.getD i Pr.zero).fm ≤ 18) && (!(L.getD i Pr.zero).mu || decide ((L.getD i Pr.zero).df = [])) && decide (rowK (L.getD i Pr.zero))
theorem rows_all : (typS.all fun t => decide (propsS t ≠ []) && (List.range (propsS t).length).all fun i => rowB (propsS t) i) = true := by decide +kernel
theorem row_of {L : List Pr} {i : Nat} (hi : i < L.length) (h2 : rowB L i = true) :
    (∀ h : 0 < i, Op.bytesLess (L[i - 1]'(by omega)).nm L[i].nm = true) ∧ 1 ≤ L[i].fm ∧ L[i].fm ≤ 18 ∧ (L[i].mu = true → L[i].df = []) ∧ rowK L[i] := by
  unfold rowB at h2
  have e1 : L.getD i Pr.zero = L[i] := by rw [List.getD_eq_getElem?_getD, List.getElem?_eq_getElem hi]; rfl
  have e2 : L.getD (i - 1) Pr.zero = L[i - 1]'(by omega) := by rw [List.getD_eq_getElem?_getD, List.getElem?_eq_getElem (by omega)]; rfl
  rw [e1, e2] at h2
  simp only [Bool.and_eq_true, decide_eq_true_eq, Bool.or_eq_true, Bool.not_eq_true'] at h2
  obtain ⟨⟨⟨h3, h4⟩, h5⟩, h6⟩ := h2
  refine ⟨fun h0 => ?_, h4.1, h4.2, fun hm => ?_, h6⟩
  · rcases h3 with h3 | h3
    · omega
    · exact h3
  · rcases h5 with h5 | h5
    · rw [h5] at hm; cases hm
    · exact h5
theorem rows_at {q : Nat} (hq : q < typS.length) (i : Nat) (hi : i < (propsS typS[q]).length) : rowB (propsS typS[q]) i = true := by
  have h := List.all_eq_true.1 rows_all _ (List.getElem_mem hq)
  rw [Bool.and_eq_true] at h
  exact List.all_eq_true.1 h.2 i (List.mem_range.2 hi)
theorem props_some {q : Nat} (hq : q < typS.length) : 0 < (propsS typS[q]).length := by
  have h := List.all_eq_true.1 rows_all _ (List.getElem_mem hq)
  rw [Bool.and_eq_true, decide_eq_true_eq] at h
  exact List.length_pos_iff.2 h.1
theorem args_all : (typS.all fun t => (propsS t).all fun x => decide (x.ar.length ≤ 700)) = true := by decide +kernel
theorem arg_few {q : Nat} (hq : q < typS.length) (i : Nat) (hi : i < (propsS typS[q]).length) : (propsS typS[q])[i].ar.length ≤ 700 :=
  of_decide_eq_true (List.all_eq_true.1 (List.all_eq_true.1 args_all _ (List.getElem_mem hq)) _ (List.getElem_mem hi))
end Go.Proofs.Ythfladbanghkiaa.Sm
