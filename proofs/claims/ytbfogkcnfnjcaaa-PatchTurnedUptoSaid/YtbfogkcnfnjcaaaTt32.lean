/- Merged: TsP. -/
import Derived.Test.YtbfogkcnfnjcaaaTt30
import Derived.Test.YtbfogkcnfnjcaaaTt28
import Derived.Deep.MidRow
namespace Go.Proofs.Ytbfogkcnfnjcaaa.Tr
open Go.Proofs Go.RowKit Go.Lib
open Go.Proofs.Ytbfogkcnfnjcaaa.Utf
open Go.Proofs.Ytbfogkcnfnjcaaa.Sc
open Go.Proofs.Ytbfogkcnfnjcaaa.Re

theorem setCells_size (b : Nat) : ∀ (vs : List Value) (o : Nat) (w : World), (w.setCells b o vs).heap.size = w.heap.size
  | [], _, _ => rfl
  | v :: r, o, w => by rw [World.setCells, setCells_size b r]; simp
theorem setCells_other {b k : Nat} (hk : k ≠ b) : ∀ (vs : List Value) (o : Nat) (w : World), (w.setCells b o vs).heap[k]? = w.heap[k]?
  | [], _, _ => rfl
  | v :: r, o, w => by rw [World.setCells, setCells_other hk r, Below.heap_setCell _ _ _ k hk]
theorem setCells_chg (b : Nat) (F : List Nat) (hb : b ∈ F) : ∀ (vs : List Value) (o : Nat) (w : World), ChgF F w (w.setCells b o vs)
  | [], _, w => ChgF.refl _ _
  | v :: r, o, w => by
    rw [World.setCells]
    exact (show ChgF F w (w.setCell ⟨b, o, none⟩ v) from ⟨rfl, rfl, rfl, by simp, fun k _ hk => Below.heap_setCell _ _ _ k (fun e => hk (by rw [e]; exact hb))⟩).trans (setCells_chg b F hb r (o + 1) _)
theorem CellsAt.apart {w : World} {g o : Nat} {cs : List Value} (h : CellsAt w g o cs) (o' : Nat) (vs : List Value) (ha : o + cs.length ≤ o' ∨ o' + vs.length ≤ o) : CellsAt (w.setCells g o' vs) g o cs := fun j u hu => by
  have hj : j < cs.length := (List.getElem?_eq_some_iff.1 hu).1
  obtain ⟨h1, h2⟩ := h j u hu
  refine ⟨?_, by rw [World.frozen?_setCells]; exact h2⟩
  rw [World.cell?_setCells_out g vs o' w ⟨g, o + j, none⟩ (fun _ _ => by simp only; omega)]
  exact h1
theorem CellsAt.there {w : World} {g o : Nat} {cs : List Value} (h : CellsAt w g o cs) : w.there g o cs.length := fun j hj => by
  obtain ⟨h1, h2⟩ := h j cs[j] (List.getElem?_eq_getElem hj)
  exact ⟨by rw [h1]; rfl, h2⟩
end Go.Proofs.Ytbfogkcnfnjcaaa.Tr
