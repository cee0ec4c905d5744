/- Merged: PoO. -/
import Derived.Test.YtmfpaoincgfjmaaTt22
import Derived.Test.YtmfpaoincgfjmaaTt0
import Derived.Deep.Strs
namespace Go.Proofs.Ytmfpaoincgfjmaa.Po
open Go.Proofs Go.RowKit
open Go.ChangeShapes Go.WideShapes Go.Deep
open Go.Proofs.Ytmfpaoincgfjmaa.Utf

theorem bulk_strs {H : Type} (Sx : Nat → ByteArray) : ∀ l : List Nat, ((l.map fun i => (Sx i).data.toList).map fun q => q.length + 1).sum ≤ Rows.uptoBulkAll (H := H) (l.map fun i => .lit (.string (Sx i).data.toList))
  | [] => by simp [Rows.uptoBulkAll]
  | i :: r => by
    have := bulk_strs (H := H) Sx r
    simp only [List.map_cons, List.sum_cons, Rows.uptoBulkAll, Rows.uptoBulk]
    omega
theorem open_strsU {H : Type} {enc : TypeId × Value → H} {w : World} {base : Nat} {sp : Nat → Bool} {hd : Bool} {fuel : Nat} {A : Option Addr} {len cap : Nat} {x : DataW H × List MemPlace}
    (h : DataW.trod enc Try.prog w base sp hd fuel 22 [.slice A len cap] = some x) :
    ∃ ps : List (List UInt8), RdS w w.heap.size (.slice A len cap) ps ∧ (ps.map fun q => q.length + 1).sum ≤ Rows.uptoBulk x.1 := by
  rcases open_strs Try.underlying22 Try.underlying9 (by kernel_rfl) h with ⟨e, _⟩ | ⟨a, l, c, m, Sx, e, _, hl, _, hm, hx, hc⟩
  · simp only [List.cons.injEq, and_true, Value.slice.injEq] at e
    obtain ⟨rfl, rfl, rfl⟩ := e
    exact ⟨[], RdS.nil _ _, by simp⟩
  · simp only [List.cons.injEq, and_true, Value.slice.injEq] at e
    obtain ⟨rfl, rfl, rfl⟩ := e
    have hlm : len ≤ m := by rw [hm]; split <;> omega
    refine ⟨(List.range len).map fun i => (Sx i).data.toList, ⟨some a, cap, by simp, by simpa using hl, fun h0 => ?_⟩, ?_⟩
    · have h1 : 0 < len := by simpa using h0
      refine ⟨a, rfl, ?_, fun j u hu => ?_⟩
      · have h2 := cell_lt (hc 0 (by omega)).1
        rwa [blk_add] at h2
      · have hj : j < len := by
          have := (List.getElem?_eq_some_iff.1 hu).1
          simpa [strC] using this
        rw [strC, List.getElem?_map, List.getElem?_map, List.getElem?_range hj] at hu
        simp at hu
        rw [(hc j (by omega)).1, ← hu]
        rfl
    · rw [hx]
      show _ ≤ Rows.uptoBulk (.slice _ _)
      rw [Rows.uptoBulk]
      have := bulk_strs (H := H) Sx (List.range len)
      omega
end Go.Proofs.Ytmfpaoincgfjmaa.Po
