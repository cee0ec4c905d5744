import Derived.Test.YthokaeaefmajjaaDoorMem
/- A slice of integers that came in, as a slice value that reads as a list. -/
namespace Go.Proofs.YthokaeaefmajjaaDoor
open Go.RowKit
theorem cell_lt {w : World} {a : Addr} {v : Value} (h : w.cell? a = some v) : a.block < w.heap.size := by
  rcases Nat.lt_or_ge a.block w.heap.size with hlt | hge
  · exact hlt
  · simp [World.cell?, Array.getElem?_eq_none hge] at h
theorem Rd.of_ints {w : World} {k : IntKind} {x : Addr} {len cap : Nat} {zs : List Int} (hz : zs.length = cap) (hl : len ≤ cap) (hcell : ∀ i, i < zs.length → w.cell? (x.add i) = some (.int k (zs.getD i 0))) :
    Rd w w.heap.size (.slice (some x) len cap) ((zs.take len).map (Value.int k)) := by
  refine ⟨some x, cap, by simp [List.length_take, hz, Nat.min_eq_left hl], fun h0 => ⟨x, rfl, ?_, fun j u hu => ?_⟩⟩
  · have h1 : 0 < zs.length := by simp at h0; omega
    have := cell_lt (hcell 0 h1)
    rw [blk_add] at this
    exact this
  · rw [List.getElem?_map, List.getElem?_take] at hu
    split at hu
    · rename_i hj
      have hj2 : j < zs.length := by omega
      rw [List.getElem?_eq_getElem hj2] at hu
      simp at hu
      rw [hcell j hj2, List.getD_eq_getElem?_getD, List.getElem?_eq_getElem hj2]
      simp [hu]
    · cases hu

end Go.Proofs.YthokaeaefmajjaaDoor
