/- Merged: FoO. -/
import Derived.Test.YtjbaogoapobhbaaDoorTt10
import Derived.Deep.Strs
namespace Go.Proofs.YtjbaogoapobhbaaDoor.Fo
open Go.Proofs Go.RowKit
open Go.ChangeShapes Go.WideShapes Go.Deep
open Go.Proofs.YtjbaogoapobhbaaDoor.Utf
open Go.Proofs.YtjbaogoapobhbaaDoor.Po

theorem bytesStr : Tryd.prog.bytesOf 9 = 16 := by kernel_rfl
theorem weights_mem' {H : Type} {P : Program} {e : TypeId} {B : Nat} : ∀ (ds : List (DataW H)), (DataW.weightsAll P e ds).all (· ≤ B) = true → ∀ d ∈ ds, (d.weights P e).all (· ≤ B) = true
  | [], _, _, h => by cases h
  | a :: r, h, d, hd => by
    rw [DataW.weightsAll, List.all_append, Bool.and_eq_true] at h
    rcases List.mem_cons.1 hd with rfl | hd
    · exact h.1
    · exact weights_mem' r h.2 d hd
theorem open_strsW {H : Type} {enc : TypeId × Value → H} {w : World} {base : Nat} {sp : Nat → Bool} {hd : Bool} {fuel : Nat} {A : Option Addr} {len cap B : Nat} {x : DataW H × List MemPlace}
    (h : DataW.trod enc Tryd.prog w base sp hd fuel 26 [.slice A len cap] = some x) (hw : (x.1.weights Tryd.prog 26).all (· ≤ B) = true) :
    ∃ ps : List (List UInt8), RdS w w.heap.size (.slice A len cap) ps ∧ ps.length * 16 ≤ B ∧ ∀ p ∈ ps, p.length ≤ B := by
  rcases open_strs Tryd.underlying26 Tryd.underlying9 (by kernel_rfl) h with ⟨e, _⟩ | ⟨a, l, c, m, Sx, e, _, hl, _, hm, hx, hc⟩
  · simp only [List.cons.injEq, and_true, Value.slice.injEq] at e
    obtain ⟨rfl, rfl, rfl⟩ := e
    exact ⟨[], RdS.nil _ _, by simp, fun p hp => by cases hp⟩
  · simp only [List.cons.injEq, and_true, Value.slice.injEq] at e
    obtain ⟨rfl, rfl, rfl⟩ := e
    have hlm : len ≤ m := by rw [hm]; split <;> omega
    rw [hx] at hw
    simp only [DataW.weights, Tryd.underlying26, bytesStr, List.all_cons, List.all_append, Bool.and_eq_true, decide_eq_true_eq, List.length_map, List.length_range] at hw
    obtain ⟨hw1, hw2, _⟩ := hw
    refine ⟨(List.range len).map fun i => (Sx i).data.toList, ⟨some a, cap, by simp, by simpa using hl, fun h0 => ?_⟩, ?_, fun p hp => ?_⟩
    · have h1 : 0 < len := by simpa using h0
      refine ⟨a, rfl, ?_, fun j u hu => ?_⟩
      · have h2 := cell_lt (hc 0 (by omega)).1
        rwa [blk_add] at h2
      · have hj : j < len := by
          have := (List.getElem?_eq_some_iff.1 hu).1
          simpa [strC] using this
        rw [strC, List.getElem?_map, List.getElem?_map, List.getElem?_range hj] at hu
        simp at hu
        rw [(hc j (by omega)).1, ← hu]
        rfl
    · rw [List.length_map, List.length_range]; omega
    · obtain ⟨i, hi, rfl⟩ := List.mem_map.1 hp
      have := weights_mem' _ hw2 _ (List.mem_map.2 ⟨i, hi, rfl⟩)
      simp only [DataW.weights, List.all_cons, List.all_nil, Bool.and_true, decide_eq_true_eq] at this
      exact this
end Go.Proofs.YtjbaogoapobhbaaDoor.Fo
