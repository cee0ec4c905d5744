/- Merged: TlO. -/
import Derived.Test.YtfdibmcjjclgkaaTt5
import Derived.Deep.Strs
import Derived.SizedLaws
namespace Go.Proofs.Ytfdibmcjjclgkaa.Tl
open Go.Proofs Go.RowKit
open Go.ChangeShapes Go.WideShapes Go.Deep
open Go.Proofs.Ytfdibmcjjclgkaa.Utf
open Go.Proofs.Ytfdibmcjjclgkaa.Ro

theorem cellsEn : Try.prog.cellsOf 26 = 3 := by kernel_rfl
theorem cellsI6 : Try.prog.cellsOf 2 = 1 := by kernel_rfl
theorem cellsSt : Try.prog.cellsOf 9 = 1 := by kernel_rfl
theorem cellsIn : Try.prog.cellsOf 3 = 1 := by kernel_rfl
theorem bytesEn : Try.prog.bytesOf 26 = 32 := by kernel_rfl
instance : Inhabited En := ⟨(0, [], 0)⟩
section
variable {H : Type} {enc : TypeId × Value → H} {w : World} {base : Nat} {sp : Nat → Bool} {hd : Bool} {fuel : Nat}
theorem trod_en {cs : List Value} {x : DataW H × List MemPlace} (h : DataW.trod enc Try.prog w base sp hd fuel 26 cs = some x) :
    ∃ e : En, cs = enR e ∧ (Lit.int .i64 e.1).wf = true ∧ (Lit.int .i64 e.2.2).wf = true ∧ e.2.1.length ≤ 9223372036854775807 := by
  obtain ⟨xs, m, hm, hx, hlen, hxl, hf⟩ := DataW.trod_struct Try.underlying26 h
  rw [cellsEn] at hlen
  match xs, hxl, cs, hlen with
  | [y0, y1, y2], _, [c0, c1, c2], _ =>
    have g0 : DataW.trod enc Try.prog w base sp hd m 2 (([c0, c1, c2].drop 0).take (Try.prog.cellsOf 2)) = some y0 := hf 0 _ rfl
    rw [cellsI6] at g0
    replace g0 : DataW.trod enc Try.prog w base sp hd m 2 [c0] = some y0 := g0
    have g1 : DataW.trod enc Try.prog w base sp hd m 9 (([c0, c1, c2].drop 1).take (Try.prog.cellsOf 9)) = some y1 := hf 1 _ rfl
    rw [cellsSt] at g1
    replace g1 : DataW.trod enc Try.prog w base sp hd m 9 [c1] = some y1 := g1
    have g2 : DataW.trod enc Try.prog w base sp hd m 3 (([c0, c1, c2].drop 2).take (Try.prog.cellsOf 3)) = some y2 := hf 2 _ rfl
    rw [cellsIn] at g2
    replace g2 : DataW.trod enc Try.prog w base sp hd m 3 [c2] = some y2 := g2
    obtain ⟨k, e0, hy0, w0⟩ := DataW.trod_int Try.underlying2 g0
    obtain ⟨s, e1, hy1, hsz⟩ := DataW.trod_string Try.underlying9 g1
    obtain ⟨n, e2, hy2, w2⟩ := DataW.trod_int Try.underlying3 g2
    simp only [List.cons.injEq, and_true] at e0 e1 e2
    subst e0 e1 e2
    exact ⟨(k, s.data.toList, n), rfl, w0, w2, hsz⟩
theorem open_ens {A : Option Addr} {len cap B : Nat} {x : DataW H × List MemPlace}
    (h : DataW.trod enc Try.prog w base sp hd fuel 22 [.slice A len cap] = some x) (hw : (x.1.weights Try.prog 22).all (· ≤ B) = true) :
    ∃ l : List En, RdE w w.heap.size (.slice A len cap) l ∧ l.length * 32 ≤ B ∧ (∀ e ∈ l, (Lit.int .i64 e.1).wf = true ∧ (Lit.int .i64 e.2.2).wf = true ∧ e.2.1.length ≤ 9223372036854775807) ∧ len ≤ cap := by
  rcases open_slice Try.underlying22 h with ⟨e, _⟩ | ⟨a, l, c, m, n, D, Pl, e, hb, hl, _, hm, hx, hc⟩
  · simp only [List.cons.injEq, and_true, Value.slice.injEq] at e
    obtain ⟨rfl, rfl, rfl⟩ := e
    exact ⟨[], RdR.nil_ _ _ _ _, by simp, (fun p hp => by cases hp), Nat.le_refl _⟩
  · simp only [List.cons.injEq, and_true, Value.slice.injEq] at e
    obtain ⟨rfl, rfl, rfl⟩ := e
    have hlm : len ≤ m := by rw [hm]; split <;> omega
    rw [hx] at hw
    simp only [DataW.weights, Try.underlying22, bytesEn, List.all_cons, List.all_append, Bool.and_eq_true, decide_eq_true_eq, List.length_map, List.length_range] at hw
    obtain ⟨hw1, _⟩ := hw
    have each : ∀ i, i < len → ∃ e : En, (∀ j u, (enR e)[j]? = some u → w.cell? (a.add (i * 3 + j)) = some u) ∧ (Lit.int .i64 e.1).wf = true ∧ (Lit.int .i64 e.2.2).wf = true ∧ e.2.1.length ≤ 9223372036854775807 := by
      intro i hi
      obtain ⟨cs', h1, h2⟩ := hc i (by omega)
      rw [cellsEn] at h1
      obtain ⟨_, hlen, hcell⟩ := World.cells?_some h1
      obtain ⟨e, rfl, w0, w2, w4⟩ := trod_en h2
      refine ⟨e, fun j u hj => ?_, w0, w2, w4⟩
      have hj3 : j < 3 := (List.getElem?_eq_some_iff.1 hj).1
      have := hcell j hj3
      rw [add_add, hj] at this
      exact this
    obtain ⟨F, hF⟩ := choose_lt each
    have hsome : 0 < len → ∃ g o, a = ⟨g, o, none⟩ ∧ g < w.heap.size := fun h0 => by
      have h1 := (hF 0 h0).1 0 _ rfl
      obtain ⟨g, o, q⟩ := a.add (0 * 3 + 0)
      obtain ⟨g, o, q⟩ := a
      have h2 : w.cell? ⟨g, o, q⟩ = some (.int .i64 (F 0).1) := by simpa [Addr.add] using h1
      obtain rfl : q = none := World.cell?_spot h2
      exact ⟨g, o, rfl, cell_lt h2⟩
    refine ⟨(List.range len).map F, ⟨fun r hr => by obtain ⟨q, -, rfl⟩ := List.mem_map.1 hr; rfl, some a, cap, by simp [enC], fun h0 => ?_⟩, ?_, fun e he => ?_, hl⟩
    · have h0' : 0 < len := by simpa [enC] using h0
      obtain ⟨g, o, rfl, hg⟩ := hsome h0'
      refine ⟨g, o, rfl, hg, fun k hk j u hu => ?_⟩
      have hk' : k < len := by simpa [enC] using hk
      have e1 : (enC ((List.range len).map F))[k] = enR (F k) := by simp [enC]
      rw [e1] at hu
      have h1 := (hF k hk').1 j u hu
      rw [show (⟨g, o, none⟩ : Addr).add (k * 3 + j) = ⟨g, o + k * 3 + j, none⟩ by unfold Addr.add; split <;> simp_all; omega] at h1
      exact h1
    · rw [List.length_map, List.length_range]
      omega
    · obtain ⟨i, hi, rfl⟩ := List.mem_map.1 he
      exact (hF i (List.mem_range.1 hi)).2
end
end Go.Proofs.Ytfdibmcjjclgkaa.Tl
