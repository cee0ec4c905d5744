/- Merged: TlI. -/
import Derived.Test.YtfdibmcjjclgkaaTt11
import Derived.Test.YtfdibmcjjclgkaaTt12
import Derived.Test.YtfdibmcjjclgkaaTt0
namespace Go.Proofs.Ytfdibmcjjclgkaa.Tl
open Go.Proofs Go.RowKit Go.Sort Go.Shelf Go.Lib
open Go.Proofs.Ytfdibmcjjclgkaa.Utf
open Go.Proofs.Ytfdibmcjjclgkaa.Ro

theorem flat_P4 (S : Array P4) : flatK encP 4 S = ((S.toList.map encP).flatten).toArray := by
  have hs : ∀ r ∈ S.toList.map encP, r.length = 4 := fun r hr => by obtain ⟨q, -, rfl⟩ := List.mem_map.1 hr; rfl
  have hl : ((S.toList.map encP).flatten).length = S.size * 4 := by rw [flat_len _ hs, List.length_map, Array.length_toList]
  refine ext_get! (by rw [size_flatK]; exact hl.symm) fun t ht => ?_
  rw [size_flatK] at ht
  rw [get_flatK _ _ _ _ ht]
  have hk : t / 4 < S.size := by omega
  have h := flat_at _ hs (t / 4) (by rw [List.length_map, Array.length_toList]; exact hk) (t % 4) (by omega)
  rw [show t / 4 * 4 + t % 4 = t by omega] at h
  rw [List.getElem?_eq_getElem (by omega), List.getElem_map, List.getElem?_eq_getElem (by rw [encP_len]; omega)] at h
  rw [getElem!_pos ((S.toList.map encP).flatten).toArray t (by rw [List.size_toArray]; omega), getElem!_pos S (t / 4) hk, getElem!_pos (encP _) (t % 4) (by rw [encP_len]; omega)]
  have := Option.some.inj h
  simp only [List.getElem_toArray]
  rw [this]
  simp
section
variable {w : World} {B E g cap n : Nat} {S S2 : Array P4} {os : Array Obj}
theorem holds_own4 (h : w.ownsRow B E 4 (.slice (some ⟨g, 0, none⟩) n cap) n (S.toList.map encP).flatten) : HoldsK encP 4 w g 0 S := by
  unfold HoldsK
  rw [flat_P4]
  have hlen := h.1
  rcases h.2 with ⟨hv, _⟩ | ⟨g', cap', cur, hv, hb, hg, hc1, hc2, hc3, hx⟩
  · cases hv
  · injection hv with hv1 _ hv3
    injection hv1 with hv1
    injection hv1 with hv1
    subst hv1
    intro j hj
    have hj' : j < ((S.toList.map encP).flatten).length := by simpa using hj
    have hj5 : j < n * 4 := by omega
    have hjc : j < cur.size := by
      have h1 := congrArg List.length hx
      rw [List.length_take, hlen, Array.length_toList] at h1
      omega
    have e : ((S.toList.map encP).flatten)[j] = cur[j] := by
      have h1 : (cur.toList.take (n * 4))[j]? = ((S.toList.map encP).flatten)[j]? := by rw [hx]
      rw [List.getElem?_take, if_pos hj5, List.getElem?_eq_getElem hj', List.getElem?_eq_getElem (by simpa using hjc)] at h1
      simpa using (Option.some.inj h1).symm
    refine ⟨?_, ?_⟩
    · rw [cell_of_row w g (0 + j) cur E (0, 0) hg, Nat.zero_add, Array.getElem?_eq_getElem hjc, getElem!_pos _ j hj]
      simp [e]
    · simp [World.frozen?, hg]
theorem own_sorted4 {m : Nat} (h : w.ownsRow B E 4 (.slice (some ⟨g, 0, none⟩) n cap) n (S.toList.map encP).flatten) (hl : S2.size = S.size) :
    (sortWorldK encP 4 w g 0 m S2 os).ownsRow B E 4 (.slice (some ⟨g, 0, none⟩) n cap) n (S2.toList.map encP).flatten ∧ (∀ k, k ≠ g → k < w.heap.size → (sortWorldK encP 4 w g 0 m S2 os).heap[k]? = w.heap[k]?) ∧ w.heap.size ≤ (sortWorldK encP 4 w g 0 m S2 os).heap.size := by
  have hs2 : ((S2.toList.map encP).flatten).length = n * 4 := by
    have h0 := h.1
    rw [flat_len (s := 4) _ (fun r hr => by obtain ⟨q, -, rfl⟩ := List.mem_map.1 hr; rfl), List.length_map, Array.length_toList] at h0 ⊢
    omega
  refine ⟨?_, fun k hk hlt => ?_, ?_⟩
  · rcases h.2 with ⟨hv, _⟩ | ⟨g', cap', cur, hv, hb, hg, hc1, hc2, hc3, hx⟩
    · cases hv
    · injection hv with hv1 _ hv3
      injection hv1 with hv1
      injection hv1 with hv1
      subst hv1
      subst hv3
      have hlt : g < w.heap.size := (Array.getElem?_eq_some_iff.1 hg).1
      refine ⟨hs2, .inr ⟨g, cap, putCells id 0 (flatK encP 4 S2) cur, rfl, hb, ?_, hc1, hc2, ?_, ?_⟩⟩
      · unfold sortWorldK
        rw [heap_grow_old _ _ (by rw [size_putRowK]; exact hlt)]
        show ((Sort.ahead w m).heap.modify g _)[g]? = _
        rw [Array.getElem?_modify, if_pos rfl, heap_ahead, hg]
        rfl
      · simpa [putCells] using hc3
      · rw [flat_P4]
        generalize (S2.toList.map encP).flatten = X at hs2 ⊢
        refine List.ext_getElem ?_ fun j h1 h2 => ?_
        · rw [List.length_take, hs2]
          simp only [putCells, Array.toList_mapIdx, List.length_mapIdx, Array.length_toList]
          rw [hc3]
          have := Nat.mul_le_mul_right 4 hc1
          omega
        · rw [List.getElem_take]
          simp only [putCells, Array.toList_mapIdx, List.getElem_mapIdx]
          have hj : j < X.length := h2
          simp [hj]
  · unfold sortWorldK
    rw [heap_grow_old _ _ (by rw [size_putRowK]; exact hlt)]
    show ((Sort.ahead w m).heap.modify g _)[k]? = _
    rw [Array.getElem?_modify, if_neg (by omega)]
    rfl
  · unfold sortWorldK
    rw [size_grow, size_putRowK]
    show w.heap.size ≤ w.heap.size + _
    omega
end
theorem zip_enc (L : List Pa) : ((zipP 0 L).toArray.toList.map encP) = paC L := by
  show (zipP 0 L).map encP = L.map paR
  have : (zipP 0 L).map encP = ((zipP 0 L).map paP).map paR := by rw [List.map_map]; rfl
  rw [this, zip_pa]
theorem sort_own {w : World} {B E : Nat} {v : Value} {L : List Pa} (h : w.ownsRow B E 4 v L.length (paC L).flatten) (hn : L.length < 1152921504606846976) :
    Calls Try.prog 28 #[v, .func (.func 29) #[] #[]] w fun e w' => e = .returned (.tuple #[]) ∧ w'.ownsRow B E 4 v (L.foldl insP []).length (paC (L.foldl insP [])).flatten ∧ (L.foldl insP []).length = L.length ∧
      (∀ k, some k ≠ v.ownBlock → k < w.heap.size → w'.heap[k]? = w.heap[k]?) ∧ w.heap.size ≤ w'.heap.size ∧ w'.os = w.os ∧ w'.tape = w.tape ∧ w'.output = w.output := by
  have hfl : (L.foldl insP []).length = L.length := by rw [fold_len]; simp
  by_cases h0 : L = []
  · subst h0
    obtain ⟨A, c, rfl⟩ : ∃ A c, v = .slice A 0 c := by
      rcases h.2 with ⟨rfl, _⟩ | ⟨g, cap, cur, rfl, _⟩
      · exact ⟨none, 0, rfl⟩
      · exact ⟨_, cap, rfl⟩
    refine (SortStable_none4 A c _ w).mono ?_
    rintro e w' ⟨rfl, rfl⟩
    exact ⟨rfl, h, rfl, fun _ _ _ => rfl, Nat.le_refl _, rfl, rfl, rfl⟩
  · have hpos : 0 < L.length := List.length_pos_iff.2 h0
    obtain ⟨g, cap, cur, rfl, hb, hlt, -, -⟩ := own_form (rows := paC L) (by unfold paC; rw [List.length_map]; exact h) (by unfold paC; rw [List.length_map]; exact hpos)
    rw [show (paC L).length = L.length from List.length_map ..] at *
    have h2 := h
    rw [← zip_enc L] at h2
    have hsz : (zipP 0 L).toArray.size = L.length := by simp [zip_len]
    refine (SortStable_any4 g 0 cap L.length (zipP 0 L).toArray w ⟨encP_len, encP_one, holds_own4 h2, hlt⟩ hsz hn (fun i hi => by
      rw [getElem!_pos _ i (by omega)]
      have := zip_at L 0 i (by rw [zip_len]; exact hi)
      simp only [List.getElem_toArray]
      omega)).mono ?_
    rintro e w' ⟨rfl, d', hS, hP, hT⟩
    obtain ⟨m, os, rfl⟩ := hS
    have e1 := sorted_one hP hT
    have hd : d'.size = (zipP 0 L).toArray.size := hP.1
    obtain ⟨k1, k2, k3⟩ := own_sorted4 (S2 := d') (m := m) (os := os) h2 hd
    have e2 : d'.toList.map encP = paC (L.foldl insP []) := by
      rw [← e1]
      show d'.toList.map encP = (d'.toList.map paP).map paR
      rw [List.map_map]; rfl
    rw [e2] at k1
    refine ⟨rfl, by rw [hfl]; exact k1, hfl, fun k hk hlt => k2 k (fun e => hk (by rw [e]; rfl)) hlt, k3, ?_, ?_, ?_⟩
    · rfl
    · rfl
    · rfl
end Go.Proofs.Ytfdibmcjjclgkaa.Tl
