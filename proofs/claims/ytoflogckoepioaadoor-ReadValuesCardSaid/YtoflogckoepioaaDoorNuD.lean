import Derived.Test.YtoflogckoepioaaDoorNuA
/- Contract of package nums' Put. -/
namespace Go.Proofs.YtoflogckoepioaaDoor.Nu
open Go.RowKit
open Go.Proofs.YtoflogckoepioaaDoor.Utf

/-- the cells of the digits: those from place j on are laid -/
def cellsP (j : Nat) (ds : List UInt8) : Array Value := (List.replicate j (Value.int .u8 0) ++ Lib.byteCells ds).toArray
theorem cellsP_size (j : Nat) (ds : List UInt8) : (cellsP j ds).size = j + ds.length := by simp [cellsP, Lib.byteCells]
theorem cellsP_set (m : Nat) (ds : List UInt8) (b : UInt8) (z : Int) (hz : z = b.toNat) : (cellsP (m + 1) ds).setIfInBounds m (.int .u8 z) = cellsP m (b :: ds) := by
  subst hz
  unfold cellsP
  have h1 : List.replicate (m + 1) (Value.int .u8 0) = List.replicate m (Value.int .u8 0) ++ [Value.int .u8 0] := by rw [List.replicate_succ']
  rw [h1, List.append_assoc, List.setIfInBounds_toArray, List.set_append_right _ _ (by simp)]
  simp [Lib.byteCells]
theorem cellsP_get (j : Nat) (ds : List UInt8) (i : Nat) (u : Value) (h : (Lib.byteCells ds)[i]? = some u) : (cellsP j ds)[j + i]? = some u := by
  unfold cellsP
  rw [List.getElem?_toArray, List.getElem?_append_right (by simp)]
  simpa using h

/-- how far Put is: the digits ds are laid, from place j on; rest is what is left of n -/
def PutI (n : Int) (j : Nat) (rest : Int) (ds : List UInt8) : Prop :=
  1 ≤ j ∧ ds.length + j = 20 ∧ rest.natAbs < 10 ^ (j - 1) ∧ -9223372036854775808 ≤ rest ∧ rest ≤ 9223372036854775807 ∧ ((j = 20 ∧ rest = n) ∨ (j < 20 ∧ digN n.natAbs = digZ rest.natAbs ++ ds))
theorem PutI_0 {n : Int} (h0 : -9223372036854775808 ≤ n) (h1 : n ≤ 9223372036854775807) : PutI n 20 n [] := ⟨by omega, rfl, by omega, h0, h1, .inl ⟨rfl, rfl⟩⟩
theorem PutI_two {n : Int} {j : Nat} {rest : Int} {ds : List UInt8} (h : PutI n j rest ds) (hr : rest ≠ 0 ∨ j = 20) : ∃ m, j = m + 1 ∧ 1 ≤ m := by
  obtain ⟨h1, h2, h3, _, _, _⟩ := h
  refine ⟨j - 1, by omega, ?_⟩
  rcases Nat.eq_zero_or_pos (j - 1) with h0 | h0
  · rw [h0] at h3
    simp at h3
    omega
  · exact h0
theorem natAbs_div10 (r : Int) : (r.tdiv 10).natAbs = r.natAbs / 10 := by rw [Int.natAbs_tdiv]; rfl
theorem natAbs_mod10 (r : Int) : (r.tmod 10).natAbs = r.natAbs % 10 := by rw [Int.natAbs_tmod]; rfl
theorem PutI_next {n : Int} {m : Nat} {rest : Int} {ds : List UInt8} (h : PutI n (m + 1) rest ds) (hr : rest ≠ 0 ∨ m + 1 = 20) (hm : 1 ≤ m) : PutI n m (rest.tdiv 10) (dg rest.natAbs :: ds) := by
  obtain ⟨h1, h2, h3, h4, h5, h6⟩ := h
  have hd := natAbs_div10 rest
  have h20 : (10 : Nat) ^ m ≤ 10 ^ 19 := Nat.pow_le_pow_right (by omega) (by omega)
  rw [Nat.add_sub_cancel] at h3
  have hm' : 10 ^ m = 10 ^ (m - 1) * 10 := by rw [← Nat.pow_succ]; congr 1; omega
  refine ⟨hm, by rw [List.length_cons]; omega, by rw [hd]; omega, by omega, by omega, .inr ⟨by omega, ?_⟩⟩
  rw [hd]
  have hz := digN_Z (m := rest.natAbs) (by omega)
  rcases h6 with ⟨_, rfl⟩ | ⟨h7, h8⟩
  · obtain rfl : ds = [] := List.eq_nil_of_length_eq_zero (by omega)
    exact hz
  · have h0 : rest.natAbs ≠ 0 := by omega
    rw [h8, digZ_pos h0, hz, List.append_assoc]
    rfl
theorem PutI_end {n : Int} {j : Nat} {ds : List UInt8} (h : PutI n j 0 ds) (hj : j ≠ 20) : digN n.natAbs = ds := by
  obtain ⟨_, _, _, _, _, h6⟩ := h
  rcases h6 with ⟨h7, _⟩ | ⟨_, h8⟩
  · exact absurd h7 hj
  · rw [h8]; simp [digZ]

theorem Rd_cellsP (w : World) (T : TypeId) (j : Nat) (ds : List UInt8) (k : Nat) (hk : k = ds.length) (z : Nat) (hz : z = j) : Rd (w.alloc (.cells (cellsP j ds) T)) (w.heap.size + 1) (.slice (some ⟨w.heap.size, z, none⟩) k k) (Lib.byteCells ds) := by
  subst hk hz
  refine ⟨_, _, by rw [Lib.byteCells_length], fun _ => ⟨_, rfl, by show w.heap.size < _; omega, fun i u hu => ?_⟩⟩
  have hp : (⟨w.heap.size, z, none⟩ : Addr).add i = ⟨w.heap.size, z + i, none⟩ := by unfold Addr.add; split <;> simp_all
  rw [hp]
  unfold World.cell?
  rw [heap_alloc_new]
  exact cellsP_get z ds i u hu

end Go.Proofs.YtoflogckoepioaaDoor.Nu
