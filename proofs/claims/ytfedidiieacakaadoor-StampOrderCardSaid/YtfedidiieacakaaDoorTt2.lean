/- Merged: NuA NuD. -/
import Derived.Test.YtfedidiieacakaaDoorTt0
import Derived.Deep.QuietTactic
import Derived.BigQuiet
import Derived.WalkLawsBesides
import Derived.WalkSpells
import Derived.IntWalk
namespace Go.Proofs.YtfedidiieacakaaDoor.Nu
open Go.RowKit
open Go.Proofs.YtfedidiieacakaaDoor.Utf

set_option maxRecDepth 100000 in
set_option maxHeartbeats 1000000 in
theorem digit_any (r : Int) (w : World) (h0 : -9 ≤ r) (h1 : r ≤ 9) : Calls Tryd.prog 33 #[.int .i64 r] w fun e w' => e = .returned (.int .u8 (48 + r.natAbs : Nat)) ∧ w = w' := by
  by_cases hr : r < 0
  · have hd : decide (r < 0) = true := decide_eq_true hr
    go_enter Tryd.func33, Tryd.ntmps33
    go_wp2
    go_ret
    exact ⟨ret_int (by omega), rfl⟩
  · have hd : decide (r < 0) = false := decide_eq_false hr
    go_enter Tryd.func33, Tryd.ntmps33
    go_wp2
    go_ret
    exact ⟨ret_int (by omega), rfl⟩

end Go.Proofs.YtfedidiieacakaaDoor.Nu
namespace Go.Proofs.YtfedidiieacakaaDoor.Nu
open Go.RowKit
open Go.Proofs.YtfedidiieacakaaDoor.Utf

end Go.Proofs.YtfedidiieacakaaDoor.Nu
namespace Go.Proofs.YtfedidiieacakaaDoor.Nu
open Go.RowKit
open Go.Proofs.YtfedidiieacakaaDoor.Utf

def cellsP (j : Nat) (ds : List UInt8) : Array Value := (List.replicate j (Value.int .u8 0) ++ Lib.byteCells ds).toArray
theorem cellsP_size (j : Nat) (ds : List UInt8) : (cellsP j ds).size = j + ds.length := by simp [cellsP, Lib.byteCells]
theorem cellsP_set (m : Nat) (ds : List UInt8) (b : UInt8) (z : Int) (hz : z = b.toNat) : (cellsP (m + 1) ds).setIfInBounds m (.int .u8 z) = cellsP m (b :: ds) := by
  subst hz
  unfold cellsP
  have h1 : List.replicate (m + 1) (Value.int .u8 0) = List.replicate m (Value.int .u8 0) ++ [Value.int .u8 0] := by rw [List.replicate_succ']
  rw [h1, List.append_assoc, List.setIfInBounds_toArray, List.set_append_right _ _ (by simp)]
  simp [Lib.byteCells]
theorem cellsP_get (j : Nat) (ds : List UInt8) (i : Nat) (u : Value) (h : (Lib.byteCells ds)[i]? = some u) : (cellsP j ds)[j + i]? = some u := by
  unfold cellsP
  rw [List.getElem?_toArray, List.getElem?_append_right (by simp)]
  simpa using h

def PutI (n : Int) (j : Nat) (rest : Int) (ds : List UInt8) : Prop :=
  1 ≤ j ∧ ds.length + j = 20 ∧ rest.natAbs < 10 ^ (j - 1) ∧ -9223372036854775808 ≤ rest ∧ rest ≤ 9223372036854775807 ∧ ((j = 20 ∧ rest = n) ∨ (j < 20 ∧ digN n.natAbs = digZ rest.natAbs ++ ds))
theorem PutI_0 {n : Int} (h0 : -9223372036854775808 ≤ n) (h1 : n ≤ 9223372036854775807) : PutI n 20 n [] := ⟨by omega, rfl, by omega, h0, h1, .inl ⟨rfl, rfl⟩⟩
theorem PutI_two {n : Int} {j : Nat} {rest : Int} {ds : List UInt8} (h : PutI n j rest ds) (hr : rest ≠ 0 ∨ j = 20) : ∃ m, j = m + 1 ∧ 1 ≤ m := by
  obtain ⟨h1, h2, h3, _, _, _⟩ := h
  refine ⟨j - 1, by omega, ?_⟩
  rcases Nat.eq_zero_or_pos (j - 1) with h0 | h0
  · rw [h0] at h3
    simp at h3
    omega
  · exact h0
theorem natAbs_div10 (r : Int) : (r.tdiv 10).natAbs = r.natAbs / 10 := by rw [Int.natAbs_tdiv]; rfl
theorem natAbs_mod10 (r : Int) : (r.tmod 10).natAbs = r.natAbs % 10 := by rw [Int.natAbs_tmod]; rfl
theorem PutI_next {n : Int} {m : Nat} {rest : Int} {ds : List UInt8} (h : PutI n (m + 1) rest ds) (hr : rest ≠ 0 ∨ m + 1 = 20) (hm : 1 ≤ m) : PutI n m (rest.tdiv 10) (dg rest.natAbs :: ds) := by
  obtain ⟨h1, h2, h3, h4, h5, h6⟩ := h
  have hd := natAbs_div10 rest
  have h20 : (10 : Nat) ^ m ≤ 10 ^ 19 := Nat.pow_le_pow_right (by omega) (by omega)
  rw [Nat.add_sub_cancel] at h3
  have hm' : 10 ^ m = 10 ^ (m - 1) * 10 := by rw [← Nat.pow_succ]; congr 1; omega
  refine ⟨hm, by rw [List.length_cons]; omega, by rw [hd]; omega, by omega, by omega, .inr ⟨by omega, ?_⟩⟩
  rw [hd]
  have hz := digN_Z (m := rest.natAbs) (by omega)
  rcases h6 with ⟨_, rfl⟩ | ⟨h7, h8⟩
  · obtain rfl : ds = [] := List.eq_nil_of_length_eq_zero (by omega)
    exact hz
  · have h0 : rest.natAbs ≠ 0 := by omega
    rw [h8, digZ_pos h0, hz, List.append_assoc]
    rfl
theorem PutI_end {n : Int} {j : Nat} {ds : List UInt8} (h : PutI n j 0 ds) (hj : j ≠ 20) : digN n.natAbs = ds := by
  obtain ⟨_, _, _, _, _, h6⟩ := h
  rcases h6 with ⟨h7, _⟩ | ⟨_, h8⟩
  · exact absurd h7 hj
  · rw [h8]; simp [digZ]

theorem Rd_cellsP (w : World) (T : TypeId) (j : Nat) (ds : List UInt8) (k : Nat) (hk : k = ds.length) (z : Nat) (hz : z = j) : Rd (w.alloc (.cells (cellsP j ds) T)) (w.heap.size + 1) (.slice (some ⟨w.heap.size, z, none⟩) k k) (Lib.byteCells ds) := by
  subst hk hz
  refine ⟨_, _, by rw [Lib.byteCells_length], fun _ => ⟨_, rfl, by show w.heap.size < _; omega, fun i u hu => ?_⟩⟩
  have hp : (⟨w.heap.size, z, none⟩ : Addr).add i = ⟨w.heap.size, z + i, none⟩ := by unfold Addr.add; split <;> simp_all
  rw [hp]
  unfold World.cell?
  rw [heap_alloc_new]
  exact cellsP_get z ds i u hu

theorem slice_20 (w : World) (B j : Nat) (hj : j < 20) (z : Int) (hz : z = (j : Int)) : (Instr.sliceAt 49 (.pointer (some ⟨B, 0, none⟩)) (some (.int .i64 z)) none none).run Tryd.prog w = .ok (.slice (some ⟨B, j, none⟩) (20 - j) (20 - j)) w := by
  subst hz
  have hl : Tryd.prog.arrayLen 49 = 20 := by kernel_rfl
  have he : Tryd.prog.elem 49 = 5 := by kernel_rfl
  have hu : Tryd.prog.underlying 49 = some (.array (Tryd.prog.arrayLen 49) (Tryd.prog.elem 49)) := by rw [hl, he]; kernel_rfl
  rw [run_sliceAt_array_l w 49 _ hu .i64 (j : Int) (by omega) (by rw [hl]; omega), he, hl]
  have hs : (sizeOf 5).run Tryd.prog w = .ok 1 w := by simp [go_sem]
  rw [hs]
  have hne : ¬ 20 = j := by omega
  simp [Result.andThen, slicedAt, hne, Addr.add]
  intro h; exact h.symm

set_option maxRecDepth 100000 in
set_option maxHeartbeats 1000000 in
theorem Put_any (n : Int) (w : World) (hn0 : -9223372036854775808 ≤ n) (hn1 : n ≤ 9223372036854775807) :
    Calls Tryd.prog 26 #[.int .i64 n] w (Gives (.string (strOf (putL n))) w) := by
  go_enter Tryd.func26, Tryd.ntmps26
  go_wp2_with fail
  go_loopw [4, 5] (fun i r wr => ∃ (j : Nat) (rest : Int) (ds : List UInt8), PutI n j rest ds ∧ i = .int .i64 j ∧ r = .int .i64 rest ∧ wr = w.alloc (.cells (cellsP j ds) 49)) (fun i _ _ => (intOf i).toNat)
  case atStart => exact ⟨20, n, [], PutI_0 hn0 hn1, rfl, rfl, rfl⟩
  case round =>
    obtain ⟨j, rest, ds, hI, rfl, rfl, rfl⟩ := hrel
    have hb1 : -9223372036854775808 ≤ rest := hI.2.2.2.1
    have hb2 : rest ≤ 9223372036854775807 := hI.2.2.2.2.1
    have hj1 : 1 ≤ j := hI.1
    have hj2 : ds.length + j = 20 := hI.2.1
    by_cases hr : rest ≠ 0 ∨ j = 20
    · obtain ⟨m, rfl, hm⟩ := PutI_two hI hr
      have hnext := PutI_next hI hr hm
      have HN := Lib.hid hnext; clear hnext hI
      have hcond : ((rest != 0) = true) ∨ ((rest != 0) = false ∧ (((m + 1 : Nat) : Int) == 20) = true) := by
        rcases hr with h | h
        · exact .inl (by simpa using h)
        · by_cases h0 : rest = 0
          · exact .inr ⟨by simpa using h0, by simp; omega⟩
          · exact .inl (by simpa using h0)
      clear hr
      have hsz : (cellsP (m + 1) ds).size = 20 := by rw [cellsP_size]; omega
      have hset := cellsP_set m ds (dg rest.natAbs) (48 + (rest.natAbs : Int) % 10) (by rw [dg_nat]; simp)
      have HSET := Lib.hid hset; clear hset
      have hmod := natAbs_mod10 rest
      have hdg : -9 ≤ rest.tmod 10 ∧ rest.tmod 10 ≤ 9 := by omega
      have HMOD := Lib.hid hmod; clear hmod
      have hcell : ∃ v, (w.alloc (.cells (cellsP (m + 1) ds) 49)).cell? ⟨w.heap.size, m, none⟩ = some v := by
        unfold World.cell?
        rw [heap_alloc_new]
        exact ⟨(cellsP (m + 1) ds)[m]'(by omega), Array.getElem?_eq_getElem _⟩
      obtain ⟨cv, hcell⟩ := hcell
      rcases hcond with h | ⟨h, h'⟩
      · go_wp2_with fail
        refine (digit_any _ _ hdg.1 hdg.2).mono ?_
        rintro e w' ⟨rfl, rfl⟩
        go_wp2_with fail
        go_roundw
        case rel => exact ⟨m, rest.tdiv 10, _, HN.out, rfl, rfl, by rw [HSET.out]⟩
        case measure => simp [intOf]
      · go_wp2_with fail
        refine (digit_any _ _ hdg.1 hdg.2).mono ?_
        rintro e w' ⟨rfl, rfl⟩
        go_wp2_with fail
        go_roundw
        case rel => exact ⟨m, rest.tdiv 10, _, HN.out, rfl, rfl, by rw [HSET.out]⟩
        case measure => simp [intOf]
    · obtain rfl : rest = 0 := by omega
      have hj : j ≠ 20 := by omega
      have he := PutI_end hI hj
      clear hI hr
      have hjb : ((j : Int) == 20) = false := by simp; omega
      by_cases hneg : n < 0
      · have hnb : decide (n < 0) = true := decide_eq_true hneg
        obtain ⟨m, rfl⟩ : ∃ m, j = m + 1 := ⟨j - 1, by omega⟩
        have hput : putL n = 45 :: ds := by rw [putL, if_pos hneg, he]
        have HP := Lib.hid hput; clear hput
        have HE := Lib.hid he; clear he
        have hsz : (cellsP (m + 1) ds).size = 20 := by rw [cellsP_size]; omega
        have hset := cellsP_set m ds 45 45 rfl
        have HSET := Lib.hid hset; clear hset
        have hcell : ∃ v, (w.alloc (.cells (cellsP (m + 1) ds) 49)).cell? ⟨w.heap.size, m, none⟩ = some v := by
          unfold World.cell?
          rw [heap_alloc_new]
          exact ⟨(cellsP (m + 1) ds)[m]'(by omega), Array.getElem?_eq_getElem _⟩
        obtain ⟨cv, hcell⟩ := hcell
        have hjb2 : ((m : Int) + 1 == 20) = false := by simpa using hjb
        have hsl := fun wx => slice_20 wx w.heap.size m (by omega) m rfl
        have hc := (Rd_cellsP w 49 m (45 :: ds) (20 - m) (by rw [List.length_cons]; omega) m rfl).conv (P := Tryd.prog) Tryd.underlying34 Tryd.underlying5 Tryd.underlying9
        rw [← HSET.out] at hc
        go_wp2_with fail
        go_ret
        exact ⟨by rw [HP.out]; rfl, (Below.refl _ _).alloc (Nat.le_refl _) _⟩
      · have hnb : decide (n < 0) = false := decide_eq_false hneg
        have hput : putL n = ds := by rw [putL, if_neg hneg, he]
        have HP := Lib.hid hput; clear hput
        have HE := Lib.hid he; clear he
        have hsz : (cellsP j ds).size = 20 := by rw [cellsP_size]; omega
        have hsl := fun wx => slice_20 wx w.heap.size j (by omega) j rfl
        have hc := (Rd_cellsP w 49 j ds (20 - j) (by omega) j rfl).conv (P := Tryd.prog) Tryd.underlying34 Tryd.underlying5 Tryd.underlying9
        go_wp2_with fail
        go_ret
        exact ⟨by rw [HP.out]; rfl, (Below.refl _ _).alloc (Nat.le_refl _) _⟩
end Go.Proofs.YtfedidiieacakaaDoor.Nu
