/- Merged: StF StG StH StI. -/
import Derived.Test.YtfedidiieacakaaDoorTt5
import Derived.Test.YtfedidiieacakaaDoorTt4
import Derived.WalkSmall
import Derived.Deep.QuietTactic
import Derived.BigQuiet
namespace Go.Proofs.YtfedidiieacakaaDoor.St
open Go.RowKit
open Go.Proofs.YtfedidiieacakaaDoor.Utf
open Go.Proofs.YtfedidiieacakaaDoor.Nu

def GivesS (n : Int) (b : Bool) (w : World) (e : Ending) (w' : World) : Prop := e = .returned (.tuple #[.int .i64 n, .bool b]) ∧ Below w.heap.size w w'
theorem stSet (w : World) (b i : Nat) (cs : Array Value) (t : TypeId) (v : Value) (h : w.heap[b]? = some (.cells cs t (0, 0))) : (w.setCell ⟨b, i, none⟩ v).heap[b]? = some (.cells (cs.setIfInBounds i v) t (0, 0)) := by
  obtain ⟨hlt, hk⟩ := Array.getElem?_eq_some_iff.1 h
  show (w.heap.modify b _)[b]? = _
  rw [Array.getElem?_eq_getElem (by rw [Array.size_modify]; exact hlt), Array.getElem_modify_self, hk]
  rfl
theorem blk_lt {w : World} {b : Nat} {o : Obj} (h : w.heap[b]? = some o) : b < w.heap.size := (Array.getElem?_eq_some_iff.1 h).1
theorem blk_below {w w' : World} {B b : Nat} {o : Obj} (h : w.heap[b]? = some o) (hb : Below B w w') (hB : b < B) : w'.heap[b]? = some o := (hb.block b hB).trans h
def pC (l : List UInt8) (k : Nat) : Array Value := #[.int .i64 ((if 0 < k then accD l 0 4 else 0 : Nat) : Int), .int .i64 ((if 1 < k then accD l 5 2 else 0 : Nat) : Int), .int .i64 ((if 2 < k then accD l 8 2 else 0 : Nat) : Int), .int .i64 ((if 3 < k then accD l 11 2 else 0 : Nat) : Int), .int .i64 ((if 4 < k then accD l 14 2 else 0 : Nat) : Int), .int .i64 ((if 5 < k then accD l 17 2 else 0 : Nat) : Int)]
theorem ext_byt (s : ByteArray) (p q j : Nat) (hj : j < q - p) : byt (s.extract p q).data.toList j = byt s.data.toList (p + j) := by
  rw [ByteArray.data_extract]
  unfold byt
  rw [List.getD_eq_getElem?_getD, List.getD_eq_getElem?_getD]
  simp only [Array.toList_extract, List.extract]
  rw [List.getElem?_take, if_pos hj, List.getElem?_drop]
theorem ext_num (s : ByteArray) (p n : Nat) (hq : p + n ≤ s.size) (hd : digsK s.data.toList p n = true) : (s.extract p (p + n)).size = n ∧ accD (s.extract p (p + n)).data.toList 0 n = accD s.data.toList p n ∧ digsK (s.extract p (p + n)).data.toList 0 n = true := by
  have hb : ∀ j, j < n → byt (s.extract p (p + n)).data.toList (0 + j) = byt s.data.toList (p + j) := fun j hj => by rw [Nat.zero_add]; exact ext_byt s p (p + n) j (by omega)
  refine ⟨by rw [ByteArray.size_extract]; omega, ?_, (digsK_iff _ _ _).2 fun j hj => by rw [hb j hj]; exact (digsK_iff _ _ _).1 hd j hj⟩
  clear hd
  have key : ∀ k, k ≤ n → accD (s.extract p (p + n)).data.toList 0 k = accD s.data.toList p k := by
    intro k
    induction k with
    | zero => intro _; rfl
    | succ k ih => intro hk; rw [accD, accD, ih (by omega), hb k (by omega)]
  exact key n (Nat.le_refl _)
theorem part_any (s : ByteArray) (p n q : Nat) (w : World) (hpq : p + n = q) (hq : q ≤ s.size) (h9 : n ≤ 9) (hd : digsK s.data.toList p n = true) :
    Calls Tryd.prog 20 #[.string (s.extract p q)] w (Gives (.int .i64 (accD s.data.toList p n : Nat)) w) := by
  subst hpq
  obtain ⟨h1, h2, h3⟩ := ext_num s p n hq hd
  have := num_any (s.extract p (p + n)) w (by omega) (by rw [h1]; exact h3)
  rw [h1, h2] at this
  exact this

theorem secN_yes {l : List UInt8} (h : secOk l) : secN l = secV l := if_pos h
theorem secN_no {l : List UInt8} (h : ¬ secOk l) : secN l = 0 := if_neg h

set_option maxRecDepth 100000 in
set_option maxHeartbeats 2000000 in
theorem Seconds_any (s : ByteArray) (w : World) (T : Tab w) (hs : s.size ≤ 9223372036854775807) : Calls Tryd.prog 9 #[.string s] w (GivesS (secN s.data.toList) (decide (secOk s.data.toList)) w) := by
  have CF := Lib.hid (fun wx => hasForm_any s wx hs)
  by_cases hf : (frm s.data.toList && endP s.data.toList 19) = true
  case neg =>
    have hno : ¬ secOk s.data.toList := fun h => hf (by rw [h.1, h.2.1]; rfl)
    rw [secN_no hno, decide_eq_false hno]
    have hf2 := Bool.eq_false_iff.2 hf
    rw [hf2] at CF
    clear hno hf hf2
    go_enter Tryd.func9, Tryd.ntmps9
    go_wp2_with fail
    refine (CF.out _).mono ?_
    rintro e w1 ⟨rfl, hb1⟩
    have HB1 := Lib.hid hb1
    clear hb1
    go_wp2_with fail
    go_ret2
    exact ⟨rfl, HB1.out⟩
  case pos =>
    rw [hf] at CF
    have hf1 := (Bool.and_eq_true_iff.1 hf).1
    have hf2 := (Bool.and_eq_true_iff.1 hf).2
    have h19 : 19 ≤ s.size := frm_len hf1
    obtain ⟨d0, d5, d8, d11, d14, d17⟩ := frm_digs hf1
    have HOK := Lib.hid (show secOk s.data.toList ↔ (isDay (accD s.data.toList 0 4) (accD s.data.toList 5 2) (accD s.data.toList 8 2) ∧ accD s.data.toList 11 2 ≤ 23 ∧ accD s.data.toList 14 2 ≤ 59 ∧ accD s.data.toList 17 2 ≤ 59) from ⟨fun h => h.2.2, fun h => ⟨hf1, hf2, h⟩⟩)
    have P0 := Lib.hid (fun wx => part_any s 0 4 4 wx rfl (by omega) (by omega) d0)
    have P1 := Lib.hid (fun wx => part_any s 5 2 7 wx rfl (by omega) (by omega) d5)
    have P2 := Lib.hid (fun wx => part_any s 8 2 10 wx rfl (by omega) (by omega) d8)
    have P3 := Lib.hid (fun wx => part_any s 11 2 13 wx rfl (by omega) (by omega) d11)
    have P4 := Lib.hid (fun wx => part_any s 14 2 16 wx rfl (by omega) (by omega) d14)
    have P5 := Lib.hid (fun wx => part_any s 17 2 19 wx rfl (by omega) (by omega) d17)
    have n0 := (accD_4 _ _ d0).1
    have n1 := (accD_2 _ _ d5).1
    have n2 := (accD_2 _ _ d8).1
    have n3 := (accD_2 _ _ d11).1
    have n4 := (accD_2 _ _ d14).1
    have n5 := (accD_2 _ _ d17).1
    have HV := Lib.hid (show secV s.data.toList = (day0 (accD s.data.toList 0 4) (accD s.data.toList 5 2) (accD s.data.toList 8 2) - 719528) * 86400 + ((accD s.data.toList 11 2 : Int) * 60 + accD s.data.toList 14 2) * 60 + accD s.data.toList 17 2 from rfl)
    have HN := Lib.hid (show secN s.data.toList = if secOk s.data.toList then secV s.data.toList else 0 from rfl)
    have HPC := Lib.hid (show ∀ k, pC s.data.toList k = #[.int .i64 ((if 0 < k then accD s.data.toList 0 4 else 0 : Nat) : Int), .int .i64 ((if 1 < k then accD s.data.toList 5 2 else 0 : Nat) : Int), .int .i64 ((if 2 < k then accD s.data.toList 8 2 else 0 : Nat) : Int), .int .i64 ((if 3 < k then accD s.data.toList 11 2 else 0 : Nat) : Int), .int .i64 ((if 4 < k then accD s.data.toList 14 2 else 0 : Nat) : Int), .int .i64 ((if 5 < k then accD s.data.toList 17 2 else 0 : Nat) : Int)] from fun _ => rfl)
    obtain ⟨A0, a0⟩ : ∃ A0 : Nat, accD s.data.toList 0 4 = A0 := ⟨_, rfl⟩
    obtain ⟨A1, a1⟩ : ∃ A1 : Nat, accD s.data.toList 5 2 = A1 := ⟨_, rfl⟩
    obtain ⟨A2, a2⟩ : ∃ A2 : Nat, accD s.data.toList 8 2 = A2 := ⟨_, rfl⟩
    obtain ⟨A3, a3⟩ : ∃ A3 : Nat, accD s.data.toList 11 2 = A3 := ⟨_, rfl⟩
    obtain ⟨A4, a4⟩ : ∃ A4 : Nat, accD s.data.toList 14 2 = A4 := ⟨_, rfl⟩
    obtain ⟨A5, a5⟩ : ∃ A5 : Nat, accD s.data.toList 17 2 = A5 := ⟨_, rfl⟩
    rw [a0, a1, a2, a3, a4, a5] at HOK HV
    rw [a0] at P0 n0; rw [a1] at P1 n1; rw [a2] at P2 n2; rw [a3] at P3 n3; rw [a4] at P4 n4; rw [a5] at P5 n5
    have HPD := Lib.hid (show ∀ k, pC s.data.toList k = #[.int .i64 ((if 0 < k then A0 else 0 : Nat) : Int), .int .i64 ((if 1 < k then A1 else 0 : Nat) : Int), .int .i64 ((if 2 < k then A2 else 0 : Nat) : Int), .int .i64 ((if 3 < k then A3 else 0 : Nat) : Int), .int .i64 ((if 4 < k then A4 else 0 : Nat) : Int), .int .i64 ((if 5 < k then A5 else 0 : Nat) : Int)] from fun k => by rw [HPC.out k, a0, a1, a2, a3, a4, a5])
    clear HPC
    have z4 : (4 : Int) ≤ (s.size : Int) := by omega
    have z7 : (7 : Int) ≤ (s.size : Int) := by omega
    have z10 : (10 : Int) ≤ (s.size : Int) := by omega
    have z13 : (13 : Int) ≤ (s.size : Int) := by omega
    have z16 : (16 : Int) ≤ (s.size : Int) := by omega
    have z19 : (19 : Int) ≤ (s.size : Int) := by omega
    clear a0 a1 a2 a3 a4 a5 d0 d5 d8 d11 d14 d17 hf hf1 hf2 h19
    go_enter Tryd.func9, Tryd.ntmps9
    go_wp2_with fail
    refine (CF.out _).mono ?_
    rintro e w1 ⟨rfl, hb1⟩
    have HB1 := Lib.hid hb1
    have HT1 := Lib.hid (T.below hb1)
    clear hb1
    obtain ⟨W2, hW2⟩ : ∃ W2, W2 = w1.alloc (.cells #[.int .i64 0, .int .i64 0, .int .i64 0, .int .i64 0, .int .i64 0, .int .i64 0] 36) := ⟨_, rfl⟩
    have HB2 := Lib.hid (show Below w1.heap.size w1 W2 by rw [hW2]; exact (Below.refl _ _).alloc (Nat.le_refl _) _)
    have HT2 := Lib.hid (HT1.out.below HB2.out)
    have HR2 := Lib.hid (show W2.heap[w1.heap.size]? = some (.cells (pC s.data.toList 0) 36 (0, 0)) by rw [hW2, HPD.out]; exact heap_alloc_new _ _)
    have HB02 := Lib.hid (HB1.out.trans (HB2.out.mono HB1.out.size))
    have q0 := (HT2.out).2 0 (by omega)
    have q1 := (HT2.out).2 1 (by omega)
    have q2 := (HT2.out).2 2 (by omega)
    have q3 := (HT2.out).2 3 (by omega)
    have q4 := (HT2.out).2 4 (by omega)
    have q5 := (HT2.out).2 5 (by omega)
    have q6 := (HT2.out).2 6 (by omega)
    have q7 := (HT2.out).2 7 (by omega)
    have q8 := (HT2.out).2 8 (by omega)
    have q9 := (HT2.out).2 9 (by omega)
    have q10 := (HT2.out).2 10 (by omega)
    have q11 := (HT2.out).2 11 (by omega)
    change _ = some (Value.int .i64 0) at q0
    change _ = some (Value.int .i64 4) at q1
    change _ = some (Value.int .i64 5) at q2
    change _ = some (Value.int .i64 7) at q3
    change _ = some (Value.int .i64 8) at q4
    change _ = some (Value.int .i64 10) at q5
    change _ = some (Value.int .i64 11) at q6
    change _ = some (Value.int .i64 13) at q7
    change _ = some (Value.int .i64 14) at q8
    change _ = some (Value.int .i64 16) at q9
    change _ = some (Value.int .i64 17) at q10
    change _ = some (Value.int .i64 19) at q11
    rw [hW2] at q0 q1 q2 q3 q4 q5 q6 q7 q8 q9 q10 q11
    have HW2 := Lib.hid hW2
    clear hW2
    -- LOOP
    go_wp2_with fail
    go_loopw [16] (fun i wr => ∃ k : Nat, i = .int .i64 k ∧ k ≤ 6 ∧ Aside (wr.heap[w1.heap.size]? = some (.cells (pC s.data.toList k) 36 (0, 0))) ∧ Aside (Below w.heap.size w wr)) (fun i _ => 6 - (intOf i).toNat)
    case atStart => exact ⟨0, rfl, by omega, by rw [← HW2.out]; exact HR2.out, by rw [← HW2.out]; exact HB02.out⟩
    case round =>
      obtain ⟨k, rfl, hk, hrow, hbel⟩ := hrel
      have HROW := Lib.hid hrow.out
      have HBEL := Lib.hid hbel.out
      clear hrow hbel q0 q1 q2 q3 q4 q5 q6 q7 q8 q9 q10 q11
      have HLT := Lib.hid (blk_lt HROW.out)
      by_cases hlt : k < 6
      · have t1 : decide ((k : Int) < 6) = true := decide_eq_true (by omega)
        have key : k = 0 ∨ k = 1 ∨ k = 2 ∨ k = 3 ∨ k = 4 ∨ k = 5 := by omega
        clear hlt hk
        rcases key with rfl | rfl | rfl | rfl | rfl | rfl
        · obtain ⟨W4, hW4⟩ : ∃ W4, W4 = wr.alloc (.cells #[.int .i64 0, .int .i64 4] 38) := ⟨_, rfl⟩
          have HB4 := Lib.hid (show Below wr.heap.size wr W4 by rw [hW4]; exact (Below.refl _ _).alloc (Nat.le_refl _) _)
          have HW4 := Lib.hid hW4
          clear hW4
          rw [show ((0 : Nat) : Int) = 0 from rfl]
          have ix : ∀ wx, (Instr.index 39 (.agg #[.int .i64 0, .int .i64 4, .int .i64 5, .int .i64 7, .int .i64 8, .int .i64 10, .int .i64 11, .int .i64 13, .int .i64 14, .int .i64 16, .int .i64 17, .int .i64 19]) (.int .i64 0)).run Tryd.prog wx = .ok (.agg #[.int .i64 0, .int .i64 4]) wx := fun wx => by kernel_rfl
          go_wp2_with fail
          refine (P0.out _).mono ?_
          rintro e w3 ⟨rfl, hb3⟩
          rw [← HW4.out] at hb3
          have HB3 := Lib.hid (hb3.mono HB4.out.size)
          clear hb3
          have HR3 := Lib.hid (blk_below (blk_below HROW.out HB4.out HLT.out) HB3.out HLT.out)
          have c3 := cell_of_row w3 w1.heap.size 0 _ _ _ HR3.out
          rw [HPD.out 0] at c3
          replace c3 : w3.cell? ⟨w1.heap.size, 0, none⟩ = some (.int .i64 0) := c3
          have f3 := frozen_of_row w3 w1.heap.size 0 _ _ HR3.out
          go_wp2_with fail
          go_roundw
          case rel => exact ⟨1, by go_num, by omega, by
            have h := stSet w3 w1.heap.size 0 _ _ (.int .i64 (A0 : Int)) HR3.out
            rw [HPD.out 0] at h
            rw [HPD.out 1]
            exact h, ((HBEL.out.trans (HB4.out.mono HBEL.out.size)).trans (HB3.out.mono HBEL.out.size)).setCell (p := ⟨w1.heap.size, 0, none⟩) HB1.out.size _⟩
          case measure => simp [intOf]
        · obtain ⟨W4, hW4⟩ : ∃ W4, W4 = wr.alloc (.cells #[.int .i64 5, .int .i64 7] 38) := ⟨_, rfl⟩
          have HB4 := Lib.hid (show Below wr.heap.size wr W4 by rw [hW4]; exact (Below.refl _ _).alloc (Nat.le_refl _) _)
          have HW4 := Lib.hid hW4
          clear hW4
          rw [show ((1 : Nat) : Int) = 1 from rfl]
          have ix : ∀ wx, (Instr.index 39 (.agg #[.int .i64 0, .int .i64 4, .int .i64 5, .int .i64 7, .int .i64 8, .int .i64 10, .int .i64 11, .int .i64 13, .int .i64 14, .int .i64 16, .int .i64 17, .int .i64 19]) (.int .i64 1)).run Tryd.prog wx = .ok (.agg #[.int .i64 5, .int .i64 7]) wx := fun wx => by kernel_rfl
          go_wp2_with fail
          refine (P1.out _).mono ?_
          rintro e w3 ⟨rfl, hb3⟩
          rw [← HW4.out] at hb3
          have HB3 := Lib.hid (hb3.mono HB4.out.size)
          clear hb3
          have HR3 := Lib.hid (blk_below (blk_below HROW.out HB4.out HLT.out) HB3.out HLT.out)
          have c3 := cell_of_row w3 w1.heap.size 1 _ _ _ HR3.out
          rw [HPD.out 1] at c3
          replace c3 : w3.cell? ⟨w1.heap.size, 1, none⟩ = some (.int .i64 0) := c3
          have f3 := frozen_of_row w3 w1.heap.size 1 _ _ HR3.out
          go_wp2_with fail
          go_roundw
          case rel => exact ⟨2, by go_num, by omega, by
            have h := stSet w3 w1.heap.size 1 _ _ (.int .i64 (A1 : Int)) HR3.out
            rw [HPD.out 1] at h
            rw [HPD.out 2]
            exact h, ((HBEL.out.trans (HB4.out.mono HBEL.out.size)).trans (HB3.out.mono HBEL.out.size)).setCell (p := ⟨w1.heap.size, 1, none⟩) HB1.out.size _⟩
          case measure => simp [intOf]
        · obtain ⟨W4, hW4⟩ : ∃ W4, W4 = wr.alloc (.cells #[.int .i64 8, .int .i64 10] 38) := ⟨_, rfl⟩
          have HB4 := Lib.hid (show Below wr.heap.size wr W4 by rw [hW4]; exact (Below.refl _ _).alloc (Nat.le_refl _) _)
          have HW4 := Lib.hid hW4
          clear hW4
          rw [show ((2 : Nat) : Int) = 2 from rfl]
          have ix : ∀ wx, (Instr.index 39 (.agg #[.int .i64 0, .int .i64 4, .int .i64 5, .int .i64 7, .int .i64 8, .int .i64 10, .int .i64 11, .int .i64 13, .int .i64 14, .int .i64 16, .int .i64 17, .int .i64 19]) (.int .i64 2)).run Tryd.prog wx = .ok (.agg #[.int .i64 8, .int .i64 10]) wx := fun wx => by kernel_rfl
          go_wp2_with fail
          refine (P2.out _).mono ?_
          rintro e w3 ⟨rfl, hb3⟩
          rw [← HW4.out] at hb3
          have HB3 := Lib.hid (hb3.mono HB4.out.size)
          clear hb3
          have HR3 := Lib.hid (blk_below (blk_below HROW.out HB4.out HLT.out) HB3.out HLT.out)
          have c3 := cell_of_row w3 w1.heap.size 2 _ _ _ HR3.out
          rw [HPD.out 2] at c3
          replace c3 : w3.cell? ⟨w1.heap.size, 2, none⟩ = some (.int .i64 0) := c3
          have f3 := frozen_of_row w3 w1.heap.size 2 _ _ HR3.out
          go_wp2_with fail
          go_roundw
          case rel => exact ⟨3, by go_num, by omega, by
            have h := stSet w3 w1.heap.size 2 _ _ (.int .i64 (A2 : Int)) HR3.out
            rw [HPD.out 2] at h
            rw [HPD.out 3]
            exact h, ((HBEL.out.trans (HB4.out.mono HBEL.out.size)).trans (HB3.out.mono HBEL.out.size)).setCell (p := ⟨w1.heap.size, 2, none⟩) HB1.out.size _⟩
          case measure => simp [intOf]
        · obtain ⟨W4, hW4⟩ : ∃ W4, W4 = wr.alloc (.cells #[.int .i64 11, .int .i64 13] 38) := ⟨_, rfl⟩
          have HB4 := Lib.hid (show Below wr.heap.size wr W4 by rw [hW4]; exact (Below.refl _ _).alloc (Nat.le_refl _) _)
          have HW4 := Lib.hid hW4
          clear hW4
          rw [show ((3 : Nat) : Int) = 3 from rfl]
          have ix : ∀ wx, (Instr.index 39 (.agg #[.int .i64 0, .int .i64 4, .int .i64 5, .int .i64 7, .int .i64 8, .int .i64 10, .int .i64 11, .int .i64 13, .int .i64 14, .int .i64 16, .int .i64 17, .int .i64 19]) (.int .i64 3)).run Tryd.prog wx = .ok (.agg #[.int .i64 11, .int .i64 13]) wx := fun wx => by kernel_rfl
          go_wp2_with fail
          refine (P3.out _).mono ?_
          rintro e w3 ⟨rfl, hb3⟩
          rw [← HW4.out] at hb3
          have HB3 := Lib.hid (hb3.mono HB4.out.size)
          clear hb3
          have HR3 := Lib.hid (blk_below (blk_below HROW.out HB4.out HLT.out) HB3.out HLT.out)
          have c3 := cell_of_row w3 w1.heap.size 3 _ _ _ HR3.out
          rw [HPD.out 3] at c3
          replace c3 : w3.cell? ⟨w1.heap.size, 3, none⟩ = some (.int .i64 0) := c3
          have f3 := frozen_of_row w3 w1.heap.size 3 _ _ HR3.out
          go_wp2_with fail
          go_roundw
          case rel => exact ⟨4, by go_num, by omega, by
            have h := stSet w3 w1.heap.size 3 _ _ (.int .i64 (A3 : Int)) HR3.out
            rw [HPD.out 3] at h
            rw [HPD.out 4]
            exact h, ((HBEL.out.trans (HB4.out.mono HBEL.out.size)).trans (HB3.out.mono HBEL.out.size)).setCell (p := ⟨w1.heap.size, 3, none⟩) HB1.out.size _⟩
          case measure => simp [intOf]
        · obtain ⟨W4, hW4⟩ : ∃ W4, W4 = wr.alloc (.cells #[.int .i64 14, .int .i64 16] 38) := ⟨_, rfl⟩
          have HB4 := Lib.hid (show Below wr.heap.size wr W4 by rw [hW4]; exact (Below.refl _ _).alloc (Nat.le_refl _) _)
          have HW4 := Lib.hid hW4
          clear hW4
          rw [show ((4 : Nat) : Int) = 4 from rfl]
          have ix : ∀ wx, (Instr.index 39 (.agg #[.int .i64 0, .int .i64 4, .int .i64 5, .int .i64 7, .int .i64 8, .int .i64 10, .int .i64 11, .int .i64 13, .int .i64 14, .int .i64 16, .int .i64 17, .int .i64 19]) (.int .i64 4)).run Tryd.prog wx = .ok (.agg #[.int .i64 14, .int .i64 16]) wx := fun wx => by kernel_rfl
          go_wp2_with fail
          refine (P4.out _).mono ?_
          rintro e w3 ⟨rfl, hb3⟩
          rw [← HW4.out] at hb3
          have HB3 := Lib.hid (hb3.mono HB4.out.size)
          clear hb3
          have HR3 := Lib.hid (blk_below (blk_below HROW.out HB4.out HLT.out) HB3.out HLT.out)
          have c3 := cell_of_row w3 w1.heap.size 4 _ _ _ HR3.out
          rw [HPD.out 4] at c3
          replace c3 : w3.cell? ⟨w1.heap.size, 4, none⟩ = some (.int .i64 0) := c3
          have f3 := frozen_of_row w3 w1.heap.size 4 _ _ HR3.out
          go_wp2_with fail
          go_roundw
          case rel => exact ⟨5, by go_num, by omega, by
            have h := stSet w3 w1.heap.size 4 _ _ (.int .i64 (A4 : Int)) HR3.out
            rw [HPD.out 4] at h
            rw [HPD.out 5]
            exact h, ((HBEL.out.trans (HB4.out.mono HBEL.out.size)).trans (HB3.out.mono HBEL.out.size)).setCell (p := ⟨w1.heap.size, 4, none⟩) HB1.out.size _⟩
          case measure => simp [intOf]
        · obtain ⟨W4, hW4⟩ : ∃ W4, W4 = wr.alloc (.cells #[.int .i64 17, .int .i64 19] 38) := ⟨_, rfl⟩
          have HB4 := Lib.hid (show Below wr.heap.size wr W4 by rw [hW4]; exact (Below.refl _ _).alloc (Nat.le_refl _) _)
          have HW4 := Lib.hid hW4
          clear hW4
          rw [show ((5 : Nat) : Int) = 5 from rfl]
          have ix : ∀ wx, (Instr.index 39 (.agg #[.int .i64 0, .int .i64 4, .int .i64 5, .int .i64 7, .int .i64 8, .int .i64 10, .int .i64 11, .int .i64 13, .int .i64 14, .int .i64 16, .int .i64 17, .int .i64 19]) (.int .i64 5)).run Tryd.prog wx = .ok (.agg #[.int .i64 17, .int .i64 19]) wx := fun wx => by kernel_rfl
          go_wp2_with fail
          refine (P5.out _).mono ?_
          rintro e w3 ⟨rfl, hb3⟩
          rw [← HW4.out] at hb3
          have HB3 := Lib.hid (hb3.mono HB4.out.size)
          clear hb3
          have HR3 := Lib.hid (blk_below (blk_below HROW.out HB4.out HLT.out) HB3.out HLT.out)
          have c3 := cell_of_row w3 w1.heap.size 5 _ _ _ HR3.out
          rw [HPD.out 5] at c3
          replace c3 : w3.cell? ⟨w1.heap.size, 5, none⟩ = some (.int .i64 0) := c3
          have f3 := frozen_of_row w3 w1.heap.size 5 _ _ HR3.out
          go_wp2_with fail
          go_roundw
          case rel => exact ⟨6, by go_num, by omega, by
            have h := stSet w3 w1.heap.size 5 _ _ (.int .i64 (A5 : Int)) HR3.out
            rw [HPD.out 5] at h
            rw [HPD.out 6]
            exact h, ((HBEL.out.trans (HB4.out.mono HBEL.out.size)).trans (HB3.out.mono HBEL.out.size)).setCell (p := ⟨w1.heap.size, 5, none⟩) HB1.out.size _⟩
          case measure => simp [intOf]
      · obtain rfl : k = 6 := by omega
        have t1 : decide (((6 : Nat) : Int) < 6) = false := by decide
        have hrow := HROW.out
        rw [HPD.out 6] at hrow
        replace hrow : wr.heap[w1.heap.size]? = some (.cells #[.int .i64 (A0 : Int), .int .i64 (A1 : Int), .int .i64 (A2 : Int), .int .i64 (A3 : Int), .int .i64 (A4 : Int), .int .i64 (A5 : Int)] 36 (0, 0)) := hrow
        have c0 : wr.cell? ⟨w1.heap.size, 0, none⟩ = some (.int .i64 (A0 : Int)) := cell_of_row _ _ 0 _ _ _ hrow
        have c1 : wr.cell? ⟨w1.heap.size, 1, none⟩ = some (.int .i64 (A1 : Int)) := cell_of_row _ _ 1 _ _ _ hrow
        have c2 : wr.cell? ⟨w1.heap.size, 2, none⟩ = some (.int .i64 (A2 : Int)) := cell_of_row _ _ 2 _ _ _ hrow
        have c3 : wr.cell? ⟨w1.heap.size, 3, none⟩ = some (.int .i64 (A3 : Int)) := cell_of_row _ _ 3 _ _ _ hrow
        have c4 : wr.cell? ⟨w1.heap.size, 4, none⟩ = some (.int .i64 (A4 : Int)) := cell_of_row _ _ 4 _ _ _ hrow
        have c5 : wr.cell? ⟨w1.heap.size, 5, none⟩ = some (.int .i64 (A5 : Int)) := cell_of_row _ _ 5 _ _ _ hrow
        have HT := Lib.hid (T.below HBEL.out)
        have HD := Lib.hid (Days_any (A0 : Int) (A1 : Int) (A2 : Int) wr HT.out)
        clear hlt hk hrow
        by_cases hd : isDay (A0 : Int) (A1 : Int) (A2 : Int)
        case neg =>
          rw [dayN_no hd, decide_eq_false hd] at HD
          have hno : ¬ secOk s.data.toList := fun h => hd (HOK.out.1 h).1
          have HF := Lib.hid (secN_no hno)
          have HF2 := Lib.hid (decide_eq_false hno)
          clear hno hd
          go_wp2_with fail
          refine HD.out.mono ?_
          rintro e w3 ⟨rfl, rfl⟩
          go_wp2_with (go_quiet (fail))
          go_ret2
          exact ⟨by rw [HF.out, HF2.out]; rfl, below_drewN HBEL.out _⟩
        case pos =>
          have hdb := day0_bd hd
          rw [dayN_yes hd, decide_eq_true hd] at HD
          have HDD := Lib.hid hd
          obtain ⟨D, hD⟩ : ∃ D, day0 (A0 : Int) (A1 : Int) (A2 : Int) = D := ⟨_, rfl⟩
          rw [hD] at HD HV hdb
          clear hd hD
          by_cases h23 : (23 : Int) < (A3 : Int)
          case pos =>
            have t2 : decide ((23 : Int) < (A3 : Int)) = true := decide_eq_true h23
            have hno : ¬ secOk s.data.toList := fun h => by have := (HOK.out.1 h).2.1; omega
            have HF := Lib.hid (secN_no hno)
            have HF2 := Lib.hid (decide_eq_false hno)
            clear hno h23
            go_wp2_with fail
            refine HD.out.mono ?_
            rintro e w3 ⟨rfl, rfl⟩
            go_wp2_with (go_quiet (fail))
            go_ret2
            exact ⟨by rw [HF.out, HF2.out]; rfl, below_drewN HBEL.out _⟩
          have t2 : decide ((23 : Int) < (A3 : Int)) = false := decide_eq_false h23
          by_cases h59 : (59 : Int) < (A4 : Int)
          case pos =>
            have t3 : decide ((59 : Int) < (A4 : Int)) = true := decide_eq_true h59
            have hno : ¬ secOk s.data.toList := fun h => by have := (HOK.out.1 h).2.2.1; omega
            have HF := Lib.hid (secN_no hno)
            have HF2 := Lib.hid (decide_eq_false hno)
            clear hno h23 h59
            go_wp2_with fail
            refine HD.out.mono ?_
            rintro e w3 ⟨rfl, rfl⟩
            go_wp2_with (go_quiet (fail))
            go_ret2
            exact ⟨by rw [HF.out, HF2.out]; rfl, below_drewN HBEL.out _⟩
          have t3 : decide ((59 : Int) < (A4 : Int)) = false := decide_eq_false h59
          by_cases h60 : (59 : Int) < (A5 : Int)
          case pos =>
            have t4 : decide ((59 : Int) < (A5 : Int)) = true := decide_eq_true h60
            have hno : ¬ secOk s.data.toList := fun h => by have := (HOK.out.1 h).2.2.2; omega
            have HF := Lib.hid (secN_no hno)
            have HF2 := Lib.hid (decide_eq_false hno)
            clear hno h23 h59 h60
            go_wp2_with fail
            refine HD.out.mono ?_
            rintro e w3 ⟨rfl, rfl⟩
            go_wp2_with (go_quiet (fail))
            go_ret2
            exact ⟨by rw [HF.out, HF2.out]; rfl, below_drewN HBEL.out _⟩
          have t4 : decide ((59 : Int) < (A5 : Int)) = false := decide_eq_false h60
          have hyes : secOk s.data.toList := HOK.out.2 ⟨HDD.out, by omega, by omega, by omega⟩
          have HF := Lib.hid (secN_yes hyes)
          have HF2 := Lib.hid (decide_eq_true hyes)
          clear hyes h23 h59 h60
          go_wp2_with fail
          refine HD.out.mono ?_
          rintro e w3 ⟨rfl, rfl⟩
          go_wp2_with (go_quiet (fail))
          go_ret2
          exact ⟨by rw [HF.out, HF2.out, HV.out]; rfl, below_drewN HBEL.out _⟩
end Go.Proofs.YtfedidiieacakaaDoor.St
namespace Go.Proofs.YtfedidiieacakaaDoor.St
open Go.RowKit
open Go.Proofs.YtfedidiieacakaaDoor.Utf
open Go.Proofs.YtfedidiieacakaaDoor.Nu

set_option maxRecDepth 100000 in
set_option maxHeartbeats 1000000 in
theorem stIs_any (s : ByteArray) (w : World) (T : Tab w) (hs : s.size ≤ 9223372036854775807) : Calls Tryd.prog 12 #[.string s] w (Gives (.bool (decide (secOk s.data.toList))) w) := by
  have CS := Lib.hid (Seconds_any s w T hs)
  generalize decide (secOk s.data.toList) = B at *
  generalize secN s.data.toList = X at *
  go_enter Tryd.func12, Tryd.ntmps12
  go_wp2_with fail
  refine CS.out.mono ?_
  rintro e w1 ⟨rfl, hb1⟩
  have HB1 := Lib.hid hb1
  clear hb1
  go_wp2_with fail
  go_ret
  exact ⟨rfl, HB1.out⟩

set_option maxRecDepth 100000 in
set_option maxHeartbeats 1000000 in
theorem stCompare_any (a b : ByteArray) (w : World) (T : Tab w) (ha : a.size ≤ 9223372036854775807) (hb : b.size ≤ 9223372036854775807) :
    Calls Tryd.prog 17 #[.string a, .string b] w (Gives (.int .i64 (cmpS a.data.toList b.data.toList)) w) := by
  have CA := Lib.hid (fun wx (h : Tab wx) => stIs_any a wx h ha)
  have CB := Lib.hid (fun wx (h : Tab wx) => stIs_any b wx h hb)
  by_cases h1 : secOk a.data.toList
  · rw [decide_eq_true h1] at CA
    by_cases h2 : secOk b.data.toList
    · rw [decide_eq_true h2] at CB
      have HR := Lib.hid (show cmpS a.data.toList b.data.toList = Lib.compareBytes (noZ a.data.toList) (noZ b.data.toList) by unfold cmpS; rw [if_pos h1, if_pos h2])
      have la : 19 ≤ a.size := frm_len h1.1
      have lb : 19 ≤ b.size := frm_len h2.1
      obtain ⟨p, hp⟩ : ∃ p : Nat, a.size = p + 1 := ⟨a.size - 1, by omega⟩
      obtain ⟨q, hq⟩ : ∃ q : Nat, b.size = q + 1 := ⟨b.size - 1, by omega⟩
      have HX := Lib.hid (fun wx => sCompare_any (a.extract 0 p) (b.extract 0 q) wx)
      rw [exT, exT] at HX
      have na : noZ a.data.toList = a.data.toList.take p := by unfold noZ; rw [len_data, hp, Nat.add_sub_cancel]
      have nb : noZ b.data.toList = b.data.toList.take q := by unfold noZ; rw [len_data, hq, Nat.add_sub_cancel]
      rw [← na, ← nb] at HX
      have hpi : (a.size : Int) = (p : Int) + 1 := by omega
      have hqi : (b.size : Int) = (q : Int) + 1 := by omega
      have p0 : (0 : Int) ≤ (p : Int) := by omega
      have q0 : (0 : Int) ≤ (q : Int) := by omega
      have p1 : (p : Int) ≤ (p : Int) + 1 := by omega
      have q1 : (q : Int) ≤ (q : Int) + 1 := by omega
      have p2 : (p : Int) ≤ (a.size : Int) := by omega
      have q2 : (q : Int) ≤ (b.size : Int) := by omega
      clear h1 h2 la lb na nb
      go_enter Tryd.func17, Tryd.ntmps17
      go_wp2_with fail
      refine (CA.out _ T).mono ?_
      rintro e w1 ⟨rfl, hb1⟩
      have HB1 := Lib.hid hb1
      have HT1 := Lib.hid (T.below hb1)
      clear hb1
      go_wp2_with fail
      refine (CB.out _ HT1.out).mono ?_
      rintro e w2 ⟨rfl, hb2⟩
      have HB2 := Lib.hid (HB1.out.trans (hb2.mono HB1.out.size))
      clear hb2
      go_wp2_with (go_quiet ((go_at_call 28; refine Calls.quiet_of_same ((HX.out _).mono fun e w' h => ⟨h.1, h.2.symm⟩))))
      go_ret
      exact ⟨by rw [HR.out]; rfl, below_drewN HB2.out _⟩
    · rw [decide_eq_false h2] at CB
      have HR := Lib.hid (show cmpS a.data.toList b.data.toList = 1 by unfold cmpS; rw [if_pos h1, if_neg h2])
      clear h1 h2
      go_enter Tryd.func17, Tryd.ntmps17
      go_wp2_with fail
      refine (CA.out _ T).mono ?_
      rintro e w1 ⟨rfl, hb1⟩
      have HB1 := Lib.hid hb1
      have HT1 := Lib.hid (T.below hb1)
      clear hb1
      go_wp2_with fail
      refine (CB.out _ HT1.out).mono ?_
      rintro e w2 ⟨rfl, hb2⟩
      have HB2 := Lib.hid (HB1.out.trans (hb2.mono HB1.out.size))
      clear hb2
      go_wp2_with fail
      go_ret
      exact ⟨by rw [HR.out]; rfl, HB2.out⟩
  · rw [decide_eq_false h1] at CA
    by_cases h2 : secOk b.data.toList
    · rw [decide_eq_true h2] at CB
      have HR := Lib.hid (show cmpS a.data.toList b.data.toList = -1 by unfold cmpS; rw [if_neg h1, if_pos h2])
      clear h1 h2
      go_enter Tryd.func17, Tryd.ntmps17
      go_wp2_with fail
      refine (CA.out _ T).mono ?_
      rintro e w1 ⟨rfl, hb1⟩
      have HB1 := Lib.hid hb1
      have HT1 := Lib.hid (T.below hb1)
      clear hb1
      go_wp2_with fail
      refine (CB.out _ HT1.out).mono ?_
      rintro e w2 ⟨rfl, hb2⟩
      have HB2 := Lib.hid (HB1.out.trans (hb2.mono HB1.out.size))
      clear hb2
      go_wp2_with fail
      go_ret
      exact ⟨by rw [HR.out]; rfl, HB2.out⟩
    · rw [decide_eq_false h2] at CB
      have HR := Lib.hid (show cmpS a.data.toList b.data.toList = Lib.compareBytes a.data.toList b.data.toList by unfold cmpS; rw [if_neg h1, if_neg h2])
      have HX := Lib.hid (fun wx => sCompare_any a b wx)
      clear h1 h2
      go_enter Tryd.func17, Tryd.ntmps17
      go_wp2_with fail
      refine (CA.out _ T).mono ?_
      rintro e w1 ⟨rfl, hb1⟩
      have HB1 := Lib.hid hb1
      have HT1 := Lib.hid (T.below hb1)
      clear hb1
      go_wp2_with fail
      refine (CB.out _ HT1.out).mono ?_
      rintro e w2 ⟨rfl, hb2⟩
      have HB2 := Lib.hid (HB1.out.trans (hb2.mono HB1.out.size))
      clear hb2
      go_wp2_with fail
      refine (HX.out _).mono ?_
      rintro e w3 ⟨rfl, rfl⟩
      go_wp2_with fail
      go_ret
      exact ⟨by rw [HR.out]; rfl, HB2.out⟩
end Go.Proofs.YtfedidiieacakaaDoor.St
namespace Go.Proofs.YtfedidiieacakaaDoor.St
open Go.RowKit
open Go.Proofs.YtfedidiieacakaaDoor.Utf
open Go.Proofs.YtfedidiieacakaaDoor.Nu

theorem rnum_lo (l : List UInt8) (p k : Nat) : -1 ≤ rnumS l p k := by unfold rnumS; split <;> omega
theorem rnum_ge {l : List UInt8} {p k : Nat} (h : 0 ≤ rnumS l p k) : digsK l p k = true ∧ rnumS l p k = (accD l p k : Nat) := by
  unfold rnumS at *
  split
  · rename_i h2
    exact ⟨h2, rfl⟩
  · rename_i h2
    rw [if_neg h2] at h; omega
theorem secOk_iff {l : List UInt8} (hl : 20 ≤ l.length) (hsep : byt l 4 = 45 ∧ byt l 7 = 45 ∧ byt l 10 = 84 ∧ byt l 13 = 58 ∧ byt l 16 = 58) (hz : byt l (l.length - 1) = 90) :
    secOk l ↔ (isDay (rnumS l 0 4) (rnumS l 5 2) (rnumS l 8 2) ∧ (0 ≤ rnumS l 11 2 ∧ rnumS l 11 2 ≤ 23) ∧ (0 ≤ rnumS l 14 2 ∧ rnumS l 14 2 ≤ 59) ∧ (0 ≤ rnumS l 17 2 ∧ rnumS l 17 2 ≤ 59)) ∧ (l.length = 20 ∨ (byt l 19 = 46 ∧ 22 ≤ l.length ∧ l.length ≤ 30 ∧ 0 ≤ rnumS l 20 (l.length - 21) ∧ byt l (l.length - 2) ≠ 48)) := by
  constructor
  · intro h
    obtain ⟨h0, h5, h8, h11, h14, h17⟩ := frm_digs h.1
    obtain ⟨hf, he, hd, a, b, c⟩ := h
    rw [rnum_yes h0, rnum_yes h5, rnum_yes h8, rnum_yes h11, rnum_yes h14, rnum_yes h17]
    refine ⟨⟨hd, ⟨by omega, by omega⟩, ⟨by omega, by omega⟩, ⟨by omega, by omega⟩⟩, ?_⟩
    rcases of_decide_eq_true he with ⟨h1, _⟩ | ⟨h1, h2, h3, _, h5', h6⟩
    · exact .inl h1
    · refine .inr ⟨h3, h1, h2, ?_, h5'⟩
      rw [show l.length - 21 = l.length - (19 + 2) by omega, rnum_yes h6]
      omega
  · rintro ⟨⟨hd, ⟨a0, a⟩, ⟨b0, b⟩, ⟨c0, c⟩⟩, ht⟩
    obtain ⟨d0, e0⟩ := rnum_ge hd.1
    obtain ⟨d5, e5⟩ := rnum_ge (show 0 ≤ rnumS l 5 2 by have := hd.2.2.1; omega)
    obtain ⟨d8, e8⟩ := rnum_ge (show 0 ≤ rnumS l 8 2 by have := hd.2.2.2.2.1; omega)
    obtain ⟨d11, e11⟩ := rnum_ge a0
    obtain ⟨d14, e14⟩ := rnum_ge b0
    obtain ⟨d17, e17⟩ := rnum_ge c0
    refine ⟨(frm_iff (by omega)).2 ⟨hsep, d0, d5, d8, d11, d14, d17⟩, decide_eq_true ?_, by rw [← e0, ← e5, ← e8]; exact hd, by omega, by omega, by omega⟩
    rcases ht with ht | ⟨h3, h1, h2, h4, h5⟩
    · exact .inl ⟨ht, by rw [ht] at hz; exact hz⟩
    · exact .inr ⟨h1, h2, h3, hz, h5, by rw [show l.length - (19 + 2) = l.length - 21 by omega]; exact (rnum_ge h4).1⟩
theorem secV_r {l : List UInt8} (h : secOk l) : secV l = (day0 (rnumS l 0 4) (rnumS l 5 2) (rnumS l 8 2) - 719528) * 86400 + rnumS l 11 2 * 3600 + rnumS l 14 2 * 60 + rnumS l 17 2 := by
  obtain ⟨h0, h5, h8, h11, h14, h17⟩ := frm_digs h.1
  rw [rnum_yes h0, rnum_yes h5, rnum_yes h8, rnum_yes h11, rnum_yes h14, rnum_yes h17]
  unfold secV
  omega
theorem sec_sep {l : List UInt8} (h : secOk l) : byt l 4 = 45 ∧ byt l 7 = 45 ∧ byt l 10 = 84 ∧ byt l 13 = 58 ∧ byt l 16 = 58 := ((frm_iff (frm_len h.1)).1 h.1).1
theorem sec_len {l : List UInt8} (h : secOk l) : 20 ≤ l.length := by
  rcases (endP_yes h.2.1).1 with h1 | h1 <;> omega

set_option maxRecDepth 100000 in
set_option maxHeartbeats 4000000 in
theorem rSeconds_any (s : ByteArray) (w : World) (hs : s.size ≤ 9223372036854775807) : Calls Tryd.prog 10 #[.string s] w (GivesD (secN s.data.toList) (decide (secOk s.data.toList)) w) := by
  have hl : s.data.toList.length = s.size := rfl
  have HNO := Lib.hid (fun h => secN_no (l := s.data.toList) h)
  by_cases c0 : s.size < 20
  case pos =>
    have hno : ¬ secOk s.data.toList := fun h => by have := sec_len h; omega
    have HF := Lib.hid (HNO.out hno)
    have HF2 := Lib.hid (decide_eq_false hno)
    have t : decide ((s.size : Int) < 20) = true := decide_eq_true (by omega)
    clear hno c0 hl
    go_enter Tryd.func10, Tryd.ntmps10
    go_wp2_with fail
    go_ret2
    exact ⟨by rw [HF.out, HF2.out]; rfl, by trivial⟩
  have t0 : decide ((s.size : Int) < 20) = false := decide_eq_false (by omega)
  have ok := secOk_iff (l := s.data.toList) (by omega)
  rw [hl] at ok
  have k4 : 4 < s.size := by omega
  have i4 : (4 : Int) < (s.size : Int) := by omega
  have g4 := byt_get s 4 k4
  by_cases c4 : ¬ byt s.data.toList 4 = 45
  case pos =>
    have hno : ¬ secOk s.data.toList := fun h => c4 (by have h := sec_sep h; exact h.1)
    have HF := Lib.hid (HNO.out hno)
    have HF2 := Lib.hid (decide_eq_false hno)
    have t : ((s[4].toNat : Int) != 45) = true := by rw [bne_iff_ne, ← g4]; exact c4
    clear g4
    clear hno c4 c0 ok hl
    go_enter Tryd.func10, Tryd.ntmps10
    go_wp2_with fail
    go_ret2
    exact ⟨by rw [HF.out, HF2.out]; rfl, by trivial⟩
  have t4 : ((s[4].toNat : Int) != 45) = false := by rw [bne_eq_false_iff_eq, ← g4]; exact Classical.not_not.1 c4
  replace c4 := Classical.not_not.1 c4
  clear g4
  have k7 : 7 < s.size := by omega
  have i7 : (7 : Int) < (s.size : Int) := by omega
  have g7 := byt_get s 7 k7
  by_cases c7 : ¬ byt s.data.toList 7 = 45
  case pos =>
    have hno : ¬ secOk s.data.toList := fun h => c7 (by have h := sec_sep h; exact h.2.1)
    have HF := Lib.hid (HNO.out hno)
    have HF2 := Lib.hid (decide_eq_false hno)
    have t : ((s[7].toNat : Int) != 45) = true := by rw [bne_iff_ne, ← g7]; exact c7
    clear g7
    clear hno c7 c0 ok hl c4
    go_enter Tryd.func10, Tryd.ntmps10
    go_wp2_with fail
    go_ret2
    exact ⟨by rw [HF.out, HF2.out]; rfl, by trivial⟩
  have t7 : ((s[7].toNat : Int) != 45) = false := by rw [bne_eq_false_iff_eq, ← g7]; exact Classical.not_not.1 c7
  replace c7 := Classical.not_not.1 c7
  clear g7
  have k10 : 10 < s.size := by omega
  have i10 : (10 : Int) < (s.size : Int) := by omega
  have g10 := byt_get s 10 k10
  by_cases c10 : ¬ byt s.data.toList 10 = 84
  case pos =>
    have hno : ¬ secOk s.data.toList := fun h => c10 (by have h := sec_sep h; exact h.2.2.1)
    have HF := Lib.hid (HNO.out hno)
    have HF2 := Lib.hid (decide_eq_false hno)
    have t : ((s[10].toNat : Int) != 84) = true := by rw [bne_iff_ne, ← g10]; exact c10
    clear g10
    clear hno c10 c0 ok hl c4 c7
    go_enter Tryd.func10, Tryd.ntmps10
    go_wp2_with fail
    go_ret2
    exact ⟨by rw [HF.out, HF2.out]; rfl, by trivial⟩
  have t10 : ((s[10].toNat : Int) != 84) = false := by rw [bne_eq_false_iff_eq, ← g10]; exact Classical.not_not.1 c10
  replace c10 := Classical.not_not.1 c10
  clear g10
  have k13 : 13 < s.size := by omega
  have i13 : (13 : Int) < (s.size : Int) := by omega
  have g13 := byt_get s 13 k13
  by_cases c13 : ¬ byt s.data.toList 13 = 58
  case pos =>
    have hno : ¬ secOk s.data.toList := fun h => c13 (by have h := sec_sep h; exact h.2.2.2.1)
    have HF := Lib.hid (HNO.out hno)
    have HF2 := Lib.hid (decide_eq_false hno)
    have t : ((s[13].toNat : Int) != 58) = true := by rw [bne_iff_ne, ← g13]; exact c13
    clear g13
    clear hno c13 c0 ok hl c4 c7 c10
    go_enter Tryd.func10, Tryd.ntmps10
    go_wp2_with fail
    go_ret2
    exact ⟨by rw [HF.out, HF2.out]; rfl, by trivial⟩
  have t13 : ((s[13].toNat : Int) != 58) = false := by rw [bne_eq_false_iff_eq, ← g13]; exact Classical.not_not.1 c13
  replace c13 := Classical.not_not.1 c13
  clear g13
  have k16 : 16 < s.size := by omega
  have i16 : (16 : Int) < (s.size : Int) := by omega
  have g16 := byt_get s 16 k16
  by_cases c16 : ¬ byt s.data.toList 16 = 58
  case pos =>
    have hno : ¬ secOk s.data.toList := fun h => c16 (by have h := sec_sep h; exact h.2.2.2.2)
    have HF := Lib.hid (HNO.out hno)
    have HF2 := Lib.hid (decide_eq_false hno)
    have t : ((s[16].toNat : Int) != 58) = true := by rw [bne_iff_ne, ← g16]; exact c16
    clear g16
    clear hno c16 c0 ok hl c4 c7 c10 c13
    go_enter Tryd.func10, Tryd.ntmps10
    go_wp2_with fail
    go_ret2
    exact ⟨by rw [HF.out, HF2.out]; rfl, by trivial⟩
  have t16 : ((s[16].toNat : Int) != 58) = false := by rw [bne_eq_false_iff_eq, ← g16]; exact Classical.not_not.1 c16
  replace c16 := Classical.not_not.1 c16
  clear g16
  obtain ⟨p, hp⟩ : ∃ p : Nat, (s.size : Int) - 1 = p := ⟨s.size - 1, by omega⟩
  have hp2 : s.size - 1 = p := by omega
  have kp : p < s.size := by omega
  have ip : (p : Int) < (s.size : Int) := by omega
  have ip0 : (0 : Int) ≤ (p : Int) := by omega
  have gp := byt_get s p kp
  by_cases cz : ¬ byt s.data.toList p = 90
  case pos =>
    have hno : ¬ secOk s.data.toList := fun h => cz (by have := (endP_yes h.2.1).2.2; rw [hl, hp2] at this; exact this)
    have HF := Lib.hid (HNO.out hno)
    have HF2 := Lib.hid (decide_eq_false hno)
    have t : ((s[p].toNat : Int) != 90) = true := by rw [bne_iff_ne, ← gp]; exact cz
    clear gp
    clear hno cz c0 ok hl c4 c7 c10 c13 c16 hp2
    go_enter Tryd.func10, Tryd.ntmps10
    go_wp2_with fail
    go_ret2
    exact ⟨by rw [HF.out, HF2.out]; rfl, by trivial⟩
  have tp : ((s[p].toNat : Int) != 90) = false := by rw [bne_eq_false_iff_eq, ← gp]; exact Classical.not_not.1 cz
  replace cz := Classical.not_not.1 cz
  clear gp
  have OK := Lib.hid (ok ⟨c4, c7, c10, c13, c16⟩ (by rw [hp2]; exact cz))
  have HV := Lib.hid (fun h => secV_r (l := s.data.toList) h)
  have HY := Lib.hid (fun h => secN_yes (l := s.data.toList) h)
  clear ok c4 c7 c10 c13 c16 cz hp2 hl
  have N1 := Lib.hid (fun wx => rnum_any s 11 2 wx hs (by omega) (by omega))
  have N2 := Lib.hid (fun wx => rnum_any s 14 2 wx hs (by omega) (by omega))
  have N3 := Lib.hid (fun wx => rnum_any s 17 2 wx hs (by omega) (by omega))
  have N4 := Lib.hid (fun wx => rnum_any s 0 4 wx hs (by omega) (by omega))
  have N5 := Lib.hid (fun wx => rnum_any s 5 2 wx hs (by omega) (by omega))
  have N6 := Lib.hid (fun wx => rnum_any s 8 2 wx hs (by omega) (by omega))
  have ND := Lib.hid (fun wx => rDays_any (rnumS s.data.toList 0 4) (rnumS s.data.toList 5 2) (rnumS s.data.toList 8 2) wx)
  have bH := rnum_lo s.data.toList 11 2
  have bI := rnum_lo s.data.toList 14 2
  have bS := rnum_lo s.data.toList 17 2
  obtain ⟨Y, hY⟩ : ∃ Y, rnumS s.data.toList 0 4 = Y := ⟨_, rfl⟩
  obtain ⟨M, hM⟩ : ∃ M, rnumS s.data.toList 5 2 = M := ⟨_, rfl⟩
  obtain ⟨D, hD⟩ : ∃ D, rnumS s.data.toList 8 2 = D := ⟨_, rfl⟩
  obtain ⟨H, hH⟩ : ∃ H, rnumS s.data.toList 11 2 = H := ⟨_, rfl⟩
  obtain ⟨I, hI⟩ : ∃ I, rnumS s.data.toList 14 2 = I := ⟨_, rfl⟩
  obtain ⟨S, hS⟩ : ∃ S, rnumS s.data.toList 17 2 = S := ⟨_, rfl⟩
  rw [hY, hM, hD, hH, hI, hS] at OK HV
  rw [hY, hM, hD] at ND
  rw [hY] at N4
  rw [hM] at N5
  rw [hD] at N6
  rw [hH] at N1 bH
  rw [hI] at N2 bI
  rw [hS] at N3 bS
  clear hY hM hD hH hI hS
  by_cases cd : ¬ isDay Y M D
  case pos =>
    have hno : ¬ secOk s.data.toList := fun h => cd (OK.out.1 h).1.1
    have HF := Lib.hid (HNO.out hno)
    have HF2 := Lib.hid (decide_eq_false hno)
    rw [dayN_no cd, decide_eq_false cd] at ND
    clear hno cd c0
    go_enter Tryd.func10, Tryd.ntmps10
    go_wp2_with fail
    refine (N1.out _).mono ?_
    rintro e w1 ⟨rfl, rfl⟩
    go_wp2_with fail
    refine (N2.out _).mono ?_
    rintro e w1 ⟨rfl, rfl⟩
    go_wp2_with fail
    refine (N3.out _).mono ?_
    rintro e w1 ⟨rfl, rfl⟩
    go_wp2_with fail
    refine (N4.out _).mono ?_
    rintro e w1 ⟨rfl, rfl⟩
    go_wp2_with fail
    refine (N5.out _).mono ?_
    rintro e w1 ⟨rfl, rfl⟩
    go_wp2_with fail
    refine (N6.out _).mono ?_
    rintro e w1 ⟨rfl, rfl⟩
    go_wp2_with fail
    refine (ND.out _).mono ?_
    rintro e w1 ⟨rfl, rfl⟩
    go_wp2_with fail
    go_ret2
    exact ⟨by rw [HF.out, HF2.out]; rfl, by trivial⟩
  replace cd := Classical.not_not.1 cd
  rw [dayN_yes cd, decide_eq_true cd] at ND
  have bD := day0_bd cd
  have CD := Lib.hid cd
  clear cd
  obtain ⟨G, hG⟩ : ∃ G, day0 Y M D = G := ⟨_, rfl⟩
  rw [hG] at ND HV bD
  clear hG
  by_cases ch : H < 0
  case pos =>
    have hno : ¬ secOk s.data.toList := fun h => by have := (OK.out.1 h).1.2.1.1; omega
    have HF := Lib.hid (HNO.out hno)
    have HF2 := Lib.hid (decide_eq_false hno)
    have t : decide (H < 0) = true := decide_eq_true ch
    clear hno ch c0
    go_enter Tryd.func10, Tryd.ntmps10
    go_wp2_with fail
    refine (N1.out _).mono ?_
    rintro e w1 ⟨rfl, rfl⟩
    go_wp2_with fail
    refine (N2.out _).mono ?_
    rintro e w1 ⟨rfl, rfl⟩
    go_wp2_with fail
    refine (N3.out _).mono ?_
    rintro e w1 ⟨rfl, rfl⟩
    go_wp2_with fail
    refine (N4.out _).mono ?_
    rintro e w1 ⟨rfl, rfl⟩
    go_wp2_with fail
    refine (N5.out _).mono ?_
    rintro e w1 ⟨rfl, rfl⟩
    go_wp2_with fail
    refine (N6.out _).mono ?_
    rintro e w1 ⟨rfl, rfl⟩
    go_wp2_with fail
    refine (ND.out _).mono ?_
    rintro e w1 ⟨rfl, rfl⟩
    go_wp2_with fail
    go_ret2
    exact ⟨by rw [HF.out, HF2.out]; rfl, by trivial⟩
  have tch : decide (H < 0) = false := decide_eq_false ch
  by_cases ch2 : 23 < H
  case pos =>
    have hno : ¬ secOk s.data.toList := fun h => by have := (OK.out.1 h).1.2.1.2; omega
    have HF := Lib.hid (HNO.out hno)
    have HF2 := Lib.hid (decide_eq_false hno)
    have t : decide (23 < H) = true := decide_eq_true ch2
    clear hno ch2 c0 ch
    go_enter Tryd.func10, Tryd.ntmps10
    go_wp2_with fail
    refine (N1.out _).mono ?_
    rintro e w1 ⟨rfl, rfl⟩
    go_wp2_with fail
    refine (N2.out _).mono ?_
    rintro e w1 ⟨rfl, rfl⟩
    go_wp2_with fail
    refine (N3.out _).mono ?_
    rintro e w1 ⟨rfl, rfl⟩
    go_wp2_with fail
    refine (N4.out _).mono ?_
    rintro e w1 ⟨rfl, rfl⟩
    go_wp2_with fail
    refine (N5.out _).mono ?_
    rintro e w1 ⟨rfl, rfl⟩
    go_wp2_with fail
    refine (N6.out _).mono ?_
    rintro e w1 ⟨rfl, rfl⟩
    go_wp2_with fail
    refine (ND.out _).mono ?_
    rintro e w1 ⟨rfl, rfl⟩
    go_wp2_with fail
    go_ret2
    exact ⟨by rw [HF.out, HF2.out]; rfl, by trivial⟩
  have tch2 : decide (23 < H) = false := decide_eq_false ch2
  by_cases ci : I < 0
  case pos =>
    have hno : ¬ secOk s.data.toList := fun h => by have := (OK.out.1 h).1.2.2.1.1; omega
    have HF := Lib.hid (HNO.out hno)
    have HF2 := Lib.hid (decide_eq_false hno)
    have t : decide (I < 0) = true := decide_eq_true ci
    clear hno ci c0 ch ch2
    go_enter Tryd.func10, Tryd.ntmps10
    go_wp2_with fail
    refine (N1.out _).mono ?_
    rintro e w1 ⟨rfl, rfl⟩
    go_wp2_with fail
    refine (N2.out _).mono ?_
    rintro e w1 ⟨rfl, rfl⟩
    go_wp2_with fail
    refine (N3.out _).mono ?_
    rintro e w1 ⟨rfl, rfl⟩
    go_wp2_with fail
    refine (N4.out _).mono ?_
    rintro e w1 ⟨rfl, rfl⟩
    go_wp2_with fail
    refine (N5.out _).mono ?_
    rintro e w1 ⟨rfl, rfl⟩
    go_wp2_with fail
    refine (N6.out _).mono ?_
    rintro e w1 ⟨rfl, rfl⟩
    go_wp2_with fail
    refine (ND.out _).mono ?_
    rintro e w1 ⟨rfl, rfl⟩
    go_wp2_with fail
    go_ret2
    exact ⟨by rw [HF.out, HF2.out]; rfl, by trivial⟩
  have tci : decide (I < 0) = false := decide_eq_false ci
  by_cases ci2 : 59 < I
  case pos =>
    have hno : ¬ secOk s.data.toList := fun h => by have := (OK.out.1 h).1.2.2.1.2; omega
    have HF := Lib.hid (HNO.out hno)
    have HF2 := Lib.hid (decide_eq_false hno)
    have t : decide (59 < I) = true := decide_eq_true ci2
    clear hno ci2 c0 ch ch2 ci
    go_enter Tryd.func10, Tryd.ntmps10
    go_wp2_with fail
    refine (N1.out _).mono ?_
    rintro e w1 ⟨rfl, rfl⟩
    go_wp2_with fail
    refine (N2.out _).mono ?_
    rintro e w1 ⟨rfl, rfl⟩
    go_wp2_with fail
    refine (N3.out _).mono ?_
    rintro e w1 ⟨rfl, rfl⟩
    go_wp2_with fail
    refine (N4.out _).mono ?_
    rintro e w1 ⟨rfl, rfl⟩
    go_wp2_with fail
    refine (N5.out _).mono ?_
    rintro e w1 ⟨rfl, rfl⟩
    go_wp2_with fail
    refine (N6.out _).mono ?_
    rintro e w1 ⟨rfl, rfl⟩
    go_wp2_with fail
    refine (ND.out _).mono ?_
    rintro e w1 ⟨rfl, rfl⟩
    go_wp2_with fail
    go_ret2
    exact ⟨by rw [HF.out, HF2.out]; rfl, by trivial⟩
  have tci2 : decide (59 < I) = false := decide_eq_false ci2
  by_cases cs : S < 0
  case pos =>
    have hno : ¬ secOk s.data.toList := fun h => by have := (OK.out.1 h).1.2.2.2.1; omega
    have HF := Lib.hid (HNO.out hno)
    have HF2 := Lib.hid (decide_eq_false hno)
    have t : decide (S < 0) = true := decide_eq_true cs
    clear hno cs c0 ch ch2 ci ci2
    go_enter Tryd.func10, Tryd.ntmps10
    go_wp2_with fail
    refine (N1.out _).mono ?_
    rintro e w1 ⟨rfl, rfl⟩
    go_wp2_with fail
    refine (N2.out _).mono ?_
    rintro e w1 ⟨rfl, rfl⟩
    go_wp2_with fail
    refine (N3.out _).mono ?_
    rintro e w1 ⟨rfl, rfl⟩
    go_wp2_with fail
    refine (N4.out _).mono ?_
    rintro e w1 ⟨rfl, rfl⟩
    go_wp2_with fail
    refine (N5.out _).mono ?_
    rintro e w1 ⟨rfl, rfl⟩
    go_wp2_with fail
    refine (N6.out _).mono ?_
    rintro e w1 ⟨rfl, rfl⟩
    go_wp2_with fail
    refine (ND.out _).mono ?_
    rintro e w1 ⟨rfl, rfl⟩
    go_wp2_with fail
    go_ret2
    exact ⟨by rw [HF.out, HF2.out]; rfl, by trivial⟩
  have tcs : decide (S < 0) = false := decide_eq_false cs
  by_cases cs2 : 59 < S
  case pos =>
    have hno : ¬ secOk s.data.toList := fun h => by have := (OK.out.1 h).1.2.2.2.2; omega
    have HF := Lib.hid (HNO.out hno)
    have HF2 := Lib.hid (decide_eq_false hno)
    have t : decide (59 < S) = true := decide_eq_true cs2
    clear hno cs2 c0 ch ch2 ci ci2 cs
    go_enter Tryd.func10, Tryd.ntmps10
    go_wp2_with fail
    refine (N1.out _).mono ?_
    rintro e w1 ⟨rfl, rfl⟩
    go_wp2_with fail
    refine (N2.out _).mono ?_
    rintro e w1 ⟨rfl, rfl⟩
    go_wp2_with fail
    refine (N3.out _).mono ?_
    rintro e w1 ⟨rfl, rfl⟩
    go_wp2_with fail
    refine (N4.out _).mono ?_
    rintro e w1 ⟨rfl, rfl⟩
    go_wp2_with fail
    refine (N5.out _).mono ?_
    rintro e w1 ⟨rfl, rfl⟩
    go_wp2_with fail
    refine (N6.out _).mono ?_
    rintro e w1 ⟨rfl, rfl⟩
    go_wp2_with fail
    refine (ND.out _).mono ?_
    rintro e w1 ⟨rfl, rfl⟩
    go_wp2_with fail
    go_ret2
    exact ⟨by rw [HF.out, HF2.out]; rfl, by trivial⟩
  have tcs2 : decide (59 < S) = false := decide_eq_false cs2
  by_cases c20 : s.size = 20
  case pos =>
    have t : decide ((20 : Int) < (s.size : Int)) = false := decide_eq_false (by omega)
    have hyes : secOk s.data.toList := OK.out.2 ⟨⟨CD.out, ⟨by omega, by omega⟩, ⟨by omega, by omega⟩, ⟨by omega, by omega⟩⟩, .inl c20⟩
    have HF := Lib.hid (HY.out hyes)
    have HF2 := Lib.hid (decide_eq_true hyes)
    have HF3 := Lib.hid (HV.out hyes)
    clear hyes c20
    have b1 : 0 ≤ H ∧ H ≤ 23 := by omega
    have b2 : 0 ≤ I ∧ I ≤ 59 := by omega
    have b3 : 0 ≤ S ∧ S ≤ 59 := by omega
    clear c0 ch ch2 ci ci2 cs cs2
    go_enter Tryd.func10, Tryd.ntmps10
    go_wp2_with fail
    refine (N1.out _).mono ?_
    rintro e w1 ⟨rfl, rfl⟩
    go_wp2_with fail
    refine (N2.out _).mono ?_
    rintro e w1 ⟨rfl, rfl⟩
    go_wp2_with fail
    refine (N3.out _).mono ?_
    rintro e w1 ⟨rfl, rfl⟩
    go_wp2_with fail
    refine (N4.out _).mono ?_
    rintro e w1 ⟨rfl, rfl⟩
    go_wp2_with fail
    refine (N5.out _).mono ?_
    rintro e w1 ⟨rfl, rfl⟩
    go_wp2_with fail
    refine (N6.out _).mono ?_
    rintro e w1 ⟨rfl, rfl⟩
    go_wp2_with fail
    refine (ND.out _).mono ?_
    rintro e w1 ⟨rfl, rfl⟩
    go_wp2_with fail
    go_ret2
    exact ⟨by rw [HF.out, HF2.out, HF3.out]; rfl, by trivial⟩
  have t20 : decide ((20 : Int) < (s.size : Int)) = true := decide_eq_true (by omega)
  obtain ⟨K, hK⟩ : ∃ K : Nat, (s.size : Int) - 21 = K := ⟨s.size - 21, by omega⟩
  have hK2 : s.size = K + 21 := by omega
  obtain ⟨r, hr⟩ : ∃ r : Nat, (s.size : Int) - 2 = r := ⟨s.size - 2, by omega⟩
  have hr2 : s.size - 2 = r := by omega
  have kr : r < s.size := by omega
  have ir : (r : Int) < (s.size : Int) := by omega
  have ir0 : (0 : Int) ≤ (r : Int) := by omega
  have gr := byt_get s r kr
  have k19 : 19 < s.size := by omega
  have i19 : (19 : Int) < (s.size : Int) := by omega
  have g19 := byt_get s 19 k19
  have hlK : s.size - 21 = K := by omega
  have OK2 := Lib.hid (show secOk s.data.toList ↔ (byt s.data.toList 19 = 46 ∧ 1 ≤ K ∧ K ≤ 9 ∧ 0 ≤ rnumS s.data.toList 20 K ∧ byt s.data.toList r ≠ 48) from by
    rw [OK.out, hlK, hr2]
    constructor
    · rintro ⟨_, h | ⟨h1, h2, h3, h4, h5⟩⟩
      · exact absurd h c20
      · exact ⟨h1, by omega, by omega, h4, h5⟩
    · rintro ⟨h1, h2, h3, h4, h5⟩
      exact ⟨⟨CD.out, ⟨by omega, by omega⟩, ⟨by omega, by omega⟩, ⟨by omega, by omega⟩⟩, .inr ⟨h1, by omega, by omega, h4, h5⟩⟩)
  clear hlK hr2
  by_cases c19 : ¬ byt s.data.toList 19 = 46
  case pos =>
    have hno : ¬ secOk s.data.toList := fun h => c19 (OK2.out.1 h).1
    have HF := Lib.hid (HNO.out hno)
    have HF2 := Lib.hid (decide_eq_false hno)
    have t : ((s[19].toNat : Int) != 46) = true := by rw [bne_iff_ne, ← g19]; exact c19
    clear g19 gr
    clear hno c19 c0 ch ch2 ci ci2 cs cs2 c20 hK2
    go_enter Tryd.func10, Tryd.ntmps10
    go_wp2_with fail
    refine (N1.out _).mono ?_
    rintro e w1 ⟨rfl, rfl⟩
    go_wp2_with fail
    refine (N2.out _).mono ?_
    rintro e w1 ⟨rfl, rfl⟩
    go_wp2_with fail
    refine (N3.out _).mono ?_
    rintro e w1 ⟨rfl, rfl⟩
    go_wp2_with fail
    refine (N4.out _).mono ?_
    rintro e w1 ⟨rfl, rfl⟩
    go_wp2_with fail
    refine (N5.out _).mono ?_
    rintro e w1 ⟨rfl, rfl⟩
    go_wp2_with fail
    refine (N6.out _).mono ?_
    rintro e w1 ⟨rfl, rfl⟩
    go_wp2_with fail
    refine (ND.out _).mono ?_
    rintro e w1 ⟨rfl, rfl⟩
    go_wp2_with fail
    go_ret2
    exact ⟨by rw [HF.out, HF2.out]; rfl, by trivial⟩
  have t19 : ((s[19].toNat : Int) != 46) = false := by rw [bne_eq_false_iff_eq, ← g19]; exact Classical.not_not.1 c19
  replace c19 := Classical.not_not.1 c19
  clear g19
  by_cases ck : (K : Int) < 1
  case pos =>
    have hno : ¬ secOk s.data.toList := fun h => by have := (OK2.out.1 h).2.1; omega
    have HF := Lib.hid (HNO.out hno)
    have HF2 := Lib.hid (decide_eq_false hno)
    have t : decide ((K : Int) < 1) = true := decide_eq_true ck
    clear gr
    clear hno ck c0 ch ch2 ci ci2 cs cs2 c20 hK2 c19
    go_enter Tryd.func10, Tryd.ntmps10
    go_wp2_with fail
    refine (N1.out _).mono ?_
    rintro e w1 ⟨rfl, rfl⟩
    go_wp2_with fail
    refine (N2.out _).mono ?_
    rintro e w1 ⟨rfl, rfl⟩
    go_wp2_with fail
    refine (N3.out _).mono ?_
    rintro e w1 ⟨rfl, rfl⟩
    go_wp2_with fail
    refine (N4.out _).mono ?_
    rintro e w1 ⟨rfl, rfl⟩
    go_wp2_with fail
    refine (N5.out _).mono ?_
    rintro e w1 ⟨rfl, rfl⟩
    go_wp2_with fail
    refine (N6.out _).mono ?_
    rintro e w1 ⟨rfl, rfl⟩
    go_wp2_with fail
    refine (ND.out _).mono ?_
    rintro e w1 ⟨rfl, rfl⟩
    go_wp2_with fail
    go_ret2
    exact ⟨by rw [HF.out, HF2.out]; rfl, by trivial⟩
  have tk : decide ((K : Int) < 1) = false := decide_eq_false ck
  by_cases ck9 : (9 : Int) < (K : Int)
  case pos =>
    have hno : ¬ secOk s.data.toList := fun h => by have := (OK2.out.1 h).2.2.1; omega
    have HF := Lib.hid (HNO.out hno)
    have HF2 := Lib.hid (decide_eq_false hno)
    have t : decide ((9 : Int) < (K : Int)) = true := decide_eq_true ck9
    clear gr
    clear hno ck9 c0 ch ch2 ci ci2 cs cs2 c20 hK2 c19 ck
    go_enter Tryd.func10, Tryd.ntmps10
    go_wp2_with fail
    refine (N1.out _).mono ?_
    rintro e w1 ⟨rfl, rfl⟩
    go_wp2_with fail
    refine (N2.out _).mono ?_
    rintro e w1 ⟨rfl, rfl⟩
    go_wp2_with fail
    refine (N3.out _).mono ?_
    rintro e w1 ⟨rfl, rfl⟩
    go_wp2_with fail
    refine (N4.out _).mono ?_
    rintro e w1 ⟨rfl, rfl⟩
    go_wp2_with fail
    refine (N5.out _).mono ?_
    rintro e w1 ⟨rfl, rfl⟩
    go_wp2_with fail
    refine (N6.out _).mono ?_
    rintro e w1 ⟨rfl, rfl⟩
    go_wp2_with fail
    refine (ND.out _).mono ?_
    rintro e w1 ⟨rfl, rfl⟩
    go_wp2_with fail
    go_ret2
    exact ⟨by rw [HF.out, HF2.out]; rfl, by trivial⟩
  have tk9 : decide ((9 : Int) < (K : Int)) = false := decide_eq_false ck9
  have NK := Lib.hid (fun wx => rnum_any s 20 K wx hs (by omega) (by omega))
  obtain ⟨Z, hZ⟩ : ∃ Z, rnumS s.data.toList 20 K = Z := ⟨_, rfl⟩
  rw [hZ] at OK2 NK
  clear hZ
  by_cases cn : Z < 0
  case pos =>
    have hno : ¬ secOk s.data.toList := fun h => by have := (OK2.out.1 h).2.2.2.1; omega
    have HF := Lib.hid (HNO.out hno)
    have HF2 := Lib.hid (decide_eq_false hno)
    have t : decide (Z < 0) = true := decide_eq_true cn
    clear gr
    clear hno cn c0 ch ch2 ci ci2 cs cs2 c20 hK2 c19 ck ck9
    go_enter Tryd.func10, Tryd.ntmps10
    go_wp2_with fail
    refine (N1.out _).mono ?_
    rintro e w1 ⟨rfl, rfl⟩
    go_wp2_with fail
    refine (N2.out _).mono ?_
    rintro e w1 ⟨rfl, rfl⟩
    go_wp2_with fail
    refine (N3.out _).mono ?_
    rintro e w1 ⟨rfl, rfl⟩
    go_wp2_with fail
    refine (N4.out _).mono ?_
    rintro e w1 ⟨rfl, rfl⟩
    go_wp2_with fail
    refine (N5.out _).mono ?_
    rintro e w1 ⟨rfl, rfl⟩
    go_wp2_with fail
    refine (N6.out _).mono ?_
    rintro e w1 ⟨rfl, rfl⟩
    go_wp2_with fail
    refine (ND.out _).mono ?_
    rintro e w1 ⟨rfl, rfl⟩
    go_wp2_with fail
    refine (NK.out _).mono ?_
    rintro e w1 ⟨rfl, rfl⟩
    go_wp2_with fail
    go_ret2
    exact ⟨by rw [HF.out, HF2.out]; rfl, by trivial⟩
  have tn : decide (Z < 0) = false := decide_eq_false cn
  by_cases cr : byt s.data.toList r = 48
  case pos =>
    have hno : ¬ secOk s.data.toList := fun h => (OK2.out.1 h).2.2.2.2 cr
    have HF := Lib.hid (HNO.out hno)
    have HF2 := Lib.hid (decide_eq_false hno)
    have t : ((s[r].toNat : Int) == 48) = true := by rw [beq_iff_eq, ← gr]; exact cr
    clear gr
    clear hno cr c0 ch ch2 ci ci2 cs cs2 c20 hK2 c19 ck ck9 cn
    go_enter Tryd.func10, Tryd.ntmps10
    go_wp2_with fail
    refine (N1.out _).mono ?_
    rintro e w1 ⟨rfl, rfl⟩
    go_wp2_with fail
    refine (N2.out _).mono ?_
    rintro e w1 ⟨rfl, rfl⟩
    go_wp2_with fail
    refine (N3.out _).mono ?_
    rintro e w1 ⟨rfl, rfl⟩
    go_wp2_with fail
    refine (N4.out _).mono ?_
    rintro e w1 ⟨rfl, rfl⟩
    go_wp2_with fail
    refine (N5.out _).mono ?_
    rintro e w1 ⟨rfl, rfl⟩
    go_wp2_with fail
    refine (N6.out _).mono ?_
    rintro e w1 ⟨rfl, rfl⟩
    go_wp2_with fail
    refine (ND.out _).mono ?_
    rintro e w1 ⟨rfl, rfl⟩
    go_wp2_with fail
    refine (NK.out _).mono ?_
    rintro e w1 ⟨rfl, rfl⟩
    go_wp2_with fail
    go_ret2
    exact ⟨by rw [HF.out, HF2.out]; rfl, by trivial⟩
  have tr : ((s[r].toNat : Int) == 48) = false := by rw [beq_eq_false_iff_ne, ← gr]; exact cr
  clear gr
  have hyes : secOk s.data.toList := OK2.out.2 ⟨c19, by omega, by omega, by omega, cr⟩
  have HF := Lib.hid (HY.out hyes)
  have HF2 := Lib.hid (decide_eq_true hyes)
  have HF3 := Lib.hid (HV.out hyes)
  clear hyes
  have b1 : 0 ≤ H ∧ H ≤ 23 := by omega
  have b2 : 0 ≤ I ∧ I ≤ 59 := by omega
  have b3 : 0 ≤ S ∧ S ≤ 59 := by omega
  clear c0 ch ch2 ci ci2 cs cs2 c20 hK2 c19 ck ck9 cn cr
  go_enter Tryd.func10, Tryd.ntmps10
  go_wp2_with fail
  refine (N1.out _).mono ?_
  rintro e w1 ⟨rfl, rfl⟩
  go_wp2_with fail
  refine (N2.out _).mono ?_
  rintro e w1 ⟨rfl, rfl⟩
  go_wp2_with fail
  refine (N3.out _).mono ?_
  rintro e w1 ⟨rfl, rfl⟩
  go_wp2_with fail
  refine (N4.out _).mono ?_
  rintro e w1 ⟨rfl, rfl⟩
  go_wp2_with fail
  refine (N5.out _).mono ?_
  rintro e w1 ⟨rfl, rfl⟩
  go_wp2_with fail
  refine (N6.out _).mono ?_
  rintro e w1 ⟨rfl, rfl⟩
  go_wp2_with fail
  refine (ND.out _).mono ?_
  rintro e w1 ⟨rfl, rfl⟩
  go_wp2_with fail
  refine (NK.out _).mono ?_
  rintro e w1 ⟨rfl, rfl⟩
  go_wp2_with fail
  go_ret2
  exact ⟨by rw [HF.out, HF2.out, HF3.out]; rfl, by trivial⟩
end Go.Proofs.YtfedidiieacakaaDoor.St
namespace Go.Proofs.YtfedidiieacakaaDoor.St
open Go.RowKit
open Go.Proofs.YtfedidiieacakaaDoor.Utf
open Go.Proofs.YtfedidiieacakaaDoor.Nu

theorem accF_bd {f : Nat → Nat} (h : ∀ i, f i ≤ 9) : ∀ k, accF f k < 10 ^ k
  | 0 => by rw [accF]; decide
  | k + 1 => by
    have := accF_bd h k
    have := h k
    rw [accF, Nat.pow_succ]
    omega

set_option maxRecDepth 100000 in
set_option maxHeartbeats 1000000 in
theorem rPart_any (s : ByteArray) (w : World) (hs : s.size ≤ 9223372036854775807) (ho : secOk s.data.toList) :
    Calls Tryd.prog 29 #[.string s] w fun e w' => e = .returned (.int .i64 (partN s.data.toList : Nat)) ∧ w = w' := by
  have hl : s.data.toList.length = s.size := rfl
  have h20 : 20 ≤ s.size := sec_len ho
  have HD := Lib.hid (endP_yes ho.2.1).2.1
  have HB := Lib.hid (accF_bd (partD_le ho.2.1))
  have HL := Lib.hid (endP_yes ho.2.1).1
  have HP := Lib.hid (show ∀ k, accF (partD s.data.toList) (k + 1) = accF (partD s.data.toList) k * 10 + (if 20 + k < s.size - 1 then (byt s.data.toList (20 + k) - 48).toNat else 0) from fun k => by rw [accF]; rfl)
  have HE := Lib.hid (show partN s.data.toList = accF (partD s.data.toList) 9 from rfl)
  rw [hl] at HL HD
  obtain ⟨p, hp⟩ : ∃ p : Nat, (s.size : Int) - 1 = p := ⟨s.size - 1, by omega⟩
  have HPS := Lib.hid (show s.size = p + 1 by omega)
  clear ho hl
  go_enter Tryd.func29, Tryd.ntmps29
  go_wp2_with fail
  go_loopw [3, 4] (fun x i wr => ∃ k : Nat, i = .int .i64 k ∧ k ≤ 9 ∧ x = .int .i64 (accF (partD s.data.toList) k : Nat) ∧ wr = w) (fun _ i _ => 9 - (intOf i).toNat)
  case atStart => exact ⟨0, rfl, by omega, rfl, rfl⟩
  case round =>
    obtain ⟨k, rfl, hk, rfl, hwr⟩ := hrel
    obtain rfl : w = wr := hwr.symm
    by_cases hlt : k < 9
    · have t1 : decide ((k : Int) < 9) = true := decide_eq_true (by omega)
      have ha := HB.out k
      have hpw := pow_9 (k := k) (by omega)
      have HS := Lib.hid (HP.out k)
      obtain ⟨a, haa⟩ : ∃ a : Nat, accF (partD s.data.toList) k = a := ⟨_, rfl⟩
      rw [haa] at ha HS ⊢
      have ha2 : (a : Int) ≤ 1000000000 := by omega
      clear haa hpw ha
      obtain ⟨q, hq⟩ : ∃ q : Nat, (20 : Int) + (k : Int) = q := ⟨20 + k, by omega⟩
      have hq2 : 20 + k = q := by omega
      rw [hq2] at HS
      by_cases h22 : (20 : Int) < (s.size : Int)
      · have t2 : decide ((20 : Int) < (s.size : Int)) = true := decide_eq_true h22
        have t2' : decide (20 < s.size) = true := decide_eq_true (by omega)
        by_cases hin : (q : Int) < (p : Int)
        · have t3 : decide ((q : Int) < (p : Int)) = true := decide_eq_true hin
          have t3' : decide (q < p) = true := decide_eq_true (by omega)
          have hq3 : q < s.size := by have := HPS.out; omega
          have i1 : (q : Int) < (s.size : Int) := by omega
          have i0 : (0 : Int) ≤ (q : Int) := by omega
          have hb := isD_yes (HD.out q (by omega) (by have := HPS.out; omega))
          have g := byt_get s q hq3
          rw [if_pos (by have := HPS.out; omega)] at HS
          rw [g] at HS hb
          clear hq2 h22 hin g
          go_wp2_with fail
          go_roundw
          case rel => exact ⟨k + 1, by go_num, by omega, by rw [HS.out]; go_num, by trivial⟩
          case measure => simp [intOf]; omega
        · have t3 : decide ((q : Int) < (p : Int)) = false := decide_eq_false hin
          have t3' : decide (q < p) = false := decide_eq_false (by omega)
          rw [if_neg (by have := HPS.out; omega)] at HS
          clear hq2 h22 hin
          go_wp2_with fail
          go_roundw
          case rel => exact ⟨k + 1, by go_num, by omega, by rw [HS.out]; go_num, by trivial⟩
          case measure => simp [intOf]; omega
      · have t2 : decide ((20 : Int) < (s.size : Int)) = false := decide_eq_false h22
        have t2' : decide (20 < s.size) = false := decide_eq_false (by omega)
        rw [if_neg (by omega)] at HS
        clear hq hq2 h22
        go_wp2_with fail
        go_roundw
        case rel => exact ⟨k + 1, by go_num, by omega, by rw [HS.out]; go_num, by trivial⟩
        case measure => simp [intOf]; omega
    · obtain rfl : k = 9 := by omega
      have t1 : decide (((9 : Nat) : Int) < 9) = false := by decide
      clear hlt hk
      go_wp2_with fail
      go_ret
      exact ⟨by rw [HE.out]; rfl, by trivial⟩

set_option maxRecDepth 100000 in
set_option maxHeartbeats 2000000 in
theorem rCompare_any (a b : ByteArray) (w : World) (ha : a.size ≤ 9223372036854775807) (hb : b.size ≤ 9223372036854775807) :
    Calls Tryd.prog 18 #[.string a, .string b] w fun e w' => e = .returned (.int .i64 (cmpR a.data.toList b.data.toList)) ∧ w = w' := by
  have CA := Lib.hid (fun wx => rSeconds_any a wx ha)
  have CB := Lib.hid (fun wx => rSeconds_any b wx hb)
  by_cases h1 : secOk a.data.toList
  · rw [secN_yes h1, decide_eq_true h1] at CA
    by_cases h2 : secOk b.data.toList
    · rw [secN_yes h2, decide_eq_true h2] at CB
      have HR := Lib.hid (show cmpR a.data.toList b.data.toList = (if Erl a.data.toList b.data.toList then -1 else if Erl b.data.toList a.data.toList then 1 else 0) from if_pos ⟨h1, h2⟩)
      have PA := Lib.hid (fun wx => rPart_any a wx ha h1)
      have PB := Lib.hid (fun wx => rPart_any b wx hb h2)
      have HEA := Lib.hid (show Erl a.data.toList b.data.toList ↔ (secV a.data.toList < secV b.data.toList ∨ (secV a.data.toList = secV b.data.toList ∧ (partN a.data.toList : Int) < (partN b.data.toList : Int))) by unfold Erl; omega)
      have HEB := Lib.hid (show Erl b.data.toList a.data.toList ↔ (secV b.data.toList < secV a.data.toList ∨ (secV b.data.toList = secV a.data.toList ∧ (partN b.data.toList : Int) < (partN a.data.toList : Int))) by unfold Erl; omega)
      obtain ⟨x, hx⟩ : ∃ x, secV a.data.toList = x := ⟨_, rfl⟩
      obtain ⟨y, hy⟩ : ∃ y, secV b.data.toList = y := ⟨_, rfl⟩
      obtain ⟨u, hu⟩ : ∃ u : Int, (partN a.data.toList : Int) = u := ⟨_, rfl⟩
      obtain ⟨v, hv⟩ : ∃ v : Int, (partN b.data.toList : Int) = v := ⟨_, rfl⟩
      rw [hx, hy, hu, hv] at HEA HEB
      rw [hx] at CA; rw [hy] at CB; rw [hu] at PA; rw [hv] at PB
      clear hx hy hu hv h1 h2
      by_cases hxy : x = y
      · subst hxy
        have t1 : (x == x) = true := beq_self_eq_true x
        rcases Int.lt_trichotomy u v with h | h | h
        · have t2 : decide (u < v) = true := decide_eq_true h
          have HF := Lib.hid (show cmpR a.data.toList b.data.toList = -1 by rw [HR.out, if_pos (HEA.out.2 (.inr ⟨rfl, h⟩))])
          clear h
          go_enter Tryd.func18, Tryd.ntmps18
          go_wp2_with fail
          refine (CA.out _).mono ?_
          rintro e w1 ⟨rfl, rfl⟩
          go_wp2_with fail
          refine (CB.out _).mono ?_
          rintro e w1 ⟨rfl, rfl⟩
          go_wp2_with fail
          refine (PA.out _).mono ?_
          rintro e w1 ⟨rfl, rfl⟩
          go_wp2_with fail
          refine (PB.out _).mono ?_
          rintro e w1 ⟨rfl, rfl⟩
          go_wp2_with fail
          go_ret
          exact ⟨by rw [HF.out]; rfl, by trivial⟩
        · subst h
          have t2 : decide (u < u) = false := decide_eq_false (by omega)
          have HF := Lib.hid (show cmpR a.data.toList b.data.toList = 0 by
            rw [HR.out, if_neg fun h => by have := HEA.out.1 h; omega, if_neg fun h => by have := HEB.out.1 h; omega])
          go_enter Tryd.func18, Tryd.ntmps18
          go_wp2_with fail
          refine (CA.out _).mono ?_
          rintro e w1 ⟨rfl, rfl⟩
          go_wp2_with fail
          refine (CB.out _).mono ?_
          rintro e w1 ⟨rfl, rfl⟩
          go_wp2_with fail
          refine (PA.out _).mono ?_
          rintro e w1 ⟨rfl, rfl⟩
          go_wp2_with fail
          refine (PB.out _).mono ?_
          rintro e w1 ⟨rfl, rfl⟩
          go_wp2_with fail
          go_ret
          exact ⟨by rw [HF.out]; rfl, by trivial⟩
        · have t2 : decide (u < v) = false := decide_eq_false (by omega)
          have t3 : decide (v < u) = true := decide_eq_true (by omega)
          have HF := Lib.hid (show cmpR a.data.toList b.data.toList = 1 by
            rw [HR.out, if_neg fun h => by have := HEA.out.1 h; omega, if_pos (HEB.out.2 (.inr ⟨rfl, h⟩))])
          clear h
          go_enter Tryd.func18, Tryd.ntmps18
          go_wp2_with fail
          refine (CA.out _).mono ?_
          rintro e w1 ⟨rfl, rfl⟩
          go_wp2_with fail
          refine (CB.out _).mono ?_
          rintro e w1 ⟨rfl, rfl⟩
          go_wp2_with fail
          refine (PA.out _).mono ?_
          rintro e w1 ⟨rfl, rfl⟩
          go_wp2_with fail
          refine (PB.out _).mono ?_
          rintro e w1 ⟨rfl, rfl⟩
          go_wp2_with fail
          go_ret
          exact ⟨by rw [HF.out]; rfl, by trivial⟩
      · have t1 : (x == y) = false := beq_eq_false_iff_ne.2 hxy
        rcases Int.lt_or_le x y with h | h
        · have t2 : decide (x < y) = true := decide_eq_true h
          have HF := Lib.hid (show cmpR a.data.toList b.data.toList = -1 by rw [HR.out, if_pos (HEA.out.2 (.inl h))])
          clear h hxy
          go_enter Tryd.func18, Tryd.ntmps18
          go_wp2_with fail
          refine (CA.out _).mono ?_
          rintro e w1 ⟨rfl, rfl⟩
          go_wp2_with fail
          refine (CB.out _).mono ?_
          rintro e w1 ⟨rfl, rfl⟩
          go_wp2_with fail
          go_ret
          exact ⟨by rw [HF.out]; rfl, by trivial⟩
        · have t2 : decide (x < y) = false := decide_eq_false (by omega)
          have t3 : decide (y < x) = true := decide_eq_true (by omega)
          have HF := Lib.hid (show cmpR a.data.toList b.data.toList = 1 by
            rw [HR.out, if_neg fun h => by have := HEA.out.1 h; omega, if_pos (HEB.out.2 (.inl (by omega)))])
          clear h hxy
          go_enter Tryd.func18, Tryd.ntmps18
          go_wp2_with fail
          refine (CA.out _).mono ?_
          rintro e w1 ⟨rfl, rfl⟩
          go_wp2_with fail
          refine (CB.out _).mono ?_
          rintro e w1 ⟨rfl, rfl⟩
          go_wp2_with fail
          go_ret
          exact ⟨by rw [HF.out]; rfl, by trivial⟩
    · rw [secN_no h2, decide_eq_false h2] at CB
      have HF := Lib.hid (show cmpR a.data.toList b.data.toList = 1 by unfold cmpR; rw [if_neg fun h => h2 h.2, if_pos h1])
      generalize secV a.data.toList = x at *
      clear h1 h2
      go_enter Tryd.func18, Tryd.ntmps18
      go_wp2_with fail
      refine (CA.out _).mono ?_
      rintro e w1 ⟨rfl, rfl⟩
      go_wp2_with fail
      refine (CB.out _).mono ?_
      rintro e w1 ⟨rfl, rfl⟩
      go_wp2_with fail
      go_ret
      exact ⟨by rw [HF.out]; rfl, by trivial⟩
  · rw [secN_no h1, decide_eq_false h1] at CA
    by_cases h2 : secOk b.data.toList
    · rw [secN_yes h2, decide_eq_true h2] at CB
      have HF := Lib.hid (show cmpR a.data.toList b.data.toList = -1 by unfold cmpR; rw [if_neg fun h => h1 h.1, if_neg h1, if_pos h2])
      generalize secV b.data.toList = x at *
      clear h1 h2
      go_enter Tryd.func18, Tryd.ntmps18
      go_wp2_with fail
      refine (CA.out _).mono ?_
      rintro e w1 ⟨rfl, rfl⟩
      go_wp2_with fail
      refine (CB.out _).mono ?_
      rintro e w1 ⟨rfl, rfl⟩
      go_wp2_with fail
      go_ret
      exact ⟨by rw [HF.out]; rfl, by trivial⟩
    · rw [secN_no h2, decide_eq_false h2] at CB
      have HR := Lib.hid (show cmpR a.data.toList b.data.toList = (if Op.bytesLess a.data.toList b.data.toList = true then -1 else if Op.bytesLess b.data.toList a.data.toList = true then 1 else 0) by unfold cmpR; rw [if_neg fun h => h1 h.1, if_neg h1, if_neg h2])
      clear h1 h2
      have ea : a.toList = a.data.toList := by rw [ByteArray.toList_eq]
      have eb : b.toList = b.data.toList := by rw [ByteArray.toList_eq]
      rcases cmp_cases a.data.toList b.data.toList with ⟨c1, c2, c3⟩ | ⟨c1, c2, c3⟩ | ⟨c1, c2, c3⟩
      · have t1 : Op.bytesLess a.toList b.toList = true := by rw [ea, eb]; exact c2
        have HF := Lib.hid (show cmpR a.data.toList b.data.toList = -1 by rw [HR.out, if_pos c2])
        clear c1 c2 c3 ea eb
        go_enter Tryd.func18, Tryd.ntmps18
        go_wp2_with fail
        refine (CA.out _).mono ?_
        rintro e w1 ⟨rfl, rfl⟩
        go_wp2_with fail
        refine (CB.out _).mono ?_
        rintro e w1 ⟨rfl, rfl⟩
        go_wp2_with fail
        go_ret
        exact ⟨by rw [HF.out]; rfl, by trivial⟩
      · have t1 : Op.bytesLess a.toList b.toList = false := by rw [ea, eb]; exact c2
        have t2 : (a.toList == b.toList) = true := by rw [ea, eb, c3]; exact beq_self_eq_true _
        have c4 : Op.bytesLess b.data.toList a.data.toList = false := by rw [← c3]; rw [c3] at c2 ⊢; exact c2
        have HF := Lib.hid (show cmpR a.data.toList b.data.toList = 0 by rw [HR.out, if_neg (by rw [c2]; decide), if_neg (by rw [c4]; decide)])
        clear c1 c2 c3 c4 ea eb
        go_enter Tryd.func18, Tryd.ntmps18
        go_wp2_with fail
        refine (CA.out _).mono ?_
        rintro e w1 ⟨rfl, rfl⟩
        go_wp2_with fail
        refine (CB.out _).mono ?_
        rintro e w1 ⟨rfl, rfl⟩
        go_wp2_with fail
        go_ret
        exact ⟨by rw [HF.out]; rfl, by trivial⟩
      · have t1 : Op.bytesLess a.toList b.toList = false := by rw [ea, eb]; exact c2
        have t2 : (a.toList == b.toList) = false := by
          rw [ea, eb, beq_eq_false_iff_ne]
          intro h
          rw [h] at c1
          rcases cmp_cases b.data.toList b.data.toList with ⟨d1, d2, d3⟩ | ⟨d1, d2, d3⟩ | ⟨d1, d2, d3⟩
          · omega
          · omega
          · obtain ⟨k, k1, k2, k3, k4⟩ := d3
            omega
        have HF := Lib.hid (show cmpR a.data.toList b.data.toList = 1 by rw [HR.out, if_neg (by rw [c2]; decide), if_pos (less_back c1)])
        clear c1 c2 c3 ea eb
        go_enter Tryd.func18, Tryd.ntmps18
        go_wp2_with fail
        refine (CA.out _).mono ?_
        rintro e w1 ⟨rfl, rfl⟩
        go_wp2_with fail
        refine (CB.out _).mono ?_
        rintro e w1 ⟨rfl, rfl⟩
        go_wp2_with fail
        go_ret
        exact ⟨by rw [HF.out]; rfl, by trivial⟩
end Go.Proofs.YtfedidiieacakaaDoor.St
