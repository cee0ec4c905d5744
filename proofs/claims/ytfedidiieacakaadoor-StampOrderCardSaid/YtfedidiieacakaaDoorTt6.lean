/- Merged: StF StG. -/
import Derived.Test.YtfedidiieacakaaDoorTt5
import Derived.Test.YtfedidiieacakaaDoorTt4
import Derived.WalkSmall
import Derived.Deep.QuietTactic
import Derived.BigQuiet
namespace Go.Proofs.YtfedidiieacakaaDoor.St
open Go.RowKit
open Go.Proofs.YtfedidiieacakaaDoor.Utf
open Go.Proofs.YtfedidiieacakaaDoor.Nu

def GivesS (n : Int) (b : Bool) (w : World) (e : Ending) (w' : World) : Prop := e = .returned (.tuple #[.int .i64 n, .bool b]) ∧ Below w.heap.size w w'
theorem stSet (w : World) (b i : Nat) (cs : Array Value) (t : TypeId) (v : Value) (h : w.heap[b]? = some (.cells cs t (0, 0))) : (w.setCell ⟨b, i, none⟩ v).heap[b]? = some (.cells (cs.setIfInBounds i v) t (0, 0)) := by
  obtain ⟨hlt, hk⟩ := Array.getElem?_eq_some_iff.1 h
  show (w.heap.modify b _)[b]? = _
  rw [Array.getElem?_eq_getElem (by rw [Array.size_modify]; exact hlt), Array.getElem_modify_self, hk]
  rfl
theorem blk_lt {w : World} {b : Nat} {o : Obj} (h : w.heap[b]? = some o) : b < w.heap.size := (Array.getElem?_eq_some_iff.1 h).1
theorem blk_below {w w' : World} {B b : Nat} {o : Obj} (h : w.heap[b]? = some o) (hb : Below B w w') (hB : b < B) : w'.heap[b]? = some o := (hb.block b hB).trans h
def pC (l : List UInt8) (k : Nat) : Array Value := #[.int .i64 ((if 0 < k then accD l 0 4 else 0 : Nat) : Int), .int .i64 ((if 1 < k then accD l 5 2 else 0 : Nat) : Int), .int .i64 ((if 2 < k then accD l 8 2 else 0 : Nat) : Int), .int .i64 ((if 3 < k then accD l 11 2 else 0 : Nat) : Int), .int .i64 ((if 4 < k then accD l 14 2 else 0 : Nat) : Int), .int .i64 ((if 5 < k then accD l 17 2 else 0 : Nat) : Int)]
theorem ext_byt (s : ByteArray) (p q j : Nat) (hj : j < q - p) : byt (s.extract p q).data.toList j = byt s.data.toList (p + j) := by
  rw [ByteArray.data_extract]
  unfold byt
  rw [List.getD_eq_getElem?_getD, List.getD_eq_getElem?_getD]
  simp only [Array.toList_extract, List.extract]
  rw [List.getElem?_take, if_pos hj, List.getElem?_drop]
theorem ext_num (s : ByteArray) (p n : Nat) (hq : p + n ≤ s.size) (hd : digsK s.data.toList p n = true) : (s.extract p (p + n)).size = n ∧ accD (s.extract p (p + n)).data.toList 0 n = accD s.data.toList p n ∧ digsK (s.extract p (p + n)).data.toList 0 n = true := by
  have hb : ∀ j, j < n → byt (s.extract p (p + n)).data.toList (0 + j) = byt s.data.toList (p + j) := fun j hj => by rw [Nat.zero_add]; exact ext_byt s p (p + n) j (by omega)
  refine ⟨by rw [ByteArray.size_extract]; omega, ?_, (digsK_iff _ _ _).2 fun j hj => by rw [hb j hj]; exact (digsK_iff _ _ _).1 hd j hj⟩
  clear hd
  have key : ∀ k, k ≤ n → accD (s.extract p (p + n)).data.toList 0 k = accD s.data.toList p k := by
    intro k
    induction k with
    | zero => intro _; rfl
    | succ k ih => intro hk; rw [accD, accD, ih (by omega), hb k (by omega)]
  exact key n (Nat.le_refl _)
theorem part_any (s : ByteArray) (p n q : Nat) (w : World) (hpq : p + n = q) (hq : q ≤ s.size) (h9 : n ≤ 9) (hd : digsK s.data.toList p n = true) :
    Calls Tryd.prog 20 #[.string (s.extract p q)] w (Gives (.int .i64 (accD s.data.toList p n : Nat)) w) := by
  subst hpq
  obtain ⟨h1, h2, h3⟩ := ext_num s p n hq hd
  have := num_any (s.extract p (p + n)) w (by omega) (by rw [h1]; exact h3)
  rw [h1, h2] at this
  exact this

theorem secN_yes {l : List UInt8} (h : secOk l) : secN l = secV l := if_pos h
theorem secN_no {l : List UInt8} (h : ¬ secOk l) : secN l = 0 := if_neg h

set_option maxRecDepth 100000 in
set_option maxHeartbeats 2000000 in
theorem Seconds_any (s : ByteArray) (w : World) (T : Tab w) (hs : s.size ≤ 9223372036854775807) : Calls Tryd.prog 9 #[.string s] w (GivesS (secN s.data.toList) (decide (secOk s.data.toList)) w) := by
  have CF := Lib.hid (fun wx => hasForm_any s wx hs)
  by_cases hf : (frm s.data.toList && endP s.data.toList 19) = true
  case neg =>
    have hno : ¬ secOk s.data.toList := fun h => hf (by rw [h.1, h.2.1]; rfl)
    rw [secN_no hno, decide_eq_false hno]
    have hf2 := Bool.eq_false_iff.2 hf
    rw [hf2] at CF
    clear hno hf hf2
    go_enter Tryd.func9, Tryd.ntmps9
    go_wp2_with fail
    refine (CF.out _).mono ?_
    rintro e w1 ⟨rfl, hb1⟩
    have HB1 := Lib.hid hb1
    clear hb1
    go_wp2_with fail
    go_ret2
    exact ⟨rfl, HB1.out⟩
  case pos =>
    rw [hf] at CF
    have hf1 := (Bool.and_eq_true_iff.1 hf).1
    have hf2 := (Bool.and_eq_true_iff.1 hf).2
    have h19 : 19 ≤ s.size := frm_len hf1
    obtain ⟨d0, d5, d8, d11, d14, d17⟩ := frm_digs hf1
    have HOK := Lib.hid (show secOk s.data.toList ↔ (isDay (accD s.data.toList 0 4) (accD s.data.toList 5 2) (accD s.data.toList 8 2) ∧ accD s.data.toList 11 2 ≤ 23 ∧ accD s.data.toList 14 2 ≤ 59 ∧ accD s.data.toList 17 2 ≤ 59) from ⟨fun h => h.2.2, fun h => ⟨hf1, hf2, h⟩⟩)
    have P0 := Lib.hid (fun wx => part_any s 0 4 4 wx rfl (by omega) (by omega) d0)
    have P1 := Lib.hid (fun wx => part_any s 5 2 7 wx rfl (by omega) (by omega) d5)
    have P2 := Lib.hid (fun wx => part_any s 8 2 10 wx rfl (by omega) (by omega) d8)
    have P3 := Lib.hid (fun wx => part_any s 11 2 13 wx rfl (by omega) (by omega) d11)
    have P4 := Lib.hid (fun wx => part_any s 14 2 16 wx rfl (by omega) (by omega) d14)
    have P5 := Lib.hid (fun wx => part_any s 17 2 19 wx rfl (by omega) (by omega) d17)
    have n0 := (accD_4 _ _ d0).1
    have n1 := (accD_2 _ _ d5).1
    have n2 := (accD_2 _ _ d8).1
    have n3 := (accD_2 _ _ d11).1
    have n4 := (accD_2 _ _ d14).1
    have n5 := (accD_2 _ _ d17).1
    have HV := Lib.hid (show secV s.data.toList = (day0 (accD s.data.toList 0 4) (accD s.data.toList 5 2) (accD s.data.toList 8 2) - 719528) * 86400 + ((accD s.data.toList 11 2 : Int) * 60 + accD s.data.toList 14 2) * 60 + accD s.data.toList 17 2 from rfl)
    have HN := Lib.hid (show secN s.data.toList = if secOk s.data.toList then secV s.data.toList else 0 from rfl)
    have HPC := Lib.hid (show ∀ k, pC s.data.toList k = #[.int .i64 ((if 0 < k then accD s.data.toList 0 4 else 0 : Nat) : Int), .int .i64 ((if 1 < k then accD s.data.toList 5 2 else 0 : Nat) : Int), .int .i64 ((if 2 < k then accD s.data.toList 8 2 else 0 : Nat) : Int), .int .i64 ((if 3 < k then accD s.data.toList 11 2 else 0 : Nat) : Int), .int .i64 ((if 4 < k then accD s.data.toList 14 2 else 0 : Nat) : Int), .int .i64 ((if 5 < k then accD s.data.toList 17 2 else 0 : Nat) : Int)] from fun _ => rfl)
    obtain ⟨A0, a0⟩ : ∃ A0 : Nat, accD s.data.toList 0 4 = A0 := ⟨_, rfl⟩
    obtain ⟨A1, a1⟩ : ∃ A1 : Nat, accD s.data.toList 5 2 = A1 := ⟨_, rfl⟩
    obtain ⟨A2, a2⟩ : ∃ A2 : Nat, accD s.data.toList 8 2 = A2 := ⟨_, rfl⟩
    obtain ⟨A3, a3⟩ : ∃ A3 : Nat, accD s.data.toList 11 2 = A3 := ⟨_, rfl⟩
    obtain ⟨A4, a4⟩ : ∃ A4 : Nat, accD s.data.toList 14 2 = A4 := ⟨_, rfl⟩
    obtain ⟨A5, a5⟩ : ∃ A5 : Nat, accD s.data.toList 17 2 = A5 := ⟨_, rfl⟩
    rw [a0, a1, a2, a3, a4, a5] at HOK HV
    rw [a0] at P0 n0; rw [a1] at P1 n1; rw [a2] at P2 n2; rw [a3] at P3 n3; rw [a4] at P4 n4; rw [a5] at P5 n5
    have HPD := Lib.hid (show ∀ k, pC s.data.toList k = #[.int .i64 ((if 0 < k then A0 else 0 : Nat) : Int), .int .i64 ((if 1 < k then A1 else 0 : Nat) : Int), .int .i64 ((if 2 < k then A2 else 0 : Nat) : Int), .int .i64 ((if 3 < k then A3 else 0 : Nat) : Int), .int .i64 ((if 4 < k then A4 else 0 : Nat) : Int), .int .i64 ((if 5 < k then A5 else 0 : Nat) : Int)] from fun k => by rw [HPC.out k, a0, a1, a2, a3, a4, a5])
    clear HPC
    have z4 : (4 : Int) ≤ (s.size : Int) := by omega
    have z7 : (7 : Int) ≤ (s.size : Int) := by omega
    have z10 : (10 : Int) ≤ (s.size : Int) := by omega
    have z13 : (13 : Int) ≤ (s.size : Int) := by omega
    have z16 : (16 : Int) ≤ (s.size : Int) := by omega
    have z19 : (19 : Int) ≤ (s.size : Int) := by omega
    clear a0 a1 a2 a3 a4 a5 d0 d5 d8 d11 d14 d17 hf hf1 hf2 h19
    go_enter Tryd.func9, Tryd.ntmps9
    go_wp2_with fail
    refine (CF.out _).mono ?_
    rintro e w1 ⟨rfl, hb1⟩
    have HB1 := Lib.hid hb1
    have HT1 := Lib.hid (T.below hb1)
    clear hb1
    obtain ⟨W2, hW2⟩ : ∃ W2, W2 = w1.alloc (.cells #[.int .i64 0, .int .i64 0, .int .i64 0, .int .i64 0, .int .i64 0, .int .i64 0] 36) := ⟨_, rfl⟩
    have HB2 := Lib.hid (show Below w1.heap.size w1 W2 by rw [hW2]; exact (Below.refl _ _).alloc (Nat.le_refl _) _)
    have HT2 := Lib.hid (HT1.out.below HB2.out)
    have HR2 := Lib.hid (show W2.heap[w1.heap.size]? = some (.cells (pC s.data.toList 0) 36 (0, 0)) by rw [hW2, HPD.out]; exact heap_alloc_new _ _)
    have HB02 := Lib.hid (HB1.out.trans (HB2.out.mono HB1.out.size))
    have q0 := (HT2.out).2 0 (by omega)
    have q1 := (HT2.out).2 1 (by omega)
    have q2 := (HT2.out).2 2 (by omega)
    have q3 := (HT2.out).2 3 (by omega)
    have q4 := (HT2.out).2 4 (by omega)
    have q5 := (HT2.out).2 5 (by omega)
    have q6 := (HT2.out).2 6 (by omega)
    have q7 := (HT2.out).2 7 (by omega)
    have q8 := (HT2.out).2 8 (by omega)
    have q9 := (HT2.out).2 9 (by omega)
    have q10 := (HT2.out).2 10 (by omega)
    have q11 := (HT2.out).2 11 (by omega)
    change _ = some (Value.int .i64 0) at q0
    change _ = some (Value.int .i64 4) at q1
    change _ = some (Value.int .i64 5) at q2
    change _ = some (Value.int .i64 7) at q3
    change _ = some (Value.int .i64 8) at q4
    change _ = some (Value.int .i64 10) at q5
    change _ = some (Value.int .i64 11) at q6
    change _ = some (Value.int .i64 13) at q7
    change _ = some (Value.int .i64 14) at q8
    change _ = some (Value.int .i64 16) at q9
    change _ = some (Value.int .i64 17) at q10
    change _ = some (Value.int .i64 19) at q11
    rw [hW2] at q0 q1 q2 q3 q4 q5 q6 q7 q8 q9 q10 q11
    have HW2 := Lib.hid hW2
    clear hW2
    -- LOOP
    go_wp2_with fail
    go_loopw [16] (fun i wr => ∃ k : Nat, i = .int .i64 k ∧ k ≤ 6 ∧ Aside (wr.heap[w1.heap.size]? = some (.cells (pC s.data.toList k) 36 (0, 0))) ∧ Aside (Below w.heap.size w wr)) (fun i _ => 6 - (intOf i).toNat)
    case atStart => exact ⟨0, rfl, by omega, by rw [← HW2.out]; exact HR2.out, by rw [← HW2.out]; exact HB02.out⟩
    case round =>
      obtain ⟨k, rfl, hk, hrow, hbel⟩ := hrel
      have HROW := Lib.hid hrow.out
      have HBEL := Lib.hid hbel.out
      clear hrow hbel q0 q1 q2 q3 q4 q5 q6 q7 q8 q9 q10 q11
      have HLT := Lib.hid (blk_lt HROW.out)
      by_cases hlt : k < 6
      · have t1 : decide ((k : Int) < 6) = true := decide_eq_true (by omega)
        have key : k = 0 ∨ k = 1 ∨ k = 2 ∨ k = 3 ∨ k = 4 ∨ k = 5 := by omega
        clear hlt hk
        rcases key with rfl | rfl | rfl | rfl | rfl | rfl
        · obtain ⟨W4, hW4⟩ : ∃ W4, W4 = wr.alloc (.cells #[.int .i64 0, .int .i64 4] 38) := ⟨_, rfl⟩
          have HB4 := Lib.hid (show Below wr.heap.size wr W4 by rw [hW4]; exact (Below.refl _ _).alloc (Nat.le_refl _) _)
          have HW4 := Lib.hid hW4
          clear hW4
          rw [show ((0 : Nat) : Int) = 0 from rfl]
          have ix : ∀ wx, (Instr.index 39 (.agg #[.int .i64 0, .int .i64 4, .int .i64 5, .int .i64 7, .int .i64 8, .int .i64 10, .int .i64 11, .int .i64 13, .int .i64 14, .int .i64 16, .int .i64 17, .int .i64 19]) (.int .i64 0)).run Tryd.prog wx = .ok (.agg #[.int .i64 0, .int .i64 4]) wx := fun wx => by kernel_rfl
          go_wp2_with fail
          refine (P0.out _).mono ?_
          rintro e w3 ⟨rfl, hb3⟩
          rw [← HW4.out] at hb3
          have HB3 := Lib.hid (hb3.mono HB4.out.size)
          clear hb3
          have HR3 := Lib.hid (blk_below (blk_below HROW.out HB4.out HLT.out) HB3.out HLT.out)
          have c3 := cell_of_row w3 w1.heap.size 0 _ _ _ HR3.out
          rw [HPD.out 0] at c3
          replace c3 : w3.cell? ⟨w1.heap.size, 0, none⟩ = some (.int .i64 0) := c3
          have f3 := frozen_of_row w3 w1.heap.size 0 _ _ HR3.out
          go_wp2_with fail
          go_roundw
          case rel => exact ⟨1, by go_num, by omega, by
            have h := stSet w3 w1.heap.size 0 _ _ (.int .i64 (A0 : Int)) HR3.out
            rw [HPD.out 0] at h
            rw [HPD.out 1]
            exact h, ((HBEL.out.trans (HB4.out.mono HBEL.out.size)).trans (HB3.out.mono HBEL.out.size)).setCell (p := ⟨w1.heap.size, 0, none⟩) HB1.out.size _⟩
          case measure => simp [intOf]
        · obtain ⟨W4, hW4⟩ : ∃ W4, W4 = wr.alloc (.cells #[.int .i64 5, .int .i64 7] 38) := ⟨_, rfl⟩
          have HB4 := Lib.hid (show Below wr.heap.size wr W4 by rw [hW4]; exact (Below.refl _ _).alloc (Nat.le_refl _) _)
          have HW4 := Lib.hid hW4
          clear hW4
          rw [show ((1 : Nat) : Int) = 1 from rfl]
          have ix : ∀ wx, (Instr.index 39 (.agg #[.int .i64 0, .int .i64 4, .int .i64 5, .int .i64 7, .int .i64 8, .int .i64 10, .int .i64 11, .int .i64 13, .int .i64 14, .int .i64 16, .int .i64 17, .int .i64 19]) (.int .i64 1)).run Tryd.prog wx = .ok (.agg #[.int .i64 5, .int .i64 7]) wx := fun wx => by kernel_rfl
          go_wp2_with fail
          refine (P1.out _).mono ?_
          rintro e w3 ⟨rfl, hb3⟩
          rw [← HW4.out] at hb3
          have HB3 := Lib.hid (hb3.mono HB4.out.size)
          clear hb3
          have HR3 := Lib.hid (blk_below (blk_below HROW.out HB4.out HLT.out) HB3.out HLT.out)
          have c3 := cell_of_row w3 w1.heap.size 1 _ _ _ HR3.out
          rw [HPD.out 1] at c3
          replace c3 : w3.cell? ⟨w1.heap.size, 1, none⟩ = some (.int .i64 0) := c3
          have f3 := frozen_of_row w3 w1.heap.size 1 _ _ HR3.out
          go_wp2_with fail
          go_roundw
          case rel => exact ⟨2, by go_num, by omega, by
            have h := stSet w3 w1.heap.size 1 _ _ (.int .i64 (A1 : Int)) HR3.out
            rw [HPD.out 1] at h
            rw [HPD.out 2]
            exact h, ((HBEL.out.trans (HB4.out.mono HBEL.out.size)).trans (HB3.out.mono HBEL.out.size)).setCell (p := ⟨w1.heap.size, 1, none⟩) HB1.out.size _⟩
          case measure => simp [intOf]
        · obtain ⟨W4, hW4⟩ : ∃ W4, W4 = wr.alloc (.cells #[.int .i64 8, .int .i64 10] 38) := ⟨_, rfl⟩
          have HB4 := Lib.hid (show Below wr.heap.size wr W4 by rw [hW4]; exact (Below.refl _ _).alloc (Nat.le_refl _) _)
          have HW4 := Lib.hid hW4
          clear hW4
          rw [show ((2 : Nat) : Int) = 2 from rfl]
          have ix : ∀ wx, (Instr.index 39 (.agg #[.int .i64 0, .int .i64 4, .int .i64 5, .int .i64 7, .int .i64 8, .int .i64 10, .int .i64 11, .int .i64 13, .int .i64 14, .int .i64 16, .int .i64 17, .int .i64 19]) (.int .i64 2)).run Tryd.prog wx = .ok (.agg #[.int .i64 8, .int .i64 10]) wx := fun wx => by kernel_rfl
          go_wp2_with fail
          refine (P2.out _).mono ?_
          rintro e w3 ⟨rfl, hb3⟩
          rw [← HW4.out] at hb3
          have HB3 := Lib.hid (hb3.mono HB4.out.size)
          clear hb3
          have HR3 := Lib.hid (blk_below (blk_below HROW.out HB4.out HLT.out) HB3.out HLT.out)
          have c3 := cell_of_row w3 w1.heap.size 2 _ _ _ HR3.out
          rw [HPD.out 2] at c3
          replace c3 : w3.cell? ⟨w1.heap.size, 2, none⟩ = some (.int .i64 0) := c3
          have f3 := frozen_of_row w3 w1.heap.size 2 _ _ HR3.out
          go_wp2_with fail
          go_roundw
          case rel => exact ⟨3, by go_num, by omega, by
            have h := stSet w3 w1.heap.size 2 _ _ (.int .i64 (A2 : Int)) HR3.out
            rw [HPD.out 2] at h
            rw [HPD.out 3]
            exact h, ((HBEL.out.trans (HB4.out.mono HBEL.out.size)).trans (HB3.out.mono HBEL.out.size)).setCell (p := ⟨w1.heap.size, 2, none⟩) HB1.out.size _⟩
          case measure => simp [intOf]
        · obtain ⟨W4, hW4⟩ : ∃ W4, W4 = wr.alloc (.cells #[.int .i64 11, .int .i64 13] 38) := ⟨_, rfl⟩
          have HB4 := Lib.hid (show Below wr.heap.size wr W4 by rw [hW4]; exact (Below.refl _ _).alloc (Nat.le_refl _) _)
          have HW4 := Lib.hid hW4
          clear hW4
          rw [show ((3 : Nat) : Int) = 3 from rfl]
          have ix : ∀ wx, (Instr.index 39 (.agg #[.int .i64 0, .int .i64 4, .int .i64 5, .int .i64 7, .int .i64 8, .int .i64 10, .int .i64 11, .int .i64 13, .int .i64 14, .int .i64 16, .int .i64 17, .int .i64 19]) (.int .i64 3)).run Tryd.prog wx = .ok (.agg #[.int .i64 11, .int .i64 13]) wx := fun wx => by kernel_rfl
          go_wp2_with fail
          refine (P3.out _).mono ?_
          rintro e w3 ⟨rfl, hb3⟩
          rw [← HW4.out] at hb3
          have HB3 := Lib.hid (hb3.mono HB4.out.size)
          clear hb3
          have HR3 := Lib.hid (blk_below (blk_below HROW.out HB4.out HLT.out) HB3.out HLT.out)
          have c3 := cell_of_row w3 w1.heap.size 3 _ _ _ HR3.out
          rw [HPD.out 3] at c3
          replace c3 : w3.cell? ⟨w1.heap.size, 3, none⟩ = some (.int .i64 0) := c3
          have f3 := frozen_of_row w3 w1.heap.size 3 _ _ HR3.out
          go_wp2_with fail
          go_roundw
          case rel => exact ⟨4, by go_num, by omega, by
            have h := stSet w3 w1.heap.size 3 _ _ (.int .i64 (A3 : Int)) HR3.out
            rw [HPD.out 3] at h
            rw [HPD.out 4]
            exact h, ((HBEL.out.trans (HB4.out.mono HBEL.out.size)).trans (HB3.out.mono HBEL.out.size)).setCell (p := ⟨w1.heap.size, 3, none⟩) HB1.out.size _⟩
          case measure => simp [intOf]
        · obtain ⟨W4, hW4⟩ : ∃ W4, W4 = wr.alloc (.cells #[.int .i64 14, .int .i64 16] 38) := ⟨_, rfl⟩
          have HB4 := Lib.hid (show Below wr.heap.size wr W4 by rw [hW4]; exact (Below.refl _ _).alloc (Nat.le_refl _) _)
          have HW4 := Lib.hid hW4
          clear hW4
          rw [show ((4 : Nat) : Int) = 4 from rfl]
          have ix : ∀ wx, (Instr.index 39 (.agg #[.int .i64 0, .int .i64 4, .int .i64 5, .int .i64 7, .int .i64 8, .int .i64 10, .int .i64 11, .int .i64 13, .int .i64 14, .int .i64 16, .int .i64 17, .int .i64 19]) (.int .i64 4)).run Tryd.prog wx = .ok (.agg #[.int .i64 14, .int .i64 16]) wx := fun wx => by kernel_rfl
          go_wp2_with fail
          refine (P4.out _).mono ?_
          rintro e w3 ⟨rfl, hb3⟩
          rw [← HW4.out] at hb3
          have HB3 := Lib.hid (hb3.mono HB4.out.size)
          clear hb3
          have HR3 := Lib.hid (blk_below (blk_below HROW.out HB4.out HLT.out) HB3.out HLT.out)
          have c3 := cell_of_row w3 w1.heap.size 4 _ _ _ HR3.out
          rw [HPD.out 4] at c3
          replace c3 : w3.cell? ⟨w1.heap.size, 4, none⟩ = some (.int .i64 0) := c3
          have f3 := frozen_of_row w3 w1.heap.size 4 _ _ HR3.out
          go_wp2_with fail
          go_roundw
          case rel => exact ⟨5, by go_num, by omega, by
            have h := stSet w3 w1.heap.size 4 _ _ (.int .i64 (A4 : Int)) HR3.out
            rw [HPD.out 4] at h
            rw [HPD.out 5]
            exact h, ((HBEL.out.trans (HB4.out.mono HBEL.out.size)).trans (HB3.out.mono HBEL.out.size)).setCell (p := ⟨w1.heap.size, 4, none⟩) HB1.out.size _⟩
          case measure => simp [intOf]
        · obtain ⟨W4, hW4⟩ : ∃ W4, W4 = wr.alloc (.cells #[.int .i64 17, .int .i64 19] 38) := ⟨_, rfl⟩
          have HB4 := Lib.hid (show Below wr.heap.size wr W4 by rw [hW4]; exact (Below.refl _ _).alloc (Nat.le_refl _) _)
          have HW4 := Lib.hid hW4
          clear hW4
          rw [show ((5 : Nat) : Int) = 5 from rfl]
          have ix : ∀ wx, (Instr.index 39 (.agg #[.int .i64 0, .int .i64 4, .int .i64 5, .int .i64 7, .int .i64 8, .int .i64 10, .int .i64 11, .int .i64 13, .int .i64 14, .int .i64 16, .int .i64 17, .int .i64 19]) (.int .i64 5)).run Tryd.prog wx = .ok (.agg #[.int .i64 17, .int .i64 19]) wx := fun wx => by kernel_rfl
          go_wp2_with fail
          refine (P5.out _).mono ?_
          rintro e w3 ⟨rfl, hb3⟩
          rw [← HW4.out] at hb3
          have HB3 := Lib.hid (hb3.mono HB4.out.size)
          clear hb3
          have HR3 := Lib.hid (blk_below (blk_below HROW.out HB4.out HLT.out) HB3.out HLT.out)
          have c3 := cell_of_row w3 w1.heap.size 5 _ _ _ HR3.out
          rw [HPD.out 5] at c3
          replace c3 : w3.cell? ⟨w1.heap.size, 5, none⟩ = some (.int .i64 0) := c3
          have f3 := frozen_of_row w3 w1.heap.size 5 _ _ HR3.out
          go_wp2_with fail
          go_roundw
          case rel => exact ⟨6, by go_num, by omega, by
            have h := stSet w3 w1.heap.size 5 _ _ (.int .i64 (A5 : Int)) HR3.out
            rw [HPD.out 5] at h
            rw [HPD.out 6]
            exact h, ((HBEL.out.trans (HB4.out.mono HBEL.out.size)).trans (HB3.out.mono HBEL.out.size)).setCell (p := ⟨w1.heap.size, 5, none⟩) HB1.out.size _⟩
          case measure => simp [intOf]
      · obtain rfl : k = 6 := by omega
        have t1 : decide (((6 : Nat) : Int) < 6) = false := by decide
        have hrow := HROW.out
        rw [HPD.out 6] at hrow
        replace hrow : wr.heap[w1.heap.size]? = some (.cells #[.int .i64 (A0 : Int), .int .i64 (A1 : Int), .int .i64 (A2 : Int), .int .i64 (A3 : Int), .int .i64 (A4 : Int), .int .i64 (A5 : Int)] 36 (0, 0)) := hrow
        have c0 : wr.cell? ⟨w1.heap.size, 0, none⟩ = some (.int .i64 (A0 : Int)) := cell_of_row _ _ 0 _ _ _ hrow
        have c1 : wr.cell? ⟨w1.heap.size, 1, none⟩ = some (.int .i64 (A1 : Int)) := cell_of_row _ _ 1 _ _ _ hrow
        have c2 : wr.cell? ⟨w1.heap.size, 2, none⟩ = some (.int .i64 (A2 : Int)) := cell_of_row _ _ 2 _ _ _ hrow
        have c3 : wr.cell? ⟨w1.heap.size, 3, none⟩ = some (.int .i64 (A3 : Int)) := cell_of_row _ _ 3 _ _ _ hrow
        have c4 : wr.cell? ⟨w1.heap.size, 4, none⟩ = some (.int .i64 (A4 : Int)) := cell_of_row _ _ 4 _ _ _ hrow
        have c5 : wr.cell? ⟨w1.heap.size, 5, none⟩ = some (.int .i64 (A5 : Int)) := cell_of_row _ _ 5 _ _ _ hrow
        have HT := Lib.hid (T.below HBEL.out)
        have HD := Lib.hid (Days_any (A0 : Int) (A1 : Int) (A2 : Int) wr HT.out)
        clear hlt hk hrow
        by_cases hd : isDay (A0 : Int) (A1 : Int) (A2 : Int)
        case neg =>
          rw [dayN_no hd, decide_eq_false hd] at HD
          have hno : ¬ secOk s.data.toList := fun h => hd (HOK.out.1 h).1
          have HF := Lib.hid (secN_no hno)
          have HF2 := Lib.hid (decide_eq_false hno)
          clear hno hd
          go_wp2_with fail
          refine HD.out.mono ?_
          rintro e w3 ⟨rfl, rfl⟩
          go_wp2_with (go_quiet (fail))
          go_ret2
          exact ⟨by rw [HF.out, HF2.out]; rfl, below_drewN HBEL.out _⟩
        case pos =>
          have hdb := day0_bd hd
          rw [dayN_yes hd, decide_eq_true hd] at HD
          have HDD := Lib.hid hd
          obtain ⟨D, hD⟩ : ∃ D, day0 (A0 : Int) (A1 : Int) (A2 : Int) = D := ⟨_, rfl⟩
          rw [hD] at HD HV hdb
          clear hd hD
          by_cases h23 : (23 : Int) < (A3 : Int)
          case pos =>
            have t2 : decide ((23 : Int) < (A3 : Int)) = true := decide_eq_true h23
            have hno : ¬ secOk s.data.toList := fun h => by have := (HOK.out.1 h).2.1; omega
            have HF := Lib.hid (secN_no hno)
            have HF2 := Lib.hid (decide_eq_false hno)
            clear hno h23
            go_wp2_with fail
            refine HD.out.mono ?_
            rintro e w3 ⟨rfl, rfl⟩
            go_wp2_with (go_quiet (fail))
            go_ret2
            exact ⟨by rw [HF.out, HF2.out]; rfl, below_drewN HBEL.out _⟩
          have t2 : decide ((23 : Int) < (A3 : Int)) = false := decide_eq_false h23
          by_cases h59 : (59 : Int) < (A4 : Int)
          case pos =>
            have t3 : decide ((59 : Int) < (A4 : Int)) = true := decide_eq_true h59
            have hno : ¬ secOk s.data.toList := fun h => by have := (HOK.out.1 h).2.2.1; omega
            have HF := Lib.hid (secN_no hno)
            have HF2 := Lib.hid (decide_eq_false hno)
            clear hno h23 h59
            go_wp2_with fail
            refine HD.out.mono ?_
            rintro e w3 ⟨rfl, rfl⟩
            go_wp2_with (go_quiet (fail))
            go_ret2
            exact ⟨by rw [HF.out, HF2.out]; rfl, below_drewN HBEL.out _⟩
          have t3 : decide ((59 : Int) < (A4 : Int)) = false := decide_eq_false h59
          by_cases h60 : (59 : Int) < (A5 : Int)
          case pos =>
            have t4 : decide ((59 : Int) < (A5 : Int)) = true := decide_eq_true h60
            have hno : ¬ secOk s.data.toList := fun h => by have := (HOK.out.1 h).2.2.2; omega
            have HF := Lib.hid (secN_no hno)
            have HF2 := Lib.hid (decide_eq_false hno)
            clear hno h23 h59 h60
            go_wp2_with fail
            refine HD.out.mono ?_
            rintro e w3 ⟨rfl, rfl⟩
            go_wp2_with (go_quiet (fail))
            go_ret2
            exact ⟨by rw [HF.out, HF2.out]; rfl, below_drewN HBEL.out _⟩
          have t4 : decide ((59 : Int) < (A5 : Int)) = false := decide_eq_false h60
          have hyes : secOk s.data.toList := HOK.out.2 ⟨HDD.out, by omega, by omega, by omega⟩
          have HF := Lib.hid (secN_yes hyes)
          have HF2 := Lib.hid (decide_eq_true hyes)
          clear hyes h23 h59 h60
          go_wp2_with fail
          refine HD.out.mono ?_
          rintro e w3 ⟨rfl, rfl⟩
          go_wp2_with (go_quiet (fail))
          go_ret2
          exact ⟨by rw [HF.out, HF2.out, HV.out]; rfl, below_drewN HBEL.out _⟩
end Go.Proofs.YtfedidiieacakaaDoor.St
namespace Go.Proofs.YtfedidiieacakaaDoor.St
open Go.RowKit
open Go.Proofs.YtfedidiieacakaaDoor.Utf
open Go.Proofs.YtfedidiieacakaaDoor.Nu

set_option maxRecDepth 100000 in
set_option maxHeartbeats 1000000 in
theorem stIs_any (s : ByteArray) (w : World) (T : Tab w) (hs : s.size ≤ 9223372036854775807) : Calls Tryd.prog 12 #[.string s] w (Gives (.bool (decide (secOk s.data.toList))) w) := by
  have CS := Lib.hid (Seconds_any s w T hs)
  generalize decide (secOk s.data.toList) = B at *
  generalize secN s.data.toList = X at *
  go_enter Tryd.func12, Tryd.ntmps12
  go_wp2_with fail
  refine CS.out.mono ?_
  rintro e w1 ⟨rfl, hb1⟩
  have HB1 := Lib.hid hb1
  clear hb1
  go_wp2_with fail
  go_ret
  exact ⟨rfl, HB1.out⟩

set_option maxRecDepth 100000 in
set_option maxHeartbeats 1000000 in
theorem stCompare_any (a b : ByteArray) (w : World) (T : Tab w) (ha : a.size ≤ 9223372036854775807) (hb : b.size ≤ 9223372036854775807) :
    Calls Tryd.prog 17 #[.string a, .string b] w (Gives (.int .i64 (cmpS a.data.toList b.data.toList)) w) := by
  have CA := Lib.hid (fun wx (h : Tab wx) => stIs_any a wx h ha)
  have CB := Lib.hid (fun wx (h : Tab wx) => stIs_any b wx h hb)
  by_cases h1 : secOk a.data.toList
  · rw [decide_eq_true h1] at CA
    by_cases h2 : secOk b.data.toList
    · rw [decide_eq_true h2] at CB
      have HR := Lib.hid (show cmpS a.data.toList b.data.toList = Lib.compareBytes (noZ a.data.toList) (noZ b.data.toList) by unfold cmpS; rw [if_pos h1, if_pos h2])
      have la : 19 ≤ a.size := frm_len h1.1
      have lb : 19 ≤ b.size := frm_len h2.1
      obtain ⟨p, hp⟩ : ∃ p : Nat, a.size = p + 1 := ⟨a.size - 1, by omega⟩
      obtain ⟨q, hq⟩ : ∃ q : Nat, b.size = q + 1 := ⟨b.size - 1, by omega⟩
      have HX := Lib.hid (fun wx => sCompare_any (a.extract 0 p) (b.extract 0 q) wx)
      rw [exT, exT] at HX
      have na : noZ a.data.toList = a.data.toList.take p := by unfold noZ; rw [len_data, hp, Nat.add_sub_cancel]
      have nb : noZ b.data.toList = b.data.toList.take q := by unfold noZ; rw [len_data, hq, Nat.add_sub_cancel]
      rw [← na, ← nb] at HX
      have hpi : (a.size : Int) = (p : Int) + 1 := by omega
      have hqi : (b.size : Int) = (q : Int) + 1 := by omega
      have p0 : (0 : Int) ≤ (p : Int) := by omega
      have q0 : (0 : Int) ≤ (q : Int) := by omega
      have p1 : (p : Int) ≤ (p : Int) + 1 := by omega
      have q1 : (q : Int) ≤ (q : Int) + 1 := by omega
      have p2 : (p : Int) ≤ (a.size : Int) := by omega
      have q2 : (q : Int) ≤ (b.size : Int) := by omega
      clear h1 h2 la lb na nb
      go_enter Tryd.func17, Tryd.ntmps17
      go_wp2_with fail
      refine (CA.out _ T).mono ?_
      rintro e w1 ⟨rfl, hb1⟩
      have HB1 := Lib.hid hb1
      have HT1 := Lib.hid (T.below hb1)
      clear hb1
      go_wp2_with fail
      refine (CB.out _ HT1.out).mono ?_
      rintro e w2 ⟨rfl, hb2⟩
      have HB2 := Lib.hid (HB1.out.trans (hb2.mono HB1.out.size))
      clear hb2
      go_wp2_with (go_quiet ((go_at_call 28; refine Calls.quiet_of_same ((HX.out _).mono fun e w' h => ⟨h.1, h.2.symm⟩))))
      go_ret
      exact ⟨by rw [HR.out]; rfl, below_drewN HB2.out _⟩
    · rw [decide_eq_false h2] at CB
      have HR := Lib.hid (show cmpS a.data.toList b.data.toList = 1 by unfold cmpS; rw [if_pos h1, if_neg h2])
      clear h1 h2
      go_enter Tryd.func17, Tryd.ntmps17
      go_wp2_with fail
      refine (CA.out _ T).mono ?_
      rintro e w1 ⟨rfl, hb1⟩
      have HB1 := Lib.hid hb1
      have HT1 := Lib.hid (T.below hb1)
      clear hb1
      go_wp2_with fail
      refine (CB.out _ HT1.out).mono ?_
      rintro e w2 ⟨rfl, hb2⟩
      have HB2 := Lib.hid (HB1.out.trans (hb2.mono HB1.out.size))
      clear hb2
      go_wp2_with fail
      go_ret
      exact ⟨by rw [HR.out]; rfl, HB2.out⟩
  · rw [decide_eq_false h1] at CA
    by_cases h2 : secOk b.data.toList
    · rw [decide_eq_true h2] at CB
      have HR := Lib.hid (show cmpS a.data.toList b.data.toList = -1 by unfold cmpS; rw [if_neg h1, if_pos h2])
      clear h1 h2
      go_enter Tryd.func17, Tryd.ntmps17
      go_wp2_with fail
      refine (CA.out _ T).mono ?_
      rintro e w1 ⟨rfl, hb1⟩
      have HB1 := Lib.hid hb1
      have HT1 := Lib.hid (T.below hb1)
      clear hb1
      go_wp2_with fail
      refine (CB.out _ HT1.out).mono ?_
      rintro e w2 ⟨rfl, hb2⟩
      have HB2 := Lib.hid (HB1.out.trans (hb2.mono HB1.out.size))
      clear hb2
      go_wp2_with fail
      go_ret
      exact ⟨by rw [HR.out]; rfl, HB2.out⟩
    · rw [decide_eq_false h2] at CB
      have HR := Lib.hid (show cmpS a.data.toList b.data.toList = Lib.compareBytes a.data.toList b.data.toList by unfold cmpS; rw [if_neg h1, if_neg h2])
      have HX := Lib.hid (fun wx => sCompare_any a b wx)
      clear h1 h2
      go_enter Tryd.func17, Tryd.ntmps17
      go_wp2_with fail
      refine (CA.out _ T).mono ?_
      rintro e w1 ⟨rfl, hb1⟩
      have HB1 := Lib.hid hb1
      have HT1 := Lib.hid (T.below hb1)
      clear hb1
      go_wp2_with fail
      refine (CB.out _ HT1.out).mono ?_
      rintro e w2 ⟨rfl, hb2⟩
      have HB2 := Lib.hid (HB1.out.trans (hb2.mono HB1.out.size))
      clear hb2
      go_wp2_with fail
      refine (HX.out _).mono ?_
      rintro e w3 ⟨rfl, rfl⟩
      go_wp2_with fail
      go_ret
      exact ⟨by rw [HR.out]; rfl, HB2.out⟩
end Go.Proofs.YtfedidiieacakaaDoor.St
