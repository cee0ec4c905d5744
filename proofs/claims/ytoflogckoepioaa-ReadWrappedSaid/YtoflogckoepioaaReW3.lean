import Derived.Test.YtoflogckoepioaaReW2
import Derived.Test.YtoflogckoepioaaReWr
import Derived.Deep.RegionHeld3
/- The walk of the law ReadWrapped. Written by tools/genReW3.py. -/
namespace Go.Proofs.Ytoflogckoepioaa.Re
open Go.RowKit
open Go.Proofs.Ytoflogckoepioaa.Utf
open Go.Proofs.Ytoflogckoepioaa.Sc

/-- the cells of a list of one value -/
theorem ls_mem {w : World} {lo hi : Nat} {v : V} {cs : List Value} (h : RdV w lo hi (lsV [v]) cs) : ∃ g c A2 c2 D d D2 d2, cs = [.int .i64 5, .int .i64 0, .string ⟨#[]⟩, .slice (some ⟨g, 0, none⟩) 1 c, .slice A2 0 c2] ∧ g < hi ∧
    (∀ j u, [.int .i64 v.k, .int .i64 v.n, .string (strOf v.s), .slice D v.l.length d, .slice D2 v.ms.length d2][j]? = some u → w.cell? ⟨g, j, none⟩ = some u) ∧
    RdV w lo hi v [.int .i64 v.k, .int .i64 v.n, .string (strOf v.s), .slice D v.l.length d, .slice D2 v.ms.length d2] := by
  obtain ⟨A, c, A2, c2, rfl, _, hl, _⟩ := h.cells
  obtain ⟨g, rfl, _, hg, hL⟩ := hl (by simp [lsV, V.l])
  obtain ⟨cs0, k0, r0⟩ := RdL.at_ _ 0 hL 0 (by simp [lsV, V.l])
  obtain ⟨D, d, D2, d2, rfl, _⟩ := r0.cells
  refine ⟨g, c, A2, c2, D, d, D2, d2, rfl, hg, fun j u hu => ?_, r0⟩
  have := k0 j u hu
  rwa [show (0 + 0) * 5 + j = j by omega] at this
/-- the cells of a map of one member -/
theorem mp_mem {w : World} {lo hi : Nat} {nm : List UInt8} {v : V} {cs : List Value} (h : RdV w lo hi (mpV ([nm], [v])) cs) : ∃ g c A2 c2 D d D2 d2, cs = [.int .i64 6, .int .i64 0, .string ⟨#[]⟩, .slice A2 0 c2, .slice (some ⟨g, 0, none⟩) 1 c] ∧ g < hi ∧ w.cell? ⟨g, 0, none⟩ = some (.string (strOf nm)) ∧
    (∀ j u, [.int .i64 v.k, .int .i64 v.n, .string (strOf v.s), .slice D v.l.length d, .slice D2 v.ms.length d2][j]? = some u → w.cell? ⟨g, j + 1, none⟩ = some u) ∧
    RdV w lo hi v [.int .i64 v.k, .int .i64 v.n, .string (strOf v.s), .slice D v.l.length d, .slice D2 v.ms.length d2] := by
  obtain ⟨A, c, A2, c2, rfl, _, _, hm⟩ := h.cells
  obtain ⟨g, rfl, _, hg, hM⟩ := hm (by simp [mpV, V.ms])
  obtain ⟨h0, cs0, k0, r0⟩ := RdM.at_ _ _ 0 hM 0 (by simp [mpV, V.ms]) (by simp [mpV, V.ns])
  obtain ⟨D, d, D2, d2, rfl, _⟩ := r0.cells
  refine ⟨g, c2, A, c, D, d, D2, d2, rfl, hg, h0, fun j u hu => ?_, r0⟩
  have := k0 j u hu
  rwa [show (0 + 0) * 6 + 1 + j = j + 1 by omega] at this

set_option maxRecDepth 100000 in
set_option maxHeartbeats 4000000 in
theorem wrapped_walk (s : ByteArray) (w : World) (hs : s.size ≤ 9223372036854775807) :
    Calls Try.prog 5 #[.string s] w fun e w' => e = .returned (.bool true) ∧ Below w.heap.size w w' := by
  rcases hr : rdV s.data.toList with ⟨v, p, y⟩
  have hV : ∀ w, Calls Try.prog 7 #[.string s] w (GivesVal2 v p y w) := fun w => Value_any2 s w hs hr
  have HV := Lib.hid hV; clear hV
  obtain ⟨X, hX⟩ : ∃ X, X = strOf v.s := ⟨_, rfl⟩
  have HX := Lib.hid hX; clear hX
  by_cases he : y = 0
  · subst he
    by_cases hl : 60000 < s.size
    · have d1 : decide ((60000 : Int) < (s.size : Int)) = true := decide_eq_true (by omega)
      have d2 : decide (60000 < s.size) = true := decide_eq_true hl
      clear hl hr
      go_enter Try.func5, Try.ntmps5
      go_wp2_with fail
      refine (HV.out w).mono ?_
      rintro e_ w1 ⟨A, a, A2, a2, rfl, hv1, hb1⟩
      rw [← HX.out]
      clear hv1
      obtain ⟨W1, hW1⟩ : ∃ W1, W1 = w1.alloc (.cells #[.int .i64 v.k, .int .i64 v.n, .string X, .slice A v.l.length a, .slice A2 v.ms.length a2] 25) := ⟨_, rfl⟩
      have B1 : Below w1.heap.size w1 W1 := by rw [hW1]; exact (Below.refl _ _).alloc (Nat.le_refl _) _
      have HW1 := Lib.hid hW1; clear hW1
      go_wp2_with fail
      rw [← HW1.out]
      refine (awake_any5 _).mono ?_
      rintro e_ w2 ⟨rfl, hb2⟩
      go_wp2_with fail
      refine (awake_any5 _).mono ?_
      rintro e_ w3 ⟨rfl, hb3⟩
      go_wp2_with fail
      go_ret
      have T1 := hb1.trans (B1.mono hb1.size)
      have T2 := T1.trans (hb2.mono T1.size)
      exact ⟨rfl, T2.trans (hb3.mono T2.size)⟩
    · have d1 : decide ((60000 : Int) < (s.size : Int)) = false := decide_eq_false (by omega)
      have d2 : decide (60000 < s.size) = false := decide_eq_false hl
      have h0 : (rdV s.data.toList).2.2 = 0 := by rw [hr]
      obtain ⟨o1, o2, o3, o4, _⟩ := sorts_ok h0
      have hwl := wrap_list h0 (by rw [len_data]; omega)
      have hwm := wrap_map h0 (by rw [len_data]; omega)
      rw [hr] at o1 o2 o3 o4 hwl hwm
      simp only at o1 o2 o3 o4 hwl hwm
      obtain ⟨hfit1, hfit2⟩ := fit_wrap o3 o2
      have hht := ht_le v
      have HOK := Lib.hid o4; clear o4
      -- the texts
      obtain ⟨T1, hT1⟩ : ∃ T, T = (⟨#[91]⟩ : ByteArray) ++ s := ⟨_, rfl⟩
      obtain ⟨TL, hTL0⟩ : ∃ T, T = T1 ++ (⟨#[93]⟩ : ByteArray) := ⟨_, rfl⟩
      obtain ⟨T2, hT2⟩ : ∃ T, T = (⟨#[123, 34, 107, 34, 58]⟩ : ByteArray) ++ s := ⟨_, rfl⟩
      obtain ⟨TM, hTM0⟩ : ∃ T, T = T2 ++ (⟨#[125]⟩ : ByteArray) := ⟨_, rfl⟩
      have l1 : T1.size = 1 + s.size := by rw [hT1, ByteArray.size_append]; rfl
      have l2 : TL.size = 1 + s.size + 1 := by rw [hTL0, ByteArray.size_append, l1]; rfl
      have l3 : T2.size = 5 + s.size := by rw [hT2, ByteArray.size_append]; rfl
      have l4 : TM.size = 5 + s.size + 1 := by rw [hTM0, ByteArray.size_append, l3]; rfl
      have hTL : TL.data.toList = [91] ++ (s.data.toList ++ [93]) := by
        rw [hTL0, hT1, ByteArray.data_append, ByteArray.data_append, Array.toList_append, Array.toList_append, List.append_assoc]
      have hTM : TM.data.toList = [123, 34, 107, 34, 58] ++ (s.data.toList ++ [125]) := by
        rw [hTM0, hT2, ByteArray.data_append, ByteArray.data_append, Array.toList_append, Array.toList_append, List.append_assoc]
      have a1 : ∀ w : World, (Op.stringOp .add ⟨#[91]⟩ s).run Try.prog w = .ok (.string T1) w := fun w => by rw [hT1]; exact run_string_add_sum w _ _ (by show 1 + s.size ≤ 9223372036854775807; omega)
      have a2 : ∀ w : World, (Op.stringOp .add T1 ⟨#[93]⟩).run Try.prog w = .ok (.string TL) w := fun w => by rw [hTL0]; exact run_string_add_sum w _ _ (by show T1.size + 1 ≤ 9223372036854775807; omega)
      have a3 : ∀ w : World, (Op.stringOp .add ⟨#[123, 34, 107, 34, 58]⟩ s).run Try.prog w = .ok (.string T2) w := fun w => by rw [hT2]; exact run_string_add_sum w _ _ (by show 5 + s.size ≤ 9223372036854775807; omega)
      have a4 : ∀ w : World, (Op.stringOp .add T2 ⟨#[125]⟩).run Try.prog w = .ok (.string TM) w := fun w => by rw [hTM0]; exact run_string_add_sum w _ _ (by show T2.size + 1 ≤ 9223372036854775807; omega)
      clear hT1 hTL0 hT2 hTM0 hr h0
      by_cases hq : cnt v = 8192 ∨ dp v 1 = 16
      · -- too deep, or too many
        have hf : fit v 2 1 ≠ 0 := fun h => hfit1.1 h hq
        obtain ⟨v4, p4, rfl4⟩ : ∃ v4 p4, rdV ([91] ++ (s.data.toList ++ [93])) = (v4, p4, fit v 2 1) := by
          rcases hwl with ⟨h, _⟩ | ⟨_, h⟩
          · exact absurd h hf
          · exact ⟨_, _, by rw [← h]⟩
        obtain ⟨v5, p5, rfl5⟩ : ∃ v5 p5, rdV ([123, 34, 107, 34, 58] ++ (s.data.toList ++ [125])) = (v5, p5, fit v 2 1) := by
          rcases hwm with ⟨h, _⟩ | ⟨_, h⟩
          · exact absurd h hf
          · exact ⟨_, _, by rw [← h]⟩
        have hV4 : ∀ w, Calls Try.prog 7 #[.string TL] w (GivesVal2 v4 p4 (fit v 2 1) w) := fun w => Value_any2 TL w (by omega) (by rw [hTL]; exact rfl4)
        have hV5 : ∀ w, Calls Try.prog 7 #[.string TM] w (GivesVal2 v5 p5 (fit v 2 1) w) := fun w => Value_any2 TM w (by omega) (by rw [hTM]; exact rfl5)
        have hy : fit v 2 1 = 51 ∨ fit v 2 1 = 53 := by rcases hfit2 with h | h | h; exact absurd h hf; exact .inl h; exact .inr h
        obtain ⟨y4, hy4⟩ : ∃ y4, y4 = fit v 2 1 := ⟨_, rfl⟩
        rw [← hy4] at hV4 hV5 hy
        obtain ⟨X4, hX4⟩ : ∃ X, X = strOf v4.s := ⟨_, rfl⟩
        obtain ⟨X5, hX5⟩ : ∃ X, X = strOf v5.s := ⟨_, rfl⟩
        have HX4 := Lib.hid hX4
        have HX5 := Lib.hid hX5
        have HV4 := Lib.hid hV4
        have HV5 := Lib.hid hV5
        clear hV4 hV5 hX4 hX5 hy4 rfl4 rfl5 hf hwl hwm hTL hTM hfit1 hfit2
        have t8 : ((cnt v : Nat) : Int) = 8192 ∨ ((dp v 1 : Nat) : Int) = 16 := by omega
        obtain ⟨q1, q2⟩ : (((((cnt v : Nat) : Int) == 8192) = true) ∨ (((cnt v : Nat) : Int) == 8192) = false ∧ (((dp v 1 : Nat) : Int) == 16) = true) ∧ True := by
          refine ⟨?_, trivial⟩
          by_cases h : ((cnt v : Nat) : Int) = 8192
          · exact .inl (by rw [beq_iff_eq]; exact h)
          · exact .inr ⟨by rw [beq_eq_false_iff_ne]; exact h, by rw [beq_iff_eq]; omega⟩
        clear q2 t8 hq
        obtain ⟨nc, hnc⟩ : ∃ nc : Int, nc = ((cnt v : Nat) : Int) := ⟨_, rfl⟩
        obtain ⟨nd, hnd⟩ : ∃ nd : Int, nd = ((dp v 1 : Nat) : Int) := ⟨_, rfl⟩
        rw [← hnc, ← hnd] at q1
        have HNC := Lib.hid hnc
        have HND := Lib.hid hnd
        clear hnc hnd
        rcases q1 with q1 | ⟨q1, q2⟩
        · go_enter Try.func5, Try.ntmps5
          go_wp2_with fail
          refine (HV.out w).mono ?_
          rintro e_ w1 ⟨A, a, A2, a2, rfl, hvw1, hb1⟩
          rw [← HX.out] at hvw1 ⊢
          obtain ⟨W1, hwW1⟩ : ∃ W1, W1 = w1.alloc (.cells #[.int .i64 v.k, .int .i64 v.n, .string X, .slice A v.l.length a, .slice A2 v.ms.length a2] 25) := ⟨_, rfl⟩
          have zw1 : W1.heap[w1.heap.size]? = some (.cells #[.int .i64 v.k, .int .i64 v.n, .string X, .slice A v.l.length a, .slice A2 v.ms.length a2] 25 (0, 0)) := by rw [hwW1]; exact heap_alloc_new w1 _
          have sw1 : W1.heap.size = w1.heap.size + 1 := by rw [hwW1, szAlloc']
          have bw1 : Below w1.heap.size w1 W1 := by rw [hwW1]; exact (Below.refl _ _).alloc (Nat.le_refl _) _
          have HWw1 := Lib.hid hwW1; clear hwW1
          have HVw1 := Lib.hid hvw1; clear hvw1
          go_wp2_with fail
          rw [← HWw1.out]
          refine (awake_any5 _).mono ?_
          rintro e_ w2 ⟨rfl, hb2⟩
          have n1 := hb1.size
          have n2 := hb2.size
          have z2 := (hb2.block w1.heap.size (by omega)).trans zw1
          obtain ⟨y0, y1, y2, y3, y4⟩ := cells5 z2
          have C1 : Below w1.heap.size w1 w2 := bw1.trans (hb2.mono (by omega))
          have hc := count_any (ht v) v 1 _ w2 (Nat.le_refl _) HOK.out (by omega) (by omega) (HVw1.out.wide C1 (Nat.le_refl _) (by omega))
          have HC := Lib.hid hc; clear hc
          clear zw1 bw1 hb2
          go_wp2_with fail
          refine HC.out.mono ?_
          rw [← HNC.out, ← HND.out]
          rintro e_ w3 ⟨rfl, hb3⟩
          have n3 := hb3.size
          have z3 := (hb3.block w1.heap.size (by omega)).trans z2
          have C2 : Below w1.heap.size w1 w3 := C1.trans (hb3.mono (by omega))
          clear z2 y0 y1 y2 y3 y4 hb3 C1
          go_wp2_with fail
          refine (HV4.out w3).mono ?_
          rintro e_ w4 ⟨D, d, D2, d2, rfl, hv4, hb4⟩
          rw [← HX4.out]
          clear hv4
          have n4 := hb4.size
          obtain ⟨W4, hW4⟩ : ∃ W4, W4 = w4.alloc (.cells #[.int .i64 v4.k, .int .i64 v4.n, .string X4, .slice D v4.l.length d, .slice D2 v4.ms.length d2] 25) := ⟨_, rfl⟩
          have B4 : Below w4.heap.size w4 W4 := by rw [hW4]; exact (Below.refl _ _).alloc (Nat.le_refl _) _
          have HW4 := Lib.hid hW4; clear hW4
          go_wp2_with fail
          rw [← HW4.out]
          refine (HV5.out W4).mono ?_
          rintro e_ w5 ⟨E, e, E2, e2, rfl, hv5, hb5⟩
          rw [← HX5.out]
          clear hv5
          have T4 : Below w.heap.size w w4 := (hb1.trans (C2.mono hb1.size)).trans (hb4.mono (by omega))
          have T5 : Below w.heap.size w w5 := (T4.trans (B4.mono T4.size)).trans (hb5.mono (by have := T4.size; have := B4.size; omega))
          rcases hy with rfl | rfl
          · go_wp2_with fail
            go_ret
            exact ⟨rfl, T5.alloc T5.size _⟩
          · go_wp2_with fail
            go_ret
            exact ⟨rfl, T5.alloc T5.size _⟩
        · go_enter Try.func5, Try.ntmps5
          go_wp2_with fail
          refine (HV.out w).mono ?_
          rintro e_ w1 ⟨A, a, A2, a2, rfl, hvw1, hb1⟩
          rw [← HX.out] at hvw1 ⊢
          obtain ⟨W1, hwW1⟩ : ∃ W1, W1 = w1.alloc (.cells #[.int .i64 v.k, .int .i64 v.n, .string X, .slice A v.l.length a, .slice A2 v.ms.length a2] 25) := ⟨_, rfl⟩
          have zw1 : W1.heap[w1.heap.size]? = some (.cells #[.int .i64 v.k, .int .i64 v.n, .string X, .slice A v.l.length a, .slice A2 v.ms.length a2] 25 (0, 0)) := by rw [hwW1]; exact heap_alloc_new w1 _
          have sw1 : W1.heap.size = w1.heap.size + 1 := by rw [hwW1, szAlloc']
          have bw1 : Below w1.heap.size w1 W1 := by rw [hwW1]; exact (Below.refl _ _).alloc (Nat.le_refl _) _
          have HWw1 := Lib.hid hwW1; clear hwW1
          have HVw1 := Lib.hid hvw1; clear hvw1
          go_wp2_with fail
          rw [← HWw1.out]
          refine (awake_any5 _).mono ?_
          rintro e_ w2 ⟨rfl, hb2⟩
          have n1 := hb1.size
          have n2 := hb2.size
          have z2 := (hb2.block w1.heap.size (by omega)).trans zw1
          obtain ⟨y0, y1, y2, y3, y4⟩ := cells5 z2
          have C1 : Below w1.heap.size w1 w2 := bw1.trans (hb2.mono (by omega))
          have hc := count_any (ht v) v 1 _ w2 (Nat.le_refl _) HOK.out (by omega) (by omega) (HVw1.out.wide C1 (Nat.le_refl _) (by omega))
          have HC := Lib.hid hc; clear hc
          clear zw1 bw1 hb2
          go_wp2_with fail
          refine HC.out.mono ?_
          rw [← HNC.out, ← HND.out]
          rintro e_ w3 ⟨rfl, hb3⟩
          have n3 := hb3.size
          have z3 := (hb3.block w1.heap.size (by omega)).trans z2
          have C2 : Below w1.heap.size w1 w3 := C1.trans (hb3.mono (by omega))
          clear z2 y0 y1 y2 y3 y4 hb3 C1
          go_wp2_with fail
          refine (HV4.out w3).mono ?_
          rintro e_ w4 ⟨D, d, D2, d2, rfl, hv4, hb4⟩
          rw [← HX4.out]
          clear hv4
          have n4 := hb4.size
          obtain ⟨W4, hW4⟩ : ∃ W4, W4 = w4.alloc (.cells #[.int .i64 v4.k, .int .i64 v4.n, .string X4, .slice D v4.l.length d, .slice D2 v4.ms.length d2] 25) := ⟨_, rfl⟩
          have B4 : Below w4.heap.size w4 W4 := by rw [hW4]; exact (Below.refl _ _).alloc (Nat.le_refl _) _
          have HW4 := Lib.hid hW4; clear hW4
          go_wp2_with fail
          rw [← HW4.out]
          refine (HV5.out W4).mono ?_
          rintro e_ w5 ⟨E, e, E2, e2, rfl, hv5, hb5⟩
          rw [← HX5.out]
          clear hv5
          have T4 : Below w.heap.size w w4 := (hb1.trans (C2.mono hb1.size)).trans (hb4.mono (by omega))
          have T5 : Below w.heap.size w w5 := (T4.trans (B4.mono T4.size)).trans (hb5.mono (by have := T4.size; have := B4.size; omega))
          rcases hy with rfl | rfl
          · go_wp2_with fail
            go_ret
            exact ⟨rfl, T5.alloc T5.size _⟩
          · go_wp2_with fail
            go_ret
            exact ⟨rfl, T5.alloc T5.size _⟩
      · -- one deeper
        have hf : fit v 2 1 = 0 := hfit1.2 hq
        have hV4 : ∀ w, Calls Try.prog 7 #[.string TL] w (GivesVal2 (lsV [v]) 0 0 w) := fun w => Value_any2 TL w (by omega) (by
          rw [hTL]
          rcases hwl with ⟨_, h⟩ | ⟨h, _⟩
          · exact h
          · exact absurd hf h)
        have hV5 : ∀ w, Calls Try.prog 7 #[.string TM] w (GivesVal2 (mpV ([[107]], [v])) 0 0 w) := fun w => Value_any2 TM w (by omega) (by
          rw [hTM]
          rcases hwm with ⟨_, h⟩ | ⟨h, _⟩
          · exact h
          · exact absurd hf h)
        have HV4 := Lib.hid hV4
        have HV5 := Lib.hid hV5
        clear hV4 hV5 hf hwl hwm hTL hTM hfit1 hfit2
        have q1 : (((cnt v : Nat) : Int) == 8192) = false := by rw [beq_eq_false_iff_ne]; omega
        have q2 : (((dp v 1 : Nat) : Int) == 16) = false := by rw [beq_eq_false_iff_ne]; omega
        have hnm : (ByteArray.mk #[107]).toList = [107] := by rw [ByteArray.toList_eq]
        obtain ⟨nc, hnc⟩ : ∃ nc : Int, nc = ((cnt v : Nat) : Int) := ⟨_, rfl⟩
        obtain ⟨nd, hnd⟩ : ∃ nd : Int, nd = ((dp v 1 : Nat) : Int) := ⟨_, rfl⟩
        rw [← hnc] at q1
        rw [← hnd] at q2
        have HNC := Lib.hid hnc
        have HND := Lib.hid hnd
        clear hnc hnd hq
        go_enter Try.func5, Try.ntmps5
        go_wp2_with fail
        refine (HV.out w).mono ?_
        rintro e_ w1 ⟨A, a, A2, a2, rfl, hvw1, hb1⟩
        rw [← HX.out] at hvw1 ⊢
        obtain ⟨W1, hwW1⟩ : ∃ W1, W1 = w1.alloc (.cells #[.int .i64 v.k, .int .i64 v.n, .string X, .slice A v.l.length a, .slice A2 v.ms.length a2] 25) := ⟨_, rfl⟩
        have zw1 : W1.heap[w1.heap.size]? = some (.cells #[.int .i64 v.k, .int .i64 v.n, .string X, .slice A v.l.length a, .slice A2 v.ms.length a2] 25 (0, 0)) := by rw [hwW1]; exact heap_alloc_new w1 _
        have sw1 : W1.heap.size = w1.heap.size + 1 := by rw [hwW1, szAlloc']
        have bw1 : Below w1.heap.size w1 W1 := by rw [hwW1]; exact (Below.refl _ _).alloc (Nat.le_refl _) _
        have HWw1 := Lib.hid hwW1; clear hwW1
        have HVw1 := Lib.hid hvw1; clear hvw1
        go_wp2_with fail
        rw [← HWw1.out]
        refine (awake_any5 _).mono ?_
        rintro e_ w2 ⟨rfl, hb2⟩
        have n1 := hb1.size
        have n2 := hb2.size
        have z2 := (hb2.block w1.heap.size (by omega)).trans zw1
        obtain ⟨y0, y1, y2, y3, y4⟩ := cells5 z2
        have C1 : Below w1.heap.size w1 w2 := bw1.trans (hb2.mono (by omega))
        have hc := count_any (ht v) v 1 _ w2 (Nat.le_refl _) HOK.out (by omega) (by omega) (HVw1.out.wide C1 (Nat.le_refl _) (by omega))
        have HC := Lib.hid hc; clear hc
        clear zw1 bw1 hb2
        go_wp2_with fail
        refine HC.out.mono ?_
        rw [← HNC.out, ← HND.out]
        rintro e_ w3 ⟨rfl, hb3⟩
        have n3 := hb3.size
        have z3 := (hb3.block w1.heap.size (by omega)).trans z2
        have C2 : Below w1.heap.size w1 w3 := C1.trans (hb3.mono (by omega))
        clear z2 y0 y1 y2 y3 y4 hb3 C1
        go_wp2_with fail
        refine (HV4.out w3).mono ?_
        rintro e_ w4 ⟨_, _, _, _, rfl, hv4, hb4⟩
        obtain ⟨g, c, C2', f2, D, d, D2, d2, hcs4, hg, xl, rl⟩ := ls_mem hv4
        simp only [List.cons.injEq, and_true] at hcs4
        obtain ⟨u0, u1, u2, u3, u4⟩ := hcs4
        rw [u0, u1, u2, u3, u4]
        rw [← HX.out] at xl rl
        clear hv4 u0 u1 u2 u3 u4
        have n4 := hb4.size
        obtain ⟨W4, hW4⟩ : ∃ W4, W4 = w4.alloc (.cells #[.int .i64 5, .int .i64 0, .string ⟨#[]⟩, .slice (some ⟨g, 0, none⟩) 1 c, .slice C2' 0 f2] 25) := ⟨_, rfl⟩
        have z4 : W4.heap[w4.heap.size]? = some (.cells #[.int .i64 5, .int .i64 0, .string ⟨#[]⟩, .slice (some ⟨g, 0, none⟩) 1 c, .slice C2' 0 f2] 25 (0, 0)) := by rw [hW4]; exact heap_alloc_new w4 _
        have s4 : W4.heap.size = w4.heap.size + 1 := by rw [hW4, szAlloc']
        have B4 : Below w4.heap.size w4 W4 := by rw [hW4]; exact (Below.refl _ _).alloc (Nat.le_refl _) _
        have HW4 := Lib.hid hW4; clear hW4
        have HXL := Lib.hid xl; clear xl
        have HRL := Lib.hid rl; clear rl
        go_wp2_with fail
        rw [← HW4.out]
        refine (HV5.out W4).mono ?_
        rintro e_ w5 ⟨_, _, _, _, rfl, hv5, hb5⟩
        obtain ⟨g2, k2, K, k, E, e, E2, e2, hcs5, hg2, xn, xm, rm⟩ := mp_mem hv5
        simp only [List.cons.injEq, and_true] at hcs5
        obtain ⟨u0, u1, u2, u3, u4⟩ := hcs5
        rw [u0, u1, u2, u3, u4]
        rw [← HX.out] at xm rm
        clear hv5 u0 u1 u2 u3 u4
        have n5 := hb5.size
        obtain ⟨W5, hW5⟩ : ∃ W5, W5 = w5.alloc (.cells #[.int .i64 6, .int .i64 0, .string ⟨#[]⟩, .slice K 0 k, .slice (some ⟨g2, 0, none⟩) 1 k2] 25) := ⟨_, rfl⟩
        have z5 : W5.heap[w5.heap.size]? = some (.cells #[.int .i64 6, .int .i64 0, .string ⟨#[]⟩, .slice K 0 k, .slice (some ⟨g2, 0, none⟩) 1 k2] 25 (0, 0)) := by rw [hW5]; exact heap_alloc_new w5 _
        have s5 : W5.heap.size = w5.heap.size + 1 := by rw [hW5, szAlloc']
        have B5 : Below w5.heap.size w5 W5 := by rw [hW5]; exact (Below.refl _ _).alloc (Nat.le_refl _) _
        have HW5 := Lib.hid hW5; clear hW5
        -- what lies where, in front of the region
        have C45 : Below w4.heap.size w4 w5 := B4.trans (hb5.mono (by omega))
        have C4 : Below w4.heap.size w4 W5 := C45.trans (B5.mono (by omega))
        have C3 : Below w3.heap.size w3 W5 := hb4.trans (C4.mono (by omega))
        have C15 : Below w1.heap.size w1 W5 := C2.trans (C3.mono (by omega))
        have T5 : Below w.heap.size w W5 := hb1.trans (C15.mono (by omega))
        have z1 := (C3.block w1.heap.size (by omega)).trans z3
        have z4' := (B5.block w4.heap.size (by omega)).trans ((hb5.block w4.heap.size (by omega)).trans z4)
        have R1 := HVw1.out.wide C15 (Nat.le_refl _) (by omega)
        have RL := HRL.out.wide C4 (Nat.le_refl _) (by omega)
        have RM := rm.wide B5 (Nat.le_refl _) (by omega)
        have n1 : w1.heap.size < W5.heap.size := by omega
        have n4 : w4.heap.size < W5.heap.size := by omega
        have n5 : w5.heap.size < W5.heap.size := by omega
        have ng : g < W5.heap.size := by omega
        have ng2 : g2 < W5.heap.size := by omega
        have hc1 := fun w' (hb : Below W5.heap.size W5 w') => Same_any (ht v) v v _ _ w' (Nat.le_refl _) (by omega) (RL.wide hb (Nat.le_refl _) hb.size) (R1.wide hb (Nat.le_refl _) hb.size)
        have hc2 := fun w' (hb : Below W5.heap.size W5 w') => Same_any (ht v) v v _ _ w' (Nat.le_refl _) (by omega) (RM.wide hb (Nat.le_refl _) hb.size) (R1.wide hb (Nat.le_refl _) hb.size)
        have HC1 := Lib.hid hc1; clear hc1
        have HC2 := Lib.hid hc2; clear hc2
        have s0 : W5.cell? ⟨w4.heap.size, 3, none⟩ = some (.slice (some ⟨g, 0, none⟩) 1 c) := (cells5 z4').2.2.2.1
        have s1 : W5.cell? ⟨g, 0, none⟩ = some (.int .i64 v.k) := (C4.cell hg).trans (HXL.out 0 _ rfl)
        have s2 : W5.cell? ⟨g, 1, none⟩ = some (.int .i64 v.n) := (C4.cell hg).trans (HXL.out 1 _ rfl)
        have s3 : W5.cell? ⟨g, 2, none⟩ = some (.string X) := (C4.cell hg).trans (HXL.out 2 _ rfl)
        have s4 : W5.cell? ⟨g, 3, none⟩ = some (.slice D v.l.length d) := (C4.cell hg).trans (HXL.out 3 _ rfl)
        have s5 : W5.cell? ⟨g, 4, none⟩ = some (.slice D2 v.ms.length d2) := (C4.cell hg).trans (HXL.out 4 _ rfl)
        have s6 : W5.cell? ⟨w1.heap.size, 0, none⟩ = some (.int .i64 v.k) := (cells5 z1).1
        have s7 : W5.cell? ⟨w1.heap.size, 1, none⟩ = some (.int .i64 v.n) := (cells5 z1).2.1
        have s8 : W5.cell? ⟨w1.heap.size, 2, none⟩ = some (.string X) := (cells5 z1).2.2.1
        have s9 : W5.cell? ⟨w1.heap.size, 3, none⟩ = some (.slice A v.l.length a) := (cells5 z1).2.2.2.1
        have s10 : W5.cell? ⟨w1.heap.size, 4, none⟩ = some (.slice A2 v.ms.length a2) := (cells5 z1).2.2.2.2
        have s11 : W5.cell? ⟨w5.heap.size, 4, none⟩ = some (.slice (some ⟨g2, 0, none⟩) 1 k2) := (cells5 z5).2.2.2.2
        have s12 : W5.cell? ⟨g2, 0, none⟩ = some (.string ⟨#[107]⟩) := (B5.cell hg2).trans xn
        have s13 : W5.cell? ⟨g2, 1, none⟩ = some (.int .i64 v.k) := (B5.cell hg2).trans (xm 0 _ rfl)
        have s14 : W5.cell? ⟨g2, 2, none⟩ = some (.int .i64 v.n) := (B5.cell hg2).trans (xm 1 _ rfl)
        have s15 : W5.cell? ⟨g2, 3, none⟩ = some (.string X) := (B5.cell hg2).trans (xm 2 _ rfl)
        have s16 : W5.cell? ⟨g2, 4, none⟩ = some (.slice E v.l.length e) := (B5.cell hg2).trans (xm 3 _ rfl)
        have s17 : W5.cell? ⟨g2, 5, none⟩ = some (.slice E2 v.ms.length e2) := (B5.cell hg2).trans (xm 4 _ rfl)
        clear z1 z3 z4 z4' z5 xn xm rm R1 RL RM C45 C4 C3 C15 C2 B4 B5 hb1 hb4 hb5
        go_wp2_with fail
        rw [← HW5.out]
        go_region_held3 (fun w' => w'.cell? ⟨w4.heap.size, 3, none⟩ = some (.slice (some ⟨g, 0, none⟩) 1 c) ∧ w'.cell? ⟨g, 0, none⟩ = some (.int .i64 v.k) ∧ w'.cell? ⟨g, 1, none⟩ = some (.int .i64 v.n) ∧ w'.cell? ⟨g, 2, none⟩ = some (.string X) ∧ w'.cell? ⟨g, 3, none⟩ = some (.slice D v.l.length d) ∧ w'.cell? ⟨g, 4, none⟩ = some (.slice D2 v.ms.length d2) ∧ w'.cell? ⟨w1.heap.size, 0, none⟩ = some (.int .i64 v.k) ∧ w'.cell? ⟨w1.heap.size, 1, none⟩ = some (.int .i64 v.n) ∧ w'.cell? ⟨w1.heap.size, 2, none⟩ = some (.string X) ∧ w'.cell? ⟨w1.heap.size, 3, none⟩ = some (.slice A v.l.length a) ∧ w'.cell? ⟨w1.heap.size, 4, none⟩ = some (.slice A2 v.ms.length a2) ∧ w'.cell? ⟨w5.heap.size, 4, none⟩ = some (.slice (some ⟨g2, 0, none⟩) 1 k2) ∧ w'.cell? ⟨g2, 0, none⟩ = some (.string ⟨#[107]⟩) ∧ w'.cell? ⟨g2, 1, none⟩ = some (.int .i64 v.k) ∧ w'.cell? ⟨g2, 2, none⟩ = some (.int .i64 v.n) ∧ w'.cell? ⟨g2, 3, none⟩ = some (.string X) ∧ w'.cell? ⟨g2, 4, none⟩ = some (.slice E v.l.length e) ∧ w'.cell? ⟨g2, 5, none⟩ = some (.slice E2 v.ms.length e2))
          (first | exact ⟨(KK7 ⟨w4.heap.size, 3, none⟩ n4).trans s0, (KK7 ⟨g, 0, none⟩ ng).trans s1, (KK7 ⟨g, 1, none⟩ ng).trans s2, (KK7 ⟨g, 2, none⟩ ng).trans s3, (KK7 ⟨g, 3, none⟩ ng).trans s4, (KK7 ⟨g, 4, none⟩ ng).trans s5, (KK7 ⟨w1.heap.size, 0, none⟩ n1).trans s6, (KK7 ⟨w1.heap.size, 1, none⟩ n1).trans s7, (KK7 ⟨w1.heap.size, 2, none⟩ n1).trans s8, (KK7 ⟨w1.heap.size, 3, none⟩ n1).trans s9, (KK7 ⟨w1.heap.size, 4, none⟩ n1).trans s10, (KK7 ⟨w5.heap.size, 4, none⟩ n5).trans s11, (KK7 ⟨g2, 0, none⟩ ng2).trans s12, (KK7 ⟨g2, 1, none⟩ ng2).trans s13, (KK7 ⟨g2, 2, none⟩ ng2).trans s14, (KK7 ⟨g2, 3, none⟩ ng2).trans s15, (KK7 ⟨g2, 4, none⟩ ng2).trans s16, (KK7 ⟨g2, 5, none⟩ ng2).trans s17⟩ | exact ⟨(KK6 ⟨w4.heap.size, 3, none⟩ n4).trans s0, (KK6 ⟨g, 0, none⟩ ng).trans s1, (KK6 ⟨g, 1, none⟩ ng).trans s2, (KK6 ⟨g, 2, none⟩ ng).trans s3, (KK6 ⟨g, 3, none⟩ ng).trans s4, (KK6 ⟨g, 4, none⟩ ng).trans s5, (KK6 ⟨w1.heap.size, 0, none⟩ n1).trans s6, (KK6 ⟨w1.heap.size, 1, none⟩ n1).trans s7, (KK6 ⟨w1.heap.size, 2, none⟩ n1).trans s8, (KK6 ⟨w1.heap.size, 3, none⟩ n1).trans s9, (KK6 ⟨w1.heap.size, 4, none⟩ n1).trans s10, (KK6 ⟨w5.heap.size, 4, none⟩ n5).trans s11, (KK6 ⟨g2, 0, none⟩ ng2).trans s12, (KK6 ⟨g2, 1, none⟩ ng2).trans s13, (KK6 ⟨g2, 2, none⟩ ng2).trans s14, (KK6 ⟨g2, 3, none⟩ ng2).trans s15, (KK6 ⟨g2, 4, none⟩ ng2).trans s16, (KK6 ⟨g2, 5, none⟩ ng2).trans s17⟩ | go_keep)
          (first
            | (go_at_call_of 9 (Value.slice D v.l.length d); refine (HC1.out _ ((Below.refl W5.heap.size W5).drew)).mono ?_; rintro e_ w6 ⟨⟨b, rfl, hb⟩, hb6⟩; obtain rfl : b = true := hb.2 (by trivial); have CC6 : Below W5.heap.size W5 w6 := ((Below.refl W5.heap.size W5).drew).trans hb6; have KK6 : ∀ p : Addr, p.block < W5.heap.size → w6.cell? p = W5.cell? p := fun p hp => CC6.cell hp)
            | (go_at_call_of 9 (Value.slice E v.l.length e); refine (HC2.out _ CC6).mono ?_; rintro e_ w7 ⟨⟨b, rfl, hb⟩, hb7⟩; obtain rfl : b = true := hb.2 (by trivial); have CC7 : Below W5.heap.size W5 w7 := CC6.trans (hb7.mono CC6.size); have KK7 : ∀ p : Addr, p.block < W5.heap.size → w7.cell? p = W5.cell? p := fun p hp => CC7.cell hp))
        all_goals
          go_wp2_with fail
          go_ret
          exact ⟨rfl, T5.trans (CC7.mono T5.size)⟩
  · have t0 : (y != 0) = true := by rw [bne_iff_ne]; exact he
    clear he hr
    go_enter Try.func5, Try.ntmps5
    go_wp2_with fail
    refine (HV.out w).mono ?_
    rintro e_ w1 ⟨A, a, A2, a2, rfl, hv1, hb1⟩
    rw [← HX.out]
    clear hv1
    obtain ⟨W1, hW1⟩ : ∃ W1, W1 = w1.alloc (.cells #[.int .i64 v.k, .int .i64 v.n, .string X, .slice A v.l.length a, .slice A2 v.ms.length a2] 25) := ⟨_, rfl⟩
    have B1 : Below w1.heap.size w1 W1 := by rw [hW1]; exact (Below.refl _ _).alloc (Nat.le_refl _) _
    have HW1 := Lib.hid hW1; clear hW1
    go_wp2_with fail
    rw [← HW1.out]
    refine (awake_any5 _).mono ?_
    rintro e_ w2 ⟨rfl, hb2⟩
    go_wp2_with fail
    refine (awake_any5 _).mono ?_
    rintro e_ w3 ⟨rfl, hb3⟩
    go_wp2_with fail
    go_ret
    have T1 := hb1.trans (B1.mono hb1.size)
    have T2 := T1.trans (hb2.mono T1.size)
    exact ⟨rfl, T2.trans (hb3.mono T2.size)⟩
end Go.Proofs.Ytoflogckoepioaa.Re
