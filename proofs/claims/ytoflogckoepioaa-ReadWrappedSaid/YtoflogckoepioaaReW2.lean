import Derived.Test.YtoflogckoepioaaReW1
import Derived.Laws.Concat
/- The walk of the law ReadWhite. -/
namespace Go.Proofs.Ytoflogckoepioaa.Re
open Go.RowKit
open Go.Proofs.Ytoflogckoepioaa.Utf
open Go.Proofs.Ytoflogckoepioaa.Sc

/-- the white space ahead of a text -/
def whiteG (r : Nat) : List UInt8 := [9, 10, 32, 13, 32, 32, 10, 9, 32].take r
theorem whiteG_w (r : Nat) : ∀ j, j < (whiteG r).length → isW (byt (whiteG r) j) = true := by
  intro j hj
  unfold whiteG at hj ⊢
  rw [List.length_take] at hj
  have : byt (([9, 10, 32, 13, 32, 32, 10, 9, 32] : List UInt8).take r) j = byt [9, 10, 32, 13, 32, 32, 10, 9, 32] j := by
    unfold byt
    rw [List.getD_eq_getElem?_getD, List.getD_eq_getElem?_getD, List.getElem?_take, if_pos (by omega)]
  rw [this]
  have h9 : j < 9 := by simp at hj; omega
  have : j = 0 ∨ j = 1 ∨ j = 2 ∨ j = 3 ∨ j = 4 ∨ j = 5 ∨ j = 6 ∨ j = 7 ∨ j = 8 := by omega
  rcases this with rfl | rfl | rfl | rfl | rfl | rfl | rfl | rfl | rfl <;> decide
theorem whiteG_len {r : Nat} (h : r ≤ 9) : (whiteG r).length = r := by unfold whiteG; rw [List.length_take]; simp; omega
theorem whiteG_ex (r : Nat) : ByteArray.extract ⟨#[9, 10, 32, 13, 32, 32, 10, 9, 32]⟩ 0 r = strOf (whiteG r) := by
  unfold strOf whiteG
  have : (ByteArray.extract ⟨#[9, 10, 32, 13, 32, 32, 10, 9, 32]⟩ 0 r).data = (([9, 10, 32, 13, 32, 32, 10, 9, 32] : List UInt8).take r).toArray := by
    rw [ByteArray.data_extract]
    simp
  rw [← this]
theorem strOf_app (a b : List UInt8) : strOf a ++ strOf b = strOf (a ++ b) := by
  have : (strOf a ++ strOf b).data = (strOf (a ++ b)).data := by
    rw [ByteArray.data_append]
    simp [strOf]
  exact congrArg ByteArray.mk this
theorem strOf_self (s : ByteArray) : strOf s.data.toList = s := by unfold strOf; simp

set_option maxRecDepth 100000 in
set_option maxHeartbeats 2000000 in
theorem white_walk (s : ByteArray) (n : Int) (w : World) (hs : s.size ≤ 9223372036854775807) (hn : (Lit.int .u8 n).wf = true) :
    Calls Try.prog 4 #[.string s, .int .u8 n] w fun e w' => e = .returned (.bool true) ∧ Below w.heap.size w w' := by
  have hn2 : 0 ≤ n ∧ n ≤ 255 := by simp [Lit.wf, IntKind.min, IntKind.max, IntKind.bits, IntKind.signed] at hn; omega
  rcases hr : rdV s.data.toList with ⟨v, a, y⟩
  have hV := fun w => Value_any2 s w hs hr
  have HV := Lib.hid hV; clear hV
  obtain ⟨X, hX⟩ : ∃ X, X = strOf v.s := ⟨_, rfl⟩
  have HX := Lib.hid hX; clear hX
  by_cases hl : 60000 < s.size
  · have d1 : decide ((60000 : Int) < (s.size : Int)) = true := decide_eq_true (by omega)
    have d2 : decide (60000 < s.size) = true := decide_eq_true hl
    clear hl hr
    go_enter Try.func4, Try.ntmps4
    go_wp2_with fail
    refine (HV.out w).mono ?_
    rintro e w1 ⟨A, c, A2, c2, rfl, hv1, hb1⟩
    rw [← HX.out]
    clear hv1
    obtain ⟨W1, hW1⟩ : ∃ W1, W1 = w1.alloc (.cells #[.int .i64 v.k, .int .i64 v.n, .string X, .slice A v.l.length c, .slice A2 v.ms.length c2] 25) := ⟨_, rfl⟩
    have B1 : Below w1.heap.size w1 W1 := by rw [hW1]; exact (Below.refl _ _).alloc (Nat.le_refl _) _
    have HW1 := Lib.hid hW1; clear hW1
    go_wp2_with fail
    rw [← HW1.out]
    refine (awake_any5 _).mono ?_
    rintro e w2 ⟨rfl, hb2⟩
    go_wp2_with fail
    refine (awake_any5 _).mono ?_
    rintro e w3 ⟨rfl, hb3⟩
    go_wp2_with fail
    go_ret
    have T1 := hb1.trans (B1.mono hb1.size)
    have T2 := T1.trans (hb2.mono T1.size)
    exact ⟨rfl, T2.trans (hb3.mono T2.size)⟩
  · have d1 : decide ((60000 : Int) < (s.size : Int)) = false := decide_eq_false (by omega)
    have d2 : decide (60000 < s.size) = false := decide_eq_false hl
    obtain ⟨r, hr9, hrn⟩ : ∃ r : Nat, r < 9 ∧ n % 9 = (r : Int) := ⟨(n % 9).toNat, by omega, by omega⟩
    have g1 : n.tmod 9 = (r : Int) := by rw [Int.tmod_eq_emod_of_nonneg hn2.1]; exact hrn
    have g2 : IntKind.i64.wrap (r : Int) = (r : Int) := IntWalk.i64_in _ (by omega)
    have g3 : IntKind.u8.wrap (r : Int) = (r : Int) := by
      have : r = 0 ∨ r = 1 ∨ r = 2 ∨ r = 3 ∨ r = 4 ∨ r = 5 ∨ r = 6 ∨ r = 7 ∨ r = 8 := by omega
      rcases this with rfl | rfl | rfl | rfl | rfl | rfl | rfl | rfl | rfl <;> rfl
    have k0 : (0 : Int) ≤ (r : Int) := by omega
    have k1 : (r : Int) ≤ 9 := by omega
    have hwp := white_plain (whiteG r) s.data.toList (whiteG_w r) (by rw [whiteG_len (by omega), len_data]; omega)
    rw [hr, whiteG_len (by omega)] at hwp
    simp only at hwp
    have hlen1 : (strOf (whiteG r)).size = r := by rw [strOf_size, whiteG_len (by omega)]
    have hT : strOf (whiteG r) ++ s = strOf (whiteG r ++ s.data.toList) := by rw [← strOf_app, strOf_self]
    have hadd : ∀ w : World, (Op.stringOp .add (strOf (whiteG r)) s).run Try.prog w = .ok (.string (strOf (whiteG r) ++ s)) w := fun w => run_string_add_sum w _ _ (by omega)
    obtain ⟨T, hTT⟩ : ∃ T, T = strOf (whiteG r) ++ s := ⟨_, rfl⟩
    rw [← hTT] at hadd hT
    have hTs : T.size = r + s.size := by rw [hT, strOf_size, List.length_append, whiteG_len (by omega), len_data]
    have hTd : T.data.toList = whiteG r ++ s.data.toList := by rw [hT, strOf_data]
    have hVT : ∀ w, Calls Try.prog 7 #[.string T] w (GivesVal2 v (if y = 0 then a else a + (r : Int)) y w) := fun w => Value_any2 T w (by omega) (by rw [hTd]; exact hwp)
    have hex := whiteG_ex r
    obtain ⟨G, hG⟩ : ∃ G, G = strOf (whiteG r) := ⟨_, rfl⟩
    rw [← hG] at hex hadd hlen1
    have hTs2 : T.size ≤ 60009 := by omega
    clear hT hTT hTs hG
    by_cases he : y = 0
    · subst he
      rw [if_pos rfl] at hVT
      have HVT := Lib.hid hVT; clear hVT
      obtain ⟨U, hU⟩ : ∃ U, U = T ++ ⟨#[10]⟩ := ⟨_, rfl⟩
      have hadd2 : ∀ w : World, (Op.stringOp .add T ⟨#[10]⟩).run Try.prog w = .ok (.string U) w := fun w => by rw [hU]; exact run_string_add_sum w _ _ (by show T.size + 1 ≤ 9223372036854775807; omega)
      have hUd : rdV U.data.toList = (v, a, 0) := by
        have h1 := white_end (l := whiteG r ++ s.data.toList) 10 (by decide) (by rw [hwp]) (by rw [List.length_append, whiteG_len (by omega), len_data]; omega)
        rw [hU, ByteArray.data_append, Array.toList_append, hTd]
        rw [show (ByteArray.mk #[10]).data.toList = [10] from rfl, h1, hwp, if_pos rfl]
      have hUs : U.size = T.size + 1 := by rw [hU, ByteArray.size_append]; rfl
      have HVU := Lib.hid (fun w => Value_any2 U w (by omega) hUd)
      obtain ⟨o1, o2, o3, o4, _⟩ := sorts_ok (l := s.data.toList) (by rw [hr])
      rw [hr] at o2
      simp only at o2
      clear hr hwp hU hUd hUs o1 o3 o4 hTd
      go_enter Try.func4, Try.ntmps4
      go_wp2_with fail
      refine (HV.out w).mono ?_
      rintro e w1 ⟨A, c, A2, c2, rfl, hw1, hb1⟩
      rw [← HX.out] at hw1 ⊢
      obtain ⟨W1, hwW1⟩ : ∃ W1, W1 = w1.alloc (.cells #[.int .i64 v.k, .int .i64 v.n, .string X, .slice A v.l.length c, .slice A2 v.ms.length c2] 25) := ⟨_, rfl⟩
      have zw1 : W1.heap[w1.heap.size]? = some (.cells #[.int .i64 v.k, .int .i64 v.n, .string X, .slice A v.l.length c, .slice A2 v.ms.length c2] 25 (0, 0)) := by rw [hwW1]; exact heap_alloc_new w1 _
      have sw1 : W1.heap.size = w1.heap.size + 1 := by rw [hwW1, szAlloc']
      have bw1 : Below w1.heap.size w1 W1 := by rw [hwW1]; exact (Below.refl _ _).alloc (Nat.le_refl _) _
      have HWw1 := Lib.hid hwW1; clear hwW1
      have HVw1 := Lib.hid hw1; clear hw1
      go_wp2_with fail
      rw [← HWw1.out]
      refine (awake_any5 _).mono ?_
      rintro e w2 ⟨rfl, hb2⟩
      go_wp2_with fail
      refine (HVT.out w2).mono ?_
      rintro e w3 ⟨D, f, D2, f2, rfl, hw3, hb3⟩
      rw [← HX.out] at hw3 ⊢
      obtain ⟨W3, hwW3⟩ : ∃ W3, W3 = w3.alloc (.cells #[.int .i64 v.k, .int .i64 v.n, .string X, .slice D v.l.length f, .slice D2 v.ms.length f2] 25) := ⟨_, rfl⟩
      have zw3 : W3.heap[w3.heap.size]? = some (.cells #[.int .i64 v.k, .int .i64 v.n, .string X, .slice D v.l.length f, .slice D2 v.ms.length f2] 25 (0, 0)) := by rw [hwW3]; exact heap_alloc_new w3 _
      have sw3 : W3.heap.size = w3.heap.size + 1 := by rw [hwW3, szAlloc']
      have bw3 : Below w3.heap.size w3 W3 := by rw [hwW3]; exact (Below.refl _ _).alloc (Nat.le_refl _) _
      have HWw3 := Lib.hid hwW3; clear hwW3
      have HVw3 := Lib.hid hw3; clear hw3
      go_wp2_with fail
      rw [← HWw3.out]
      refine (HVU.out W3).mono ?_
      rintro e w4 ⟨J, k, J2, k2, rfl, hw4, hb4⟩
      rw [← HX.out] at hw4 ⊢
      obtain ⟨W4, hwW4⟩ : ∃ W4, W4 = w4.alloc (.cells #[.int .i64 v.k, .int .i64 v.n, .string X, .slice J v.l.length k, .slice J2 v.ms.length k2] 25) := ⟨_, rfl⟩
      have zw4 : W4.heap[w4.heap.size]? = some (.cells #[.int .i64 v.k, .int .i64 v.n, .string X, .slice J v.l.length k, .slice J2 v.ms.length k2] 25 (0, 0)) := by rw [hwW4]; exact heap_alloc_new w4 _
      have sw4 : W4.heap.size = w4.heap.size + 1 := by rw [hwW4, szAlloc']
      have bw4 : Below w4.heap.size w4 W4 := by rw [hwW4]; exact (Below.refl _ _).alloc (Nat.le_refl _) _
      have HWw4 := Lib.hid hwW4; clear hwW4
      have HVw4 := Lib.hid hw4; clear hw4
      have n1 := hb1.size
      have n2 := hb2.size
      have n3 := hb3.size
      have n4 := hb4.size
      have C1 : Below w1.heap.size w1 w2 := bw1.trans (hb2.mono (by omega))
      have C3 : Below w3.heap.size w3 w4 := bw3.trans (hb4.mono (by omega))
      have C13 : Below w1.heap.size w1 w3 := C1.trans (hb3.mono (by omega))
      have C34 : Below w3.heap.size w3 W4 := C3.trans (bw4.mono (by omega))
      have C14 : Below w1.heap.size w1 W4 := C13.trans (C34.mono (by omega))
      have T4 : Below w.heap.size w W4 := hb1.trans (C14.mono (by omega))
      have r1 : W4.heap[w1.heap.size]? = _ := (C34.block w1.heap.size (by omega)).trans ((hb3.block w1.heap.size (by omega)).trans ((hb2.block w1.heap.size (by omega)).trans zw1))
      have r3 : W4.heap[w3.heap.size]? = _ := (bw4.block w3.heap.size (by omega)).trans ((hb4.block w3.heap.size (by omega)).trans zw3)
      have R1 := HVw1.out.wide C14 (Nat.le_refl _) (by omega)
      have R3 := HVw3.out.wide C34 (Nat.le_refl _) (by omega)
      have R4 := HVw4.out.wide bw4 (Nat.le_refl _) (by omega)
      obtain ⟨p0, p1, p2, p3, p4⟩ := cells5 r1
      obtain ⟨q0, q1, q2, q3, q4⟩ := cells5 r3
      obtain ⟨x0, x1, x2, x3, x4⟩ := cells5 zw4
      rw [HWw4.out] at p0 p1 p2 p3 p4 q0 q1 q2 q3 q4 x0 x1 x2 x3 x4
      have hc1 := Same_any (ht v) v v _ _ W4 (Nat.le_refl _) (by omega) R1 R3
      have hc2 := fun w5 (hb5 : Below W4.heap.size W4 w5) => Same_any (ht v) v v _ _ w5 (Nat.le_refl _) (by omega) (R1.wide hb5 (Nat.le_refl _) hb5.size) (R4.wide hb5 (Nat.le_refl _) hb5.size)
      have HC1 := Lib.hid hc1; clear hc1
      have HC2 := Lib.hid hc2; clear hc2
      have H1 := Lib.hid r1
      have H4 := Lib.hid zw4
      clear r1 r3 zw1 zw3 zw4 bw1 bw3 bw4 C1 C3 C13 C34 C14 hb1 hb2 hb3 hb4 R1 R3 R4
      go_wp2_with fail
      rw [← HWw4.out]
      refine HC1.out.mono ?_
      rintro e w5 ⟨⟨b, rfl, hb⟩, hb5⟩
      obtain rfl : b = true := hb.2 (by trivial)
      have r5 := (hb5.block w1.heap.size (by omega)).trans H1.out
      have r6 := (hb5.block w4.heap.size (by omega)).trans H4.out
      obtain ⟨p0, p1, p2, p3, p4⟩ := cells5 r5
      obtain ⟨x0, x1, x2, x3, x4⟩ := cells5 r6
      have hc3 := HC2.out w5 hb5
      have HC3 := Lib.hid hc3; clear hc3
      clear r5 r6
      go_wp2_with fail
      refine HC3.out.mono ?_
      rintro e w6 ⟨⟨b, rfl, hb⟩, hb6⟩
      obtain rfl : b = true := hb.2 (by trivial)
      go_wp2_with fail
      go_ret
      exact ⟨rfl, (T4.trans (hb5.mono T4.size)).trans (hb6.mono (by have := T4.size; have := hb5.size; omega))⟩
    · have t0 : (y != 0) = true := by rw [bne_iff_ne]; exact he
      rw [if_neg he] at hVT
      have HVT := Lib.hid hVT; clear hVT
      have hbd := (sorts_bad (l := s.data.toList) (by rw [hr]; exact he)).2
      rw [hr, len_data] at hbd
      simp only at hbd
      have ha : IntKind.i64.wrap (a + (r : Int)) = a + (r : Int) := IntWalk.i64_in _ (by omega)
      clear he hr hwp hbd hTd
      go_enter Try.func4, Try.ntmps4
      go_wp2_with fail
      refine (HV.out w).mono ?_
      rintro e w1 ⟨A, c, A2, c2, rfl, hv1, hb1⟩
      rw [← HX.out]
      clear hv1
      obtain ⟨W1, hW1⟩ : ∃ W1, W1 = w1.alloc (.cells #[.int .i64 v.k, .int .i64 v.n, .string X, .slice A v.l.length c, .slice A2 v.ms.length c2] 25) := ⟨_, rfl⟩
      have B1 : Below w1.heap.size w1 W1 := by rw [hW1]; exact (Below.refl _ _).alloc (Nat.le_refl _) _
      have HW1 := Lib.hid hW1; clear hW1
      go_wp2_with fail
      rw [← HW1.out]
      refine (awake_any5 _).mono ?_
      rintro e w2 ⟨rfl, hb2⟩
      go_wp2_with fail
      refine (HVT.out w2).mono ?_
      rintro e w3 ⟨D, f, D2, f2, rfl, hv3, hb3⟩
      clear hv3
      go_wp2_with fail
      go_ret
      have T1 := hb1.trans (B1.mono hb1.size)
      have T2 := T1.trans (hb2.mono T1.size)
      have T3 := T2.trans (hb3.mono T2.size)
      exact ⟨rfl, T3.alloc T3.size _⟩
end Go.Proofs.Ytoflogckoepioaa.Re
