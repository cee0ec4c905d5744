import Derived.Test.YtbepnjgbkfidiaaTtTsI
/- deep, Few of the document's answer: they return some bool. -/
namespace Go.Proofs.Ytbepnjgbkfidiaa.Tr
open Go.Proofs Go.RowKit Go.Lib
open Go.Proofs.Ytbepnjgbkfidiaa.Utf
open Go.Proofs.Ytbepnjgbkfidiaa.Sc
open Go.Proofs.Ytbepnjgbkfidiaa.Re

theorem szAL_one {B : Nat} {v : V} (h : szA B v) : szAL B [v] := by rw [szAL, szAL]; exact ⟨h, trivial⟩
set_option maxRecDepth 100000 in
set_option maxHeartbeats 1000000 in
theorem deep_any (v : V) (cs : List Value) (w : World) (hz : szA 4611686018427387904 v) (hv : RdA w 0 w.heap.size v cs) :
    Calls Try.prog 25 #[.agg cs.toArray, .int .i64 100] w (SomeB w) := by
  obtain ⟨-, -, -, z1, z2, -, -, -⟩ := (szA_eq _ v).1 hz
  have HV := Lib.hid hv
  have HZ := Lib.hid (szAL_one hz)
  obtain ⟨A0, c0, A20, c20, rfl, -⟩ := hv.cells
  clear hz hv
  generalize v.k = k at *
  generalize v.n = n at *
  generalize strOf v.s = S at *
  generalize v.l.length = l at *
  generalize v.ms.length = m at *
  obtain ⟨W0, hW0⟩ : ∃ W0, W0 = w.alloc (.cells #[.int .i64 k, .int .i64 n, .string S, .slice A0 l c0, .slice A20 m c20] 25) := ⟨_, rfl⟩
  have HB0 := Lib.hid (show Below w.heap.size w W0 by rw [hW0]; exact (Below.refl _ _).alloc (Nat.le_refl _) _)
  have HW0 := Lib.hid hW0
  obtain ⟨W1, hW1⟩ : ∃ W1, W1 = W0.alloc (.cells #[.int .i64 k, .int .i64 n, .string S, .slice A0 l c0, .slice A20 m c20] 25) := ⟨_, rfl⟩
  have HB1 := Lib.hid (show Below w.heap.size w W1 by rw [hW1]; exact HB0.out.alloc HB0.out.size _)
  have hr1 : W1.heap[W0.heap.size]? = some (.cells #[.int .i64 k, .int .i64 n, .string S, .slice A0 l c0, .slice A20 m c20] 25 (0, 0)) := by rw [hW1]; exact heapNew _ _
  have hs1 : W1.heap.size = W0.heap.size + 1 := by rw [hW1, szAl]
  have hs0 : W0.heap.size = w.heap.size + 1 := by rw [hW0, szAl]
  have HCL := Lib.hid (level_any 100 100 (by omega) (by omega) [v] (some ⟨W0.heap.size, 0, none⟩) 1 W1 (by simp) HZ.out (fun _ => ⟨W0.heap.size, 0, rfl, Nat.zero_le _, by omega, RdAL_of _ _ fun q hq => by
    have hq0 : q = 0 := by simp at hq; exact hq
    subst hq0
    exact ⟨_, fun j u hu => by
      match j, hu with
      | 0, hu | 1, hu | 2, hu | 3, hu | 4, hu => simp only [World.cell?, hr1]; exact hu
      | n + 5, hu => simp at hu, HV.out.below HB1.out (Nat.le_refl _) HB1.out.size⟩⟩))
  have HW1 := Lib.hid (show W1 = _ from by rw [hW1, hW0])
  rw [hs0] at HCL
  clear hW0 hW1 hr1 hs1 hs0
  by_cases hl : 10000 < l
  · have t1 : decide ((10000 : Int) < (l : Int)) = true := decide_eq_true (by omega)
    go_enter Try.func25, Try.ntmps25
    go_wp2
    go_ret
    exact ⟨⟨_, rfl⟩, (Below.refl _ _).alloc (Nat.le_refl _) _⟩
  · have t1 : decide ((10000 : Int) < (l : Int)) = false := decide_eq_false (by omega)
    by_cases hm : 10000 < m
    · have t2 : decide ((10000 : Int) < (m : Int)) = true := decide_eq_true (by omega)
      go_enter Try.func25, Try.ntmps25
      go_wp2
      go_ret
      exact ⟨⟨_, rfl⟩, (Below.refl _ _).alloc (Nat.le_refl _) _⟩
    · have t2 : decide ((10000 : Int) < (m : Int)) = false := decide_eq_false (by omega)
      by_cases hs : 0 < l + m
      · have t3 : decide ((0 : Int) < (l : Int) + (m : Int)) = true := decide_eq_true (by omega)
        go_enter Try.func25, Try.ntmps25
        go_wp2_with fail
        rw [← HW1.out]
        refine HCL.out.mono ?_
        rintro e w2 ⟨⟨b, rfl⟩, hb2⟩
        have HB2 := Lib.hid (HB1.out.trans (hb2.mono HB1.out.size))
        clear hb2
        go_wp2
        go_ret
        exact ⟨⟨_, rfl⟩, HB2.out⟩
      · have t3 : decide ((0 : Int) < (l : Int) + (m : Int)) = false := decide_eq_false (by omega)
        go_enter Try.func25, Try.ntmps25
        go_wp2_with fail
        rw [← HW1.out]
        refine HCL.out.mono ?_
        rintro e w2 ⟨⟨b, rfl⟩, hb2⟩
        have HB2 := Lib.hid (HB1.out.trans (hb2.mono HB1.out.size))
        clear hb2
        go_wp2
        go_ret
        exact ⟨⟨_, rfl⟩, HB2.out⟩
set_option maxRecDepth 100000 in
set_option maxHeartbeats 1000000 in
theorem Few_any (v : V) (cs : List Value) (w : World) (hz : szA 4611686018427387904 v) (hv : RdA w 0 w.heap.size v cs) :
    Calls Try.prog 9 #[.agg cs.toArray, .int .i64 5000] w (SomeB w) := by
  have HD := Lib.hid (fun (W : World) (hW : Below w.heap.size w W) => deep_any v cs W hz (hv.below hW (Nat.le_refl _) hW.size))
  have HC := Lib.hid (fun (W : World) (hW : Below w.heap.size w W) => rCount_any (ht v) v cs 5000 W (Nat.le_refl _) hz (hv.below hW (Nat.le_refl _) hW.size))
  have HO := Lib.hid (fun (W : World) (hW : Below w.heap.size w W) => Own_any (ht v) v cs W (Nat.le_refl _) hz (hv.below hW (Nat.le_refl _) hW.size))
  obtain ⟨A0, c0, A20, c20, rfl, -⟩ := hv.cells
  clear hz hv
  generalize v.k = k at *
  generalize v.n = n at *
  generalize strOf v.s = S at *
  generalize v.l.length = l at *
  generalize v.ms.length = m at *
  obtain ⟨W0, hW0⟩ : ∃ W0, W0 = w.alloc (.cells #[.int .i64 k, .int .i64 n, .string S, .slice A0 l c0, .slice A20 m c20] 25) := ⟨_, rfl⟩
  have HB0 := Lib.hid (show Below w.heap.size w W0 by rw [hW0]; exact (Below.refl _ _).alloc (Nat.le_refl _) _)
  have HS0 := Lib.hid (show W0.heap.size = w.heap.size + 1 by rw [hW0, szAl])
  have HR0 := Lib.hid (show W0.heap[w.heap.size]? = some (.cells #[.int .i64 k, .int .i64 n, .string S, .slice A0 l c0, .slice A20 m c20] 25 (0, 0)) by rw [hW0]; exact heapNew _ _)
  have HW0 := Lib.hid hW0
  clear hW0
  go_enter Try.func9, Try.ntmps9
  go_wp2_with fail
  rw [← HW0.out]
  refine (HD.out _ HB0.out).mono ?_
  rintro e w1 ⟨⟨b, rfl⟩, hb1⟩
  have HB1 := Lib.hid (HB0.out.trans (hb1.mono HB0.out.size))
  have HS1 := Lib.hid (show w.heap.size < w1.heap.size by have := hb1.size; rw [HS0.out] at this; omega)
  have hr1 := (hb1.block w.heap.size (by rw [HS0.out]; omega)).trans HR0.out
  have HR1 := Lib.hid hr1
  obtain ⟨⟨p0, p1, p2, p3, p4⟩, -⟩ := row5 hr1
  clear hb1 hr1
  cases b
  · go_wp2
    go_ret
    exact ⟨⟨_, rfl⟩, HB1.out⟩
  · go_wp2_with fail
    refine (HC.out _ HB1.out).mono ?_
    rintro e w2 ⟨⟨x, rfl⟩, hb2⟩
    have HB2 := Lib.hid (HB1.out.trans (hb2.mono HB1.out.size))
    have hr2 := (hb2.block w.heap.size HS1.out).trans HR1.out
    clear p0 p1 p2 p3 p4
    obtain ⟨⟨p0, p1, p2, p3, p4⟩, -⟩ := row5 hr2
    clear hb2 hr2
    by_cases hx : x ≤ 5000
    · have t1 : decide (x ≤ 5000) = true := decide_eq_true hx
      go_wp2_with fail
      refine (HO.out _ HB2.out).mono ?_
      rintro e w3 ⟨⟨b, rfl⟩, hb3⟩
      have HB3 := Lib.hid (HB2.out.trans (hb3.mono HB2.out.size))
      clear hb3
      go_wp2
      go_ret
      exact ⟨⟨_, rfl⟩, HB3.out⟩
    · have t1 : decide (x ≤ 5000) = false := decide_eq_false hx
      go_wp2
      go_ret
      exact ⟨⟨_, rfl⟩, HB2.out⟩
end Go.Proofs.Ytbepnjgbkfidiaa.Tr
