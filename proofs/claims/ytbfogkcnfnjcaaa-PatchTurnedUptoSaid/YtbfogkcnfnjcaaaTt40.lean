/- Merged: PaFi. -/
import Derived.Test.YtbfogkcnfnjcaaaTt39
import Derived.Test.YtbfogkcnfnjcaaaTt31
namespace Go.Proofs.Ytbfogkcnfnjcaaa.Pa
open Go.Proofs Go.RowKit
open Go.Proofs.Ytbfogkcnfnjcaaa.Utf
open Go.Proofs.Ytbfogkcnfnjcaaa.Sc
open Go.Proofs.Ytbfogkcnfnjcaaa.Re
open Go.Proofs.Ytbfogkcnfnjcaaa.Tr
open Go.Proofs.Ytbfogkcnfnjcaaa.Po
open Go.Proofs.Ytbfogkcnfnjcaaa.Em (lenV szU wfV szA_of)

set_option maxRecDepth 100000 in
set_option maxHeartbeats 1000000 in
theorem Fits_any (v p : V) (cv cp : List Value) (w : World) (hv : RdA w 0 w.heap.size v cv) (hp : RdA w 0 w.heap.size p cp) (wv : wfV v) (wp : wfV p) (zv : szU v ≤ 10000000) (zp : szU p ≤ 10000000) :
    Calls Try.prog 18 #[.agg cv.toArray, .agg cp.toArray] w (Re.GivesB (fitP v p) w) := by
  have HPA := Lib.hid (fun (W : World) (hW : Below w.heap.size w W) => paths_any v p cv cp W (hv.below hW (Nat.le_refl _) hW.size) (hp.below hW (Nat.le_refl _) hW.size) (szA_of _ v wv (by omega)) (((szA_eq _ p).1 (szA_of 4398046511000 p wp (by omega))).2.2.2.2.2.1) (Nat.le_trans (ms_szU p) zp))
  obtain ⟨A1, c1, A2, c2, ev, -⟩ := hv.cells
  obtain ⟨B1, e1, B2, e2, ep, -⟩ := hp.cells
  subst ev ep
  obtain ⟨q, hq⟩ : ∃ q, fitP v p = q := ⟨_, rfl⟩
  have HQ := Lib.hid hq
  clear hv hp wv wp zv zp hq
  generalize v.k = k at *
  generalize v.n = n at *
  generalize strOf v.s = S at *
  generalize v.l.length = l1 at *
  generalize v.ms.length = m1 at *
  generalize p.k = pk at *
  generalize p.n = pn at *
  generalize strOf p.s = PS at *
  generalize p.l.length = pl at *
  generalize p.ms.length = pm at *
  obtain ⟨W0, hW0⟩ : ∃ W0, W0 = ((w.alloc (.cells #[.int .i64 k, .int .i64 n, .string S, .slice A1 l1 c1, .slice A2 m1 c2] 25)).alloc (.cells #[.int .i64 pk, .int .i64 pn, .string PS, .slice B1 pl e1, .slice B2 pm e2] 25)) := ⟨_, rfl⟩
  have HBW0 := Lib.hid (show Below w.heap.size w W0 by rw [hW0]; exact ((Below.refl _ _).alloc (Nat.le_refl _) _).alloc (by simp) _)
  have hs0 : W0.heap.size = w.heap.size + 2 := by rw [hW0, szAl, szAl]
  have RW0_0 := Lib.hid (show W0.heap[w.heap.size]? = some (.cells #[.int .i64 k, .int .i64 n, .string S, .slice A1 l1 c1, .slice A2 m1 c2] 25 (0, 0)) by rw [hW0]; exact heapOld ((show (w.alloc (.cells #[.int .i64 k, .int .i64 n, .string S, .slice A1 l1 c1, .slice A2 m1 c2] 25)).heap[w.heap.size]? = some (.cells #[.int .i64 k, .int .i64 n, .string S, .slice A1 l1 c1, .slice A2 m1 c2] 25 (0, 0)) from by rw [show w.heap.size = w.heap.size by simp]; exact heapNew _ _)) _)
  have LW0_0 := Lib.hid (show w.heap.size < W0.heap.size by omega)
  have RW0_1 := Lib.hid (show W0.heap[w.heap.size + 1]? = some (.cells #[.int .i64 pk, .int .i64 pn, .string PS, .slice B1 pl e1, .slice B2 pm e2] 25 (0, 0)) by rw [hW0]; exact (show ((w.alloc (.cells #[.int .i64 k, .int .i64 n, .string S, .slice A1 l1 c1, .slice A2 m1 c2] 25)).alloc (.cells #[.int .i64 pk, .int .i64 pn, .string PS, .slice B1 pl e1, .slice B2 pm e2] 25)).heap[w.heap.size + 1]? = some (.cells #[.int .i64 pk, .int .i64 pn, .string PS, .slice B1 pl e1, .slice B2 pm e2] 25 (0, 0)) from by rw [show w.heap.size + 1 = (w.alloc (.cells #[.int .i64 k, .int .i64 n, .string S, .slice A1 l1 c1, .slice A2 m1 c2] 25)).heap.size by simp]; exact heapNew _ _))
  have LW0_1 := Lib.hid (show w.heap.size + 1 < W0.heap.size by omega)
  have HW0 := Lib.hid hW0
  clear hW0 hs0
  go_enter Try.func18, Try.ntmps18
  have q0 := RW0_0.out
  rw [HW0.out] at q0
  obtain ⟨⟨p0_0, p0_1, p0_2, p0_3, p0_4⟩, -⟩ := row5 q0
  clear q0
  have q1 := RW0_1.out
  rw [HW0.out] at q1
  obtain ⟨⟨p1_0, p1_1, p1_2, p1_3, p1_4⟩, -⟩ := row5 q1
  clear q1
  go_wp2_with fail
  rw [← HW0.out]
  clear p0_0 p0_1 p0_2 p0_3 p0_4 p1_0 p1_1 p1_2 p1_3 p1_4
  refine (HPA.out _ HBW0.out).mono ?_
  rintro e w1 ⟨⟨val, b, rfl, hb0, -⟩, hb⟩
  have Rw1_0 := Lib.hid (show w1.heap[w.heap.size]? = some (.cells #[.int .i64 k, .int .i64 n, .string S, .slice A1 l1 c1, .slice A2 m1 c2] 25 (0, 0)) from (hb.block _ LW0_0.out).trans RW0_0.out)
  have Lw1_0 := Lib.hid (show w.heap.size < w1.heap.size from Nat.lt_of_lt_of_le LW0_0.out hb.size)
  have Rw1_1 := Lib.hid (show w1.heap[w.heap.size + 1]? = some (.cells #[.int .i64 pk, .int .i64 pn, .string PS, .slice B1 pl e1, .slice B2 pm e2] 25 (0, 0)) from (hb.block _ LW0_1.out).trans RW0_1.out)
  have Lw1_1 := Lib.hid (show w.heap.size + 1 < w1.heap.size from Nat.lt_of_lt_of_le LW0_1.out hb.size)
  have HBw1 := Lib.hid (HBW0.out.trans (hb.mono HBW0.out.size))
  clear hb
  go_wp2
  go_ret
  exact ⟨⟨b, rfl, hb0⟩, HBw1.out⟩

set_option maxRecDepth 100000 in
set_option maxHeartbeats 1000000 in
theorem few_any (v p : V) (cv cp : List Value) (w : World) (hv : RdA w 0 w.heap.size v cv) (hp : RdA w 0 w.heap.size p cp) (zv : szA 4611686018427387904 v) (zp : szA 4611686018427387904 p) :
    Calls Try.prog 8 #[.agg cv.toArray, .agg cp.toArray] w (SomeB w) := by
  have HF1 := Lib.hid (fun (W : World) (hW : Below w.heap.size w W) => Few_is v cv 2000 (by omega) W zv (hv.below hW (Nat.le_refl _) hW.size))
  have HF2 := Lib.hid (fun (W : World) (hW : Below w.heap.size w W) => Few_is p cp 2000 (by omega) W zp (hp.below hW (Nat.le_refl _) hW.size))
  obtain ⟨A1, c1, A2, c2, ev, -⟩ := hv.cells
  obtain ⟨B1, e1, B2, e2, ep, -⟩ := hp.cells
  subst ev ep
  clear hv hp zv zp
  generalize v.k = k at *
  generalize v.n = n at *
  generalize strOf v.s = S at *
  generalize v.l.length = l1 at *
  generalize v.ms.length = m1 at *
  generalize p.k = pk at *
  generalize p.n = pn at *
  generalize strOf p.s = PS at *
  generalize p.l.length = pl at *
  generalize p.ms.length = pm at *
  obtain ⟨W0, hW0⟩ : ∃ W0, W0 = ((w.alloc (.cells #[.int .i64 k, .int .i64 n, .string S, .slice A1 l1 c1, .slice A2 m1 c2] 25)).alloc (.cells #[.int .i64 pk, .int .i64 pn, .string PS, .slice B1 pl e1, .slice B2 pm e2] 25)) := ⟨_, rfl⟩
  have HBW0 := Lib.hid (show Below w.heap.size w W0 by rw [hW0]; exact ((Below.refl _ _).alloc (Nat.le_refl _) _).alloc (by simp) _)
  have hs0 : W0.heap.size = w.heap.size + 2 := by rw [hW0, szAl, szAl]
  have RW0_0 := Lib.hid (show W0.heap[w.heap.size]? = some (.cells #[.int .i64 k, .int .i64 n, .string S, .slice A1 l1 c1, .slice A2 m1 c2] 25 (0, 0)) by rw [hW0]; exact heapOld ((show (w.alloc (.cells #[.int .i64 k, .int .i64 n, .string S, .slice A1 l1 c1, .slice A2 m1 c2] 25)).heap[w.heap.size]? = some (.cells #[.int .i64 k, .int .i64 n, .string S, .slice A1 l1 c1, .slice A2 m1 c2] 25 (0, 0)) from by rw [show w.heap.size = w.heap.size by simp]; exact heapNew _ _)) _)
  have LW0_0 := Lib.hid (show w.heap.size < W0.heap.size by omega)
  have RW0_1 := Lib.hid (show W0.heap[w.heap.size + 1]? = some (.cells #[.int .i64 pk, .int .i64 pn, .string PS, .slice B1 pl e1, .slice B2 pm e2] 25 (0, 0)) by rw [hW0]; exact (show ((w.alloc (.cells #[.int .i64 k, .int .i64 n, .string S, .slice A1 l1 c1, .slice A2 m1 c2] 25)).alloc (.cells #[.int .i64 pk, .int .i64 pn, .string PS, .slice B1 pl e1, .slice B2 pm e2] 25)).heap[w.heap.size + 1]? = some (.cells #[.int .i64 pk, .int .i64 pn, .string PS, .slice B1 pl e1, .slice B2 pm e2] 25 (0, 0)) from by rw [show w.heap.size + 1 = (w.alloc (.cells #[.int .i64 k, .int .i64 n, .string S, .slice A1 l1 c1, .slice A2 m1 c2] 25)).heap.size by simp]; exact heapNew _ _))
  have LW0_1 := Lib.hid (show w.heap.size + 1 < W0.heap.size by omega)
  have HW0 := Lib.hid hW0
  clear hW0 hs0
  go_enter Try.func8, Try.ntmps8
  have q0 := RW0_0.out
  rw [HW0.out] at q0
  obtain ⟨⟨p0_0, p0_1, p0_2, p0_3, p0_4⟩, -⟩ := row5 q0
  clear q0
  have q1 := RW0_1.out
  rw [HW0.out] at q1
  obtain ⟨⟨p1_0, p1_1, p1_2, p1_3, p1_4⟩, -⟩ := row5 q1
  clear q1
  go_wp2_with fail
  rw [← HW0.out]
  clear p0_0 p0_1 p0_2 p0_3 p0_4 p1_0 p1_1 p1_2 p1_3 p1_4
  refine (HF1.out _ HBW0.out).mono ?_
  rintro e w1 ⟨⟨b, rfl, -⟩, hb⟩
  have Rw1_0 := Lib.hid (show w1.heap[w.heap.size]? = some (.cells #[.int .i64 k, .int .i64 n, .string S, .slice A1 l1 c1, .slice A2 m1 c2] 25 (0, 0)) from (hb.block _ LW0_0.out).trans RW0_0.out)
  have Lw1_0 := Lib.hid (show w.heap.size < w1.heap.size from Nat.lt_of_lt_of_le LW0_0.out hb.size)
  have Rw1_1 := Lib.hid (show w1.heap[w.heap.size + 1]? = some (.cells #[.int .i64 pk, .int .i64 pn, .string PS, .slice B1 pl e1, .slice B2 pm e2] 25 (0, 0)) from (hb.block _ LW0_1.out).trans RW0_1.out)
  have Lw1_1 := Lib.hid (show w.heap.size + 1 < w1.heap.size from Nat.lt_of_lt_of_le LW0_1.out hb.size)
  have HBw1 := Lib.hid (HBW0.out.trans (hb.mono HBW0.out.size))
  clear hb
  cases b
  · obtain ⟨⟨p0_0, p0_1, p0_2, p0_3, p0_4⟩, -⟩ := row5 Rw1_0.out
    obtain ⟨⟨p1_0, p1_1, p1_2, p1_3, p1_4⟩, -⟩ := row5 Rw1_1.out
    go_wp2
    go_ret
    exact ⟨⟨_, rfl⟩, HBw1.out⟩
  · obtain ⟨⟨p0_0, p0_1, p0_2, p0_3, p0_4⟩, -⟩ := row5 Rw1_0.out
    obtain ⟨⟨p1_0, p1_1, p1_2, p1_3, p1_4⟩, -⟩ := row5 Rw1_1.out
    go_wp2_with fail
    clear p0_0 p0_1 p0_2 p0_3 p0_4 p1_0 p1_1 p1_2 p1_3 p1_4
    refine (HF2.out _ HBw1.out).mono ?_
    rintro e w2 ⟨⟨b, rfl, -⟩, hb⟩
    have Rw2_0 := Lib.hid (show w2.heap[w.heap.size]? = some (.cells #[.int .i64 k, .int .i64 n, .string S, .slice A1 l1 c1, .slice A2 m1 c2] 25 (0, 0)) from (hb.block _ Lw1_0.out).trans Rw1_0.out)
    have Lw2_0 := Lib.hid (show w.heap.size < w2.heap.size from Nat.lt_of_lt_of_le Lw1_0.out hb.size)
    have Rw2_1 := Lib.hid (show w2.heap[w.heap.size + 1]? = some (.cells #[.int .i64 pk, .int .i64 pn, .string PS, .slice B1 pl e1, .slice B2 pm e2] 25 (0, 0)) from (hb.block _ Lw1_1.out).trans Rw1_1.out)
    have Lw2_1 := Lib.hid (show w.heap.size + 1 < w2.heap.size from Nat.lt_of_lt_of_le Lw1_1.out hb.size)
    have HBw2 := Lib.hid (HBw1.out.trans (hb.mono HBw1.out.size))
    clear hb
    cases b
    · obtain ⟨⟨p0_0, p0_1, p0_2, p0_3, p0_4⟩, -⟩ := row5 Rw2_0.out
      obtain ⟨⟨p1_0, p1_1, p1_2, p1_3, p1_4⟩, -⟩ := row5 Rw2_1.out
      go_wp2
      go_ret
      exact ⟨⟨_, rfl⟩, HBw2.out⟩
    · obtain ⟨⟨p0_0, p0_1, p0_2, p0_3, p0_4⟩, -⟩ := row5 Rw2_0.out
      obtain ⟨⟨p1_0, p1_1, p1_2, p1_3, p1_4⟩, -⟩ := row5 Rw2_1.out
      go_wp2
      go_ret
      exact ⟨⟨_, rfl⟩, HBw2.out⟩
end Go.Proofs.Ytbfogkcnfnjcaaa.Pa
