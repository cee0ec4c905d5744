import Derived.Test.YtbepnjgbkfidiaaTtTsL
import Derived.Test.YtbepnjgbkfidiaaTtTsW3
import Derived.Test.YtbepnjgbkfidiaaTtTsM
import Derived.Test.YtbepnjgbkfidiaaTtTsO
import Derived.Deep.RegionHeld3
/- The walk of TreeMembers. Written by tools/genTsW4.py. -/
namespace Go.Proofs.Ytbepnjgbkfidiaa.Tr
open Go.Proofs Go.RowKit Go.Lib
open Go.Proofs.Ytbepnjgbkfidiaa.Utf
open Go.Proofs.Ytbepnjgbkfidiaa.Sc
open Go.Proofs.Ytbepnjgbkfidiaa.Re

theorem rget_lit (v : V) (cs : List Value) (nm : List UInt8) (B : Bool) (hB : decide (nm ∈ inN v) = B) (w : World) (hv : RdA w 0 w.heap.size v cs) (hz : szA 4611686018427387904 v) :
    Calls Try.prog 11 #[.agg cs.toArray, .string (strOf nm)] w fun e w' => (∃ ca : List Value, e = .returned (.tuple #[.agg ca.toArray, .bool B]) ∧ RdA w 0 w.heap.size (getV v nm) ca) ∧ Below w.heap.size w w' := by
  refine (rGet_any v cs nm w hv hz).mono ?_
  rintro e w' ⟨⟨ca, e1, h⟩, hb⟩
  rw [hB] at e1
  exact ⟨⟨ca, e1, h⟩, hb⟩
theorem rwith_map (v x : V) (cs cx : List Value) (nm : List UInt8) (w : World) (hv : RdA w 0 w.heap.size v cs) (hx : RdA w 0 w.heap.size x cx) (hz : (inM v).length < 1466015503701) :
    Calls Try.prog 14 #[.agg cs.toArray, .string (strOf nm), .agg cx.toArray] w (GivesMap (mpV (withN v nm, withM v nm x)) w) :=
  (rWith_any v x cs cx nm w hv hx hz).mono fun _ _ h => gives_map h
theorem rwo_map (v : V) (cs : List Value) (nm : List UInt8) (w : World) (hv : RdA w 0 w.heap.size v cs) (hz : (inM v).length < 1466015503701) :
    Calls Try.prog 16 #[.agg cs.toArray, .string (strOf nm)] w (GivesMap (mpV (woN v nm, woM v nm)) w) :=
  (rWithout_any v cs nm w hv hz).mono fun _ _ h => gives_map h

set_option maxRecDepth 100000 in
set_option maxHeartbeats 1000000 in
theorem members_walk (v : V) (cv : List Value) (X : ByteArray) (x : V) (cx : List Value) (w : World) (hv : RdA w 0 w.heap.size v cv) (zv : szA reachBytes v) (hX : X.size ≤ reachBytes) (hx : RdA w 0 w.heap.size x cx) (zx : szA reachBytes x) :
    Calls Try.prog 3 #[.agg cv.toArray, .string X, .agg cx.toArray] w fun e w' => e = .returned (.bool true) ∧ Below w.heap.size w w' := by
  have zv1 : szA 140737488355328 v := Em.szA_more (by unfold reachBytes; omega) v zv
  have zx1 : szA 140737488355328 x := Em.szA_more (by unfold reachBytes; omega) x zx
  have zv2 : szA 4611686018427387904 v := Em.szA_more (by omega) v zv1
  have zx2 : szA 4611686018427387904 x := Em.szA_more (by omega) x zx1
  have hml : (inM v).length < 1466015503701 := by have := (sz_in zv).2.1; unfold reachBytes at this; omega
  obtain ⟨nm, rfl⟩ := str_of X
  have hnm : nm.length ≤ 4611686018427387904 := by rw [strOf_size] at hX; unfold reachBytes at hX; omega
  have zwi := sz_with (nm := nm) zv1 zx1 hnm
  have zwo := sz_wo (nm := nm) zv1
  have HV := Lib.hid hv
  have HX := Lib.hid hx
  have HFV := Lib.hid (fun (W : World) (hW : Below w.heap.size w W) => Few_any v cv W zv2 (hv.below hW (Nat.le_refl _) hW.size))
  have HFX := Lib.hid (fun (W : World) (hW : Below w.heap.size w W) => Few_any x cx W zx2 (hx.below hW (Nat.le_refl _) hW.size))
  have HWI := Lib.hid (fun (W : World) (hW : Below w.heap.size w W) => with_map v x cv cx nm W (hv.below hW (Nat.le_refl _) hW.size) (hx.below hW (Nat.le_refl _) hW.size) hml)
  have HWO := Lib.hid (fun (W : World) (hW : Below w.heap.size w W) => wo_map v cv nm W (hv.below hW (Nat.le_refl _) hW.size) hml)
  have HWJ := Lib.hid (fun (W : World) (hW : Below w.heap.size w W) => rwith_map v x cv cx nm W (hv.below hW (Nat.le_refl _) hW.size) (hx.below hW (Nat.le_refl _) hW.size) hml)
  have HWQ := Lib.hid (fun (W : World) (hW : Below w.heap.size w W) => rwo_map v cv nm W (hv.below hW (Nat.le_refl _) hW.size) hml)
  have HSZ := Lib.hid (ref_eq (getV v nm) (sz_get zv2))
  have HSW := Lib.hid (ref_eq _ zwi)
  have HSO := Lib.hid (ref_eq _ zwo)
  obtain ⟨z, hz⟩ : ∃ z, getV v nm = z := ⟨_, rfl⟩
  obtain ⟨B, hB⟩ : ∃ B, decide (nm ∈ inN v) = B := ⟨_, rfl⟩
  rw [hz] at HSZ
  obtain ⟨wi, hwi⟩ : ∃ y, mpV (withN v nm, withM v nm x) = y := ⟨_, rfl⟩
  obtain ⟨wo, hwo⟩ : ∃ y, mpV (woN v nm, woM v nm) = y := ⟨_, rfl⟩
  rw [hwi] at HSW HWI HWJ
  rw [hwo] at HSO HWO HWQ
  obtain ⟨Y, hY⟩ : ∃ Y, strOf nm = Y := ⟨_, rfl⟩
  have HGA := Lib.hid (show ∀ (W : World), Below w.heap.size w W → Calls Try.prog 10 #[.agg cv.toArray, .string (strOf nm)] W fun e w' => (∃ ca : List Value, e = .returned (.tuple #[.agg ca.toArray, .bool B]) ∧ RdA W 0 W.heap.size z ca) ∧ Below W.heap.size W w' from fun W hW => by
    have := get_lit v cv nm B hB W (hv.below hW (Nat.le_refl _) hW.size) zv2
    rw [hz] at this
    exact this)
  have HGB := Lib.hid (show ∀ (W : World), Below w.heap.size w W → Calls Try.prog 11 #[.agg cv.toArray, .string (strOf nm)] W fun e w' => (∃ ca : List Value, e = .returned (.tuple #[.agg ca.toArray, .bool B]) ∧ RdA W 0 W.heap.size z ca) ∧ Below W.heap.size W w' from fun W hW => by
    have := rget_lit v cv nm B hB W (hv.below hW (Nat.le_refl _) hW.size) zv2
    rw [hz] at this
    exact this)
  rw [hY] at HGA HGB HWI HWO HWJ HWQ ⊢
  obtain ⟨A1, c1, A2, c2, ev, -⟩ := hv.cells
  obtain ⟨B1, d1, B2, d2, ex, -⟩ := hx.cells
  subst ev ex
  clear hv hx zv zx zv1 zx1 zv2 zx2 hml hX hnm zwi zwo hz hB hwi hwo hY
  generalize v.k = k at *
  generalize v.n = n at *
  generalize strOf v.s = S at *
  generalize v.l.length = l1 at *
  generalize v.ms.length = m1 at *
  generalize x.k = k' at *
  generalize x.n = n' at *
  generalize strOf x.s = S' at *
  generalize x.l.length = l2 at *
  generalize x.ms.length = m2 at *
  obtain ⟨W0, hW0⟩ : ∃ W0, W0 = ((w.alloc (.cells #[.int .i64 k, .int .i64 n, .string S, .slice A1 l1 c1, .slice A2 m1 c2] 25)).alloc (.cells #[.int .i64 k', .int .i64 n', .string S', .slice B1 l2 d1, .slice B2 m2 d2] 25)) := ⟨_, rfl⟩
  have HBW0 := Lib.hid (show Below w.heap.size w W0 by rw [hW0]; exact ((Below.refl _ _).alloc (Nat.le_refl _) _).alloc (by simp) _)
  have hs0 : W0.heap.size = w.heap.size + 2 := by rw [hW0, szAl, szAl]
  have RW0_0 := Lib.hid (show W0.heap[w.heap.size]? = some (.cells #[.int .i64 k, .int .i64 n, .string S, .slice A1 l1 c1, .slice A2 m1 c2] 25 (0, 0)) by rw [hW0]; exact heapOld ((show (w.alloc (.cells #[.int .i64 k, .int .i64 n, .string S, .slice A1 l1 c1, .slice A2 m1 c2] 25)).heap[w.heap.size]? = some (.cells #[.int .i64 k, .int .i64 n, .string S, .slice A1 l1 c1, .slice A2 m1 c2] 25 (0, 0)) from by rw [show w.heap.size = w.heap.size by simp]; exact heapNew _ _)) _)
  have LW0_0 := Lib.hid (show w.heap.size < W0.heap.size by omega)
  have RW0_1 := Lib.hid (show W0.heap[w.heap.size + 1]? = some (.cells #[.int .i64 k', .int .i64 n', .string S', .slice B1 l2 d1, .slice B2 m2 d2] 25 (0, 0)) by rw [hW0]; exact (show ((w.alloc (.cells #[.int .i64 k, .int .i64 n, .string S, .slice A1 l1 c1, .slice A2 m1 c2] 25)).alloc (.cells #[.int .i64 k', .int .i64 n', .string S', .slice B1 l2 d1, .slice B2 m2 d2] 25)).heap[w.heap.size + 1]? = some (.cells #[.int .i64 k', .int .i64 n', .string S', .slice B1 l2 d1, .slice B2 m2 d2] 25 (0, 0)) from by rw [show w.heap.size + 1 = (w.alloc (.cells #[.int .i64 k, .int .i64 n, .string S, .slice A1 l1 c1, .slice A2 m1 c2] 25)).heap.size by simp]; exact heapNew _ _))
  have LW0_1 := Lib.hid (show w.heap.size + 1 < W0.heap.size by omega)
  have HW0 := Lib.hid hW0
  clear hW0 hs0
  go_enter Try.func3, Try.ntmps3
  go_wp2_with fail
  rw [← HW0.out]
  refine (awake_any7 _).mono ?_
  rintro e w1 ⟨rfl, hb⟩
  have Rw1_0 := Lib.hid (show w1.heap[w.heap.size]? = some (.cells #[.int .i64 k, .int .i64 n, .string S, .slice A1 l1 c1, .slice A2 m1 c2] 25 (0, 0)) from (hb.block _ LW0_0.out).trans RW0_0.out)
  have Lw1_0 := Lib.hid (show w.heap.size < w1.heap.size from Nat.lt_of_lt_of_le LW0_0.out hb.size)
  have Rw1_1 := Lib.hid (show w1.heap[w.heap.size + 1]? = some (.cells #[.int .i64 k', .int .i64 n', .string S', .slice B1 l2 d1, .slice B2 m2 d2] 25 (0, 0)) from (hb.block _ LW0_1.out).trans RW0_1.out)
  have Lw1_1 := Lib.hid (show w.heap.size + 1 < w1.heap.size from Nat.lt_of_lt_of_le LW0_1.out hb.size)
  have HBw1 := Lib.hid (HBW0.out.trans (hb.mono HBW0.out.size))
  clear hb
  obtain ⟨⟨p0_0, p0_1, p0_2, p0_3, p0_4⟩, -⟩ := row5 Rw1_0.out
  obtain ⟨⟨p1_0, p1_1, p1_2, p1_3, p1_4⟩, -⟩ := row5 Rw1_1.out
  go_wp2_with fail
  clear p0_0 p0_1 p0_2 p0_3 p0_4 p1_0 p1_1 p1_2 p1_3 p1_4
  refine (HFV.out _ HBw1.out).mono ?_
  rintro e w2 ⟨⟨b, rfl⟩, hb⟩
  have Rw2_0 := Lib.hid (show w2.heap[w.heap.size]? = some (.cells #[.int .i64 k, .int .i64 n, .string S, .slice A1 l1 c1, .slice A2 m1 c2] 25 (0, 0)) from (hb.block _ Lw1_0.out).trans Rw1_0.out)
  have Lw2_0 := Lib.hid (show w.heap.size < w2.heap.size from Nat.lt_of_lt_of_le Lw1_0.out hb.size)
  have Rw2_1 := Lib.hid (show w2.heap[w.heap.size + 1]? = some (.cells #[.int .i64 k', .int .i64 n', .string S', .slice B1 l2 d1, .slice B2 m2 d2] 25 (0, 0)) from (hb.block _ Lw1_1.out).trans Rw1_1.out)
  have Lw2_1 := Lib.hid (show w.heap.size + 1 < w2.heap.size from Nat.lt_of_lt_of_le Lw1_1.out hb.size)
  have HBw2 := Lib.hid (HBw1.out.trans (hb.mono HBw1.out.size))
  clear hb
  cases b
  · obtain ⟨⟨p0_0, p0_1, p0_2, p0_3, p0_4⟩, -⟩ := row5 Rw2_0.out
    obtain ⟨⟨p1_0, p1_1, p1_2, p1_3, p1_4⟩, -⟩ := row5 Rw2_1.out
    go_wp2_with fail
    clear p0_0 p0_1 p0_2 p0_3 p0_4 p1_0 p1_1 p1_2 p1_3 p1_4
    refine (awake_any7 _).mono ?_
    rintro e w2f ⟨rfl, hb⟩
    have Rw2f_0 := Lib.hid (show w2f.heap[w.heap.size]? = some (.cells #[.int .i64 k, .int .i64 n, .string S, .slice A1 l1 c1, .slice A2 m1 c2] 25 (0, 0)) from (hb.block _ Lw2_0.out).trans Rw2_0.out)
    have Lw2f_0 := Lib.hid (show w.heap.size < w2f.heap.size from Nat.lt_of_lt_of_le Lw2_0.out hb.size)
    have Rw2f_1 := Lib.hid (show w2f.heap[w.heap.size + 1]? = some (.cells #[.int .i64 k', .int .i64 n', .string S', .slice B1 l2 d1, .slice B2 m2 d2] 25 (0, 0)) from (hb.block _ Lw2_1.out).trans Rw2_1.out)
    have Lw2f_1 := Lib.hid (show w.heap.size + 1 < w2f.heap.size from Nat.lt_of_lt_of_le Lw2_1.out hb.size)
    have HBw2f := Lib.hid (HBw2.out.trans (hb.mono HBw2.out.size))
    clear hb
    go_wp2
    go_ret
    exact ⟨rfl, HBw2f.out⟩
  obtain ⟨⟨p0_0, p0_1, p0_2, p0_3, p0_4⟩, -⟩ := row5 Rw2_0.out
  obtain ⟨⟨p1_0, p1_1, p1_2, p1_3, p1_4⟩, -⟩ := row5 Rw2_1.out
  go_wp2_with fail
  clear p0_0 p0_1 p0_2 p0_3 p0_4 p1_0 p1_1 p1_2 p1_3 p1_4
  refine (HFX.out _ HBw2.out).mono ?_
  rintro e w3 ⟨⟨b, rfl⟩, hb⟩
  have Rw3_0 := Lib.hid (show w3.heap[w.heap.size]? = some (.cells #[.int .i64 k, .int .i64 n, .string S, .slice A1 l1 c1, .slice A2 m1 c2] 25 (0, 0)) from (hb.block _ Lw2_0.out).trans Rw2_0.out)
  have Lw3_0 := Lib.hid (show w.heap.size < w3.heap.size from Nat.lt_of_lt_of_le Lw2_0.out hb.size)
  have Rw3_1 := Lib.hid (show w3.heap[w.heap.size + 1]? = some (.cells #[.int .i64 k', .int .i64 n', .string S', .slice B1 l2 d1, .slice B2 m2 d2] 25 (0, 0)) from (hb.block _ Lw2_1.out).trans Rw2_1.out)
  have Lw3_1 := Lib.hid (show w.heap.size + 1 < w3.heap.size from Nat.lt_of_lt_of_le Lw2_1.out hb.size)
  have HBw3 := Lib.hid (HBw2.out.trans (hb.mono HBw2.out.size))
  clear hb
  cases b
  · obtain ⟨⟨p0_0, p0_1, p0_2, p0_3, p0_4⟩, -⟩ := row5 Rw3_0.out
    obtain ⟨⟨p1_0, p1_1, p1_2, p1_3, p1_4⟩, -⟩ := row5 Rw3_1.out
    go_wp2_with fail
    clear p0_0 p0_1 p0_2 p0_3 p0_4 p1_0 p1_1 p1_2 p1_3 p1_4
    refine (awake_any7 _).mono ?_
    rintro e w3f ⟨rfl, hb⟩
    have Rw3f_0 := Lib.hid (show w3f.heap[w.heap.size]? = some (.cells #[.int .i64 k, .int .i64 n, .string S, .slice A1 l1 c1, .slice A2 m1 c2] 25 (0, 0)) from (hb.block _ Lw3_0.out).trans Rw3_0.out)
    have Lw3f_0 := Lib.hid (show w.heap.size < w3f.heap.size from Nat.lt_of_lt_of_le Lw3_0.out hb.size)
    have Rw3f_1 := Lib.hid (show w3f.heap[w.heap.size + 1]? = some (.cells #[.int .i64 k', .int .i64 n', .string S', .slice B1 l2 d1, .slice B2 m2 d2] 25 (0, 0)) from (hb.block _ Lw3_1.out).trans Rw3_1.out)
    have Lw3f_1 := Lib.hid (show w.heap.size + 1 < w3f.heap.size from Nat.lt_of_lt_of_le Lw3_1.out hb.size)
    have HBw3f := Lib.hid (HBw3.out.trans (hb.mono HBw3.out.size))
    clear hb
    go_wp2
    go_ret
    exact ⟨rfl, HBw3f.out⟩
  have Fw3_a := Lib.hid (Below.refl w3.heap.size w3)
  obtain ⟨⟨p0_0, p0_1, p0_2, p0_3, p0_4⟩, -⟩ := row5 Rw3_0.out
  obtain ⟨⟨p1_0, p1_1, p1_2, p1_3, p1_4⟩, -⟩ := row5 Rw3_1.out
  go_wp2_with fail
  clear p0_0 p0_1 p0_2 p0_3 p0_4 p1_0 p1_1 p1_2 p1_3 p1_4
  refine (HGA.out _ HBw3.out).mono ?_
  rintro e w4 ⟨⟨acs, rfl, hra⟩, hb⟩
  have Rw4_0 := Lib.hid (show w4.heap[w.heap.size]? = some (.cells #[.int .i64 k, .int .i64 n, .string S, .slice A1 l1 c1, .slice A2 m1 c2] 25 (0, 0)) from (hb.block _ Lw3_0.out).trans Rw3_0.out)
  have Lw4_0 := Lib.hid (show w.heap.size < w4.heap.size from Nat.lt_of_lt_of_le Lw3_0.out hb.size)
  have Rw4_1 := Lib.hid (show w4.heap[w.heap.size + 1]? = some (.cells #[.int .i64 k', .int .i64 n', .string S', .slice B1 l2 d1, .slice B2 m2 d2] 25 (0, 0)) from (hb.block _ Lw3_1.out).trans Rw3_1.out)
  have Lw4_1 := Lib.hid (show w.heap.size + 1 < w4.heap.size from Nat.lt_of_lt_of_le Lw3_1.out hb.size)
  have Fw4_a := Lib.hid (Fw3_a.out.trans (hb.mono Fw3_a.out.size))
  have HBw4 := Lib.hid (HBw3.out.trans (hb.mono HBw3.out.size))
  have HRa := Lib.hid hra
  obtain ⟨aA, ac, aB, ad, ea, -⟩ := hra.cells
  subst ea
  clear hra
  generalize z.k = ak at *
  generalize z.n = an at *
  generalize strOf z.s = aS at *
  generalize z.l.length = al at *
  generalize z.ms.length = am at *
  clear hb
  obtain ⟨W4, hW4⟩ : ∃ W4, W4 = w4.alloc (.cells #[.int .i64 ak, .int .i64 an, .string aS, .slice aA al ac, .slice aB am ad] 25) := ⟨_, rfl⟩
  have hb : Below w4.heap.size w4 W4 := by rw [hW4]; exact (Below.refl _ _).alloc (Nat.le_refl _) _
  have RW4_0 := Lib.hid (show W4.heap[w.heap.size]? = some (.cells #[.int .i64 k, .int .i64 n, .string S, .slice A1 l1 c1, .slice A2 m1 c2] 25 (0, 0)) from (hb.block _ Lw4_0.out).trans Rw4_0.out)
  have LW4_0 := Lib.hid (show w.heap.size < W4.heap.size from Nat.lt_of_lt_of_le Lw4_0.out hb.size)
  have RW4_1 := Lib.hid (show W4.heap[w.heap.size + 1]? = some (.cells #[.int .i64 k', .int .i64 n', .string S', .slice B1 l2 d1, .slice B2 m2 d2] 25 (0, 0)) from (hb.block _ Lw4_1.out).trans Rw4_1.out)
  have LW4_1 := Lib.hid (show w.heap.size + 1 < W4.heap.size from Nat.lt_of_lt_of_le Lw4_1.out hb.size)
  have FW4_a := Lib.hid (Fw4_a.out.trans (hb.mono Fw4_a.out.size))
  have HBW4 := Lib.hid (HBw4.out.trans (hb.mono HBw4.out.size))
  have RW4_2 := Lib.hid (show W4.heap[w4.heap.size]? = some (.cells #[.int .i64 ak, .int .i64 an, .string aS, .slice aA al ac, .slice aB am ad] 25 (0, 0)) by rw [hW4]; exact heapNew _ _)
  have LW4_2 := Lib.hid (show w4.heap.size < W4.heap.size by rw [hW4, szAl]; exact Nat.lt_succ_self _)
  have HW4 := Lib.hid hW4
  clear hW4 hb
  have FW4_b := Lib.hid (Below.refl W4.heap.size W4)
  have q0 := RW4_0.out
  rw [HW4.out] at q0
  obtain ⟨⟨p0_0, p0_1, p0_2, p0_3, p0_4⟩, -⟩ := row5 q0
  clear q0
  have q1 := RW4_1.out
  rw [HW4.out] at q1
  obtain ⟨⟨p1_0, p1_1, p1_2, p1_3, p1_4⟩, -⟩ := row5 q1
  clear q1
  have q2 := RW4_2.out
  rw [HW4.out] at q2
  obtain ⟨⟨p2_0, p2_1, p2_2, p2_3, p2_4⟩, -⟩ := row5 q2
  clear q2
  go_wp2_with fail
  rw [← HW4.out]
  clear p0_0 p0_1 p0_2 p0_3 p0_4 p1_0 p1_1 p1_2 p1_3 p1_4 p2_0 p2_1 p2_2 p2_3 p2_4
  refine (HGB.out _ HBW4.out).mono ?_
  rintro e w5 ⟨⟨bcs, rfl, hrb⟩, hb⟩
  have Rw5_0 := Lib.hid (show w5.heap[w.heap.size]? = some (.cells #[.int .i64 k, .int .i64 n, .string S, .slice A1 l1 c1, .slice A2 m1 c2] 25 (0, 0)) from (hb.block _ LW4_0.out).trans RW4_0.out)
  have Lw5_0 := Lib.hid (show w.heap.size < w5.heap.size from Nat.lt_of_lt_of_le LW4_0.out hb.size)
  have Rw5_1 := Lib.hid (show w5.heap[w.heap.size + 1]? = some (.cells #[.int .i64 k', .int .i64 n', .string S', .slice B1 l2 d1, .slice B2 m2 d2] 25 (0, 0)) from (hb.block _ LW4_1.out).trans RW4_1.out)
  have Lw5_1 := Lib.hid (show w.heap.size + 1 < w5.heap.size from Nat.lt_of_lt_of_le LW4_1.out hb.size)
  have Rw5_2 := Lib.hid (show w5.heap[w4.heap.size]? = some (.cells #[.int .i64 ak, .int .i64 an, .string aS, .slice aA al ac, .slice aB am ad] 25 (0, 0)) from (hb.block _ LW4_2.out).trans RW4_2.out)
  have Lw5_2 := Lib.hid (show w4.heap.size < w5.heap.size from Nat.lt_of_lt_of_le LW4_2.out hb.size)
  have Fw5_a := Lib.hid (FW4_a.out.trans (hb.mono FW4_a.out.size))
  have Fw5_b := Lib.hid (FW4_b.out.trans (hb.mono FW4_b.out.size))
  have HBw5 := Lib.hid (HBW4.out.trans (hb.mono HBW4.out.size))
  have HRb := Lib.hid hrb
  obtain ⟨bA, bc, bB, bd, eb, -⟩ := hrb.cells
  subst eb
  clear hrb
  generalize z.k = bk at *
  generalize z.n = bn at *
  generalize strOf z.s = bS at *
  generalize z.l.length = bl at *
  generalize z.ms.length = bm at *
  clear hb
  obtain ⟨W5, hW5⟩ : ∃ W5, W5 = w5.alloc (.cells #[.int .i64 bk, .int .i64 bn, .string bS, .slice bA bl bc, .slice bB bm bd] 25) := ⟨_, rfl⟩
  have hb : Below w5.heap.size w5 W5 := by rw [hW5]; exact (Below.refl _ _).alloc (Nat.le_refl _) _
  have RW5_0 := Lib.hid (show W5.heap[w.heap.size]? = some (.cells #[.int .i64 k, .int .i64 n, .string S, .slice A1 l1 c1, .slice A2 m1 c2] 25 (0, 0)) from (hb.block _ Lw5_0.out).trans Rw5_0.out)
  have LW5_0 := Lib.hid (show w.heap.size < W5.heap.size from Nat.lt_of_lt_of_le Lw5_0.out hb.size)
  have RW5_1 := Lib.hid (show W5.heap[w.heap.size + 1]? = some (.cells #[.int .i64 k', .int .i64 n', .string S', .slice B1 l2 d1, .slice B2 m2 d2] 25 (0, 0)) from (hb.block _ Lw5_1.out).trans Rw5_1.out)
  have LW5_1 := Lib.hid (show w.heap.size + 1 < W5.heap.size from Nat.lt_of_lt_of_le Lw5_1.out hb.size)
  have RW5_2 := Lib.hid (show W5.heap[w4.heap.size]? = some (.cells #[.int .i64 ak, .int .i64 an, .string aS, .slice aA al ac, .slice aB am ad] 25 (0, 0)) from (hb.block _ Lw5_2.out).trans Rw5_2.out)
  have LW5_2 := Lib.hid (show w4.heap.size < W5.heap.size from Nat.lt_of_lt_of_le Lw5_2.out hb.size)
  have FW5_a := Lib.hid (Fw5_a.out.trans (hb.mono Fw5_a.out.size))
  have FW5_b := Lib.hid (Fw5_b.out.trans (hb.mono Fw5_b.out.size))
  have HBW5 := Lib.hid (HBw5.out.trans (hb.mono HBw5.out.size))
  have RW5_3 := Lib.hid (show W5.heap[w5.heap.size]? = some (.cells #[.int .i64 bk, .int .i64 bn, .string bS, .slice bA bl bc, .slice bB bm bd] 25 (0, 0)) by rw [hW5]; exact heapNew _ _)
  have LW5_3 := Lib.hid (show w5.heap.size < W5.heap.size by rw [hW5, szAl]; exact Nat.lt_succ_self _)
  have HW5 := Lib.hid hW5
  clear hW5 hb
  have q0 := RW5_0.out
  rw [HW5.out] at q0
  obtain ⟨⟨p0_0, p0_1, p0_2, p0_3, p0_4⟩, -⟩ := row5 q0
  clear q0
  have q1 := RW5_1.out
  rw [HW5.out] at q1
  obtain ⟨⟨p1_0, p1_1, p1_2, p1_3, p1_4⟩, -⟩ := row5 q1
  clear q1
  have q2 := RW5_2.out
  rw [HW5.out] at q2
  obtain ⟨⟨p2_0, p2_1, p2_2, p2_3, p2_4⟩, -⟩ := row5 q2
  clear q2
  have q3 := RW5_3.out
  rw [HW5.out] at q3
  obtain ⟨⟨p3_0, p3_1, p3_2, p3_3, p3_4⟩, -⟩ := row5 q3
  clear q3
  have HZu0 := Lib.hid (show Below W5.heap.size W5 W5.drew from (Below.refl W5.heap.size W5).drew)
  have HR0 := Lib.hid (show W5.heap[w.heap.size]? = some (.cells #[.int .i64 k, .int .i64 n, .string S, .slice A1 l1 c1, .slice A2 m1 c2] 25 (0, 0)) ∧ W5.heap[w.heap.size + 1]? = some (.cells #[.int .i64 k', .int .i64 n', .string S', .slice B1 l2 d1, .slice B2 m2 d2] 25 (0, 0)) ∧ W5.heap[w4.heap.size]? = some (.cells #[.int .i64 ak, .int .i64 an, .string aS, .slice aA al ac, .slice aB am ad] 25 (0, 0)) ∧ W5.heap[w5.heap.size]? = some (.cells #[.int .i64 bk, .int .i64 bn, .string bS, .slice bA bl bc, .slice bB bm bd] 25 (0, 0)) from ⟨RW5_0.out, RW5_1.out, RW5_2.out, RW5_3.out⟩)
  go_wp2_with fail
  rw [← HW5.out]
  clear p0_0 p0_1 p0_2 p0_3 p0_4 p1_0 p1_1 p1_2 p1_3 p1_4 p2_0 p2_1 p2_2 p2_3 p2_4 p3_0 p3_1 p3_2 p3_3 p3_4
  refine wp_region_held_drew (S := fun w' => w'.heap[w.heap.size]? = some (.cells #[.int .i64 k, .int .i64 n, .string S, .slice A1 l1 c1, .slice A2 m1 c2] 25 (0, 0)) ∧ w'.heap[w.heap.size + 1]? = some (.cells #[.int .i64 k', .int .i64 n', .string S', .slice B1 l2 d1, .slice B2 m2 d2] 25 (0, 0)) ∧ w'.heap[w4.heap.size]? = some (.cells #[.int .i64 ak, .int .i64 an, .string aS, .slice aA al ac, .slice aB am ad] 25 (0, 0)) ∧ w'.heap[w5.heap.size]? = some (.cells #[.int .i64 bk, .int .i64 bn, .string bS, .slice bA bl bc, .slice bB bm bd] 25 (0, 0))) (by kernel_rfl) (HR0.out) (fun hHeld => ?_)
  refine wpAnyH_take (i := 0) (oi := { dst := some 36, op := Op.move (Operand.tmp 8), type := 4, pos := "law.go:34", after := #[], guard := none }) (v := ?_) rfl (by kernel_rfl) (by kernel_rfl) (by kernel_rfl) (fun _ _ _ h => h) (Or.inl ⟨by rfl, ?_⟩) hHeld ?_
  rotate_left
  · intro w hSw; (try dsimp only at hSw); go_simp; with_reducible rfl
  try simp only [Act.put, List.setIfInBounds_toArray, List.set_cons_zero, List.set_cons_succ]
  refine wpAnyH_take (i := 1) (oi := { dst := some 37, op := Op.move (Operand.tmp 10), type := 4, pos := "law.go:34", after := #[], guard := none }) (v := ?_) rfl (by kernel_rfl) (by kernel_rfl) (by kernel_rfl) (fun _ _ _ h => h) (Or.inl ⟨by rfl, ?_⟩) hHeld ?_
  rotate_left
  · intro w hSw; (try dsimp only at hSw); go_simp; with_reducible rfl
  try simp only [Act.put, List.setIfInBounds_toArray, List.set_cons_zero, List.set_cons_succ]
  refine wpAnyH_take (i := 2) (oi := { dst := some 38, op := Op.binOp BinOp.eql 4 (Operand.tmp 36) (Operand.tmp 37) 4, type := 4, pos := "law.go:34", after := #[{ on := 0, ground := Ground.data }, { on := 1, ground := Ground.data }], guard := none }) (v := ?_) rfl (by kernel_rfl) (by kernel_rfl) (by kernel_rfl) (fun _ _ _ h => h) (Or.inl ⟨by rfl, ?_⟩) hHeld ?_
  rotate_left
  · intro w hSw; (try dsimp only at hSw); go_simp; with_reducible rfl
  try simp only [Act.put, List.setIfInBounds_toArray, List.set_cons_zero, List.set_cons_succ]
  refine wpAnyH_take (i := 3) (oi := { dst := some 39, op := Op.move (Operand.tmp 38), type := 4, pos := "law.go:34", after := #[{ on := 2, ground := Ground.data }], guard := none }) (v := ?_) rfl (by kernel_rfl) (by kernel_rfl) (by kernel_rfl) (fun _ _ _ h => h) (Or.inl ⟨by rfl, ?_⟩) hHeld ?_
  rotate_left
  · intro w hSw; (try dsimp only at hSw); go_simp; with_reducible rfl
  try simp only [Act.put, List.setIfInBounds_toArray, List.set_cons_zero, List.set_cons_succ]
  refine wpAnyH_take (i := 4) (oi := { dst := some 40, op := Op.load 25 (Operand.tmp 7), type := 25, pos := "law.go:34", after := #[{ on := 3, ground := Ground.guard }], guard := some (3, true) }) (v := ?_) rfl (by kernel_rfl) (by kernel_rfl) (by kernel_rfl) (fun _ _ _ h => h) (Or.inl ⟨by rfl, ?_⟩) hHeld ?_
  rotate_left
  · intro w hSw; (try dsimp only at hSw); have q0 := (row5 hSw.1).1; obtain ⟨q00, q01, q02, q03, q04⟩ := q0; have q1 := (row5 hSw.2.1).1; obtain ⟨q10, q11, q12, q13, q14⟩ := q1; have q2 := (row5 hSw.2.2.1).1; obtain ⟨q20, q21, q22, q23, q24⟩ := q2; have q3 := (row5 hSw.2.2.2).1; obtain ⟨q30, q31, q32, q33, q34⟩ := q3; clear hSw; go_simp; with_reducible rfl
  try simp only [Act.put, List.setIfInBounds_toArray, List.set_cons_zero, List.set_cons_succ]
  refine wpAnyH_take (i := 5) (oi := { dst := some 41, op := Op.load 25 (Operand.tmp 9), type := 25, pos := "law.go:34", after := #[{ on := 3, ground := Ground.guard }], guard := some (3, true) }) (v := ?_) rfl (by kernel_rfl) (by kernel_rfl) (by kernel_rfl) (fun _ _ _ h => h) (Or.inl ⟨by rfl, ?_⟩) hHeld ?_
  rotate_left
  · intro w hSw; (try dsimp only at hSw); have q0 := (row5 hSw.1).1; obtain ⟨q00, q01, q02, q03, q04⟩ := q0; have q1 := (row5 hSw.2.1).1; obtain ⟨q10, q11, q12, q13, q14⟩ := q1; have q2 := (row5 hSw.2.2.1).1; obtain ⟨q20, q21, q22, q23, q24⟩ := q2; have q3 := (row5 hSw.2.2.2).1; obtain ⟨q30, q31, q32, q33, q34⟩ := q3; clear hSw; go_simp; with_reducible rfl
  try simp only [Act.put, List.setIfInBounds_toArray, List.set_cons_zero, List.set_cons_succ]
  refine wpAnyH_ready (rs := [6]) (by kernel_rfl) (by simp) ?_
  refine AllReadyH.cons (o := { dst := some 42, op := Op.call { callee := Callee.value (Operand.func 12), args := #[Operand.tmp 40, Operand.tmp 41], argTypes := #[25, 25] }, type := 4, pos := "law.go:34", after := #[{ on := 4, ground := Ground.data }, { on := 5, ground := Ground.data }, { on := 3, ground := Ground.chain }, { on := 3, ground := Ground.guard }], guard := some (3, true) }) rfl (fun K hK => ?_) AllReadyH.nil
  go_simp
  go_at_call 12
  refine (HSZ.out [.int .i64 ak, .int .i64 an, .string aS, .slice aA al ac, .slice aB am ad] [.int .i64 bk, .int .i64 bn, .string bS, .slice bA bl bc, .slice bB bm bd] _ (RdA.below HRa.out (FW5_a.out.trans (HZu0.out.mono FW5_a.out.size)) (Nat.le_refl _) (FW5_a.out.trans (HZu0.out.mono FW5_a.out.size)).size) (RdA.below HRb.out (FW5_b.out.trans (HZu0.out.mono FW5_b.out.size)) (Nat.le_refl _) (FW5_b.out.trans (HZu0.out.mono FW5_b.out.size)).size)).mono ?_
  rintro e u1 ⟨rfl, hb⟩
  have HZu1 := Lib.hid (HZu0.out.trans (hb.mono HZu0.out.size))
  have HRu1 := Lib.hid (show u1.heap[w.heap.size]? = some (.cells #[.int .i64 k, .int .i64 n, .string S, .slice A1 l1 c1, .slice A2 m1 c2] 25 (0, 0)) ∧ u1.heap[w.heap.size + 1]? = some (.cells #[.int .i64 k', .int .i64 n', .string S', .slice B1 l2 d1, .slice B2 m2 d2] 25 (0, 0)) ∧ u1.heap[w4.heap.size]? = some (.cells #[.int .i64 ak, .int .i64 an, .string aS, .slice aA al ac, .slice aB am ad] 25 (0, 0)) ∧ u1.heap[w5.heap.size]? = some (.cells #[.int .i64 bk, .int .i64 bn, .string bS, .slice bA bl bc, .slice bB bm bd] 25 (0, 0)) from ⟨(hb.block _ (Nat.lt_of_lt_of_le LW5_0.out HZu0.out.size)).trans hHeld.1, (hb.block _ (Nat.lt_of_lt_of_le LW5_1.out HZu0.out.size)).trans hHeld.2.1, (hb.block _ (Nat.lt_of_lt_of_le LW5_2.out HZu0.out.size)).trans hHeld.2.2.1, (hb.block _ (Nat.lt_of_lt_of_le LW5_3.out HZu0.out.size)).trans hHeld.2.2.2⟩)
  clear hb
  refine hK.out _ _ (HRu1.out) (fun hHeld => ?_)
  clear hK K
  try simp only [Act.put, List.setIfInBounds_toArray, List.set_cons_zero, List.set_cons_succ]
  refine wpAnyH_take (i := 7) (oi := { dst := some 43, op := Op.pick (Operand.tmp 39) (Operand.tmp 42) (Operand.const (Value.bool false)), type := 4, pos := "law.go:34", after := #[{ on := 3, ground := Ground.data }, { on := 6, ground := Ground.data }], guard := none }) (v := ?_) rfl (by kernel_rfl) (by kernel_rfl) (by kernel_rfl) (fun _ _ _ h => h) (Or.inl ⟨by rfl, ?_⟩) hHeld ?_
  rotate_left
  · intro w hSw; (try dsimp only at hSw); go_simp; with_reducible rfl
  try simp only [Act.put, List.setIfInBounds_toArray, List.set_cons_zero, List.set_cons_succ]
  refine wpAnyH_take (i := 8) (oi := { dst := some 44, op := Op.move (Operand.tmp 43), type := 4, pos := "law.go:34", after := #[{ on := 7, ground := Ground.data }, { on := 6, ground := Ground.chain }], guard := none }) (v := ?_) rfl (by kernel_rfl) (by kernel_rfl) (by kernel_rfl) (fun _ _ _ h => h) (Or.inl ⟨by rfl, ?_⟩) hHeld ?_
  rotate_left
  · intro w hSw; (try dsimp only at hSw); go_simp; with_reducible rfl
  try simp only [Act.put, List.setIfInBounds_toArray, List.set_cons_zero, List.set_cons_succ]
  refine wpAnyH_take (i := 9) (oi := { dst := some 45, op := Op.load 25 (Operand.tmp 3), type := 25, pos := "law.go:34", after := #[{ on := 8, ground := Ground.guard }], guard := some (8, true) }) (v := ?_) rfl (by kernel_rfl) (by kernel_rfl) (by kernel_rfl) (fun _ _ _ h => h) (Or.inl ⟨by rfl, ?_⟩) hHeld ?_
  rotate_left
  · intro w hSw; (try dsimp only at hSw); have q0 := (row5 hSw.1).1; obtain ⟨q00, q01, q02, q03, q04⟩ := q0; have q1 := (row5 hSw.2.1).1; obtain ⟨q10, q11, q12, q13, q14⟩ := q1; have q2 := (row5 hSw.2.2.1).1; obtain ⟨q20, q21, q22, q23, q24⟩ := q2; have q3 := (row5 hSw.2.2.2).1; obtain ⟨q30, q31, q32, q33, q34⟩ := q3; clear hSw; go_simp; with_reducible rfl
  try simp only [Act.put, List.setIfInBounds_toArray, List.set_cons_zero, List.set_cons_succ]
  refine wpAnyH_take (i := 10) (oi := { dst := some 46, op := Op.move (Operand.tmp 1), type := 9, pos := "law.go:34", after := #[{ on := 8, ground := Ground.guard }], guard := some (8, true) }) (v := ?_) rfl (by kernel_rfl) (by kernel_rfl) (by kernel_rfl) (fun _ _ _ h => h) (Or.inl ⟨by rfl, ?_⟩) hHeld ?_
  rotate_left
  · intro w hSw; (try dsimp only at hSw); go_simp; with_reducible rfl
  try simp only [Act.put, List.setIfInBounds_toArray, List.set_cons_zero, List.set_cons_succ]
  refine wpAnyH_take (i := 11) (oi := { dst := some 47, op := Op.load 25 (Operand.tmp 5), type := 25, pos := "law.go:34", after := #[{ on := 8, ground := Ground.guard }], guard := some (8, true) }) (v := ?_) rfl (by kernel_rfl) (by kernel_rfl) (by kernel_rfl) (fun _ _ _ h => h) (Or.inl ⟨by rfl, ?_⟩) hHeld ?_
  rotate_left
  · intro w hSw; (try dsimp only at hSw); have q0 := (row5 hSw.1).1; obtain ⟨q00, q01, q02, q03, q04⟩ := q0; have q1 := (row5 hSw.2.1).1; obtain ⟨q10, q11, q12, q13, q14⟩ := q1; have q2 := (row5 hSw.2.2.1).1; obtain ⟨q20, q21, q22, q23, q24⟩ := q2; have q3 := (row5 hSw.2.2.2).1; obtain ⟨q30, q31, q32, q33, q34⟩ := q3; clear hSw; go_simp; with_reducible rfl
  try simp only [Act.put, List.setIfInBounds_toArray, List.set_cons_zero, List.set_cons_succ]
  refine wpAnyH_take (i := 13) (oi := { dst := some 49, op := Op.load 25 (Operand.tmp 3), type := 25, pos := "law.go:34", after := #[{ on := 8, ground := Ground.guard }], guard := some (8, true) }) (v := ?_) rfl (by kernel_rfl) (by kernel_rfl) (by kernel_rfl) (fun _ _ _ h => h) (Or.inl ⟨by rfl, ?_⟩) hHeld ?_
  rotate_left
  · intro w hSw; (try dsimp only at hSw); have q0 := (row5 hSw.1).1; obtain ⟨q00, q01, q02, q03, q04⟩ := q0; have q1 := (row5 hSw.2.1).1; obtain ⟨q10, q11, q12, q13, q14⟩ := q1; have q2 := (row5 hSw.2.2.1).1; obtain ⟨q20, q21, q22, q23, q24⟩ := q2; have q3 := (row5 hSw.2.2.2).1; obtain ⟨q30, q31, q32, q33, q34⟩ := q3; clear hSw; go_simp; with_reducible rfl
  try simp only [Act.put, List.setIfInBounds_toArray, List.set_cons_zero, List.set_cons_succ]
  refine wpAnyH_take (i := 14) (oi := { dst := some 50, op := Op.move (Operand.tmp 1), type := 9, pos := "law.go:34", after := #[{ on := 8, ground := Ground.guard }], guard := some (8, true) }) (v := ?_) rfl (by kernel_rfl) (by kernel_rfl) (by kernel_rfl) (fun _ _ _ h => h) (Or.inl ⟨by rfl, ?_⟩) hHeld ?_
  rotate_left
  · intro w hSw; (try dsimp only at hSw); go_simp; with_reducible rfl
  try simp only [Act.put, List.setIfInBounds_toArray, List.set_cons_zero, List.set_cons_succ]
  refine wpAnyH_take (i := 15) (oi := { dst := some 51, op := Op.load 25 (Operand.tmp 5), type := 25, pos := "law.go:34", after := #[{ on := 8, ground := Ground.guard }], guard := some (8, true) }) (v := ?_) rfl (by kernel_rfl) (by kernel_rfl) (by kernel_rfl) (fun _ _ _ h => h) (Or.inl ⟨by rfl, ?_⟩) hHeld ?_
  rotate_left
  · intro w hSw; (try dsimp only at hSw); have q0 := (row5 hSw.1).1; obtain ⟨q00, q01, q02, q03, q04⟩ := q0; have q1 := (row5 hSw.2.1).1; obtain ⟨q10, q11, q12, q13, q14⟩ := q1; have q2 := (row5 hSw.2.2.1).1; obtain ⟨q20, q21, q22, q23, q24⟩ := q2; have q3 := (row5 hSw.2.2.2).1; obtain ⟨q30, q31, q32, q33, q34⟩ := q3; clear hSw; go_simp; with_reducible rfl
  try simp only [Act.put, List.setIfInBounds_toArray, List.set_cons_zero, List.set_cons_succ]
  refine wpAnyH_ready (rs := [12]) (by kernel_rfl) (by simp) ?_
  refine AllReadyH.cons (o := { dst := some 48, op := Op.call { callee := Callee.value (Operand.func 13), args := #[Operand.tmp 45, Operand.tmp 46, Operand.tmp 47], argTypes := #[25, 9, 25] }, type := 25, pos := "law.go:34", after := #[{ on := 9, ground := Ground.data }, { on := 10, ground := Ground.data }, { on := 11, ground := Ground.data }, { on := 8, ground := Ground.chain }, { on := 8, ground := Ground.guard }], guard := some (8, true) }) rfl (fun K hK => ?_) AllReadyH.nil
  go_simp
  go_at_call 13
  refine (HWI.out _ (HBW5.out.trans (HZu1.out.mono HBW5.out.size))).mono ?_
  rintro e u2 ⟨⟨pA, pn, pc, rfl, hp⟩, hb⟩
  have HZu2 := Lib.hid (HZu1.out.trans (hb.mono HZu1.out.size))
  have HRu2 := Lib.hid (show u2.heap[w.heap.size]? = some (.cells #[.int .i64 k, .int .i64 n, .string S, .slice A1 l1 c1, .slice A2 m1 c2] 25 (0, 0)) ∧ u2.heap[w.heap.size + 1]? = some (.cells #[.int .i64 k', .int .i64 n', .string S', .slice B1 l2 d1, .slice B2 m2 d2] 25 (0, 0)) ∧ u2.heap[w4.heap.size]? = some (.cells #[.int .i64 ak, .int .i64 an, .string aS, .slice aA al ac, .slice aB am ad] 25 (0, 0)) ∧ u2.heap[w5.heap.size]? = some (.cells #[.int .i64 bk, .int .i64 bn, .string bS, .slice bA bl bc, .slice bB bm bd] 25 (0, 0)) from ⟨(hb.block _ (Nat.lt_of_lt_of_le LW5_0.out HZu1.out.size)).trans hHeld.1, (hb.block _ (Nat.lt_of_lt_of_le LW5_1.out HZu1.out.size)).trans hHeld.2.1, (hb.block _ (Nat.lt_of_lt_of_le LW5_2.out HZu1.out.size)).trans hHeld.2.2.1, (hb.block _ (Nat.lt_of_lt_of_le LW5_3.out HZu1.out.size)).trans hHeld.2.2.2⟩)
  have HRp := Lib.hid hp
  clear hp
  clear hb
  refine hK.out _ _ (HRu2.out) (fun hHeld => ?_)
  clear hK K
  try simp only [Act.put, List.setIfInBounds_toArray, List.set_cons_zero, List.set_cons_succ]
  refine wpAnyH_ready (rs := [16]) (by kernel_rfl) (by simp) ?_
  refine AllReadyH.cons (o := { dst := some 52, op := Op.call { callee := Callee.value (Operand.func 14), args := #[Operand.tmp 49, Operand.tmp 50, Operand.tmp 51], argTypes := #[25, 9, 25] }, type := 25, pos := "law.go:34", after := #[{ on := 13, ground := Ground.data }, { on := 14, ground := Ground.data }, { on := 15, ground := Ground.data }, { on := 12, ground := Ground.chain }, { on := 8, ground := Ground.guard }], guard := some (8, true) }) rfl (fun K hK => ?_) AllReadyH.nil
  go_simp
  go_at_call 14
  refine (HWJ.out _ (HBW5.out.trans (HZu2.out.mono HBW5.out.size))).mono ?_
  rintro e u3 ⟨⟨qA, qn, qc, rfl, hq⟩, hb⟩
  have HZu3 := Lib.hid (HZu2.out.trans (hb.mono HZu2.out.size))
  have HRu3 := Lib.hid (show u3.heap[w.heap.size]? = some (.cells #[.int .i64 k, .int .i64 n, .string S, .slice A1 l1 c1, .slice A2 m1 c2] 25 (0, 0)) ∧ u3.heap[w.heap.size + 1]? = some (.cells #[.int .i64 k', .int .i64 n', .string S', .slice B1 l2 d1, .slice B2 m2 d2] 25 (0, 0)) ∧ u3.heap[w4.heap.size]? = some (.cells #[.int .i64 ak, .int .i64 an, .string aS, .slice aA al ac, .slice aB am ad] 25 (0, 0)) ∧ u3.heap[w5.heap.size]? = some (.cells #[.int .i64 bk, .int .i64 bn, .string bS, .slice bA bl bc, .slice bB bm bd] 25 (0, 0)) from ⟨(hb.block _ (Nat.lt_of_lt_of_le LW5_0.out HZu2.out.size)).trans hHeld.1, (hb.block _ (Nat.lt_of_lt_of_le LW5_1.out HZu2.out.size)).trans hHeld.2.1, (hb.block _ (Nat.lt_of_lt_of_le LW5_2.out HZu2.out.size)).trans hHeld.2.2.1, (hb.block _ (Nat.lt_of_lt_of_le LW5_3.out HZu2.out.size)).trans hHeld.2.2.2⟩)
  have HRq := Lib.hid hq
  have HPp := Lib.hid (RdA.below HRp.out hb (Nat.le_refl _) hb.size)
  clear hq
  clear hb
  refine hK.out _ _ (HRu3.out) (fun hHeld => ?_)
  clear hK K
  try simp only [Act.put, List.setIfInBounds_toArray, List.set_cons_zero, List.set_cons_succ]
  refine wpAnyH_ready (rs := [17]) (by kernel_rfl) (by simp) ?_
  refine AllReadyH.cons (o := { dst := some 53, op := Op.call { callee := Callee.value (Operand.func 12), args := #[Operand.tmp 48, Operand.tmp 52], argTypes := #[25, 25] }, type := 4, pos := "law.go:34", after := #[{ on := 12, ground := Ground.data }, { on := 16, ground := Ground.data }, { on := 16, ground := Ground.chain }, { on := 8, ground := Ground.guard }], guard := some (8, true) }) rfl (fun K hK => ?_) AllReadyH.nil
  go_simp
  go_at_call 12
  refine (HSW.out [.int .i64 6, .int .i64 0, .string ⟨#[]⟩, .slice none 0 0, .slice pA pn pc] [.int .i64 6, .int .i64 0, .string ⟨#[]⟩, .slice none 0 0, .slice qA qn qc] _ HPp.out HRq.out).mono ?_
  rintro e u4 ⟨rfl, hb⟩
  have HZu4 := Lib.hid (HZu3.out.trans (hb.mono HZu3.out.size))
  have HRu4 := Lib.hid (show u4.heap[w.heap.size]? = some (.cells #[.int .i64 k, .int .i64 n, .string S, .slice A1 l1 c1, .slice A2 m1 c2] 25 (0, 0)) ∧ u4.heap[w.heap.size + 1]? = some (.cells #[.int .i64 k', .int .i64 n', .string S', .slice B1 l2 d1, .slice B2 m2 d2] 25 (0, 0)) ∧ u4.heap[w4.heap.size]? = some (.cells #[.int .i64 ak, .int .i64 an, .string aS, .slice aA al ac, .slice aB am ad] 25 (0, 0)) ∧ u4.heap[w5.heap.size]? = some (.cells #[.int .i64 bk, .int .i64 bn, .string bS, .slice bA bl bc, .slice bB bm bd] 25 (0, 0)) from ⟨(hb.block _ (Nat.lt_of_lt_of_le LW5_0.out HZu3.out.size)).trans hHeld.1, (hb.block _ (Nat.lt_of_lt_of_le LW5_1.out HZu3.out.size)).trans hHeld.2.1, (hb.block _ (Nat.lt_of_lt_of_le LW5_2.out HZu3.out.size)).trans hHeld.2.2.1, (hb.block _ (Nat.lt_of_lt_of_le LW5_3.out HZu3.out.size)).trans hHeld.2.2.2⟩)
  clear hb
  refine hK.out _ _ (HRu4.out) (fun hHeld => ?_)
  clear hK K
  try simp only [Act.put, List.setIfInBounds_toArray, List.set_cons_zero, List.set_cons_succ]
  refine wpAnyH_take (i := 18) (oi := { dst := some 54, op := Op.pick (Operand.tmp 44) (Operand.tmp 53) (Operand.const (Value.bool false)), type := 4, pos := "law.go:34", after := #[{ on := 8, ground := Ground.data }, { on := 17, ground := Ground.data }], guard := none }) (v := ?_) rfl (by kernel_rfl) (by kernel_rfl) (by kernel_rfl) (fun _ _ _ h => h) (Or.inl ⟨by rfl, ?_⟩) hHeld ?_
  rotate_left
  · intro w hSw; (try dsimp only at hSw); go_simp; with_reducible rfl
  try simp only [Act.put, List.setIfInBounds_toArray, List.set_cons_zero, List.set_cons_succ]
  refine wpAnyH_take (i := 19) (oi := { dst := some 55, op := Op.move (Operand.tmp 54), type := 4, pos := "law.go:34", after := #[{ on := 18, ground := Ground.data }, { on := 17, ground := Ground.chain }], guard := none }) (v := ?_) rfl (by kernel_rfl) (by kernel_rfl) (by kernel_rfl) (fun _ _ _ h => h) (Or.inl ⟨by rfl, ?_⟩) hHeld ?_
  rotate_left
  · intro w hSw; (try dsimp only at hSw); go_simp; with_reducible rfl
  try simp only [Act.put, List.setIfInBounds_toArray, List.set_cons_zero, List.set_cons_succ]
  refine wpAnyH_take (i := 20) (oi := { dst := some 56, op := Op.load 25 (Operand.tmp 3), type := 25, pos := "law.go:34", after := #[{ on := 19, ground := Ground.guard }], guard := some (19, true) }) (v := ?_) rfl (by kernel_rfl) (by kernel_rfl) (by kernel_rfl) (fun _ _ _ h => h) (Or.inl ⟨by rfl, ?_⟩) hHeld ?_
  rotate_left
  · intro w hSw; (try dsimp only at hSw); have q0 := (row5 hSw.1).1; obtain ⟨q00, q01, q02, q03, q04⟩ := q0; have q1 := (row5 hSw.2.1).1; obtain ⟨q10, q11, q12, q13, q14⟩ := q1; have q2 := (row5 hSw.2.2.1).1; obtain ⟨q20, q21, q22, q23, q24⟩ := q2; have q3 := (row5 hSw.2.2.2).1; obtain ⟨q30, q31, q32, q33, q34⟩ := q3; clear hSw; go_simp; with_reducible rfl
  try simp only [Act.put, List.setIfInBounds_toArray, List.set_cons_zero, List.set_cons_succ]
  refine wpAnyH_take (i := 21) (oi := { dst := some 57, op := Op.move (Operand.tmp 1), type := 9, pos := "law.go:34", after := #[{ on := 19, ground := Ground.guard }], guard := some (19, true) }) (v := ?_) rfl (by kernel_rfl) (by kernel_rfl) (by kernel_rfl) (fun _ _ _ h => h) (Or.inl ⟨by rfl, ?_⟩) hHeld ?_
  rotate_left
  · intro w hSw; (try dsimp only at hSw); go_simp; with_reducible rfl
  try simp only [Act.put, List.setIfInBounds_toArray, List.set_cons_zero, List.set_cons_succ]
  refine wpAnyH_take (i := 23) (oi := { dst := some 59, op := Op.load 25 (Operand.tmp 3), type := 25, pos := "law.go:34", after := #[{ on := 19, ground := Ground.guard }], guard := some (19, true) }) (v := ?_) rfl (by kernel_rfl) (by kernel_rfl) (by kernel_rfl) (fun _ _ _ h => h) (Or.inl ⟨by rfl, ?_⟩) hHeld ?_
  rotate_left
  · intro w hSw; (try dsimp only at hSw); have q0 := (row5 hSw.1).1; obtain ⟨q00, q01, q02, q03, q04⟩ := q0; have q1 := (row5 hSw.2.1).1; obtain ⟨q10, q11, q12, q13, q14⟩ := q1; have q2 := (row5 hSw.2.2.1).1; obtain ⟨q20, q21, q22, q23, q24⟩ := q2; have q3 := (row5 hSw.2.2.2).1; obtain ⟨q30, q31, q32, q33, q34⟩ := q3; clear hSw; go_simp; with_reducible rfl
  try simp only [Act.put, List.setIfInBounds_toArray, List.set_cons_zero, List.set_cons_succ]
  refine wpAnyH_take (i := 24) (oi := { dst := some 60, op := Op.move (Operand.tmp 1), type := 9, pos := "law.go:34", after := #[{ on := 19, ground := Ground.guard }], guard := some (19, true) }) (v := ?_) rfl (by kernel_rfl) (by kernel_rfl) (by kernel_rfl) (fun _ _ _ h => h) (Or.inl ⟨by rfl, ?_⟩) hHeld ?_
  rotate_left
  · intro w hSw; (try dsimp only at hSw); go_simp; with_reducible rfl
  try simp only [Act.put, List.setIfInBounds_toArray, List.set_cons_zero, List.set_cons_succ]
  refine wpAnyH_ready (rs := [22]) (by kernel_rfl) (by simp) ?_
  refine AllReadyH.cons (o := { dst := some 58, op := Op.call { callee := Callee.value (Operand.func 15), args := #[Operand.tmp 56, Operand.tmp 57], argTypes := #[25, 9] }, type := 25, pos := "law.go:34", after := #[{ on := 20, ground := Ground.data }, { on := 21, ground := Ground.data }, { on := 19, ground := Ground.chain }, { on := 19, ground := Ground.guard }], guard := some (19, true) }) rfl (fun K hK => ?_) AllReadyH.nil
  go_simp
  go_at_call 15
  refine (HWO.out _ (HBW5.out.trans (HZu4.out.mono HBW5.out.size))).mono ?_
  rintro e u5 ⟨⟨rA, rn, rc, rfl, hr⟩, hb⟩
  have HZu5 := Lib.hid (HZu4.out.trans (hb.mono HZu4.out.size))
  have HRu5 := Lib.hid (show u5.heap[w.heap.size]? = some (.cells #[.int .i64 k, .int .i64 n, .string S, .slice A1 l1 c1, .slice A2 m1 c2] 25 (0, 0)) ∧ u5.heap[w.heap.size + 1]? = some (.cells #[.int .i64 k', .int .i64 n', .string S', .slice B1 l2 d1, .slice B2 m2 d2] 25 (0, 0)) ∧ u5.heap[w4.heap.size]? = some (.cells #[.int .i64 ak, .int .i64 an, .string aS, .slice aA al ac, .slice aB am ad] 25 (0, 0)) ∧ u5.heap[w5.heap.size]? = some (.cells #[.int .i64 bk, .int .i64 bn, .string bS, .slice bA bl bc, .slice bB bm bd] 25 (0, 0)) from ⟨(hb.block _ (Nat.lt_of_lt_of_le LW5_0.out HZu4.out.size)).trans hHeld.1, (hb.block _ (Nat.lt_of_lt_of_le LW5_1.out HZu4.out.size)).trans hHeld.2.1, (hb.block _ (Nat.lt_of_lt_of_le LW5_2.out HZu4.out.size)).trans hHeld.2.2.1, (hb.block _ (Nat.lt_of_lt_of_le LW5_3.out HZu4.out.size)).trans hHeld.2.2.2⟩)
  have HRr := Lib.hid hr
  clear hr
  clear hb
  refine hK.out _ _ (HRu5.out) (fun hHeld => ?_)
  clear hK K
  try simp only [Act.put, List.setIfInBounds_toArray, List.set_cons_zero, List.set_cons_succ]
  refine wpAnyH_ready (rs := [25]) (by kernel_rfl) (by simp) ?_
  refine AllReadyH.cons (o := { dst := some 61, op := Op.call { callee := Callee.value (Operand.func 16), args := #[Operand.tmp 59, Operand.tmp 60], argTypes := #[25, 9] }, type := 25, pos := "law.go:34", after := #[{ on := 23, ground := Ground.data }, { on := 24, ground := Ground.data }, { on := 22, ground := Ground.chain }, { on := 19, ground := Ground.guard }], guard := some (19, true) }) rfl (fun K hK => ?_) AllReadyH.nil
  go_simp
  go_at_call 16
  refine (HWQ.out _ (HBW5.out.trans (HZu5.out.mono HBW5.out.size))).mono ?_
  rintro e u6 ⟨⟨sA, sn, sc, rfl, hs⟩, hb⟩
  have HZu6 := Lib.hid (HZu5.out.trans (hb.mono HZu5.out.size))
  have HRu6 := Lib.hid (show u6.heap[w.heap.size]? = some (.cells #[.int .i64 k, .int .i64 n, .string S, .slice A1 l1 c1, .slice A2 m1 c2] 25 (0, 0)) ∧ u6.heap[w.heap.size + 1]? = some (.cells #[.int .i64 k', .int .i64 n', .string S', .slice B1 l2 d1, .slice B2 m2 d2] 25 (0, 0)) ∧ u6.heap[w4.heap.size]? = some (.cells #[.int .i64 ak, .int .i64 an, .string aS, .slice aA al ac, .slice aB am ad] 25 (0, 0)) ∧ u6.heap[w5.heap.size]? = some (.cells #[.int .i64 bk, .int .i64 bn, .string bS, .slice bA bl bc, .slice bB bm bd] 25 (0, 0)) from ⟨(hb.block _ (Nat.lt_of_lt_of_le LW5_0.out HZu5.out.size)).trans hHeld.1, (hb.block _ (Nat.lt_of_lt_of_le LW5_1.out HZu5.out.size)).trans hHeld.2.1, (hb.block _ (Nat.lt_of_lt_of_le LW5_2.out HZu5.out.size)).trans hHeld.2.2.1, (hb.block _ (Nat.lt_of_lt_of_le LW5_3.out HZu5.out.size)).trans hHeld.2.2.2⟩)
  have HRs := Lib.hid hs
  have HPr := Lib.hid (RdA.below HRr.out hb (Nat.le_refl _) hb.size)
  clear hs
  clear hb
  refine hK.out _ _ (HRu6.out) (fun hHeld => ?_)
  clear hK K
  try simp only [Act.put, List.setIfInBounds_toArray, List.set_cons_zero, List.set_cons_succ]
  refine wpAnyH_ready (rs := [26]) (by kernel_rfl) (by simp) ?_
  refine AllReadyH.cons (o := { dst := some 62, op := Op.call { callee := Callee.value (Operand.func 12), args := #[Operand.tmp 58, Operand.tmp 61], argTypes := #[25, 25] }, type := 4, pos := "law.go:34", after := #[{ on := 22, ground := Ground.data }, { on := 25, ground := Ground.data }, { on := 25, ground := Ground.chain }, { on := 19, ground := Ground.guard }], guard := some (19, true) }) rfl (fun K hK => ?_) AllReadyH.nil
  go_simp
  go_at_call 12
  refine (HSO.out [.int .i64 6, .int .i64 0, .string ⟨#[]⟩, .slice none 0 0, .slice rA rn rc] [.int .i64 6, .int .i64 0, .string ⟨#[]⟩, .slice none 0 0, .slice sA sn sc] _ HPr.out HRs.out).mono ?_
  rintro e u7 ⟨rfl, hb⟩
  have HZu7 := Lib.hid (HZu6.out.trans (hb.mono HZu6.out.size))
  have HRu7 := Lib.hid (show u7.heap[w.heap.size]? = some (.cells #[.int .i64 k, .int .i64 n, .string S, .slice A1 l1 c1, .slice A2 m1 c2] 25 (0, 0)) ∧ u7.heap[w.heap.size + 1]? = some (.cells #[.int .i64 k', .int .i64 n', .string S', .slice B1 l2 d1, .slice B2 m2 d2] 25 (0, 0)) ∧ u7.heap[w4.heap.size]? = some (.cells #[.int .i64 ak, .int .i64 an, .string aS, .slice aA al ac, .slice aB am ad] 25 (0, 0)) ∧ u7.heap[w5.heap.size]? = some (.cells #[.int .i64 bk, .int .i64 bn, .string bS, .slice bA bl bc, .slice bB bm bd] 25 (0, 0)) from ⟨(hb.block _ (Nat.lt_of_lt_of_le LW5_0.out HZu6.out.size)).trans hHeld.1, (hb.block _ (Nat.lt_of_lt_of_le LW5_1.out HZu6.out.size)).trans hHeld.2.1, (hb.block _ (Nat.lt_of_lt_of_le LW5_2.out HZu6.out.size)).trans hHeld.2.2.1, (hb.block _ (Nat.lt_of_lt_of_le LW5_3.out HZu6.out.size)).trans hHeld.2.2.2⟩)
  clear hb
  refine hK.out _ _ (HRu7.out) (fun hHeld => ?_)
  clear hK K
  try simp only [Act.put, List.setIfInBounds_toArray, List.set_cons_zero, List.set_cons_succ]
  refine wpAnyH_take (i := 27) (oi := { dst := some 63, op := Op.pick (Operand.tmp 55) (Operand.tmp 62) (Operand.const (Value.bool false)), type := 4, pos := "law.go:34", after := #[{ on := 19, ground := Ground.data }, { on := 26, ground := Ground.data }], guard := none }) (v := ?_) rfl (by kernel_rfl) (by kernel_rfl) (by kernel_rfl) (fun _ _ _ h => h) (Or.inl ⟨by rfl, ?_⟩) hHeld ?_
  rotate_left
  · intro w hSw; (try dsimp only at hSw); go_simp; with_reducible rfl
  try simp only [Act.put, List.setIfInBounds_toArray, List.set_cons_zero, List.set_cons_succ]
  refine wpAnyH_take (i := 28) (oi := { dst := some 6, op := Op.assign (Operand.tmp 63), type := 4, pos := "law.go:34", after := #[{ on := 27, ground := Ground.data }, { on := 26, ground := Ground.chain }, { on := 0, ground := Ground.phase }, { on := 1, ground := Ground.phase }, { on := 2, ground := Ground.phase }, { on := 3, ground := Ground.phase }, { on := 4, ground := Ground.phase }, { on := 5, ground := Ground.phase }, { on := 6, ground := Ground.phase }, { on := 7, ground := Ground.phase }, { on := 8, ground := Ground.phase }, { on := 9, ground := Ground.phase }, { on := 10, ground := Ground.phase }, { on := 11, ground := Ground.phase }, { on := 12, ground := Ground.phase }, { on := 13, ground := Ground.phase }, { on := 14, ground := Ground.phase }, { on := 15, ground := Ground.phase }, { on := 16, ground := Ground.phase }, { on := 17, ground := Ground.phase }, { on := 18, ground := Ground.phase }, { on := 19, ground := Ground.phase }, { on := 20, ground := Ground.phase }, { on := 21, ground := Ground.phase }, { on := 22, ground := Ground.phase }, { on := 23, ground := Ground.phase }, { on := 24, ground := Ground.phase }, { on := 25, ground := Ground.phase }, { on := 26, ground := Ground.phase }, { on := 27, ground := Ground.phase }], guard := none }) (v := ?_) rfl (by kernel_rfl) (by kernel_rfl) (by kernel_rfl) (fun _ _ _ h => h) (Or.inl ⟨by rfl, ?_⟩) hHeld ?_
  rotate_left
  · intro w hSw; (try dsimp only at hSw); go_simp; with_reducible rfl
  try simp only [Act.put, List.setIfInBounds_toArray, List.set_cons_zero, List.set_cons_succ]
  refine wpAnyH_done (by kernel_rfl) ?_ _
  have HFIN := Lib.hid (HBW5.out.trans (HZu7.out.mono HBW5.out.size))
  go_wp2
  go_ret
  exact ⟨rfl, HFIN.out⟩
end Go.Proofs.Ytbepnjgbkfidiaa.Tr
