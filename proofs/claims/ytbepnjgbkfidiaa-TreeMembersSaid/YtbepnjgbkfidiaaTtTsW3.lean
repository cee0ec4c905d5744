import Derived.Test.YtbepnjgbkfidiaaTtTsL
/- The walk of TreeGets. Written by tools/genTsW3.py. -/
namespace Go.Proofs.Ytbepnjgbkfidiaa.Tr
open Go.Proofs Go.RowKit Go.Lib
open Go.Proofs.Ytbepnjgbkfidiaa.Utf
open Go.Proofs.Ytbepnjgbkfidiaa.Sc
open Go.Proofs.Ytbepnjgbkfidiaa.Re

theorem ref_eq (y : V) (hz : szA 4611686018427387904 y) (ca cb : List Value) (w : World) (ha : RdA w 0 w.heap.size y ca) (hb : RdA w 0 w.heap.size y cb) : Calls Try.prog 12 #[.agg ca.toArray, .agg cb.toArray] w (Gives (.bool true) w) :=
  (SameA_any (ht y) y y ca cb w (Nat.le_refl _) hz ha hb).mono fun _ _ t => gives_tells rfl t
theorem sz_get {v : V} {nm : List UInt8} (h : szA 4611686018427387904 v) : szA 4611686018427387904 (getV v nm) := by
  rw [get_eq]
  by_cases hk : (inN v).idxOf nm < (inM v).length
  · rw [List.getElem?_eq_getElem hk]
    exact szAL_mem (sz_in h).1 (List.getElem_mem hk)
  · rw [List.getElem?_eq_none (by omega)]
    simp [V0, szA, szAL]
    decide
theorem str_of (X : ByteArray) : ∃ l : List UInt8, X = strOf l := ⟨X.data.toList, rfl⟩

set_option maxRecDepth 100000 in
set_option maxHeartbeats 1000000 in
theorem gets_walk (v : V) (cv : List Value) (X Y : ByteArray) (x : V) (cx : List Value) (w : World) (hv : RdA w 0 w.heap.size v cv) (zv : szA reachBytes v) (hX : X.size ≤ reachBytes) (hY : Y.size ≤ reachBytes) (hx : RdA w 0 w.heap.size x cx) (zx : szA reachBytes x) :
    Calls Try.prog 5 #[.agg cv.toArray, .string X, .string Y, .agg cx.toArray] w fun e w' => e = .returned (.bool true) ∧ Below w.heap.size w w' := by
  have zv1 : szA 140737488355328 v := Em.szA_more (by unfold reachBytes; omega) v zv
  have zx1 : szA 140737488355328 x := Em.szA_more (by unfold reachBytes; omega) x zx
  have zv2 : szA 4611686018427387904 v := Em.szA_more (by omega) v zv1
  have zx2 : szA 4611686018427387904 x := Em.szA_more (by omega) x zx1
  have hlen := in_len hv
  have hml : (inM v).length < 1466015503701 := by have := (sz_in zv).2.1; unfold reachBytes at this; omega
  obtain ⟨nm, rfl⟩ := str_of X
  obtain ⟨ot, rfl⟩ := str_of Y
  have hnm : nm.length ≤ 4611686018427387904 := by rw [strOf_size] at hX; unfold reachBytes at hX; omega
  have zwi := sz_with (nm := nm) zv1 zx1 hnm
  have zwo := sz_wo (nm := nm) zv1
  have HV := Lib.hid hv
  have HX := Lib.hid hx
  have HFV := Lib.hid (fun (W : World) (hW : Below w.heap.size w W) => Few_any v cv W zv2 (hv.below hW (Nat.le_refl _) hW.size))
  have HFX := Lib.hid (fun (W : World) (hW : Below w.heap.size w W) => Few_any x cx W zx2 (hx.below hW (Nat.le_refl _) hW.size))
  have HWI := Lib.hid (fun (W : World) (hW : Below w.heap.size w W) => with_map v x cv cx nm W (hv.below hW (Nat.le_refl _) hW.size) (hx.below hW (Nat.le_refl _) hW.size) hml)
  have HWO := Lib.hid (fun (W : World) (hW : Below w.heap.size w W) => wo_map v cv nm W (hv.below hW (Nat.le_refl _) hW.size) hml)
  obtain ⟨ws1, ws2⟩ := with_same v x nm hlen
  have HGA := Lib.hid (show ∀ (W : World) (cs : List Value), RdA W 0 W.heap.size (mpV (withN v nm, withM v nm x)) cs → Calls Try.prog 10 #[.agg cs.toArray, .string (strOf nm)] W fun e w' => (∃ ca : List Value, e = .returned (.tuple #[.agg ca.toArray, .bool true]) ∧ RdA W 0 W.heap.size x ca) ∧ Below W.heap.size W w' from fun W cs h => by
    have := get_lit _ cs nm true (decide_eq_true ws1) W h zwi
    rw [ws2] at this
    exact this)
  obtain ⟨z2, hz2⟩ : ∃ z, getV (mpV (woN v nm, woM v nm)) nm = z := ⟨_, rfl⟩
  have HGB := Lib.hid (show ∀ (W : World) (cs : List Value), RdA W 0 W.heap.size (mpV (woN v nm, woM v nm)) cs → Calls Try.prog 10 #[.agg cs.toArray, .string (strOf nm)] W fun e w' => (∃ ca : List Value, e = .returned (.tuple #[.agg ca.toArray, .bool false]) ∧ RdA W 0 W.heap.size z2 ca) ∧ Below W.heap.size W w' from fun W cs h => by
    have := get_lit _ cs nm false (decide_eq_false (wo_same v nm hlen)) W h zwo
    rw [hz2] at this
    exact this)
  obtain ⟨z3, hz3⟩ : ∃ z, getV v ot = z := ⟨_, rfl⟩
  obtain ⟨B, hB⟩ : ∃ B, decide (ot ∈ inN v) = B := ⟨_, rfl⟩
  have HSX := Lib.hid (ref_eq x zx2)
  have HSZ := Lib.hid (show ∀ (ca cb : List Value) (w : World), _ → _ → _ from ref_eq z3 (by rw [← hz3]; exact sz_get zv2))
  have HO := Lib.hid (show strOf ot ≠ strOf nm → (∀ (W : World), Below w.heap.size w W → Calls Try.prog 10 #[.agg cv.toArray, .string (strOf ot)] W fun e w' => (∃ ca : List Value, e = .returned (.tuple #[.agg ca.toArray, .bool B]) ∧ RdA W 0 W.heap.size z3 ca) ∧ Below W.heap.size W w') ∧ (∀ (W : World) (cs : List Value), RdA W 0 W.heap.size (mpV (withN v nm, withM v nm x)) cs → Calls Try.prog 10 #[.agg cs.toArray, .string (strOf ot)] W fun e w' => (∃ ca : List Value, e = .returned (.tuple #[.agg ca.toArray, .bool B]) ∧ RdA W 0 W.heap.size z3 ca) ∧ Below W.heap.size W w') ∧ (∀ (W : World) (cs : List Value), RdA W 0 W.heap.size (mpV (woN v nm, woM v nm)) cs → Calls Try.prog 10 #[.agg cs.toArray, .string (strOf ot)] W fun e w' => (∃ ca : List Value, e = .returned (.tuple #[.agg ca.toArray, .bool B]) ∧ RdA W 0 W.heap.size z3 ca) ∧ Below W.heap.size W w') from fun hne => by
    have ho : ot ≠ nm := fun e => hne (by rw [e])
    refine ⟨fun W hW => ?_, fun W cs h => ?_, fun W cs h => ?_⟩
    · have := get_lit v cv ot B hB W (hv.below hW (Nat.le_refl _) hW.size) zv2
      rw [hz3] at this
      exact this
    · obtain ⟨q1, q2⟩ := with_other v x nm ot hlen ho
      have := get_lit _ cs ot B (by rw [decide_eq_decide.2 q1]; exact hB) W h zwi
      rw [q2, hz3] at this
      exact this
    · obtain ⟨q1, q2⟩ := wo_other v nm ot hlen ho
      have := get_lit _ cs ot B (by rw [decide_eq_decide.2 q1]; exact hB) W h zwo
      rw [q2, hz3] at this
      exact this)
  have HNE := Lib.hid (show strOf ot ≠ strOf nm → ((strOf ot).toList == (strOf nm).toList) = false from fun hne => by
    rw [beq_eq_false_iff_ne, strOf_list, strOf_list]
    exact fun e => hne (by rw [e]))
  obtain ⟨A1, c1, A2, c2, ev, -⟩ := hv.cells
  obtain ⟨B1, d1, B2, d2, ex, -⟩ := hx.cells
  subst ev ex
  clear hv hx zv zx zv1 zx1 zv2 zx2 hlen hml hX hY hnm zwi zwo ws1 ws2 hz2 hz3 hB
  generalize strOf nm = X at *
  generalize strOf ot = Y at *
  generalize v.k = k at *
  generalize v.n = n at *
  generalize strOf v.s = S at *
  generalize v.l.length = l1 at *
  generalize v.ms.length = m1 at *
  generalize x.k = k' at *
  generalize x.n = n' at *
  generalize strOf x.s = S' at *
  generalize x.l.length = l2 at *
  generalize x.ms.length = m2 at *
  obtain ⟨W0, hW0⟩ : ∃ W0, W0 = ((w.alloc (.cells #[.int .i64 k, .int .i64 n, .string S, .slice A1 l1 c1, .slice A2 m1 c2] 25)).alloc (.cells #[.int .i64 k', .int .i64 n', .string S', .slice B1 l2 d1, .slice B2 m2 d2] 25)) := ⟨_, rfl⟩
  have HBW0 := Lib.hid (show Below w.heap.size w W0 by rw [hW0]; exact ((Below.refl _ _).alloc (Nat.le_refl _) _).alloc (by simp) _)
  have hs0 : W0.heap.size = w.heap.size + 2 := by rw [hW0, szAl, szAl]
  have RW0_0 := Lib.hid (show W0.heap[w.heap.size]? = some (.cells #[.int .i64 k, .int .i64 n, .string S, .slice A1 l1 c1, .slice A2 m1 c2] 25 (0, 0)) by rw [hW0]; exact heapOld ((show (w.alloc (.cells #[.int .i64 k, .int .i64 n, .string S, .slice A1 l1 c1, .slice A2 m1 c2] 25)).heap[w.heap.size]? = some (.cells #[.int .i64 k, .int .i64 n, .string S, .slice A1 l1 c1, .slice A2 m1 c2] 25 (0, 0)) from by rw [show w.heap.size = w.heap.size by simp]; exact heapNew _ _)) _)
  have LW0_0 := Lib.hid (show w.heap.size < W0.heap.size by omega)
  have RW0_1 := Lib.hid (show W0.heap[w.heap.size + 1]? = some (.cells #[.int .i64 k', .int .i64 n', .string S', .slice B1 l2 d1, .slice B2 m2 d2] 25 (0, 0)) by rw [hW0]; exact (show ((w.alloc (.cells #[.int .i64 k, .int .i64 n, .string S, .slice A1 l1 c1, .slice A2 m1 c2] 25)).alloc (.cells #[.int .i64 k', .int .i64 n', .string S', .slice B1 l2 d1, .slice B2 m2 d2] 25)).heap[w.heap.size + 1]? = some (.cells #[.int .i64 k', .int .i64 n', .string S', .slice B1 l2 d1, .slice B2 m2 d2] 25 (0, 0)) from by rw [show w.heap.size + 1 = (w.alloc (.cells #[.int .i64 k, .int .i64 n, .string S, .slice A1 l1 c1, .slice A2 m1 c2] 25)).heap.size by simp]; exact heapNew _ _))
  have LW0_1 := Lib.hid (show w.heap.size + 1 < W0.heap.size by omega)
  have HW0 := Lib.hid hW0
  clear hW0 hs0
  go_enter Try.func5, Try.ntmps5
  go_wp2_with fail
  rw [← HW0.out]
  refine (awake_any7 _).mono ?_
  rintro e w1 ⟨rfl, hb⟩
  have Rw1_0 := Lib.hid (show w1.heap[w.heap.size]? = some (.cells #[.int .i64 k, .int .i64 n, .string S, .slice A1 l1 c1, .slice A2 m1 c2] 25 (0, 0)) from (hb.block _ LW0_0.out).trans RW0_0.out)
  have Lw1_0 := Lib.hid (show w.heap.size < w1.heap.size from Nat.lt_of_lt_of_le LW0_0.out hb.size)
  have Rw1_1 := Lib.hid (show w1.heap[w.heap.size + 1]? = some (.cells #[.int .i64 k', .int .i64 n', .string S', .slice B1 l2 d1, .slice B2 m2 d2] 25 (0, 0)) from (hb.block _ LW0_1.out).trans RW0_1.out)
  have Lw1_1 := Lib.hid (show w.heap.size + 1 < w1.heap.size from Nat.lt_of_lt_of_le LW0_1.out hb.size)
  have HBw1 := Lib.hid (HBW0.out.trans (hb.mono HBW0.out.size))
  clear hb
  obtain ⟨⟨p0_0, p0_1, p0_2, p0_3, p0_4⟩, -⟩ := row5 Rw1_0.out
  obtain ⟨⟨p1_0, p1_1, p1_2, p1_3, p1_4⟩, -⟩ := row5 Rw1_1.out
  go_wp2_with fail
  clear p0_0 p0_1 p0_2 p0_3 p0_4 p1_0 p1_1 p1_2 p1_3 p1_4
  refine (HFV.out _ HBw1.out).mono ?_
  rintro e w2 ⟨⟨b, rfl⟩, hb⟩
  have Rw2_0 := Lib.hid (show w2.heap[w.heap.size]? = some (.cells #[.int .i64 k, .int .i64 n, .string S, .slice A1 l1 c1, .slice A2 m1 c2] 25 (0, 0)) from (hb.block _ Lw1_0.out).trans Rw1_0.out)
  have Lw2_0 := Lib.hid (show w.heap.size < w2.heap.size from Nat.lt_of_lt_of_le Lw1_0.out hb.size)
  have Rw2_1 := Lib.hid (show w2.heap[w.heap.size + 1]? = some (.cells #[.int .i64 k', .int .i64 n', .string S', .slice B1 l2 d1, .slice B2 m2 d2] 25 (0, 0)) from (hb.block _ Lw1_1.out).trans Rw1_1.out)
  have Lw2_1 := Lib.hid (show w.heap.size + 1 < w2.heap.size from Nat.lt_of_lt_of_le Lw1_1.out hb.size)
  have HBw2 := Lib.hid (HBw1.out.trans (hb.mono HBw1.out.size))
  clear hb
  cases b
  · obtain ⟨⟨p0_0, p0_1, p0_2, p0_3, p0_4⟩, -⟩ := row5 Rw2_0.out
    obtain ⟨⟨p1_0, p1_1, p1_2, p1_3, p1_4⟩, -⟩ := row5 Rw2_1.out
    go_wp2_with fail
    clear p0_0 p0_1 p0_2 p0_3 p0_4 p1_0 p1_1 p1_2 p1_3 p1_4
    refine (awake_any7 _).mono ?_
    rintro e w2f ⟨rfl, hb⟩
    have Rw2f_0 := Lib.hid (show w2f.heap[w.heap.size]? = some (.cells #[.int .i64 k, .int .i64 n, .string S, .slice A1 l1 c1, .slice A2 m1 c2] 25 (0, 0)) from (hb.block _ Lw2_0.out).trans Rw2_0.out)
    have Lw2f_0 := Lib.hid (show w.heap.size < w2f.heap.size from Nat.lt_of_lt_of_le Lw2_0.out hb.size)
    have Rw2f_1 := Lib.hid (show w2f.heap[w.heap.size + 1]? = some (.cells #[.int .i64 k', .int .i64 n', .string S', .slice B1 l2 d1, .slice B2 m2 d2] 25 (0, 0)) from (hb.block _ Lw2_1.out).trans Rw2_1.out)
    have Lw2f_1 := Lib.hid (show w.heap.size + 1 < w2f.heap.size from Nat.lt_of_lt_of_le Lw2_1.out hb.size)
    have HBw2f := Lib.hid (HBw2.out.trans (hb.mono HBw2.out.size))
    clear hb
    go_wp2
    go_ret
    exact ⟨rfl, HBw2f.out⟩
  obtain ⟨⟨p0_0, p0_1, p0_2, p0_3, p0_4⟩, -⟩ := row5 Rw2_0.out
  obtain ⟨⟨p1_0, p1_1, p1_2, p1_3, p1_4⟩, -⟩ := row5 Rw2_1.out
  go_wp2_with fail
  clear p0_0 p0_1 p0_2 p0_3 p0_4 p1_0 p1_1 p1_2 p1_3 p1_4
  refine (HFX.out _ HBw2.out).mono ?_
  rintro e w3 ⟨⟨b, rfl⟩, hb⟩
  have Rw3_0 := Lib.hid (show w3.heap[w.heap.size]? = some (.cells #[.int .i64 k, .int .i64 n, .string S, .slice A1 l1 c1, .slice A2 m1 c2] 25 (0, 0)) from (hb.block _ Lw2_0.out).trans Rw2_0.out)
  have Lw3_0 := Lib.hid (show w.heap.size < w3.heap.size from Nat.lt_of_lt_of_le Lw2_0.out hb.size)
  have Rw3_1 := Lib.hid (show w3.heap[w.heap.size + 1]? = some (.cells #[.int .i64 k', .int .i64 n', .string S', .slice B1 l2 d1, .slice B2 m2 d2] 25 (0, 0)) from (hb.block _ Lw2_1.out).trans Rw2_1.out)
  have Lw3_1 := Lib.hid (show w.heap.size + 1 < w3.heap.size from Nat.lt_of_lt_of_le Lw2_1.out hb.size)
  have HBw3 := Lib.hid (HBw2.out.trans (hb.mono HBw2.out.size))
  clear hb
  cases b
  · obtain ⟨⟨p0_0, p0_1, p0_2, p0_3, p0_4⟩, -⟩ := row5 Rw3_0.out
    obtain ⟨⟨p1_0, p1_1, p1_2, p1_3, p1_4⟩, -⟩ := row5 Rw3_1.out
    go_wp2_with fail
    clear p0_0 p0_1 p0_2 p0_3 p0_4 p1_0 p1_1 p1_2 p1_3 p1_4
    refine (awake_any7 _).mono ?_
    rintro e w3f ⟨rfl, hb⟩
    have Rw3f_0 := Lib.hid (show w3f.heap[w.heap.size]? = some (.cells #[.int .i64 k, .int .i64 n, .string S, .slice A1 l1 c1, .slice A2 m1 c2] 25 (0, 0)) from (hb.block _ Lw3_0.out).trans Rw3_0.out)
    have Lw3f_0 := Lib.hid (show w.heap.size < w3f.heap.size from Nat.lt_of_lt_of_le Lw3_0.out hb.size)
    have Rw3f_1 := Lib.hid (show w3f.heap[w.heap.size + 1]? = some (.cells #[.int .i64 k', .int .i64 n', .string S', .slice B1 l2 d1, .slice B2 m2 d2] 25 (0, 0)) from (hb.block _ Lw3_1.out).trans Rw3_1.out)
    have Lw3f_1 := Lib.hid (show w.heap.size + 1 < w3f.heap.size from Nat.lt_of_lt_of_le Lw3_1.out hb.size)
    have HBw3f := Lib.hid (HBw3.out.trans (hb.mono HBw3.out.size))
    clear hb
    go_wp2
    go_ret
    exact ⟨rfl, HBw3f.out⟩
  obtain ⟨⟨p0_0, p0_1, p0_2, p0_3, p0_4⟩, -⟩ := row5 Rw3_0.out
  obtain ⟨⟨p1_0, p1_1, p1_2, p1_3, p1_4⟩, -⟩ := row5 Rw3_1.out
  go_wp2_with fail
  clear p0_0 p0_1 p0_2 p0_3 p0_4 p1_0 p1_1 p1_2 p1_3 p1_4
  refine (HWI.out _ HBw3.out).mono ?_
  rintro e w4 ⟨⟨pA, pn, pc, rfl, hp⟩, hb⟩
  have Rw4_0 := Lib.hid (show w4.heap[w.heap.size]? = some (.cells #[.int .i64 k, .int .i64 n, .string S, .slice A1 l1 c1, .slice A2 m1 c2] 25 (0, 0)) from (hb.block _ Lw3_0.out).trans Rw3_0.out)
  have Lw4_0 := Lib.hid (show w.heap.size < w4.heap.size from Nat.lt_of_lt_of_le Lw3_0.out hb.size)
  have Rw4_1 := Lib.hid (show w4.heap[w.heap.size + 1]? = some (.cells #[.int .i64 k', .int .i64 n', .string S', .slice B1 l2 d1, .slice B2 m2 d2] 25 (0, 0)) from (hb.block _ Lw3_1.out).trans Rw3_1.out)
  have Lw4_1 := Lib.hid (show w.heap.size + 1 < w4.heap.size from Nat.lt_of_lt_of_le Lw3_1.out hb.size)
  have HBw4 := Lib.hid (HBw3.out.trans (hb.mono HBw3.out.size))
  clear hb
  have HRp := Lib.hid hp
  clear hp
  have Fw4_p := Lib.hid (Below.refl w4.heap.size w4)
  obtain ⟨W4, hW4⟩ : ∃ W4, W4 = w4.alloc (.cells #[.int .i64 6, .int .i64 0, .string ⟨#[]⟩, .slice none 0 0, .slice pA pn pc] 25) := ⟨_, rfl⟩
  have hb : Below w4.heap.size w4 W4 := by rw [hW4]; exact (Below.refl _ _).alloc (Nat.le_refl _) _
  have RW4_0 := Lib.hid (show W4.heap[w.heap.size]? = some (.cells #[.int .i64 k, .int .i64 n, .string S, .slice A1 l1 c1, .slice A2 m1 c2] 25 (0, 0)) from (hb.block _ Lw4_0.out).trans Rw4_0.out)
  have LW4_0 := Lib.hid (show w.heap.size < W4.heap.size from Nat.lt_of_lt_of_le Lw4_0.out hb.size)
  have RW4_1 := Lib.hid (show W4.heap[w.heap.size + 1]? = some (.cells #[.int .i64 k', .int .i64 n', .string S', .slice B1 l2 d1, .slice B2 m2 d2] 25 (0, 0)) from (hb.block _ Lw4_1.out).trans Rw4_1.out)
  have LW4_1 := Lib.hid (show w.heap.size + 1 < W4.heap.size from Nat.lt_of_lt_of_le Lw4_1.out hb.size)
  have FW4_p := Lib.hid (Fw4_p.out.trans (hb.mono Fw4_p.out.size))
  have HBW4 := Lib.hid (HBw4.out.trans (hb.mono HBw4.out.size))
  have RW4_2 := Lib.hid (show W4.heap[w4.heap.size]? = some (.cells #[.int .i64 6, .int .i64 0, .string ⟨#[]⟩, .slice none 0 0, .slice pA pn pc] 25 (0, 0)) by rw [hW4]; exact heapNew _ _)
  have LW4_2 := Lib.hid (show w4.heap.size < W4.heap.size by rw [hW4, szAl]; exact Nat.lt_succ_self _)
  have HW4 := Lib.hid hW4
  clear hW4 hb
  have q0 := RW4_0.out
  rw [HW4.out] at q0
  obtain ⟨⟨p0_0, p0_1, p0_2, p0_3, p0_4⟩, -⟩ := row5 q0
  clear q0
  have q1 := RW4_1.out
  rw [HW4.out] at q1
  obtain ⟨⟨p1_0, p1_1, p1_2, p1_3, p1_4⟩, -⟩ := row5 q1
  clear q1
  have q2 := RW4_2.out
  rw [HW4.out] at q2
  obtain ⟨⟨p2_0, p2_1, p2_2, p2_3, p2_4⟩, -⟩ := row5 q2
  clear q2
  go_wp2_with fail
  rw [← HW4.out]
  clear p0_0 p0_1 p0_2 p0_3 p0_4 p1_0 p1_1 p1_2 p1_3 p1_4 p2_0 p2_1 p2_2 p2_3 p2_4
  refine (HWO.out _ HBW4.out).mono ?_
  rintro e w5 ⟨⟨qA, qn, qc, rfl, hq⟩, hb⟩
  have Rw5_0 := Lib.hid (show w5.heap[w.heap.size]? = some (.cells #[.int .i64 k, .int .i64 n, .string S, .slice A1 l1 c1, .slice A2 m1 c2] 25 (0, 0)) from (hb.block _ LW4_0.out).trans RW4_0.out)
  have Lw5_0 := Lib.hid (show w.heap.size < w5.heap.size from Nat.lt_of_lt_of_le LW4_0.out hb.size)
  have Rw5_1 := Lib.hid (show w5.heap[w.heap.size + 1]? = some (.cells #[.int .i64 k', .int .i64 n', .string S', .slice B1 l2 d1, .slice B2 m2 d2] 25 (0, 0)) from (hb.block _ LW4_1.out).trans RW4_1.out)
  have Lw5_1 := Lib.hid (show w.heap.size + 1 < w5.heap.size from Nat.lt_of_lt_of_le LW4_1.out hb.size)
  have Rw5_2 := Lib.hid (show w5.heap[w4.heap.size]? = some (.cells #[.int .i64 6, .int .i64 0, .string ⟨#[]⟩, .slice none 0 0, .slice pA pn pc] 25 (0, 0)) from (hb.block _ LW4_2.out).trans RW4_2.out)
  have Lw5_2 := Lib.hid (show w4.heap.size < w5.heap.size from Nat.lt_of_lt_of_le LW4_2.out hb.size)
  have Fw5_p := Lib.hid (FW4_p.out.trans (hb.mono FW4_p.out.size))
  have HBw5 := Lib.hid (HBW4.out.trans (hb.mono HBW4.out.size))
  clear hb
  have HRq := Lib.hid hq
  clear hq
  have Fw5_q := Lib.hid (Below.refl w5.heap.size w5)
  obtain ⟨W5, hW5⟩ : ∃ W5, W5 = w5.alloc (.cells #[.int .i64 6, .int .i64 0, .string ⟨#[]⟩, .slice none 0 0, .slice qA qn qc] 25) := ⟨_, rfl⟩
  have hb : Below w5.heap.size w5 W5 := by rw [hW5]; exact (Below.refl _ _).alloc (Nat.le_refl _) _
  have RW5_0 := Lib.hid (show W5.heap[w.heap.size]? = some (.cells #[.int .i64 k, .int .i64 n, .string S, .slice A1 l1 c1, .slice A2 m1 c2] 25 (0, 0)) from (hb.block _ Lw5_0.out).trans Rw5_0.out)
  have LW5_0 := Lib.hid (show w.heap.size < W5.heap.size from Nat.lt_of_lt_of_le Lw5_0.out hb.size)
  have RW5_1 := Lib.hid (show W5.heap[w.heap.size + 1]? = some (.cells #[.int .i64 k', .int .i64 n', .string S', .slice B1 l2 d1, .slice B2 m2 d2] 25 (0, 0)) from (hb.block _ Lw5_1.out).trans Rw5_1.out)
  have LW5_1 := Lib.hid (show w.heap.size + 1 < W5.heap.size from Nat.lt_of_lt_of_le Lw5_1.out hb.size)
  have RW5_2 := Lib.hid (show W5.heap[w4.heap.size]? = some (.cells #[.int .i64 6, .int .i64 0, .string ⟨#[]⟩, .slice none 0 0, .slice pA pn pc] 25 (0, 0)) from (hb.block _ Lw5_2.out).trans Rw5_2.out)
  have LW5_2 := Lib.hid (show w4.heap.size < W5.heap.size from Nat.lt_of_lt_of_le Lw5_2.out hb.size)
  have FW5_p := Lib.hid (Fw5_p.out.trans (hb.mono Fw5_p.out.size))
  have FW5_q := Lib.hid (Fw5_q.out.trans (hb.mono Fw5_q.out.size))
  have HBW5 := Lib.hid (HBw5.out.trans (hb.mono HBw5.out.size))
  have RW5_3 := Lib.hid (show W5.heap[w5.heap.size]? = some (.cells #[.int .i64 6, .int .i64 0, .string ⟨#[]⟩, .slice none 0 0, .slice qA qn qc] 25 (0, 0)) by rw [hW5]; exact heapNew _ _)
  have LW5_3 := Lib.hid (show w5.heap.size < W5.heap.size by rw [hW5, szAl]; exact Nat.lt_succ_self _)
  have HW5 := Lib.hid hW5
  clear hW5 hb
  have FW5_a := Lib.hid (Below.refl W5.heap.size W5)
  have q0 := RW5_0.out
  rw [HW5.out] at q0
  obtain ⟨⟨p0_0, p0_1, p0_2, p0_3, p0_4⟩, -⟩ := row5 q0
  clear q0
  have q1 := RW5_1.out
  rw [HW5.out] at q1
  obtain ⟨⟨p1_0, p1_1, p1_2, p1_3, p1_4⟩, -⟩ := row5 q1
  clear q1
  have q2 := RW5_2.out
  rw [HW5.out] at q2
  obtain ⟨⟨p2_0, p2_1, p2_2, p2_3, p2_4⟩, -⟩ := row5 q2
  clear q2
  have q3 := RW5_3.out
  rw [HW5.out] at q3
  obtain ⟨⟨p3_0, p3_1, p3_2, p3_3, p3_4⟩, -⟩ := row5 q3
  clear q3
  go_wp2_with fail
  rw [← HW5.out]
  clear p0_0 p0_1 p0_2 p0_3 p0_4 p1_0 p1_1 p1_2 p1_3 p1_4 p2_0 p2_1 p2_2 p2_3 p2_4 p3_0 p3_1 p3_2 p3_3 p3_4
  refine (HGA.out _ [.int .i64 6, .int .i64 0, .string ⟨#[]⟩, .slice none 0 0, .slice pA pn pc] (HRp.out.below FW5_p.out (Nat.le_refl _) FW5_p.out.size)).mono ?_
  rintro e w6 ⟨⟨acs, rfl, hra⟩, hb⟩
  have Rw6_0 := Lib.hid (show w6.heap[w.heap.size]? = some (.cells #[.int .i64 k, .int .i64 n, .string S, .slice A1 l1 c1, .slice A2 m1 c2] 25 (0, 0)) from (hb.block _ LW5_0.out).trans RW5_0.out)
  have Lw6_0 := Lib.hid (show w.heap.size < w6.heap.size from Nat.lt_of_lt_of_le LW5_0.out hb.size)
  have Rw6_1 := Lib.hid (show w6.heap[w.heap.size + 1]? = some (.cells #[.int .i64 k', .int .i64 n', .string S', .slice B1 l2 d1, .slice B2 m2 d2] 25 (0, 0)) from (hb.block _ LW5_1.out).trans RW5_1.out)
  have Lw6_1 := Lib.hid (show w.heap.size + 1 < w6.heap.size from Nat.lt_of_lt_of_le LW5_1.out hb.size)
  have Rw6_2 := Lib.hid (show w6.heap[w4.heap.size]? = some (.cells #[.int .i64 6, .int .i64 0, .string ⟨#[]⟩, .slice none 0 0, .slice pA pn pc] 25 (0, 0)) from (hb.block _ LW5_2.out).trans RW5_2.out)
  have Lw6_2 := Lib.hid (show w4.heap.size < w6.heap.size from Nat.lt_of_lt_of_le LW5_2.out hb.size)
  have Rw6_3 := Lib.hid (show w6.heap[w5.heap.size]? = some (.cells #[.int .i64 6, .int .i64 0, .string ⟨#[]⟩, .slice none 0 0, .slice qA qn qc] 25 (0, 0)) from (hb.block _ LW5_3.out).trans RW5_3.out)
  have Lw6_3 := Lib.hid (show w5.heap.size < w6.heap.size from Nat.lt_of_lt_of_le LW5_3.out hb.size)
  have Fw6_p := Lib.hid (FW5_p.out.trans (hb.mono FW5_p.out.size))
  have Fw6_q := Lib.hid (FW5_q.out.trans (hb.mono FW5_q.out.size))
  have Fw6_a := Lib.hid (FW5_a.out.trans (hb.mono FW5_a.out.size))
  have HBw6 := Lib.hid (HBW5.out.trans (hb.mono HBW5.out.size))
  have HRa := Lib.hid hra
  obtain ⟨aA, ac, aB, ad, ea, -⟩ := hra.cells
  subst ea
  clear hra
  generalize x.k = ak at *
  generalize x.n = an at *
  generalize strOf x.s = aS at *
  generalize x.l.length = al at *
  generalize x.ms.length = am at *
  clear hb
  obtain ⟨W6, hW6⟩ : ∃ W6, W6 = w6.alloc (.cells #[.int .i64 ak, .int .i64 an, .string aS, .slice aA al ac, .slice aB am ad] 25) := ⟨_, rfl⟩
  have hb : Below w6.heap.size w6 W6 := by rw [hW6]; exact (Below.refl _ _).alloc (Nat.le_refl _) _
  have RW6_0 := Lib.hid (show W6.heap[w.heap.size]? = some (.cells #[.int .i64 k, .int .i64 n, .string S, .slice A1 l1 c1, .slice A2 m1 c2] 25 (0, 0)) from (hb.block _ Lw6_0.out).trans Rw6_0.out)
  have LW6_0 := Lib.hid (show w.heap.size < W6.heap.size from Nat.lt_of_lt_of_le Lw6_0.out hb.size)
  have RW6_1 := Lib.hid (show W6.heap[w.heap.size + 1]? = some (.cells #[.int .i64 k', .int .i64 n', .string S', .slice B1 l2 d1, .slice B2 m2 d2] 25 (0, 0)) from (hb.block _ Lw6_1.out).trans Rw6_1.out)
  have LW6_1 := Lib.hid (show w.heap.size + 1 < W6.heap.size from Nat.lt_of_lt_of_le Lw6_1.out hb.size)
  have RW6_2 := Lib.hid (show W6.heap[w4.heap.size]? = some (.cells #[.int .i64 6, .int .i64 0, .string ⟨#[]⟩, .slice none 0 0, .slice pA pn pc] 25 (0, 0)) from (hb.block _ Lw6_2.out).trans Rw6_2.out)
  have LW6_2 := Lib.hid (show w4.heap.size < W6.heap.size from Nat.lt_of_lt_of_le Lw6_2.out hb.size)
  have RW6_3 := Lib.hid (show W6.heap[w5.heap.size]? = some (.cells #[.int .i64 6, .int .i64 0, .string ⟨#[]⟩, .slice none 0 0, .slice qA qn qc] 25 (0, 0)) from (hb.block _ Lw6_3.out).trans Rw6_3.out)
  have LW6_3 := Lib.hid (show w5.heap.size < W6.heap.size from Nat.lt_of_lt_of_le Lw6_3.out hb.size)
  have FW6_p := Lib.hid (Fw6_p.out.trans (hb.mono Fw6_p.out.size))
  have FW6_q := Lib.hid (Fw6_q.out.trans (hb.mono Fw6_q.out.size))
  have FW6_a := Lib.hid (Fw6_a.out.trans (hb.mono Fw6_a.out.size))
  have HBW6 := Lib.hid (HBw6.out.trans (hb.mono HBw6.out.size))
  have RW6_4 := Lib.hid (show W6.heap[w6.heap.size]? = some (.cells #[.int .i64 ak, .int .i64 an, .string aS, .slice aA al ac, .slice aB am ad] 25 (0, 0)) by rw [hW6]; exact heapNew _ _)
  have LW6_4 := Lib.hid (show w6.heap.size < W6.heap.size by rw [hW6, szAl]; exact Nat.lt_succ_self _)
  have HW6 := Lib.hid hW6
  clear hW6 hb
  have FW6_b := Lib.hid (Below.refl W6.heap.size W6)
  have q0 := RW6_0.out
  rw [HW6.out] at q0
  obtain ⟨⟨p0_0, p0_1, p0_2, p0_3, p0_4⟩, -⟩ := row5 q0
  clear q0
  have q1 := RW6_1.out
  rw [HW6.out] at q1
  obtain ⟨⟨p1_0, p1_1, p1_2, p1_3, p1_4⟩, -⟩ := row5 q1
  clear q1
  have q2 := RW6_2.out
  rw [HW6.out] at q2
  obtain ⟨⟨p2_0, p2_1, p2_2, p2_3, p2_4⟩, -⟩ := row5 q2
  clear q2
  have q3 := RW6_3.out
  rw [HW6.out] at q3
  obtain ⟨⟨p3_0, p3_1, p3_2, p3_3, p3_4⟩, -⟩ := row5 q3
  clear q3
  have q4 := RW6_4.out
  rw [HW6.out] at q4
  obtain ⟨⟨p4_0, p4_1, p4_2, p4_3, p4_4⟩, -⟩ := row5 q4
  clear q4
  go_wp2_with fail
  rw [← HW6.out]
  clear p0_0 p0_1 p0_2 p0_3 p0_4 p1_0 p1_1 p1_2 p1_3 p1_4 p2_0 p2_1 p2_2 p2_3 p2_4 p3_0 p3_1 p3_2 p3_3 p3_4 p4_0 p4_1 p4_2 p4_3 p4_4
  refine (HGB.out _ [.int .i64 6, .int .i64 0, .string ⟨#[]⟩, .slice none 0 0, .slice qA qn qc] (HRq.out.below FW6_q.out (Nat.le_refl _) FW6_q.out.size)).mono ?_
  rintro e w7 ⟨⟨bcs, rfl, hrb⟩, hb⟩
  have Rw7_0 := Lib.hid (show w7.heap[w.heap.size]? = some (.cells #[.int .i64 k, .int .i64 n, .string S, .slice A1 l1 c1, .slice A2 m1 c2] 25 (0, 0)) from (hb.block _ LW6_0.out).trans RW6_0.out)
  have Lw7_0 := Lib.hid (show w.heap.size < w7.heap.size from Nat.lt_of_lt_of_le LW6_0.out hb.size)
  have Rw7_1 := Lib.hid (show w7.heap[w.heap.size + 1]? = some (.cells #[.int .i64 k', .int .i64 n', .string S', .slice B1 l2 d1, .slice B2 m2 d2] 25 (0, 0)) from (hb.block _ LW6_1.out).trans RW6_1.out)
  have Lw7_1 := Lib.hid (show w.heap.size + 1 < w7.heap.size from Nat.lt_of_lt_of_le LW6_1.out hb.size)
  have Rw7_2 := Lib.hid (show w7.heap[w4.heap.size]? = some (.cells #[.int .i64 6, .int .i64 0, .string ⟨#[]⟩, .slice none 0 0, .slice pA pn pc] 25 (0, 0)) from (hb.block _ LW6_2.out).trans RW6_2.out)
  have Lw7_2 := Lib.hid (show w4.heap.size < w7.heap.size from Nat.lt_of_lt_of_le LW6_2.out hb.size)
  have Rw7_3 := Lib.hid (show w7.heap[w5.heap.size]? = some (.cells #[.int .i64 6, .int .i64 0, .string ⟨#[]⟩, .slice none 0 0, .slice qA qn qc] 25 (0, 0)) from (hb.block _ LW6_3.out).trans RW6_3.out)
  have Lw7_3 := Lib.hid (show w5.heap.size < w7.heap.size from Nat.lt_of_lt_of_le LW6_3.out hb.size)
  have Rw7_4 := Lib.hid (show w7.heap[w6.heap.size]? = some (.cells #[.int .i64 ak, .int .i64 an, .string aS, .slice aA al ac, .slice aB am ad] 25 (0, 0)) from (hb.block _ LW6_4.out).trans RW6_4.out)
  have Lw7_4 := Lib.hid (show w6.heap.size < w7.heap.size from Nat.lt_of_lt_of_le LW6_4.out hb.size)
  have Fw7_p := Lib.hid (FW6_p.out.trans (hb.mono FW6_p.out.size))
  have Fw7_q := Lib.hid (FW6_q.out.trans (hb.mono FW6_q.out.size))
  have Fw7_a := Lib.hid (FW6_a.out.trans (hb.mono FW6_a.out.size))
  have Fw7_b := Lib.hid (FW6_b.out.trans (hb.mono FW6_b.out.size))
  have HBw7 := Lib.hid (HBW6.out.trans (hb.mono HBW6.out.size))
  have HRb := Lib.hid hrb
  obtain ⟨bA, bc, bB, bd, eb, -⟩ := hrb.cells
  subst eb
  clear hrb
  generalize z2.k = bk at *
  generalize z2.n = bn at *
  generalize strOf z2.s = bS at *
  generalize z2.l.length = bl at *
  generalize z2.ms.length = bm at *
  clear hb
  obtain ⟨W7, hW7⟩ : ∃ W7, W7 = w7.alloc (.cells #[.int .i64 bk, .int .i64 bn, .string bS, .slice bA bl bc, .slice bB bm bd] 25) := ⟨_, rfl⟩
  have hb : Below w7.heap.size w7 W7 := by rw [hW7]; exact (Below.refl _ _).alloc (Nat.le_refl _) _
  have RW7_0 := Lib.hid (show W7.heap[w.heap.size]? = some (.cells #[.int .i64 k, .int .i64 n, .string S, .slice A1 l1 c1, .slice A2 m1 c2] 25 (0, 0)) from (hb.block _ Lw7_0.out).trans Rw7_0.out)
  have LW7_0 := Lib.hid (show w.heap.size < W7.heap.size from Nat.lt_of_lt_of_le Lw7_0.out hb.size)
  have RW7_1 := Lib.hid (show W7.heap[w.heap.size + 1]? = some (.cells #[.int .i64 k', .int .i64 n', .string S', .slice B1 l2 d1, .slice B2 m2 d2] 25 (0, 0)) from (hb.block _ Lw7_1.out).trans Rw7_1.out)
  have LW7_1 := Lib.hid (show w.heap.size + 1 < W7.heap.size from Nat.lt_of_lt_of_le Lw7_1.out hb.size)
  have RW7_2 := Lib.hid (show W7.heap[w4.heap.size]? = some (.cells #[.int .i64 6, .int .i64 0, .string ⟨#[]⟩, .slice none 0 0, .slice pA pn pc] 25 (0, 0)) from (hb.block _ Lw7_2.out).trans Rw7_2.out)
  have LW7_2 := Lib.hid (show w4.heap.size < W7.heap.size from Nat.lt_of_lt_of_le Lw7_2.out hb.size)
  have RW7_3 := Lib.hid (show W7.heap[w5.heap.size]? = some (.cells #[.int .i64 6, .int .i64 0, .string ⟨#[]⟩, .slice none 0 0, .slice qA qn qc] 25 (0, 0)) from (hb.block _ Lw7_3.out).trans Rw7_3.out)
  have LW7_3 := Lib.hid (show w5.heap.size < W7.heap.size from Nat.lt_of_lt_of_le Lw7_3.out hb.size)
  have RW7_4 := Lib.hid (show W7.heap[w6.heap.size]? = some (.cells #[.int .i64 ak, .int .i64 an, .string aS, .slice aA al ac, .slice aB am ad] 25 (0, 0)) from (hb.block _ Lw7_4.out).trans Rw7_4.out)
  have LW7_4 := Lib.hid (show w6.heap.size < W7.heap.size from Nat.lt_of_lt_of_le Lw7_4.out hb.size)
  have FW7_p := Lib.hid (Fw7_p.out.trans (hb.mono Fw7_p.out.size))
  have FW7_q := Lib.hid (Fw7_q.out.trans (hb.mono Fw7_q.out.size))
  have FW7_a := Lib.hid (Fw7_a.out.trans (hb.mono Fw7_a.out.size))
  have FW7_b := Lib.hid (Fw7_b.out.trans (hb.mono Fw7_b.out.size))
  have HBW7 := Lib.hid (HBw7.out.trans (hb.mono HBw7.out.size))
  have RW7_5 := Lib.hid (show W7.heap[w7.heap.size]? = some (.cells #[.int .i64 bk, .int .i64 bn, .string bS, .slice bA bl bc, .slice bB bm bd] 25 (0, 0)) by rw [hW7]; exact heapNew _ _)
  have LW7_5 := Lib.hid (show w7.heap.size < W7.heap.size by rw [hW7, szAl]; exact Nat.lt_succ_self _)
  have HW7 := Lib.hid hW7
  clear hW7 hb
  have q0 := RW7_0.out
  rw [HW7.out] at q0
  obtain ⟨⟨p0_0, p0_1, p0_2, p0_3, p0_4⟩, -⟩ := row5 q0
  clear q0
  have q1 := RW7_1.out
  rw [HW7.out] at q1
  obtain ⟨⟨p1_0, p1_1, p1_2, p1_3, p1_4⟩, -⟩ := row5 q1
  clear q1
  have q2 := RW7_2.out
  rw [HW7.out] at q2
  obtain ⟨⟨p2_0, p2_1, p2_2, p2_3, p2_4⟩, -⟩ := row5 q2
  clear q2
  have q3 := RW7_3.out
  rw [HW7.out] at q3
  obtain ⟨⟨p3_0, p3_1, p3_2, p3_3, p3_4⟩, -⟩ := row5 q3
  clear q3
  have q4 := RW7_4.out
  rw [HW7.out] at q4
  obtain ⟨⟨p4_0, p4_1, p4_2, p4_3, p4_4⟩, -⟩ := row5 q4
  clear q4
  have q5 := RW7_5.out
  rw [HW7.out] at q5
  obtain ⟨⟨p5_0, p5_1, p5_2, p5_3, p5_4⟩, -⟩ := row5 q5
  clear q5
  go_wp2_with fail
  rw [← HW7.out]
  clear p0_0 p0_1 p0_2 p0_3 p0_4 p1_0 p1_1 p1_2 p1_3 p1_4 p2_0 p2_1 p2_2 p2_3 p2_4 p3_0 p3_1 p3_2 p3_3 p3_4 p4_0 p4_1 p4_2 p4_3 p4_4 p5_0 p5_1 p5_2 p5_3 p5_4
  refine (HSX.out [.int .i64 ak, .int .i64 an, .string aS, .slice aA al ac, .slice aB am ad] [.int .i64 k', .int .i64 n', .string S', .slice B1 l2 d1, .slice B2 m2 d2] _ (HRa.out.below FW7_a.out (Nat.le_refl _) FW7_a.out.size) (HX.out.below HBW7.out (Nat.le_refl _) HBW7.out.size)).mono ?_
  rintro e w8 ⟨rfl, hb⟩
  have Rw8_0 := Lib.hid (show w8.heap[w.heap.size]? = some (.cells #[.int .i64 k, .int .i64 n, .string S, .slice A1 l1 c1, .slice A2 m1 c2] 25 (0, 0)) from (hb.block _ LW7_0.out).trans RW7_0.out)
  have Lw8_0 := Lib.hid (show w.heap.size < w8.heap.size from Nat.lt_of_lt_of_le LW7_0.out hb.size)
  have Rw8_1 := Lib.hid (show w8.heap[w.heap.size + 1]? = some (.cells #[.int .i64 k', .int .i64 n', .string S', .slice B1 l2 d1, .slice B2 m2 d2] 25 (0, 0)) from (hb.block _ LW7_1.out).trans RW7_1.out)
  have Lw8_1 := Lib.hid (show w.heap.size + 1 < w8.heap.size from Nat.lt_of_lt_of_le LW7_1.out hb.size)
  have Rw8_2 := Lib.hid (show w8.heap[w4.heap.size]? = some (.cells #[.int .i64 6, .int .i64 0, .string ⟨#[]⟩, .slice none 0 0, .slice pA pn pc] 25 (0, 0)) from (hb.block _ LW7_2.out).trans RW7_2.out)
  have Lw8_2 := Lib.hid (show w4.heap.size < w8.heap.size from Nat.lt_of_lt_of_le LW7_2.out hb.size)
  have Rw8_3 := Lib.hid (show w8.heap[w5.heap.size]? = some (.cells #[.int .i64 6, .int .i64 0, .string ⟨#[]⟩, .slice none 0 0, .slice qA qn qc] 25 (0, 0)) from (hb.block _ LW7_3.out).trans RW7_3.out)
  have Lw8_3 := Lib.hid (show w5.heap.size < w8.heap.size from Nat.lt_of_lt_of_le LW7_3.out hb.size)
  have Rw8_4 := Lib.hid (show w8.heap[w6.heap.size]? = some (.cells #[.int .i64 ak, .int .i64 an, .string aS, .slice aA al ac, .slice aB am ad] 25 (0, 0)) from (hb.block _ LW7_4.out).trans RW7_4.out)
  have Lw8_4 := Lib.hid (show w6.heap.size < w8.heap.size from Nat.lt_of_lt_of_le LW7_4.out hb.size)
  have Rw8_5 := Lib.hid (show w8.heap[w7.heap.size]? = some (.cells #[.int .i64 bk, .int .i64 bn, .string bS, .slice bA bl bc, .slice bB bm bd] 25 (0, 0)) from (hb.block _ LW7_5.out).trans RW7_5.out)
  have Lw8_5 := Lib.hid (show w7.heap.size < w8.heap.size from Nat.lt_of_lt_of_le LW7_5.out hb.size)
  have Fw8_p := Lib.hid (FW7_p.out.trans (hb.mono FW7_p.out.size))
  have Fw8_q := Lib.hid (FW7_q.out.trans (hb.mono FW7_q.out.size))
  have Fw8_a := Lib.hid (FW7_a.out.trans (hb.mono FW7_a.out.size))
  have Fw8_b := Lib.hid (FW7_b.out.trans (hb.mono FW7_b.out.size))
  have HBw8 := Lib.hid (HBW7.out.trans (hb.mono HBW7.out.size))
  clear hb
  by_cases hxy : Y = X
  · have t9 : (Y.toList == X.toList) = true := by rw [hxy]; exact beq_self_eq_true _
    clear hxy
    obtain ⟨⟨p0_0, p0_1, p0_2, p0_3, p0_4⟩, -⟩ := row5 Rw8_0.out
    obtain ⟨⟨p1_0, p1_1, p1_2, p1_3, p1_4⟩, -⟩ := row5 Rw8_1.out
    obtain ⟨⟨p2_0, p2_1, p2_2, p2_3, p2_4⟩, -⟩ := row5 Rw8_2.out
    obtain ⟨⟨p3_0, p3_1, p3_2, p3_3, p3_4⟩, -⟩ := row5 Rw8_3.out
    obtain ⟨⟨p4_0, p4_1, p4_2, p4_3, p4_4⟩, -⟩ := row5 Rw8_4.out
    obtain ⟨⟨p5_0, p5_1, p5_2, p5_3, p5_4⟩, -⟩ := row5 Rw8_5.out
    go_wp2
    go_ret
    exact ⟨rfl, HBw8.out⟩
  · have t9 : (Y.toList == X.toList) = false := HNE.out hxy
    obtain ⟨HGC, HGD, HGE⟩ := HO.out hxy
    have HGC := Lib.hid HGC
    have HGD := Lib.hid HGD
    have HGE := Lib.hid HGE
    clear hxy
    have Fw8_c := Lib.hid (Below.refl w8.heap.size w8)
    obtain ⟨⟨p0_0, p0_1, p0_2, p0_3, p0_4⟩, -⟩ := row5 Rw8_0.out
    obtain ⟨⟨p1_0, p1_1, p1_2, p1_3, p1_4⟩, -⟩ := row5 Rw8_1.out
    obtain ⟨⟨p2_0, p2_1, p2_2, p2_3, p2_4⟩, -⟩ := row5 Rw8_2.out
    obtain ⟨⟨p3_0, p3_1, p3_2, p3_3, p3_4⟩, -⟩ := row5 Rw8_3.out
    obtain ⟨⟨p4_0, p4_1, p4_2, p4_3, p4_4⟩, -⟩ := row5 Rw8_4.out
    obtain ⟨⟨p5_0, p5_1, p5_2, p5_3, p5_4⟩, -⟩ := row5 Rw8_5.out
    go_wp2_with fail
    clear p0_0 p0_1 p0_2 p0_3 p0_4 p1_0 p1_1 p1_2 p1_3 p1_4 p2_0 p2_1 p2_2 p2_3 p2_4 p3_0 p3_1 p3_2 p3_3 p3_4 p4_0 p4_1 p4_2 p4_3 p4_4 p5_0 p5_1 p5_2 p5_3 p5_4
    refine (HGC.out _ HBw8.out).mono ?_
    rintro e w9 ⟨⟨ccs, rfl, hrc⟩, hb⟩
    have Rw9_0 := Lib.hid (show w9.heap[w.heap.size]? = some (.cells #[.int .i64 k, .int .i64 n, .string S, .slice A1 l1 c1, .slice A2 m1 c2] 25 (0, 0)) from (hb.block _ Lw8_0.out).trans Rw8_0.out)
    have Lw9_0 := Lib.hid (show w.heap.size < w9.heap.size from Nat.lt_of_lt_of_le Lw8_0.out hb.size)
    have Rw9_1 := Lib.hid (show w9.heap[w.heap.size + 1]? = some (.cells #[.int .i64 k', .int .i64 n', .string S', .slice B1 l2 d1, .slice B2 m2 d2] 25 (0, 0)) from (hb.block _ Lw8_1.out).trans Rw8_1.out)
    have Lw9_1 := Lib.hid (show w.heap.size + 1 < w9.heap.size from Nat.lt_of_lt_of_le Lw8_1.out hb.size)
    have Rw9_2 := Lib.hid (show w9.heap[w4.heap.size]? = some (.cells #[.int .i64 6, .int .i64 0, .string ⟨#[]⟩, .slice none 0 0, .slice pA pn pc] 25 (0, 0)) from (hb.block _ Lw8_2.out).trans Rw8_2.out)
    have Lw9_2 := Lib.hid (show w4.heap.size < w9.heap.size from Nat.lt_of_lt_of_le Lw8_2.out hb.size)
    have Rw9_3 := Lib.hid (show w9.heap[w5.heap.size]? = some (.cells #[.int .i64 6, .int .i64 0, .string ⟨#[]⟩, .slice none 0 0, .slice qA qn qc] 25 (0, 0)) from (hb.block _ Lw8_3.out).trans Rw8_3.out)
    have Lw9_3 := Lib.hid (show w5.heap.size < w9.heap.size from Nat.lt_of_lt_of_le Lw8_3.out hb.size)
    have Rw9_4 := Lib.hid (show w9.heap[w6.heap.size]? = some (.cells #[.int .i64 ak, .int .i64 an, .string aS, .slice aA al ac, .slice aB am ad] 25 (0, 0)) from (hb.block _ Lw8_4.out).trans Rw8_4.out)
    have Lw9_4 := Lib.hid (show w6.heap.size < w9.heap.size from Nat.lt_of_lt_of_le Lw8_4.out hb.size)
    have Rw9_5 := Lib.hid (show w9.heap[w7.heap.size]? = some (.cells #[.int .i64 bk, .int .i64 bn, .string bS, .slice bA bl bc, .slice bB bm bd] 25 (0, 0)) from (hb.block _ Lw8_5.out).trans Rw8_5.out)
    have Lw9_5 := Lib.hid (show w7.heap.size < w9.heap.size from Nat.lt_of_lt_of_le Lw8_5.out hb.size)
    have Fw9_p := Lib.hid (Fw8_p.out.trans (hb.mono Fw8_p.out.size))
    have Fw9_q := Lib.hid (Fw8_q.out.trans (hb.mono Fw8_q.out.size))
    have Fw9_a := Lib.hid (Fw8_a.out.trans (hb.mono Fw8_a.out.size))
    have Fw9_b := Lib.hid (Fw8_b.out.trans (hb.mono Fw8_b.out.size))
    have Fw9_c := Lib.hid (Fw8_c.out.trans (hb.mono Fw8_c.out.size))
    have HBw9 := Lib.hid (HBw8.out.trans (hb.mono HBw8.out.size))
    have HRc := Lib.hid hrc
    obtain ⟨cA, cc, cB, cd, ec, -⟩ := hrc.cells
    subst ec
    clear hrc
    generalize z3.k = ck at *
    generalize z3.n = cn at *
    generalize strOf z3.s = cS at *
    generalize z3.l.length = cl at *
    generalize z3.ms.length = cm at *
    clear hb
    obtain ⟨W9, hW9⟩ : ∃ W9, W9 = w9.alloc (.cells #[.int .i64 ck, .int .i64 cn, .string cS, .slice cA cl cc, .slice cB cm cd] 25) := ⟨_, rfl⟩
    have hb : Below w9.heap.size w9 W9 := by rw [hW9]; exact (Below.refl _ _).alloc (Nat.le_refl _) _
    have RW9_0 := Lib.hid (show W9.heap[w.heap.size]? = some (.cells #[.int .i64 k, .int .i64 n, .string S, .slice A1 l1 c1, .slice A2 m1 c2] 25 (0, 0)) from (hb.block _ Lw9_0.out).trans Rw9_0.out)
    have LW9_0 := Lib.hid (show w.heap.size < W9.heap.size from Nat.lt_of_lt_of_le Lw9_0.out hb.size)
    have RW9_1 := Lib.hid (show W9.heap[w.heap.size + 1]? = some (.cells #[.int .i64 k', .int .i64 n', .string S', .slice B1 l2 d1, .slice B2 m2 d2] 25 (0, 0)) from (hb.block _ Lw9_1.out).trans Rw9_1.out)
    have LW9_1 := Lib.hid (show w.heap.size + 1 < W9.heap.size from Nat.lt_of_lt_of_le Lw9_1.out hb.size)
    have RW9_2 := Lib.hid (show W9.heap[w4.heap.size]? = some (.cells #[.int .i64 6, .int .i64 0, .string ⟨#[]⟩, .slice none 0 0, .slice pA pn pc] 25 (0, 0)) from (hb.block _ Lw9_2.out).trans Rw9_2.out)
    have LW9_2 := Lib.hid (show w4.heap.size < W9.heap.size from Nat.lt_of_lt_of_le Lw9_2.out hb.size)
    have RW9_3 := Lib.hid (show W9.heap[w5.heap.size]? = some (.cells #[.int .i64 6, .int .i64 0, .string ⟨#[]⟩, .slice none 0 0, .slice qA qn qc] 25 (0, 0)) from (hb.block _ Lw9_3.out).trans Rw9_3.out)
    have LW9_3 := Lib.hid (show w5.heap.size < W9.heap.size from Nat.lt_of_lt_of_le Lw9_3.out hb.size)
    have RW9_4 := Lib.hid (show W9.heap[w6.heap.size]? = some (.cells #[.int .i64 ak, .int .i64 an, .string aS, .slice aA al ac, .slice aB am ad] 25 (0, 0)) from (hb.block _ Lw9_4.out).trans Rw9_4.out)
    have LW9_4 := Lib.hid (show w6.heap.size < W9.heap.size from Nat.lt_of_lt_of_le Lw9_4.out hb.size)
    have RW9_5 := Lib.hid (show W9.heap[w7.heap.size]? = some (.cells #[.int .i64 bk, .int .i64 bn, .string bS, .slice bA bl bc, .slice bB bm bd] 25 (0, 0)) from (hb.block _ Lw9_5.out).trans Rw9_5.out)
    have LW9_5 := Lib.hid (show w7.heap.size < W9.heap.size from Nat.lt_of_lt_of_le Lw9_5.out hb.size)
    have FW9_p := Lib.hid (Fw9_p.out.trans (hb.mono Fw9_p.out.size))
    have FW9_q := Lib.hid (Fw9_q.out.trans (hb.mono Fw9_q.out.size))
    have FW9_a := Lib.hid (Fw9_a.out.trans (hb.mono Fw9_a.out.size))
    have FW9_b := Lib.hid (Fw9_b.out.trans (hb.mono Fw9_b.out.size))
    have FW9_c := Lib.hid (Fw9_c.out.trans (hb.mono Fw9_c.out.size))
    have HBW9 := Lib.hid (HBw9.out.trans (hb.mono HBw9.out.size))
    have RW9_6 := Lib.hid (show W9.heap[w9.heap.size]? = some (.cells #[.int .i64 ck, .int .i64 cn, .string cS, .slice cA cl cc, .slice cB cm cd] 25 (0, 0)) by rw [hW9]; exact heapNew _ _)
    have LW9_6 := Lib.hid (show w9.heap.size < W9.heap.size by rw [hW9, szAl]; exact Nat.lt_succ_self _)
    have HW9 := Lib.hid hW9
    clear hW9 hb
    have FW9_d := Lib.hid (Below.refl W9.heap.size W9)
    have q0 := RW9_0.out
    rw [HW9.out] at q0
    obtain ⟨⟨p0_0, p0_1, p0_2, p0_3, p0_4⟩, -⟩ := row5 q0
    clear q0
    have q1 := RW9_1.out
    rw [HW9.out] at q1
    obtain ⟨⟨p1_0, p1_1, p1_2, p1_3, p1_4⟩, -⟩ := row5 q1
    clear q1
    have q2 := RW9_2.out
    rw [HW9.out] at q2
    obtain ⟨⟨p2_0, p2_1, p2_2, p2_3, p2_4⟩, -⟩ := row5 q2
    clear q2
    have q3 := RW9_3.out
    rw [HW9.out] at q3
    obtain ⟨⟨p3_0, p3_1, p3_2, p3_3, p3_4⟩, -⟩ := row5 q3
    clear q3
    have q4 := RW9_4.out
    rw [HW9.out] at q4
    obtain ⟨⟨p4_0, p4_1, p4_2, p4_3, p4_4⟩, -⟩ := row5 q4
    clear q4
    have q5 := RW9_5.out
    rw [HW9.out] at q5
    obtain ⟨⟨p5_0, p5_1, p5_2, p5_3, p5_4⟩, -⟩ := row5 q5
    clear q5
    have q6 := RW9_6.out
    rw [HW9.out] at q6
    obtain ⟨⟨p6_0, p6_1, p6_2, p6_3, p6_4⟩, -⟩ := row5 q6
    clear q6
    go_wp2_with fail
    rw [← HW9.out]
    clear p0_0 p0_1 p0_2 p0_3 p0_4 p1_0 p1_1 p1_2 p1_3 p1_4 p2_0 p2_1 p2_2 p2_3 p2_4 p3_0 p3_1 p3_2 p3_3 p3_4 p4_0 p4_1 p4_2 p4_3 p4_4 p5_0 p5_1 p5_2 p5_3 p5_4 p6_0 p6_1 p6_2 p6_3 p6_4
    refine (HGD.out _ [.int .i64 6, .int .i64 0, .string ⟨#[]⟩, .slice none 0 0, .slice pA pn pc] (HRp.out.below FW9_p.out (Nat.le_refl _) FW9_p.out.size)).mono ?_
    rintro e w10 ⟨⟨dcs, rfl, hrd⟩, hb⟩
    have Rw10_0 := Lib.hid (show w10.heap[w.heap.size]? = some (.cells #[.int .i64 k, .int .i64 n, .string S, .slice A1 l1 c1, .slice A2 m1 c2] 25 (0, 0)) from (hb.block _ LW9_0.out).trans RW9_0.out)
    have Lw10_0 := Lib.hid (show w.heap.size < w10.heap.size from Nat.lt_of_lt_of_le LW9_0.out hb.size)
    have Rw10_1 := Lib.hid (show w10.heap[w.heap.size + 1]? = some (.cells #[.int .i64 k', .int .i64 n', .string S', .slice B1 l2 d1, .slice B2 m2 d2] 25 (0, 0)) from (hb.block _ LW9_1.out).trans RW9_1.out)
    have Lw10_1 := Lib.hid (show w.heap.size + 1 < w10.heap.size from Nat.lt_of_lt_of_le LW9_1.out hb.size)
    have Rw10_2 := Lib.hid (show w10.heap[w4.heap.size]? = some (.cells #[.int .i64 6, .int .i64 0, .string ⟨#[]⟩, .slice none 0 0, .slice pA pn pc] 25 (0, 0)) from (hb.block _ LW9_2.out).trans RW9_2.out)
    have Lw10_2 := Lib.hid (show w4.heap.size < w10.heap.size from Nat.lt_of_lt_of_le LW9_2.out hb.size)
    have Rw10_3 := Lib.hid (show w10.heap[w5.heap.size]? = some (.cells #[.int .i64 6, .int .i64 0, .string ⟨#[]⟩, .slice none 0 0, .slice qA qn qc] 25 (0, 0)) from (hb.block _ LW9_3.out).trans RW9_3.out)
    have Lw10_3 := Lib.hid (show w5.heap.size < w10.heap.size from Nat.lt_of_lt_of_le LW9_3.out hb.size)
    have Rw10_4 := Lib.hid (show w10.heap[w6.heap.size]? = some (.cells #[.int .i64 ak, .int .i64 an, .string aS, .slice aA al ac, .slice aB am ad] 25 (0, 0)) from (hb.block _ LW9_4.out).trans RW9_4.out)
    have Lw10_4 := Lib.hid (show w6.heap.size < w10.heap.size from Nat.lt_of_lt_of_le LW9_4.out hb.size)
    have Rw10_5 := Lib.hid (show w10.heap[w7.heap.size]? = some (.cells #[.int .i64 bk, .int .i64 bn, .string bS, .slice bA bl bc, .slice bB bm bd] 25 (0, 0)) from (hb.block _ LW9_5.out).trans RW9_5.out)
    have Lw10_5 := Lib.hid (show w7.heap.size < w10.heap.size from Nat.lt_of_lt_of_le LW9_5.out hb.size)
    have Rw10_6 := Lib.hid (show w10.heap[w9.heap.size]? = some (.cells #[.int .i64 ck, .int .i64 cn, .string cS, .slice cA cl cc, .slice cB cm cd] 25 (0, 0)) from (hb.block _ LW9_6.out).trans RW9_6.out)
    have Lw10_6 := Lib.hid (show w9.heap.size < w10.heap.size from Nat.lt_of_lt_of_le LW9_6.out hb.size)
    have Fw10_p := Lib.hid (FW9_p.out.trans (hb.mono FW9_p.out.size))
    have Fw10_q := Lib.hid (FW9_q.out.trans (hb.mono FW9_q.out.size))
    have Fw10_a := Lib.hid (FW9_a.out.trans (hb.mono FW9_a.out.size))
    have Fw10_b := Lib.hid (FW9_b.out.trans (hb.mono FW9_b.out.size))
    have Fw10_c := Lib.hid (FW9_c.out.trans (hb.mono FW9_c.out.size))
    have Fw10_d := Lib.hid (FW9_d.out.trans (hb.mono FW9_d.out.size))
    have HBw10 := Lib.hid (HBW9.out.trans (hb.mono HBW9.out.size))
    have HRd := Lib.hid hrd
    obtain ⟨dA, dc, dB, dd, ed, -⟩ := hrd.cells
    subst ed
    clear hrd
    generalize z3.k = dk at *
    generalize z3.n = dn at *
    generalize strOf z3.s = dS at *
    generalize z3.l.length = dl at *
    generalize z3.ms.length = dm at *
    clear hb
    obtain ⟨W10, hW10⟩ : ∃ W10, W10 = w10.alloc (.cells #[.int .i64 dk, .int .i64 dn, .string dS, .slice dA dl dc, .slice dB dm dd] 25) := ⟨_, rfl⟩
    have hb : Below w10.heap.size w10 W10 := by rw [hW10]; exact (Below.refl _ _).alloc (Nat.le_refl _) _
    have RW10_0 := Lib.hid (show W10.heap[w.heap.size]? = some (.cells #[.int .i64 k, .int .i64 n, .string S, .slice A1 l1 c1, .slice A2 m1 c2] 25 (0, 0)) from (hb.block _ Lw10_0.out).trans Rw10_0.out)
    have LW10_0 := Lib.hid (show w.heap.size < W10.heap.size from Nat.lt_of_lt_of_le Lw10_0.out hb.size)
    have RW10_1 := Lib.hid (show W10.heap[w.heap.size + 1]? = some (.cells #[.int .i64 k', .int .i64 n', .string S', .slice B1 l2 d1, .slice B2 m2 d2] 25 (0, 0)) from (hb.block _ Lw10_1.out).trans Rw10_1.out)
    have LW10_1 := Lib.hid (show w.heap.size + 1 < W10.heap.size from Nat.lt_of_lt_of_le Lw10_1.out hb.size)
    have RW10_2 := Lib.hid (show W10.heap[w4.heap.size]? = some (.cells #[.int .i64 6, .int .i64 0, .string ⟨#[]⟩, .slice none 0 0, .slice pA pn pc] 25 (0, 0)) from (hb.block _ Lw10_2.out).trans Rw10_2.out)
    have LW10_2 := Lib.hid (show w4.heap.size < W10.heap.size from Nat.lt_of_lt_of_le Lw10_2.out hb.size)
    have RW10_3 := Lib.hid (show W10.heap[w5.heap.size]? = some (.cells #[.int .i64 6, .int .i64 0, .string ⟨#[]⟩, .slice none 0 0, .slice qA qn qc] 25 (0, 0)) from (hb.block _ Lw10_3.out).trans Rw10_3.out)
    have LW10_3 := Lib.hid (show w5.heap.size < W10.heap.size from Nat.lt_of_lt_of_le Lw10_3.out hb.size)
    have RW10_4 := Lib.hid (show W10.heap[w6.heap.size]? = some (.cells #[.int .i64 ak, .int .i64 an, .string aS, .slice aA al ac, .slice aB am ad] 25 (0, 0)) from (hb.block _ Lw10_4.out).trans Rw10_4.out)
    have LW10_4 := Lib.hid (show w6.heap.size < W10.heap.size from Nat.lt_of_lt_of_le Lw10_4.out hb.size)
    have RW10_5 := Lib.hid (show W10.heap[w7.heap.size]? = some (.cells #[.int .i64 bk, .int .i64 bn, .string bS, .slice bA bl bc, .slice bB bm bd] 25 (0, 0)) from (hb.block _ Lw10_5.out).trans Rw10_5.out)
    have LW10_5 := Lib.hid (show w7.heap.size < W10.heap.size from Nat.lt_of_lt_of_le Lw10_5.out hb.size)
    have RW10_6 := Lib.hid (show W10.heap[w9.heap.size]? = some (.cells #[.int .i64 ck, .int .i64 cn, .string cS, .slice cA cl cc, .slice cB cm cd] 25 (0, 0)) from (hb.block _ Lw10_6.out).trans Rw10_6.out)
    have LW10_6 := Lib.hid (show w9.heap.size < W10.heap.size from Nat.lt_of_lt_of_le Lw10_6.out hb.size)
    have FW10_p := Lib.hid (Fw10_p.out.trans (hb.mono Fw10_p.out.size))
    have FW10_q := Lib.hid (Fw10_q.out.trans (hb.mono Fw10_q.out.size))
    have FW10_a := Lib.hid (Fw10_a.out.trans (hb.mono Fw10_a.out.size))
    have FW10_b := Lib.hid (Fw10_b.out.trans (hb.mono Fw10_b.out.size))
    have FW10_c := Lib.hid (Fw10_c.out.trans (hb.mono Fw10_c.out.size))
    have FW10_d := Lib.hid (Fw10_d.out.trans (hb.mono Fw10_d.out.size))
    have HBW10 := Lib.hid (HBw10.out.trans (hb.mono HBw10.out.size))
    have RW10_7 := Lib.hid (show W10.heap[w10.heap.size]? = some (.cells #[.int .i64 dk, .int .i64 dn, .string dS, .slice dA dl dc, .slice dB dm dd] 25 (0, 0)) by rw [hW10]; exact heapNew _ _)
    have LW10_7 := Lib.hid (show w10.heap.size < W10.heap.size by rw [hW10, szAl]; exact Nat.lt_succ_self _)
    have HW10 := Lib.hid hW10
    clear hW10 hb
    have FW10_e := Lib.hid (Below.refl W10.heap.size W10)
    have q0 := RW10_0.out
    rw [HW10.out] at q0
    obtain ⟨⟨p0_0, p0_1, p0_2, p0_3, p0_4⟩, -⟩ := row5 q0
    clear q0
    have q1 := RW10_1.out
    rw [HW10.out] at q1
    obtain ⟨⟨p1_0, p1_1, p1_2, p1_3, p1_4⟩, -⟩ := row5 q1
    clear q1
    have q2 := RW10_2.out
    rw [HW10.out] at q2
    obtain ⟨⟨p2_0, p2_1, p2_2, p2_3, p2_4⟩, -⟩ := row5 q2
    clear q2
    have q3 := RW10_3.out
    rw [HW10.out] at q3
    obtain ⟨⟨p3_0, p3_1, p3_2, p3_3, p3_4⟩, -⟩ := row5 q3
    clear q3
    have q4 := RW10_4.out
    rw [HW10.out] at q4
    obtain ⟨⟨p4_0, p4_1, p4_2, p4_3, p4_4⟩, -⟩ := row5 q4
    clear q4
    have q5 := RW10_5.out
    rw [HW10.out] at q5
    obtain ⟨⟨p5_0, p5_1, p5_2, p5_3, p5_4⟩, -⟩ := row5 q5
    clear q5
    have q6 := RW10_6.out
    rw [HW10.out] at q6
    obtain ⟨⟨p6_0, p6_1, p6_2, p6_3, p6_4⟩, -⟩ := row5 q6
    clear q6
    have q7 := RW10_7.out
    rw [HW10.out] at q7
    obtain ⟨⟨p7_0, p7_1, p7_2, p7_3, p7_4⟩, -⟩ := row5 q7
    clear q7
    go_wp2_with fail
    rw [← HW10.out]
    clear p0_0 p0_1 p0_2 p0_3 p0_4 p1_0 p1_1 p1_2 p1_3 p1_4 p2_0 p2_1 p2_2 p2_3 p2_4 p3_0 p3_1 p3_2 p3_3 p3_4 p4_0 p4_1 p4_2 p4_3 p4_4 p5_0 p5_1 p5_2 p5_3 p5_4 p6_0 p6_1 p6_2 p6_3 p6_4 p7_0 p7_1 p7_2 p7_3 p7_4
    refine (HGE.out _ [.int .i64 6, .int .i64 0, .string ⟨#[]⟩, .slice none 0 0, .slice qA qn qc] (HRq.out.below FW10_q.out (Nat.le_refl _) FW10_q.out.size)).mono ?_
    rintro e w11 ⟨⟨ecs, rfl, hre⟩, hb⟩
    have Rw11_0 := Lib.hid (show w11.heap[w.heap.size]? = some (.cells #[.int .i64 k, .int .i64 n, .string S, .slice A1 l1 c1, .slice A2 m1 c2] 25 (0, 0)) from (hb.block _ LW10_0.out).trans RW10_0.out)
    have Lw11_0 := Lib.hid (show w.heap.size < w11.heap.size from Nat.lt_of_lt_of_le LW10_0.out hb.size)
    have Rw11_1 := Lib.hid (show w11.heap[w.heap.size + 1]? = some (.cells #[.int .i64 k', .int .i64 n', .string S', .slice B1 l2 d1, .slice B2 m2 d2] 25 (0, 0)) from (hb.block _ LW10_1.out).trans RW10_1.out)
    have Lw11_1 := Lib.hid (show w.heap.size + 1 < w11.heap.size from Nat.lt_of_lt_of_le LW10_1.out hb.size)
    have Rw11_2 := Lib.hid (show w11.heap[w4.heap.size]? = some (.cells #[.int .i64 6, .int .i64 0, .string ⟨#[]⟩, .slice none 0 0, .slice pA pn pc] 25 (0, 0)) from (hb.block _ LW10_2.out).trans RW10_2.out)
    have Lw11_2 := Lib.hid (show w4.heap.size < w11.heap.size from Nat.lt_of_lt_of_le LW10_2.out hb.size)
    have Rw11_3 := Lib.hid (show w11.heap[w5.heap.size]? = some (.cells #[.int .i64 6, .int .i64 0, .string ⟨#[]⟩, .slice none 0 0, .slice qA qn qc] 25 (0, 0)) from (hb.block _ LW10_3.out).trans RW10_3.out)
    have Lw11_3 := Lib.hid (show w5.heap.size < w11.heap.size from Nat.lt_of_lt_of_le LW10_3.out hb.size)
    have Rw11_4 := Lib.hid (show w11.heap[w6.heap.size]? = some (.cells #[.int .i64 ak, .int .i64 an, .string aS, .slice aA al ac, .slice aB am ad] 25 (0, 0)) from (hb.block _ LW10_4.out).trans RW10_4.out)
    have Lw11_4 := Lib.hid (show w6.heap.size < w11.heap.size from Nat.lt_of_lt_of_le LW10_4.out hb.size)
    have Rw11_5 := Lib.hid (show w11.heap[w7.heap.size]? = some (.cells #[.int .i64 bk, .int .i64 bn, .string bS, .slice bA bl bc, .slice bB bm bd] 25 (0, 0)) from (hb.block _ LW10_5.out).trans RW10_5.out)
    have Lw11_5 := Lib.hid (show w7.heap.size < w11.heap.size from Nat.lt_of_lt_of_le LW10_5.out hb.size)
    have Rw11_6 := Lib.hid (show w11.heap[w9.heap.size]? = some (.cells #[.int .i64 ck, .int .i64 cn, .string cS, .slice cA cl cc, .slice cB cm cd] 25 (0, 0)) from (hb.block _ LW10_6.out).trans RW10_6.out)
    have Lw11_6 := Lib.hid (show w9.heap.size < w11.heap.size from Nat.lt_of_lt_of_le LW10_6.out hb.size)
    have Rw11_7 := Lib.hid (show w11.heap[w10.heap.size]? = some (.cells #[.int .i64 dk, .int .i64 dn, .string dS, .slice dA dl dc, .slice dB dm dd] 25 (0, 0)) from (hb.block _ LW10_7.out).trans RW10_7.out)
    have Lw11_7 := Lib.hid (show w10.heap.size < w11.heap.size from Nat.lt_of_lt_of_le LW10_7.out hb.size)
    have Fw11_p := Lib.hid (FW10_p.out.trans (hb.mono FW10_p.out.size))
    have Fw11_q := Lib.hid (FW10_q.out.trans (hb.mono FW10_q.out.size))
    have Fw11_a := Lib.hid (FW10_a.out.trans (hb.mono FW10_a.out.size))
    have Fw11_b := Lib.hid (FW10_b.out.trans (hb.mono FW10_b.out.size))
    have Fw11_c := Lib.hid (FW10_c.out.trans (hb.mono FW10_c.out.size))
    have Fw11_d := Lib.hid (FW10_d.out.trans (hb.mono FW10_d.out.size))
    have Fw11_e := Lib.hid (FW10_e.out.trans (hb.mono FW10_e.out.size))
    have HBw11 := Lib.hid (HBW10.out.trans (hb.mono HBW10.out.size))
    have HRe := Lib.hid hre
    obtain ⟨eA, ec, eB, ed, ee, -⟩ := hre.cells
    subst ee
    clear hre
    generalize z3.k = ek at *
    generalize z3.n = en at *
    generalize strOf z3.s = eS at *
    generalize z3.l.length = el at *
    generalize z3.ms.length = em at *
    clear hb
    obtain ⟨W11, hW11⟩ : ∃ W11, W11 = w11.alloc (.cells #[.int .i64 ek, .int .i64 en, .string eS, .slice eA el ec, .slice eB em ed] 25) := ⟨_, rfl⟩
    have hb : Below w11.heap.size w11 W11 := by rw [hW11]; exact (Below.refl _ _).alloc (Nat.le_refl _) _
    have RW11_0 := Lib.hid (show W11.heap[w.heap.size]? = some (.cells #[.int .i64 k, .int .i64 n, .string S, .slice A1 l1 c1, .slice A2 m1 c2] 25 (0, 0)) from (hb.block _ Lw11_0.out).trans Rw11_0.out)
    have LW11_0 := Lib.hid (show w.heap.size < W11.heap.size from Nat.lt_of_lt_of_le Lw11_0.out hb.size)
    have RW11_1 := Lib.hid (show W11.heap[w.heap.size + 1]? = some (.cells #[.int .i64 k', .int .i64 n', .string S', .slice B1 l2 d1, .slice B2 m2 d2] 25 (0, 0)) from (hb.block _ Lw11_1.out).trans Rw11_1.out)
    have LW11_1 := Lib.hid (show w.heap.size + 1 < W11.heap.size from Nat.lt_of_lt_of_le Lw11_1.out hb.size)
    have RW11_2 := Lib.hid (show W11.heap[w4.heap.size]? = some (.cells #[.int .i64 6, .int .i64 0, .string ⟨#[]⟩, .slice none 0 0, .slice pA pn pc] 25 (0, 0)) from (hb.block _ Lw11_2.out).trans Rw11_2.out)
    have LW11_2 := Lib.hid (show w4.heap.size < W11.heap.size from Nat.lt_of_lt_of_le Lw11_2.out hb.size)
    have RW11_3 := Lib.hid (show W11.heap[w5.heap.size]? = some (.cells #[.int .i64 6, .int .i64 0, .string ⟨#[]⟩, .slice none 0 0, .slice qA qn qc] 25 (0, 0)) from (hb.block _ Lw11_3.out).trans Rw11_3.out)
    have LW11_3 := Lib.hid (show w5.heap.size < W11.heap.size from Nat.lt_of_lt_of_le Lw11_3.out hb.size)
    have RW11_4 := Lib.hid (show W11.heap[w6.heap.size]? = some (.cells #[.int .i64 ak, .int .i64 an, .string aS, .slice aA al ac, .slice aB am ad] 25 (0, 0)) from (hb.block _ Lw11_4.out).trans Rw11_4.out)
    have LW11_4 := Lib.hid (show w6.heap.size < W11.heap.size from Nat.lt_of_lt_of_le Lw11_4.out hb.size)
    have RW11_5 := Lib.hid (show W11.heap[w7.heap.size]? = some (.cells #[.int .i64 bk, .int .i64 bn, .string bS, .slice bA bl bc, .slice bB bm bd] 25 (0, 0)) from (hb.block _ Lw11_5.out).trans Rw11_5.out)
    have LW11_5 := Lib.hid (show w7.heap.size < W11.heap.size from Nat.lt_of_lt_of_le Lw11_5.out hb.size)
    have RW11_6 := Lib.hid (show W11.heap[w9.heap.size]? = some (.cells #[.int .i64 ck, .int .i64 cn, .string cS, .slice cA cl cc, .slice cB cm cd] 25 (0, 0)) from (hb.block _ Lw11_6.out).trans Rw11_6.out)
    have LW11_6 := Lib.hid (show w9.heap.size < W11.heap.size from Nat.lt_of_lt_of_le Lw11_6.out hb.size)
    have RW11_7 := Lib.hid (show W11.heap[w10.heap.size]? = some (.cells #[.int .i64 dk, .int .i64 dn, .string dS, .slice dA dl dc, .slice dB dm dd] 25 (0, 0)) from (hb.block _ Lw11_7.out).trans Rw11_7.out)
    have LW11_7 := Lib.hid (show w10.heap.size < W11.heap.size from Nat.lt_of_lt_of_le Lw11_7.out hb.size)
    have FW11_p := Lib.hid (Fw11_p.out.trans (hb.mono Fw11_p.out.size))
    have FW11_q := Lib.hid (Fw11_q.out.trans (hb.mono Fw11_q.out.size))
    have FW11_a := Lib.hid (Fw11_a.out.trans (hb.mono Fw11_a.out.size))
    have FW11_b := Lib.hid (Fw11_b.out.trans (hb.mono Fw11_b.out.size))
    have FW11_c := Lib.hid (Fw11_c.out.trans (hb.mono Fw11_c.out.size))
    have FW11_d := Lib.hid (Fw11_d.out.trans (hb.mono Fw11_d.out.size))
    have FW11_e := Lib.hid (Fw11_e.out.trans (hb.mono Fw11_e.out.size))
    have HBW11 := Lib.hid (HBw11.out.trans (hb.mono HBw11.out.size))
    have RW11_8 := Lib.hid (show W11.heap[w11.heap.size]? = some (.cells #[.int .i64 ek, .int .i64 en, .string eS, .slice eA el ec, .slice eB em ed] 25 (0, 0)) by rw [hW11]; exact heapNew _ _)
    have LW11_8 := Lib.hid (show w11.heap.size < W11.heap.size by rw [hW11, szAl]; exact Nat.lt_succ_self _)
    have HW11 := Lib.hid hW11
    clear hW11 hb
    have q0 := RW11_0.out
    rw [HW11.out] at q0
    obtain ⟨⟨p0_0, p0_1, p0_2, p0_3, p0_4⟩, -⟩ := row5 q0
    clear q0
    have q1 := RW11_1.out
    rw [HW11.out] at q1
    obtain ⟨⟨p1_0, p1_1, p1_2, p1_3, p1_4⟩, -⟩ := row5 q1
    clear q1
    have q2 := RW11_2.out
    rw [HW11.out] at q2
    obtain ⟨⟨p2_0, p2_1, p2_2, p2_3, p2_4⟩, -⟩ := row5 q2
    clear q2
    have q3 := RW11_3.out
    rw [HW11.out] at q3
    obtain ⟨⟨p3_0, p3_1, p3_2, p3_3, p3_4⟩, -⟩ := row5 q3
    clear q3
    have q4 := RW11_4.out
    rw [HW11.out] at q4
    obtain ⟨⟨p4_0, p4_1, p4_2, p4_3, p4_4⟩, -⟩ := row5 q4
    clear q4
    have q5 := RW11_5.out
    rw [HW11.out] at q5
    obtain ⟨⟨p5_0, p5_1, p5_2, p5_3, p5_4⟩, -⟩ := row5 q5
    clear q5
    have q6 := RW11_6.out
    rw [HW11.out] at q6
    obtain ⟨⟨p6_0, p6_1, p6_2, p6_3, p6_4⟩, -⟩ := row5 q6
    clear q6
    have q7 := RW11_7.out
    rw [HW11.out] at q7
    obtain ⟨⟨p7_0, p7_1, p7_2, p7_3, p7_4⟩, -⟩ := row5 q7
    clear q7
    have q8 := RW11_8.out
    rw [HW11.out] at q8
    obtain ⟨⟨p8_0, p8_1, p8_2, p8_3, p8_4⟩, -⟩ := row5 q8
    clear q8
    go_wp2_with fail
    rw [← HW11.out]
    clear p0_0 p0_1 p0_2 p0_3 p0_4 p1_0 p1_1 p1_2 p1_3 p1_4 p2_0 p2_1 p2_2 p2_3 p2_4 p3_0 p3_1 p3_2 p3_3 p3_4 p4_0 p4_1 p4_2 p4_3 p4_4 p5_0 p5_1 p5_2 p5_3 p5_4 p6_0 p6_1 p6_2 p6_3 p6_4 p7_0 p7_1 p7_2 p7_3 p7_4 p8_0 p8_1 p8_2 p8_3 p8_4
    refine (HSZ.out [.int .i64 ck, .int .i64 cn, .string cS, .slice cA cl cc, .slice cB cm cd] [.int .i64 dk, .int .i64 dn, .string dS, .slice dA dl dc, .slice dB dm dd] _ (HRc.out.below FW11_c.out (Nat.le_refl _) FW11_c.out.size) (HRd.out.below FW11_d.out (Nat.le_refl _) FW11_d.out.size)).mono ?_
    rintro e w12 ⟨rfl, hb⟩
    have Rw12_0 := Lib.hid (show w12.heap[w.heap.size]? = some (.cells #[.int .i64 k, .int .i64 n, .string S, .slice A1 l1 c1, .slice A2 m1 c2] 25 (0, 0)) from (hb.block _ LW11_0.out).trans RW11_0.out)
    have Lw12_0 := Lib.hid (show w.heap.size < w12.heap.size from Nat.lt_of_lt_of_le LW11_0.out hb.size)
    have Rw12_1 := Lib.hid (show w12.heap[w.heap.size + 1]? = some (.cells #[.int .i64 k', .int .i64 n', .string S', .slice B1 l2 d1, .slice B2 m2 d2] 25 (0, 0)) from (hb.block _ LW11_1.out).trans RW11_1.out)
    have Lw12_1 := Lib.hid (show w.heap.size + 1 < w12.heap.size from Nat.lt_of_lt_of_le LW11_1.out hb.size)
    have Rw12_2 := Lib.hid (show w12.heap[w4.heap.size]? = some (.cells #[.int .i64 6, .int .i64 0, .string ⟨#[]⟩, .slice none 0 0, .slice pA pn pc] 25 (0, 0)) from (hb.block _ LW11_2.out).trans RW11_2.out)
    have Lw12_2 := Lib.hid (show w4.heap.size < w12.heap.size from Nat.lt_of_lt_of_le LW11_2.out hb.size)
    have Rw12_3 := Lib.hid (show w12.heap[w5.heap.size]? = some (.cells #[.int .i64 6, .int .i64 0, .string ⟨#[]⟩, .slice none 0 0, .slice qA qn qc] 25 (0, 0)) from (hb.block _ LW11_3.out).trans RW11_3.out)
    have Lw12_3 := Lib.hid (show w5.heap.size < w12.heap.size from Nat.lt_of_lt_of_le LW11_3.out hb.size)
    have Rw12_4 := Lib.hid (show w12.heap[w6.heap.size]? = some (.cells #[.int .i64 ak, .int .i64 an, .string aS, .slice aA al ac, .slice aB am ad] 25 (0, 0)) from (hb.block _ LW11_4.out).trans RW11_4.out)
    have Lw12_4 := Lib.hid (show w6.heap.size < w12.heap.size from Nat.lt_of_lt_of_le LW11_4.out hb.size)
    have Rw12_5 := Lib.hid (show w12.heap[w7.heap.size]? = some (.cells #[.int .i64 bk, .int .i64 bn, .string bS, .slice bA bl bc, .slice bB bm bd] 25 (0, 0)) from (hb.block _ LW11_5.out).trans RW11_5.out)
    have Lw12_5 := Lib.hid (show w7.heap.size < w12.heap.size from Nat.lt_of_lt_of_le LW11_5.out hb.size)
    have Rw12_6 := Lib.hid (show w12.heap[w9.heap.size]? = some (.cells #[.int .i64 ck, .int .i64 cn, .string cS, .slice cA cl cc, .slice cB cm cd] 25 (0, 0)) from (hb.block _ LW11_6.out).trans RW11_6.out)
    have Lw12_6 := Lib.hid (show w9.heap.size < w12.heap.size from Nat.lt_of_lt_of_le LW11_6.out hb.size)
    have Rw12_7 := Lib.hid (show w12.heap[w10.heap.size]? = some (.cells #[.int .i64 dk, .int .i64 dn, .string dS, .slice dA dl dc, .slice dB dm dd] 25 (0, 0)) from (hb.block _ LW11_7.out).trans RW11_7.out)
    have Lw12_7 := Lib.hid (show w10.heap.size < w12.heap.size from Nat.lt_of_lt_of_le LW11_7.out hb.size)
    have Rw12_8 := Lib.hid (show w12.heap[w11.heap.size]? = some (.cells #[.int .i64 ek, .int .i64 en, .string eS, .slice eA el ec, .slice eB em ed] 25 (0, 0)) from (hb.block _ LW11_8.out).trans RW11_8.out)
    have Lw12_8 := Lib.hid (show w11.heap.size < w12.heap.size from Nat.lt_of_lt_of_le LW11_8.out hb.size)
    have Fw12_p := Lib.hid (FW11_p.out.trans (hb.mono FW11_p.out.size))
    have Fw12_q := Lib.hid (FW11_q.out.trans (hb.mono FW11_q.out.size))
    have Fw12_a := Lib.hid (FW11_a.out.trans (hb.mono FW11_a.out.size))
    have Fw12_b := Lib.hid (FW11_b.out.trans (hb.mono FW11_b.out.size))
    have Fw12_c := Lib.hid (FW11_c.out.trans (hb.mono FW11_c.out.size))
    have Fw12_d := Lib.hid (FW11_d.out.trans (hb.mono FW11_d.out.size))
    have Fw12_e := Lib.hid (FW11_e.out.trans (hb.mono FW11_e.out.size))
    have HBw12 := Lib.hid (HBW11.out.trans (hb.mono HBW11.out.size))
    clear hb
    obtain ⟨⟨p0_0, p0_1, p0_2, p0_3, p0_4⟩, -⟩ := row5 Rw12_0.out
    obtain ⟨⟨p1_0, p1_1, p1_2, p1_3, p1_4⟩, -⟩ := row5 Rw12_1.out
    obtain ⟨⟨p2_0, p2_1, p2_2, p2_3, p2_4⟩, -⟩ := row5 Rw12_2.out
    obtain ⟨⟨p3_0, p3_1, p3_2, p3_3, p3_4⟩, -⟩ := row5 Rw12_3.out
    obtain ⟨⟨p4_0, p4_1, p4_2, p4_3, p4_4⟩, -⟩ := row5 Rw12_4.out
    obtain ⟨⟨p5_0, p5_1, p5_2, p5_3, p5_4⟩, -⟩ := row5 Rw12_5.out
    obtain ⟨⟨p6_0, p6_1, p6_2, p6_3, p6_4⟩, -⟩ := row5 Rw12_6.out
    obtain ⟨⟨p7_0, p7_1, p7_2, p7_3, p7_4⟩, -⟩ := row5 Rw12_7.out
    obtain ⟨⟨p8_0, p8_1, p8_2, p8_3, p8_4⟩, -⟩ := row5 Rw12_8.out
    go_wp2_with fail
    clear p0_0 p0_1 p0_2 p0_3 p0_4 p1_0 p1_1 p1_2 p1_3 p1_4 p2_0 p2_1 p2_2 p2_3 p2_4 p3_0 p3_1 p3_2 p3_3 p3_4 p4_0 p4_1 p4_2 p4_3 p4_4 p5_0 p5_1 p5_2 p5_3 p5_4 p6_0 p6_1 p6_2 p6_3 p6_4 p7_0 p7_1 p7_2 p7_3 p7_4 p8_0 p8_1 p8_2 p8_3 p8_4
    refine (HSZ.out [.int .i64 ck, .int .i64 cn, .string cS, .slice cA cl cc, .slice cB cm cd] [.int .i64 ek, .int .i64 en, .string eS, .slice eA el ec, .slice eB em ed] _ (HRc.out.below Fw12_c.out (Nat.le_refl _) Fw12_c.out.size) (HRe.out.below Fw12_e.out (Nat.le_refl _) Fw12_e.out.size)).mono ?_
    rintro e w13 ⟨rfl, hb⟩
    have Rw13_0 := Lib.hid (show w13.heap[w.heap.size]? = some (.cells #[.int .i64 k, .int .i64 n, .string S, .slice A1 l1 c1, .slice A2 m1 c2] 25 (0, 0)) from (hb.block _ Lw12_0.out).trans Rw12_0.out)
    have Lw13_0 := Lib.hid (show w.heap.size < w13.heap.size from Nat.lt_of_lt_of_le Lw12_0.out hb.size)
    have Rw13_1 := Lib.hid (show w13.heap[w.heap.size + 1]? = some (.cells #[.int .i64 k', .int .i64 n', .string S', .slice B1 l2 d1, .slice B2 m2 d2] 25 (0, 0)) from (hb.block _ Lw12_1.out).trans Rw12_1.out)
    have Lw13_1 := Lib.hid (show w.heap.size + 1 < w13.heap.size from Nat.lt_of_lt_of_le Lw12_1.out hb.size)
    have Rw13_2 := Lib.hid (show w13.heap[w4.heap.size]? = some (.cells #[.int .i64 6, .int .i64 0, .string ⟨#[]⟩, .slice none 0 0, .slice pA pn pc] 25 (0, 0)) from (hb.block _ Lw12_2.out).trans Rw12_2.out)
    have Lw13_2 := Lib.hid (show w4.heap.size < w13.heap.size from Nat.lt_of_lt_of_le Lw12_2.out hb.size)
    have Rw13_3 := Lib.hid (show w13.heap[w5.heap.size]? = some (.cells #[.int .i64 6, .int .i64 0, .string ⟨#[]⟩, .slice none 0 0, .slice qA qn qc] 25 (0, 0)) from (hb.block _ Lw12_3.out).trans Rw12_3.out)
    have Lw13_3 := Lib.hid (show w5.heap.size < w13.heap.size from Nat.lt_of_lt_of_le Lw12_3.out hb.size)
    have Rw13_4 := Lib.hid (show w13.heap[w6.heap.size]? = some (.cells #[.int .i64 ak, .int .i64 an, .string aS, .slice aA al ac, .slice aB am ad] 25 (0, 0)) from (hb.block _ Lw12_4.out).trans Rw12_4.out)
    have Lw13_4 := Lib.hid (show w6.heap.size < w13.heap.size from Nat.lt_of_lt_of_le Lw12_4.out hb.size)
    have Rw13_5 := Lib.hid (show w13.heap[w7.heap.size]? = some (.cells #[.int .i64 bk, .int .i64 bn, .string bS, .slice bA bl bc, .slice bB bm bd] 25 (0, 0)) from (hb.block _ Lw12_5.out).trans Rw12_5.out)
    have Lw13_5 := Lib.hid (show w7.heap.size < w13.heap.size from Nat.lt_of_lt_of_le Lw12_5.out hb.size)
    have Rw13_6 := Lib.hid (show w13.heap[w9.heap.size]? = some (.cells #[.int .i64 ck, .int .i64 cn, .string cS, .slice cA cl cc, .slice cB cm cd] 25 (0, 0)) from (hb.block _ Lw12_6.out).trans Rw12_6.out)
    have Lw13_6 := Lib.hid (show w9.heap.size < w13.heap.size from Nat.lt_of_lt_of_le Lw12_6.out hb.size)
    have Rw13_7 := Lib.hid (show w13.heap[w10.heap.size]? = some (.cells #[.int .i64 dk, .int .i64 dn, .string dS, .slice dA dl dc, .slice dB dm dd] 25 (0, 0)) from (hb.block _ Lw12_7.out).trans Rw12_7.out)
    have Lw13_7 := Lib.hid (show w10.heap.size < w13.heap.size from Nat.lt_of_lt_of_le Lw12_7.out hb.size)
    have Rw13_8 := Lib.hid (show w13.heap[w11.heap.size]? = some (.cells #[.int .i64 ek, .int .i64 en, .string eS, .slice eA el ec, .slice eB em ed] 25 (0, 0)) from (hb.block _ Lw12_8.out).trans Rw12_8.out)
    have Lw13_8 := Lib.hid (show w11.heap.size < w13.heap.size from Nat.lt_of_lt_of_le Lw12_8.out hb.size)
    have Fw13_p := Lib.hid (Fw12_p.out.trans (hb.mono Fw12_p.out.size))
    have Fw13_q := Lib.hid (Fw12_q.out.trans (hb.mono Fw12_q.out.size))
    have Fw13_a := Lib.hid (Fw12_a.out.trans (hb.mono Fw12_a.out.size))
    have Fw13_b := Lib.hid (Fw12_b.out.trans (hb.mono Fw12_b.out.size))
    have Fw13_c := Lib.hid (Fw12_c.out.trans (hb.mono Fw12_c.out.size))
    have Fw13_d := Lib.hid (Fw12_d.out.trans (hb.mono Fw12_d.out.size))
    have Fw13_e := Lib.hid (Fw12_e.out.trans (hb.mono Fw12_e.out.size))
    have HBw13 := Lib.hid (HBw12.out.trans (hb.mono HBw12.out.size))
    clear hb
    go_wp2
    go_ret
    exact ⟨rfl, HBw13.out⟩
end Go.Proofs.Ytbepnjgbkfidiaa.Tr
