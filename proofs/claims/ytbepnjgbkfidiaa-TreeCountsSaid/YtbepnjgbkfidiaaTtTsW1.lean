import Derived.Test.YtbepnjgbkfidiaaTtF
/- The walk of TreeCounts. -/
namespace Go.Proofs.Ytbepnjgbkfidiaa.Tr
open Go.Proofs Go.RowKit Go.Lib
open Go.Proofs.Ytbepnjgbkfidiaa.Utf
open Go.Proofs.Ytbepnjgbkfidiaa.Sc
open Go.Proofs.Ytbepnjgbkfidiaa.Re
open Go.Proofs.Ytbepnjgbkfidiaa.Em (Check_any chk chk_ok len_of_RdA)

set_option maxRecDepth 100000 in
set_option maxHeartbeats 1000000 in
theorem counts_walk (v : V) (cs : List Value) (w : World) (hv : RdA w 0 w.heap.size v cs) (hz : szA reachBytes v) :
    Calls Try.prog 6 #[.agg cs.toArray] w fun e w' => e = .returned (.bool true) ∧ Below w.heap.size w w' := by
  have hz1 : szA 140737488355328 v := Em.szA_more (by unfold reachBytes; omega) v hz
  have hz2 : szA 4611686018427387904 v := Em.szA_more (by omega) v hz1
  have hlen := len_of_RdA v cs hv
  have HCK := Lib.hid (fun (W : World) (hW : Below w.heap.size w W) => Check_any v cs 0 W hz2 (hv.below hW (Nat.le_refl _) hW.size))
  have HV := Lib.hid hv
  by_cases hc : chk v = 0
  · obtain ⟨q1, -, q3⟩ := chk_ok hc
    have ho := oV_of_all v q3
    have hp := cnt_pos v
    rw [hc] at HCK
    have HCN := Lib.hid (fun (W : World) (hW : Below w.heap.size w W) => Count_any (ht v) v (Nat.le_refl _) ho (by omega) cs W (hv.below hW (Nat.le_refl _) hW.size))
    have HST := Lib.hid (fun (W : World) (hW : Below w.heap.size w W) => Sort_any v cs W ho hz1 (hv.below hW (Nat.le_refl _) hW.size))
    have HCS := Lib.hid (fun (W : World) (a : V) (ca : List Value) (hs : Srt a v) (ha : RdA W 0 W.heap.size a ca) => by
      have k := Srt_keeps a v hs hlen
      have := Count_any (ht a) a (Nat.le_refl _) (k.2 ho) (by rw [k.1]; omega) ca W ha
      rw [k.1] at this
      exact this)
    have HC2 := Lib.hid (fun (W : World) (ca : List Value) (ha : RdA W 0 W.heap.size (lsV [v, v]) ca) => by
      have := Count_any (ht (lsV [v, v])) (lsV [v, v]) (Nat.le_refl _) (o_two v ho) (by rw [cnt_two]; omega) ca W ha
      rw [cnt_two, show ((2 * cnt v + 1 : Nat) : Int) = 2 * (cnt v : Int) + 1 by omega] at this
      exact this)
    obtain ⟨A1, c1, A2, c2, rfl, -⟩ := hv.cells
    clear hv hc q3 ho hz hz1 hz2
    have HV2 := Lib.hid hlen
    clear hlen
    obtain ⟨m, hm⟩ : ∃ m, cnt v = m := ⟨_, rfl⟩
    rw [hm] at q1 hp
    rw [hm] at HCN
    rw [hm] at HCS
    rw [hm] at HC2
    clear hm
    generalize v.k = k at *
    generalize v.n = n at *
    generalize strOf v.s = S at *
    generalize v.l.length = l1 at *
    generalize v.ms.length = m1 at *
    have t1 : decide ((1 : Int) ≤ (m : Int)) = true := decide_eq_true (by omega)
    have t2 : decide ((m : Int) ≤ 8192) = true := decide_eq_true (by omega)
    obtain ⟨W0, hW0⟩ : ∃ W0, W0 = w.alloc (.cells #[.int .i64 k, .int .i64 n, .string S, .slice A1 l1 c1, .slice A2 m1 c2] 25) := ⟨_, rfl⟩
    have hb0 : Below w.heap.size w W0 := by rw [hW0]; exact (Below.refl _ _).alloc (Nat.le_refl _) _
    have hr0 : W0.heap[w.heap.size]? = some (.cells #[.int .i64 k, .int .i64 n, .string S, .slice A1 l1 c1, .slice A2 m1 c2] 25 (0, 0)) := by rw [hW0]; exact heapNew _ _
    have hs0 : W0.heap.size = w.heap.size + 1 := by rw [hW0, szAl]
    have HW0 := Lib.hid hW0
    have HB0 := Lib.hid hb0
    have HS0 := Lib.hid hs0
    have HR0 := Lib.hid hr0
    clear hW0 hb0 hs0 hr0
    go_enter Try.func6, Try.ntmps6
    go_wp2_with fail
    rw [← HW0.out]
    refine (awake_any7 _).mono ?_
    rintro e w1 ⟨rfl, hb1⟩
    have HR1 := Lib.hid ((hb1.block w.heap.size (by rw [HS0.out]; omega)).trans HR0.out)
    have HB1 := Lib.hid (HB0.out.trans (hb1.mono HB0.out.size))
    have hs1 := hb1.size
    rw [HS0.out] at hs1
    have HS1 := Lib.hid hs1
    obtain ⟨⟨p0, p1, p2, p3, p4⟩, -⟩ := row5 HR1.out
    clear hb1 hs1
    go_wp2_with fail
    refine (HCK.out _ HB1.out).mono ?_
    rintro e w2 ⟨rfl, hb2⟩
    have HR2 := Lib.hid ((hb2.block w.heap.size (by have := HS1.out; omega)).trans HR1.out)
    have HB2 := Lib.hid (HB1.out.trans (hb2.mono HB1.out.size))
    have HS2 := Lib.hid (Nat.le_trans HS1.out hb2.size)
    clear p0 p1 p2 p3 p4 hb2
    obtain ⟨⟨p0, p1, p2, p3, p4⟩, -⟩ := row5 HR2.out
    go_wp2_with fail
    refine (HCN.out _ HB2.out).mono ?_
    rintro e w3 ⟨rfl, hb3⟩
    have HR3 := Lib.hid ((hb3.block w.heap.size (by have := HS2.out; omega)).trans HR2.out)
    have HB3 := Lib.hid (HB2.out.trans (hb3.mono HB2.out.size))
    have HS3 := Lib.hid (Nat.le_trans HS2.out hb3.size)
    clear p0 p1 p2 p3 p4 hb3
    obtain ⟨⟨p0, p1, p2, p3, p4⟩, -⟩ := row5 HR3.out
    go_wp2_with fail
    obtain ⟨W4, hW4⟩ : ∃ W4, W4 = w3.alloc (.cells #[.int .i64 k, .int .i64 n, .string S, .slice A1 l1 c1, .slice A2 m1 c2, .int .i64 k, .int .i64 n, .string S, .slice A1 l1 c1, .slice A2 m1 c2] 25) := ⟨_, rfl⟩
    rw [← hW4]
    have hr4 : W4.heap[w3.heap.size]? = some (.cells #[.int .i64 k, .int .i64 n, .string S, .slice A1 l1 c1, .slice A2 m1 c2, .int .i64 k, .int .i64 n, .string S, .slice A1 l1 c1, .slice A2 m1 c2] 25 (0, 0)) := by rw [hW4]; exact heapNew _ _
    have hs4 : W4.heap.size = w3.heap.size + 1 := by rw [hW4, szAl]
    have hb4 : Below w3.heap.size w3 W4 := by rw [hW4]; exact (Below.refl _ _).alloc (Nat.le_refl _) _
    have hB4 : Below w.heap.size w W4 := HB3.out.trans (hb4.mono HB3.out.size)
    have htw := rd_twice (w := W4) (g := w3.heap.size) (v := v) (cs := [.int .i64 k, .int .i64 n, .string S, .slice A1 l1 c1, .slice A2 m1 c2]) (by omega) (fun j u hu => by
      match j, hu with
      | 0, hu | 1, hu | 2, hu | 3, hu | 4, hu => simp only [World.cell?, hr4]; exact hu
      | n + 5, hu => simp at hu) (fun j u hu => by
      match j, hu with
      | 0, hu | 1, hu | 2, hu | 3, hu | 4, hu => simp only [World.cell?, hr4]; exact hu
      | n + 5, hu => simp at hu) (HV.out.below hB4 (Nat.le_refl _) hB4.size)
    have HR4 := Lib.hid ((hb4.block w.heap.size (by have := HS3.out; omega)).trans HR3.out)
    have HB4 := Lib.hid hB4
    have HS4 := Lib.hid (Nat.le_trans HS3.out hb4.size)
    clear hW4 hr4 hs4 hb4 hB4
    refine (HC2.out _ _ htw).mono ?_
    rintro e w5 ⟨rfl, hb5⟩
    have HR5 := Lib.hid ((hb5.block w.heap.size (by have := HS4.out; omega)).trans HR4.out)
    have HB5 := Lib.hid (HB4.out.trans (hb5.mono HB4.out.size))
    have HS5 := Lib.hid (Nat.le_trans HS4.out hb5.size)
    clear p0 p1 p2 p3 p4 hb5 htw
    obtain ⟨⟨p0, p1, p2, p3, p4⟩, -⟩ := row5 HR5.out
    go_wp2_with fail
    refine (HST.out _ HB5.out).mono ?_
    rintro e w6 ⟨⟨a, ca, F, rfl, hsa, hra, -, hF⟩, hb6⟩
    have HCA := Lib.hid (HCS.out w6 a ca hsa (hra.toA (lo := 0) (hi := w6.heap.size) _ _ _ (fun x hx => ⟨Nat.zero_le _, (hF x hx).2⟩)))
    have HB6 := Lib.hid (HB5.out.trans (hb6.mono HB5.out.size))
    clear p0 p1 p2 p3 p4 hb6 hsa hra hF
    go_wp2_with fail
    refine HCA.out.mono ?_
    rintro e w7 ⟨rfl, hb7⟩
    have HB7 := Lib.hid (HB6.out.trans (hb7.mono HB6.out.size))
    clear hb7
    go_wp2
    go_ret
    exact ⟨rfl, HB7.out⟩
  · obtain ⟨A1, c1, A2, c2, rfl, -⟩ := hv.cells
    clear hv hz hz1 hz2 hlen
    generalize hx : chk v = x at *
    have t1 : decide ((x : Int) = 0) = false := decide_eq_false (by omega)
    clear hx
    generalize v.k = k at *
    generalize v.n = n at *
    generalize strOf v.s = S at *
    generalize v.l.length = l1 at *
    generalize v.ms.length = m1 at *
    obtain ⟨W0, hW0⟩ : ∃ W0, W0 = w.alloc (.cells #[.int .i64 k, .int .i64 n, .string S, .slice A1 l1 c1, .slice A2 m1 c2] 25) := ⟨_, rfl⟩
    have hb0 : Below w.heap.size w W0 := by rw [hW0]; exact (Below.refl _ _).alloc (Nat.le_refl _) _
    have hr0 : W0.heap[w.heap.size]? = some (.cells #[.int .i64 k, .int .i64 n, .string S, .slice A1 l1 c1, .slice A2 m1 c2] 25 (0, 0)) := by rw [hW0]; exact heapNew _ _
    have hs0 : W0.heap.size = w.heap.size + 1 := by rw [hW0, szAl]
    have HW0 := Lib.hid hW0
    have HB0 := Lib.hid hb0
    have HS0 := Lib.hid hs0
    have HR0 := Lib.hid hr0
    clear hW0 hb0 hs0 hr0
    go_enter Try.func6, Try.ntmps6
    go_wp2_with fail
    rw [← HW0.out]
    refine (awake_any7 _).mono ?_
    rintro e w1 ⟨rfl, hb1⟩
    have HR1 := Lib.hid ((hb1.block w.heap.size (by rw [HS0.out]; omega)).trans HR0.out)
    have HB1 := Lib.hid (HB0.out.trans (hb1.mono HB0.out.size))
    obtain ⟨⟨p0, p1, p2, p3, p4⟩, -⟩ := row5 HR1.out
    clear hb1
    go_wp2_with fail
    refine (HCK.out _ HB1.out).mono ?_
    rintro e w2 ⟨rfl, hb2⟩
    have HB2 := Lib.hid (HB1.out.trans (hb2.mono HB1.out.size))
    clear p0 p1 p2 p3 p4 hb2
    go_wp2_with fail
    refine (awake_any7 _).mono ?_
    rintro e w3 ⟨rfl, hb3⟩
    have HB3 := Lib.hid (HB2.out.trans (hb3.mono HB2.out.size))
    clear hb3
    go_wp2
    go_ret
    exact ⟨rfl, HB3.out⟩
end Go.Proofs.Ytbepnjgbkfidiaa.Tr
