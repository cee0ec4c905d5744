import Derived.Test.YtbepnjgbkfidiaaTtTsB
import Derived.Test.YtbepnjgbkfidiaaEmF
import Derived.Test.YtbepnjgbkfidiaaEmPl3
import Derived.BigQuiet
import Derived.Deep.RegionHeld3
/- The walk of TreeSame. Written by tools/genTsW2.py. -/
namespace Go.Proofs.Ytbepnjgbkfidiaa.Tr
open Go.Proofs Go.RowKit Go.Lib
open Go.Proofs.Ytbepnjgbkfidiaa.Utf
open Go.Proofs.Ytbepnjgbkfidiaa.Sc
open Go.Proofs.Ytbepnjgbkfidiaa.Re
open Go.Proofs.Ytbepnjgbkfidiaa.Em (Check_any Text_any chk chk_ok len_of_RdA szU wfV szA_of txtR)

theorem same_lit {v u : V} {B : Bool} (h : B = true ↔ same v u) (zv : szA 4611686018427387904 v) (zu : szA 4611686018427387904 u) (ca cb : List Value) (w : World) (ha : RdA w 0 w.heap.size v ca) (hb : RdA w 0 w.heap.size u cb) :
    Calls Try.prog 20 #[.agg ca.toArray, .agg cb.toArray] w (Gives (.bool B) w) := by
  have q := (szA_eq _ v).1 zv
  refine (Same_any (ht v) v (Nat.le_refl _) zv (by omega) (by omega) u ca cb w zu ha hb).mono ?_
  rintro e w' ⟨⟨b, rfl, hbb⟩, hw⟩
  have : b = B := by rw [Bool.eq_iff_iff]; exact hbb.trans h.symm
  exact ⟨by rw [this], hw⟩
theorem text_srt (v a : V) (ca : List Value) (w : World) (hs : Srt a v) (hl : Em.lenV v) (zv : szU v ≤ 1048576) (fv : wfV v) (hc : chk v = 0) (ha : RdA w 0 w.heap.size a ca) :
    Calls Try.prog 19 #[.agg ca.toArray] w fun e w' => e = .returned (.tuple #[.string (strOf (Em.emV a)), .int .i64 0]) ∧ Below w.heap.size w w' := by
  obtain ⟨-, -, m3, m4, m5⟩ := Srt_more a v hs hl
  have hca := Srt_chk hs hl hc
  refine (Text_any a ca 0 w m5 (by omega) (szA_of _ a (m4 fv) (by omega)) ha).mono ?_
  rintro e w' ⟨e1, e2⟩
  refine ⟨?_, e2⟩
  rw [e1, hca]
  unfold txtR
  rw [if_pos hca]
theorem same_facts (v u a b : V) (ha : Srt a v) (hb : Srt b u) (zv : szU v ≤ 1048576) (zu : szU u ≤ 1048576) (lv : Em.lenV v) (lu : Em.lenV u) (cv : chk v = 0) (cu : chk u = 0) (fv : wfV v) (fu : wfV u) (B : Bool) (hB : B = true ↔ a = b) :
    ((strOf (Em.emV a)).toList == (strOf (Em.emV b)).toList) = B ∧ (∀ (ca cb : List Value) (w : World), RdA w 0 w.heap.size v ca → RdA w 0 w.heap.size a cb → Calls Try.prog 20 #[.agg ca.toArray, .agg cb.toArray] w (Gives (.bool true) w)) ∧
    (∀ (ca cb : List Value) (w : World), RdA w 0 w.heap.size a ca → RdA w 0 w.heap.size v cb → Calls Try.prog 20 #[.agg ca.toArray, .agg cb.toArray] w (Gives (.bool true) w)) ∧
    (∀ (ca cb : List Value) (w : World), RdA w 0 w.heap.size v ca → RdA w 0 w.heap.size u cb → Calls Try.prog 20 #[.agg ca.toArray, .agg cb.toArray] w (Gives (.bool B) w)) ∧
    (∀ (ca cb : List Value) (w : World), RdA w 0 w.heap.size u ca → RdA w 0 w.heap.size v cb → Calls Try.prog 20 #[.agg ca.toArray, .agg cb.toArray] w (Gives (.bool B) w)) := by
  obtain ⟨-, -, m3, m4, m5⟩ := Srt_more a v ha lv
  have ova := oV_of_all v (chk_ok cv).2.2
  have oua := oV_of_all u (chk_ok cu).2.2
  have oaa := (Srt_keeps a v ha lv).2 ova
  have hca := Srt_chk ha lv cv
  have hcb := Srt_chk hb lu cu
  have lb := (Srt_more b u hb lu).2.2.2.2
  have nv := nd_chk lv cv
  have nu := nd_chk lu cu
  have na := nd_chk m5 hca
  have sv : szA 4611686018427387904 v := szA_of _ v fv (by omega)
  have su : szA 4611686018427387904 u := szA_of _ u fu (by omega)
  have sa : szA 4611686018427387904 a := szA_of _ a (m4 fv) (by omega)
  have haa := Srt_self a v ha
  have e1 : B = true ↔ same v u := hB.trans ⟨fun e => by subst e; exact same_of (ht a) a v u (Nat.le_refl _) ha hb lv lu ova nu, fun h => eq_of (ht a) a b v u (Nat.le_refl _) ha hb h lv lu ova oua nv nu⟩
  have e2 : B = true ↔ same u v := hB.trans ⟨fun e => by subst e; exact same_of (ht a) a u v (Nat.le_refl _) hb ha lu lv oua nv, fun h => (eq_of (ht b) b a u v (Nat.le_refl _) hb ha h lu lv oua ova nu nv).symm⟩
  refine ⟨?_, same_lit (B := true) ⟨fun _ => same_of (ht a) a v a (Nat.le_refl _) ha haa lv m5 ova na, fun _ => rfl⟩ sv sa, same_lit (B := true) ⟨fun _ => same_of (ht a) a a v (Nat.le_refl _) haa ha m5 lv oaa nv, fun _ => rfl⟩ sa sv, same_lit e1 sv su, same_lit e2 su sv⟩
  rw [Bool.eq_iff_iff, hB, beq_iff_eq, strOf_list, strOf_list]
  exact ⟨fun h => Em.em_inj hca m5 hcb lb h, fun h => by rw [h]⟩

set_option maxRecDepth 100000 in
set_option maxHeartbeats 1000000 in
theorem same_walk (v : V) (cv : List Value) (u : V) (cu : List Value) (w : World) (hv : RdA w 0 w.heap.size v cv) (zv : szU v ≤ 1048576) (fv : wfV v) (hu : RdA w 0 w.heap.size u cu) (zu : szU u ≤ 1048576) (fu : wfV u) :
    Calls Try.prog 4 #[.agg cv.toArray, .agg cu.toArray] w fun e w' => e = .returned (.bool true) ∧ Below w.heap.size w w' := by
  have sv : szA 140737488355328 v := szA_of _ v fv (by omega)
  have su : szA 140737488355328 u := szA_of _ u fu (by omega)
  have sv2 : szA 4611686018427387904 v := szA_of _ v fv (by omega)
  have su2 : szA 4611686018427387904 u := szA_of _ u fu (by omega)
  have lv := len_of_RdA v cv hv
  have lu := len_of_RdA u cu hu
  have HCV := Lib.hid (fun (W : World) (hW : Below w.heap.size w W) => Check_any v cv 0 W sv2 (hv.below hW (Nat.le_refl _) hW.size))
  have HCU := Lib.hid (fun (W : World) (hW : Below w.heap.size w W) => Check_any u cu 0 W su2 (hu.below hW (Nat.le_refl _) hW.size))
  have HV := Lib.hid hv
  have HU := Lib.hid hu
  obtain ⟨A1, c1, A2, c2, ev, -⟩ := hv.cells
  obtain ⟨B1, d1, B2, d2, eu, -⟩ := hu.cells
  by_cases hc : chk v = 0
  · by_cases hd : chk u = 0
    · have ov := oV_of_all v (chk_ok hc).2.2
      have ou := oV_of_all u (chk_ok hd).2.2
      rw [hc] at HCV
      rw [hd] at HCU
      have HSV := Lib.hid (fun (W : World) (hW : Below w.heap.size w W) => Sort_any v cv W ov sv (hv.below hW (Nat.le_refl _) hW.size))
      have HSU := Lib.hid (fun (W : World) (hW : Below w.heap.size w W) => Sort_any u cu W ou su (hu.below hW (Nat.le_refl _) hW.size))
      have HTV := Lib.hid (fun (W : World) (a : V) (ca : List Value) (hs : Srt a v) (ha : RdA W 0 W.heap.size a ca) => text_srt v a ca W hs lv zv fv hc ha)
      have HTU := Lib.hid (fun (W : World) (a : V) (ca : List Value) (hs : Srt a u) (ha : RdA W 0 W.heap.size a ca) => text_srt u a ca W hs lu zu fu hd ha)
      have HLV := Lib.hid lv
      have HLU := Lib.hid lu
      have HOV := Lib.hid ov
      have HOU := Lib.hid ou
      have HFV := Lib.hid (And.intro zv (And.intro fv (And.intro sv2 hc)))
      have HFU := Lib.hid (And.intro zu (And.intro fu (And.intro su2 hd)))
      subst ev eu
      clear hv hu zv zu fv fu sv su sv2 su2 lv lu hc hd ov ou
      generalize v.k = k at *
      generalize v.n = n at *
      generalize strOf v.s = S at *
      generalize v.l.length = l1 at *
      generalize v.ms.length = m1 at *
      generalize u.k = k' at *
      generalize u.n = n' at *
      generalize strOf u.s = S' at *
      generalize u.l.length = l2 at *
      generalize u.ms.length = m2 at *
      obtain ⟨W0, hW0⟩ : ∃ W0, W0 = ((w.alloc (.cells #[.int .i64 k, .int .i64 n, .string S, .slice A1 l1 c1, .slice A2 m1 c2] 25)).alloc (.cells #[.int .i64 k', .int .i64 n', .string S', .slice B1 l2 d1, .slice B2 m2 d2] 25)) := ⟨_, rfl⟩
      have HBW0 := Lib.hid (show Below w.heap.size w W0 by rw [hW0]; exact ((Below.refl _ _).alloc (Nat.le_refl _) _).alloc (by simp) _)
      have hs0 : W0.heap.size = w.heap.size + 2 := by rw [hW0, szAl, szAl]
      have RW0_0 := Lib.hid (show W0.heap[w.heap.size]? = some (.cells #[.int .i64 k, .int .i64 n, .string S, .slice A1 l1 c1, .slice A2 m1 c2] 25 (0, 0)) by rw [hW0]; exact heapOld ((show (w.alloc (.cells #[.int .i64 k, .int .i64 n, .string S, .slice A1 l1 c1, .slice A2 m1 c2] 25)).heap[w.heap.size]? = some (.cells #[.int .i64 k, .int .i64 n, .string S, .slice A1 l1 c1, .slice A2 m1 c2] 25 (0, 0)) from by rw [show w.heap.size = w.heap.size by simp]; exact heapNew _ _)) _)
      have LW0_0 := Lib.hid (show w.heap.size < W0.heap.size by omega)
      have RW0_1 := Lib.hid (show W0.heap[w.heap.size + 1]? = some (.cells #[.int .i64 k', .int .i64 n', .string S', .slice B1 l2 d1, .slice B2 m2 d2] 25 (0, 0)) by rw [hW0]; exact (show ((w.alloc (.cells #[.int .i64 k, .int .i64 n, .string S, .slice A1 l1 c1, .slice A2 m1 c2] 25)).alloc (.cells #[.int .i64 k', .int .i64 n', .string S', .slice B1 l2 d1, .slice B2 m2 d2] 25)).heap[w.heap.size + 1]? = some (.cells #[.int .i64 k', .int .i64 n', .string S', .slice B1 l2 d1, .slice B2 m2 d2] 25 (0, 0)) from by rw [show w.heap.size + 1 = (w.alloc (.cells #[.int .i64 k, .int .i64 n, .string S, .slice A1 l1 c1, .slice A2 m1 c2] 25)).heap.size by simp]; exact heapNew _ _))
      have LW0_1 := Lib.hid (show w.heap.size + 1 < W0.heap.size by omega)
      have HW0 := Lib.hid hW0
      clear hW0 hs0
      go_enter Try.func4, Try.ntmps4
      go_wp2_with fail
      rw [← HW0.out]
      refine (awake_any7 _).mono ?_
      rintro e w1 ⟨rfl, hb⟩
      have Rw1_0 := Lib.hid (show w1.heap[w.heap.size]? = some (.cells #[.int .i64 k, .int .i64 n, .string S, .slice A1 l1 c1, .slice A2 m1 c2] 25 (0, 0)) from (hb.block _ LW0_0.out).trans RW0_0.out)
      have Lw1_0 := Lib.hid (show w.heap.size < w1.heap.size from Nat.lt_of_lt_of_le LW0_0.out hb.size)
      have Rw1_1 := Lib.hid (show w1.heap[w.heap.size + 1]? = some (.cells #[.int .i64 k', .int .i64 n', .string S', .slice B1 l2 d1, .slice B2 m2 d2] 25 (0, 0)) from (hb.block _ LW0_1.out).trans RW0_1.out)
      have Lw1_1 := Lib.hid (show w.heap.size + 1 < w1.heap.size from Nat.lt_of_lt_of_le LW0_1.out hb.size)
      have HBw1 := Lib.hid (HBW0.out.trans (hb.mono HBW0.out.size))
      clear hb
      obtain ⟨⟨p0_0, p0_1, p0_2, p0_3, p0_4⟩, -⟩ := row5 Rw1_0.out
      obtain ⟨⟨p1_0, p1_1, p1_2, p1_3, p1_4⟩, -⟩ := row5 Rw1_1.out
      go_wp2_with fail
      clear p0_0 p0_1 p0_2 p0_3 p0_4 p1_0 p1_1 p1_2 p1_3 p1_4
      refine (HCV.out _ HBw1.out).mono ?_
      rintro e w2 ⟨rfl, hb⟩
      have Rw2_0 := Lib.hid (show w2.heap[w.heap.size]? = some (.cells #[.int .i64 k, .int .i64 n, .string S, .slice A1 l1 c1, .slice A2 m1 c2] 25 (0, 0)) from (hb.block _ Lw1_0.out).trans Rw1_0.out)
      have Lw2_0 := Lib.hid (show w.heap.size < w2.heap.size from Nat.lt_of_lt_of_le Lw1_0.out hb.size)
      have Rw2_1 := Lib.hid (show w2.heap[w.heap.size + 1]? = some (.cells #[.int .i64 k', .int .i64 n', .string S', .slice B1 l2 d1, .slice B2 m2 d2] 25 (0, 0)) from (hb.block _ Lw1_1.out).trans Rw1_1.out)
      have Lw2_1 := Lib.hid (show w.heap.size + 1 < w2.heap.size from Nat.lt_of_lt_of_le Lw1_1.out hb.size)
      have HBw2 := Lib.hid (HBw1.out.trans (hb.mono HBw1.out.size))
      clear hb
      obtain ⟨⟨p0_0, p0_1, p0_2, p0_3, p0_4⟩, -⟩ := row5 Rw2_0.out
      obtain ⟨⟨p1_0, p1_1, p1_2, p1_3, p1_4⟩, -⟩ := row5 Rw2_1.out
      go_wp2_with fail
      clear p0_0 p0_1 p0_2 p0_3 p0_4 p1_0 p1_1 p1_2 p1_3 p1_4
      refine (HCU.out _ HBw2.out).mono ?_
      rintro e w3 ⟨rfl, hb⟩
      have Rw3_0 := Lib.hid (show w3.heap[w.heap.size]? = some (.cells #[.int .i64 k, .int .i64 n, .string S, .slice A1 l1 c1, .slice A2 m1 c2] 25 (0, 0)) from (hb.block _ Lw2_0.out).trans Rw2_0.out)
      have Lw3_0 := Lib.hid (show w.heap.size < w3.heap.size from Nat.lt_of_lt_of_le Lw2_0.out hb.size)
      have Rw3_1 := Lib.hid (show w3.heap[w.heap.size + 1]? = some (.cells #[.int .i64 k', .int .i64 n', .string S', .slice B1 l2 d1, .slice B2 m2 d2] 25 (0, 0)) from (hb.block _ Lw2_1.out).trans Rw2_1.out)
      have Lw3_1 := Lib.hid (show w.heap.size + 1 < w3.heap.size from Nat.lt_of_lt_of_le Lw2_1.out hb.size)
      have HBw3 := Lib.hid (HBw2.out.trans (hb.mono HBw2.out.size))
      clear hb
      obtain ⟨⟨p0_0, p0_1, p0_2, p0_3, p0_4⟩, -⟩ := row5 Rw3_0.out
      obtain ⟨⟨p1_0, p1_1, p1_2, p1_3, p1_4⟩, -⟩ := row5 Rw3_1.out
      go_wp2_with fail
      clear p0_0 p0_1 p0_2 p0_3 p0_4 p1_0 p1_1 p1_2 p1_3 p1_4
      refine (HSV.out _ HBw3.out).mono ?_
      rintro e w4 ⟨⟨a, acs, sF, rfl, hs, hr, -, hF⟩, hb⟩
      have Rw4_0 := Lib.hid (show w4.heap[w.heap.size]? = some (.cells #[.int .i64 k, .int .i64 n, .string S, .slice A1 l1 c1, .slice A2 m1 c2] 25 (0, 0)) from (hb.block _ Lw3_0.out).trans Rw3_0.out)
      have Lw4_0 := Lib.hid (show w.heap.size < w4.heap.size from Nat.lt_of_lt_of_le Lw3_0.out hb.size)
      have Rw4_1 := Lib.hid (show w4.heap[w.heap.size + 1]? = some (.cells #[.int .i64 k', .int .i64 n', .string S', .slice B1 l2 d1, .slice B2 m2 d2] 25 (0, 0)) from (hb.block _ Lw3_1.out).trans Rw3_1.out)
      have Lw4_1 := Lib.hid (show w.heap.size + 1 < w4.heap.size from Nat.lt_of_lt_of_le Lw3_1.out hb.size)
      have HBw4 := Lib.hid (HBw3.out.trans (hb.mono HBw3.out.size))
      have RAa := Lib.hid (show RdA w4 0 w4.heap.size a _ from RdF.toA a _ sF (lo := 0) (hi := w4.heap.size) (fun q hq => ⟨Nat.zero_le _, (hF q hq).2⟩) hr)
      have HSa := Lib.hid hs
      obtain ⟨aA, ac, aB, ad, -, -, ea, -, -, -⟩ := hr.cells
      subst ea
      clear hs hr hF
      generalize a.k = ak at *
      generalize a.n = an at *
      generalize strOf a.s = aS at *
      generalize a.l.length = al at *
      generalize a.ms.length = am at *
      clear hb
      obtain ⟨W4, hW4⟩ : ∃ W4, W4 = w4.alloc (.cells #[.int .i64 ak, .int .i64 an, .string aS, .slice aA al ac, .slice aB am ad] 25) := ⟨_, rfl⟩
      have hb : Below w4.heap.size w4 W4 := by rw [hW4]; exact (Below.refl _ _).alloc (Nat.le_refl _) _
      have RW4_0 := Lib.hid (show W4.heap[w.heap.size]? = some (.cells #[.int .i64 k, .int .i64 n, .string S, .slice A1 l1 c1, .slice A2 m1 c2] 25 (0, 0)) from (hb.block _ Lw4_0.out).trans Rw4_0.out)
      have LW4_0 := Lib.hid (show w.heap.size < W4.heap.size from Nat.lt_of_lt_of_le Lw4_0.out hb.size)
      have RW4_1 := Lib.hid (show W4.heap[w.heap.size + 1]? = some (.cells #[.int .i64 k', .int .i64 n', .string S', .slice B1 l2 d1, .slice B2 m2 d2] 25 (0, 0)) from (hb.block _ Lw4_1.out).trans Rw4_1.out)
      have LW4_1 := Lib.hid (show w.heap.size + 1 < W4.heap.size from Nat.lt_of_lt_of_le Lw4_1.out hb.size)
      have HBW4 := Lib.hid (HBw4.out.trans (hb.mono HBw4.out.size))
      have RW4_2 := Lib.hid (show W4.heap[w4.heap.size]? = some (.cells #[.int .i64 ak, .int .i64 an, .string aS, .slice aA al ac, .slice aB am ad] 25 (0, 0)) by rw [hW4]; exact heapNew _ _)
      have LW4_2 := Lib.hid (show w4.heap.size < W4.heap.size by rw [hW4, szAl]; exact Nat.lt_succ_self _)
      have HW4 := Lib.hid hW4
      clear hW4 hb
      have q0 := RW4_0.out
      rw [HW4.out] at q0
      obtain ⟨⟨p0_0, p0_1, p0_2, p0_3, p0_4⟩, -⟩ := row5 q0
      clear q0
      have q1 := RW4_1.out
      rw [HW4.out] at q1
      obtain ⟨⟨p1_0, p1_1, p1_2, p1_3, p1_4⟩, -⟩ := row5 q1
      clear q1
      have q2 := RW4_2.out
      rw [HW4.out] at q2
      obtain ⟨⟨p2_0, p2_1, p2_2, p2_3, p2_4⟩, -⟩ := row5 q2
      clear q2
      go_wp2_with fail
      rw [← HW4.out]
      clear p0_0 p0_1 p0_2 p0_3 p0_4 p1_0 p1_1 p1_2 p1_3 p1_4 p2_0 p2_1 p2_2 p2_3 p2_4
      refine (HSU.out _ HBW4.out).mono ?_
      rintro e w5 ⟨⟨b, bcs, sF, rfl, hs, hr, -, hF⟩, hb⟩
      have hBS5 : Below W4.heap.size W4 w5 := hb
      have Rw5_0 := Lib.hid (show w5.heap[w.heap.size]? = some (.cells #[.int .i64 k, .int .i64 n, .string S, .slice A1 l1 c1, .slice A2 m1 c2] 25 (0, 0)) from (hb.block _ LW4_0.out).trans RW4_0.out)
      have Lw5_0 := Lib.hid (show w.heap.size < w5.heap.size from Nat.lt_of_lt_of_le LW4_0.out hb.size)
      have Rw5_1 := Lib.hid (show w5.heap[w.heap.size + 1]? = some (.cells #[.int .i64 k', .int .i64 n', .string S', .slice B1 l2 d1, .slice B2 m2 d2] 25 (0, 0)) from (hb.block _ LW4_1.out).trans RW4_1.out)
      have Lw5_1 := Lib.hid (show w.heap.size + 1 < w5.heap.size from Nat.lt_of_lt_of_le LW4_1.out hb.size)
      have Rw5_2 := Lib.hid (show w5.heap[w4.heap.size]? = some (.cells #[.int .i64 ak, .int .i64 an, .string aS, .slice aA al ac, .slice aB am ad] 25 (0, 0)) from (hb.block _ LW4_2.out).trans RW4_2.out)
      have Lw5_2 := Lib.hid (show w4.heap.size < w5.heap.size from Nat.lt_of_lt_of_le LW4_2.out hb.size)
      have HBw5 := Lib.hid (HBW4.out.trans (hb.mono HBW4.out.size))
      have RAb := Lib.hid (show RdA w5 0 w5.heap.size b _ from RdF.toA b _ sF (lo := 0) (hi := w5.heap.size) (fun q hq => ⟨Nat.zero_le _, (hF q hq).2⟩) hr)
      have HSb := Lib.hid hs
      obtain ⟨bA, bc, bB, bd, -, -, eb, -, -, -⟩ := hr.cells
      subst eb
      clear hs hr hF
      generalize b.k = bk at *
      generalize b.n = bn at *
      generalize strOf b.s = bS at *
      generalize b.l.length = bl at *
      generalize b.ms.length = bm at *
      clear hb
      obtain ⟨W5, hW5⟩ : ∃ W5, W5 = w5.alloc (.cells #[.int .i64 bk, .int .i64 bn, .string bS, .slice bA bl bc, .slice bB bm bd] 25) := ⟨_, rfl⟩
      have hb : Below w5.heap.size w5 W5 := by rw [hW5]; exact (Below.refl _ _).alloc (Nat.le_refl _) _
      have RW5_0 := Lib.hid (show W5.heap[w.heap.size]? = some (.cells #[.int .i64 k, .int .i64 n, .string S, .slice A1 l1 c1, .slice A2 m1 c2] 25 (0, 0)) from (hb.block _ Lw5_0.out).trans Rw5_0.out)
      have LW5_0 := Lib.hid (show w.heap.size < W5.heap.size from Nat.lt_of_lt_of_le Lw5_0.out hb.size)
      have RW5_1 := Lib.hid (show W5.heap[w.heap.size + 1]? = some (.cells #[.int .i64 k', .int .i64 n', .string S', .slice B1 l2 d1, .slice B2 m2 d2] 25 (0, 0)) from (hb.block _ Lw5_1.out).trans Rw5_1.out)
      have LW5_1 := Lib.hid (show w.heap.size + 1 < W5.heap.size from Nat.lt_of_lt_of_le Lw5_1.out hb.size)
      have RW5_2 := Lib.hid (show W5.heap[w4.heap.size]? = some (.cells #[.int .i64 ak, .int .i64 an, .string aS, .slice aA al ac, .slice aB am ad] 25 (0, 0)) from (hb.block _ Lw5_2.out).trans Rw5_2.out)
      have LW5_2 := Lib.hid (show w4.heap.size < W5.heap.size from Nat.lt_of_lt_of_le Lw5_2.out hb.size)
      have HBW5 := Lib.hid (HBw5.out.trans (hb.mono HBw5.out.size))
      have RW5_3 := Lib.hid (show W5.heap[w5.heap.size]? = some (.cells #[.int .i64 bk, .int .i64 bn, .string bS, .slice bA bl bc, .slice bB bm bd] 25 (0, 0)) by rw [hW5]; exact heapNew _ _)
      have LW5_3 := Lib.hid (show w5.heap.size < W5.heap.size by rw [hW5, szAl]; exact Nat.lt_succ_self _)
      have HW5 := Lib.hid hW5
      clear hW5 hb
      have q0 := RW5_0.out
      rw [HW5.out] at q0
      obtain ⟨⟨p0_0, p0_1, p0_2, p0_3, p0_4⟩, -⟩ := row5 q0
      clear q0
      have q1 := RW5_1.out
      rw [HW5.out] at q1
      obtain ⟨⟨p1_0, p1_1, p1_2, p1_3, p1_4⟩, -⟩ := row5 q1
      clear q1
      have q2 := RW5_2.out
      rw [HW5.out] at q2
      obtain ⟨⟨p2_0, p2_1, p2_2, p2_3, p2_4⟩, -⟩ := row5 q2
      clear q2
      have q3 := RW5_3.out
      rw [HW5.out] at q3
      obtain ⟨⟨p3_0, p3_1, p3_2, p3_3, p3_4⟩, -⟩ := row5 q3
      clear q3
      clear p0_0 p0_1 p0_2 p0_3 p0_4 p1_0 p1_1 p1_2 p1_3 p1_4 p2_0 p2_1 p2_2 p2_3 p2_4 p3_0 p3_1 p3_2 p3_3 p3_4
      have hy : Below w5.heap.size w5 W5 := by rw [HW5.out]; exact (Below.refl _ _).alloc (Nat.le_refl _) _
      have HY1 := Lib.hid hy
      have hx : Below w4.heap.size w4 W4 := by rw [HW4.out]; exact (Below.refl _ _).alloc (Nat.le_refl _) _
      have HX1 := Lib.hid (show Below w4.heap.size w4 W5 from hx.trans ((hBS5.mono hx.size).trans (hy.mono (Nat.le_trans hx.size hBS5.size))))
      clear hx hy hBS5
      have q0 := RW5_0.out
      rw [HW5.out] at q0
      obtain ⟨⟨p0_0, p0_1, p0_2, p0_3, p0_4⟩, -⟩ := row5 q0
      clear q0
      have q1 := RW5_1.out
      rw [HW5.out] at q1
      obtain ⟨⟨p1_0, p1_1, p1_2, p1_3, p1_4⟩, -⟩ := row5 q1
      clear q1
      have q2 := RW5_2.out
      rw [HW5.out] at q2
      obtain ⟨⟨p2_0, p2_1, p2_2, p2_3, p2_4⟩, -⟩ := row5 q2
      clear q2
      have q3 := RW5_3.out
      rw [HW5.out] at q3
      obtain ⟨⟨p3_0, p3_1, p3_2, p3_3, p3_4⟩, -⟩ := row5 q3
      clear q3
      go_wp2_with fail
      rw [← HW5.out]
      clear p0_0 p0_1 p0_2 p0_3 p0_4 p1_0 p1_1 p1_2 p1_3 p1_4 p2_0 p2_1 p2_2 p2_3 p2_4 p3_0 p3_1 p3_2 p3_3 p3_4
      refine (HTV.out _ _ _ HSa.out (RdA.below RAa.out HX1.out (Nat.le_refl _) HX1.out.size)).mono ?_
      rintro e w6 ⟨rfl, hb⟩
      have Rw6_0 := Lib.hid (show w6.heap[w.heap.size]? = some (.cells #[.int .i64 k, .int .i64 n, .string S, .slice A1 l1 c1, .slice A2 m1 c2] 25 (0, 0)) from (hb.block _ LW5_0.out).trans RW5_0.out)
      have Lw6_0 := Lib.hid (show w.heap.size < w6.heap.size from Nat.lt_of_lt_of_le LW5_0.out hb.size)
      have Rw6_1 := Lib.hid (show w6.heap[w.heap.size + 1]? = some (.cells #[.int .i64 k', .int .i64 n', .string S', .slice B1 l2 d1, .slice B2 m2 d2] 25 (0, 0)) from (hb.block _ LW5_1.out).trans RW5_1.out)
      have Lw6_1 := Lib.hid (show w.heap.size + 1 < w6.heap.size from Nat.lt_of_lt_of_le LW5_1.out hb.size)
      have Rw6_2 := Lib.hid (show w6.heap[w4.heap.size]? = some (.cells #[.int .i64 ak, .int .i64 an, .string aS, .slice aA al ac, .slice aB am ad] 25 (0, 0)) from (hb.block _ LW5_2.out).trans RW5_2.out)
      have Lw6_2 := Lib.hid (show w4.heap.size < w6.heap.size from Nat.lt_of_lt_of_le LW5_2.out hb.size)
      have Rw6_3 := Lib.hid (show w6.heap[w5.heap.size]? = some (.cells #[.int .i64 bk, .int .i64 bn, .string bS, .slice bA bl bc, .slice bB bm bd] 25 (0, 0)) from (hb.block _ LW5_3.out).trans RW5_3.out)
      have Lw6_3 := Lib.hid (show w5.heap.size < w6.heap.size from Nat.lt_of_lt_of_le LW5_3.out hb.size)
      have HBw6 := Lib.hid (HBW5.out.trans (hb.mono HBW5.out.size))
      have HX2 := Lib.hid (show Below w4.heap.size w4 w6 from HX1.out.trans (hb.mono HX1.out.size))
      have HY2 := Lib.hid (show Below w5.heap.size w5 w6 from HY1.out.trans (hb.mono HY1.out.size))
      clear hb
      obtain ⟨⟨p0_0, p0_1, p0_2, p0_3, p0_4⟩, -⟩ := row5 Rw6_0.out
      obtain ⟨⟨p1_0, p1_1, p1_2, p1_3, p1_4⟩, -⟩ := row5 Rw6_1.out
      obtain ⟨⟨p2_0, p2_1, p2_2, p2_3, p2_4⟩, -⟩ := row5 Rw6_2.out
      obtain ⟨⟨p3_0, p3_1, p3_2, p3_3, p3_4⟩, -⟩ := row5 Rw6_3.out
      go_wp2_with fail
      clear p0_0 p0_1 p0_2 p0_3 p0_4 p1_0 p1_1 p1_2 p1_3 p1_4 p2_0 p2_1 p2_2 p2_3 p2_4 p3_0 p3_1 p3_2 p3_3 p3_4
      refine (HTU.out _ _ _ HSb.out (RdA.below RAb.out HY2.out (Nat.le_refl _) HY2.out.size)).mono ?_
      rintro e w7 ⟨rfl, hb⟩
      have Rw7_0 := Lib.hid (show w7.heap[w.heap.size]? = some (.cells #[.int .i64 k, .int .i64 n, .string S, .slice A1 l1 c1, .slice A2 m1 c2] 25 (0, 0)) from (hb.block _ Lw6_0.out).trans Rw6_0.out)
      have Lw7_0 := Lib.hid (show w.heap.size < w7.heap.size from Nat.lt_of_lt_of_le Lw6_0.out hb.size)
      have Rw7_1 := Lib.hid (show w7.heap[w.heap.size + 1]? = some (.cells #[.int .i64 k', .int .i64 n', .string S', .slice B1 l2 d1, .slice B2 m2 d2] 25 (0, 0)) from (hb.block _ Lw6_1.out).trans Rw6_1.out)
      have Lw7_1 := Lib.hid (show w.heap.size + 1 < w7.heap.size from Nat.lt_of_lt_of_le Lw6_1.out hb.size)
      have Rw7_2 := Lib.hid (show w7.heap[w4.heap.size]? = some (.cells #[.int .i64 ak, .int .i64 an, .string aS, .slice aA al ac, .slice aB am ad] 25 (0, 0)) from (hb.block _ Lw6_2.out).trans Rw6_2.out)
      have Lw7_2 := Lib.hid (show w4.heap.size < w7.heap.size from Nat.lt_of_lt_of_le Lw6_2.out hb.size)
      have Rw7_3 := Lib.hid (show w7.heap[w5.heap.size]? = some (.cells #[.int .i64 bk, .int .i64 bn, .string bS, .slice bA bl bc, .slice bB bm bd] 25 (0, 0)) from (hb.block _ Lw6_3.out).trans Rw6_3.out)
      have Lw7_3 := Lib.hid (show w5.heap.size < w7.heap.size from Nat.lt_of_lt_of_le Lw6_3.out hb.size)
      have HBw7 := Lib.hid (HBw6.out.trans (hb.mono HBw6.out.size))
      have HX3 := Lib.hid (show Below w4.heap.size w4 w7 from HX2.out.trans (hb.mono HX2.out.size))
      have HY3 := Lib.hid (show Below w5.heap.size w5 w7 from HY2.out.trans (hb.mono HY2.out.size))
      clear hb
      by_cases hab : a = b
      · have hm := same_facts v u a b HSa.out HSb.out HFV.out.1 HFU.out.1 HLV.out HLU.out HFV.out.2.2.2 HFU.out.2.2.2 HFV.out.2.1 HFU.out.2.1 true (by simpa using hab)
        obtain ⟨tq, s1, s2, s3, s4⟩ := hm
        have HSMva := Lib.hid s1
        have HSMav := Lib.hid s2
        have HSMvu := Lib.hid s3
        have HSMuv := Lib.hid s4
        clear s1 s2 s3 s4 hab
        have HZu0 := Lib.hid (show Below w7.heap.size w7 w7.drew from (Below.refl w7.heap.size w7).drew)
        have HR0 := Lib.hid (show w7.heap[w.heap.size]? = some (.cells #[.int .i64 k, .int .i64 n, .string S, .slice A1 l1 c1, .slice A2 m1 c2] 25 (0, 0)) ∧ w7.heap[w.heap.size + 1]? = some (.cells #[.int .i64 k', .int .i64 n', .string S', .slice B1 l2 d1, .slice B2 m2 d2] 25 (0, 0)) ∧ w7.heap[w4.heap.size]? = some (.cells #[.int .i64 ak, .int .i64 an, .string aS, .slice aA al ac, .slice aB am ad] 25 (0, 0)) ∧ w7.heap[w5.heap.size]? = some (.cells #[.int .i64 bk, .int .i64 bn, .string bS, .slice bA bl bc, .slice bB bm bd] 25 (0, 0)) from ⟨Rw7_0.out, Rw7_1.out, Rw7_2.out, Rw7_3.out⟩)
        have HXv := Lib.hid (HV.out.below HBw7.out (Nat.le_refl _) HBw7.out.size)
        have HXu := Lib.hid (HU.out.below HBw7.out (Nat.le_refl _) HBw7.out.size)
        have HXa := Lib.hid (RdA.below RAa.out HX3.out (Nat.le_refl _) HX3.out.size)
        have HXb := Lib.hid (RdA.below RAb.out HY3.out (Nat.le_refl _) HY3.out.size)
        generalize strOf (Em.emV a) = T1 at *
        generalize strOf (Em.emV b) = T2 at *
        go_wp2_with fail
        refine wp_region_held_drew (S := fun w' => w'.heap[w.heap.size]? = some (.cells #[.int .i64 k, .int .i64 n, .string S, .slice A1 l1 c1, .slice A2 m1 c2] 25 (0, 0)) ∧ w'.heap[w.heap.size + 1]? = some (.cells #[.int .i64 k', .int .i64 n', .string S', .slice B1 l2 d1, .slice B2 m2 d2] 25 (0, 0)) ∧ w'.heap[w4.heap.size]? = some (.cells #[.int .i64 ak, .int .i64 an, .string aS, .slice aA al ac, .slice aB am ad] 25 (0, 0)) ∧ w'.heap[w5.heap.size]? = some (.cells #[.int .i64 bk, .int .i64 bn, .string bS, .slice bA bl bc, .slice bB bm bd] 25 (0, 0))) (by kernel_rfl) (HR0.out) (fun hHeld => ?_)
        refine wpAnyH_take (i := 0) (oi := { dst := some 38, op := Op.move (Operand.tmp 8), type := 34, pos := "law.go:54", after := #[], guard := none }) (v := ?_) rfl (by kernel_rfl) (by kernel_rfl) (by kernel_rfl) (fun _ _ _ h => h) (Or.inl ⟨by rfl, ?_⟩) hHeld ?_
        rotate_left
        · intro w hSw; (try dsimp only at hSw); go_simp; with_reducible rfl
        try simp only [Act.put, List.setIfInBounds_toArray, List.set_cons_zero, List.set_cons_succ]
        refine wpAnyH_take (i := 1) (oi := { dst := some 39, op := Op.binOp BinOp.eql 34 (Operand.tmp 38) (Operand.const (Value.int IntKind.i64 0)) 34, type := 4, pos := "law.go:54", after := #[{ on := 0, ground := Ground.data }], guard := none }) (v := ?_) rfl (by kernel_rfl) (by kernel_rfl) (by kernel_rfl) (fun _ _ _ h => h) (Or.inl ⟨by rfl, ?_⟩) hHeld ?_
        rotate_left
        · intro w hSw; (try dsimp only at hSw); go_simp; with_reducible rfl
        try simp only [Act.put, List.setIfInBounds_toArray, List.set_cons_zero, List.set_cons_succ]
        refine wpAnyH_take (i := 2) (oi := { dst := some 40, op := Op.move (Operand.tmp 39), type := 4, pos := "law.go:54", after := #[{ on := 1, ground := Ground.data }], guard := none }) (v := ?_) rfl (by kernel_rfl) (by kernel_rfl) (by kernel_rfl) (fun _ _ _ h => h) (Or.inl ⟨by rfl, ?_⟩) hHeld ?_
        rotate_left
        · intro w hSw; (try dsimp only at hSw); go_simp; with_reducible rfl
        try simp only [Act.put, List.setIfInBounds_toArray, List.set_cons_zero, List.set_cons_succ]
        refine wpAnyH_take (i := 3) (oi := { dst := some 41, op := Op.move (Operand.tmp 10), type := 34, pos := "law.go:54", after := #[{ on := 2, ground := Ground.guard }], guard := some (2, true) }) (v := ?_) rfl (by kernel_rfl) (by kernel_rfl) (by kernel_rfl) (fun _ _ _ h => h) (Or.inl ⟨by rfl, ?_⟩) hHeld ?_
        rotate_left
        · intro w hSw; (try dsimp only at hSw); go_simp; with_reducible rfl
        try simp only [Act.put, List.setIfInBounds_toArray, List.set_cons_zero, List.set_cons_succ]
        refine wpAnyH_take (i := 4) (oi := { dst := some 42, op := Op.binOp BinOp.eql 34 (Operand.tmp 41) (Operand.const (Value.int IntKind.i64 0)) 34, type := 4, pos := "law.go:54", after := #[{ on := 3, ground := Ground.data }, { on := 2, ground := Ground.guard }], guard := some (2, true) }) (v := ?_) rfl (by kernel_rfl) (by kernel_rfl) (by kernel_rfl) (fun _ _ _ h => h) (Or.inl ⟨by rfl, ?_⟩) hHeld ?_
        rotate_left
        · intro w hSw; (try dsimp only at hSw); go_simp; with_reducible rfl
        try simp only [Act.put, List.setIfInBounds_toArray, List.set_cons_zero, List.set_cons_succ]
        refine wpAnyH_take (i := 5) (oi := { dst := some 43, op := Op.pick (Operand.tmp 40) (Operand.tmp 42) (Operand.const (Value.bool false)), type := 4, pos := "law.go:54", after := #[{ on := 2, ground := Ground.data }, { on := 4, ground := Ground.data }], guard := none }) (v := ?_) rfl (by kernel_rfl) (by kernel_rfl) (by kernel_rfl) (fun _ _ _ h => h) (Or.inl ⟨by rfl, ?_⟩) hHeld ?_
        rotate_left
        · intro w hSw; (try dsimp only at hSw); go_simp; with_reducible rfl
        try simp only [Act.put, List.setIfInBounds_toArray, List.set_cons_zero, List.set_cons_succ]
        refine wpAnyH_take (i := 6) (oi := { dst := some 44, op := Op.move (Operand.tmp 43), type := 4, pos := "law.go:54", after := #[{ on := 5, ground := Ground.data }, { on := 2, ground := Ground.chain }], guard := none }) (v := ?_) rfl (by kernel_rfl) (by kernel_rfl) (by kernel_rfl) (fun _ _ _ h => h) (Or.inl ⟨by rfl, ?_⟩) hHeld ?_
        rotate_left
        · intro w hSw; (try dsimp only at hSw); go_simp; with_reducible rfl
        try simp only [Act.put, List.setIfInBounds_toArray, List.set_cons_zero, List.set_cons_succ]
        refine wpAnyH_take (i := 7) (oi := { dst := some 45, op := Op.load 25 (Operand.tmp 2), type := 25, pos := "law.go:54", after := #[{ on := 6, ground := Ground.guard }], guard := some (6, true) }) (v := ?_) rfl (by kernel_rfl) (by kernel_rfl) (by kernel_rfl) (fun _ _ _ h => h) (Or.inl ⟨by rfl, ?_⟩) hHeld ?_
        rotate_left
        · intro w hSw; (try dsimp only at hSw); have q0 := (row5 hSw.1).1; obtain ⟨q00, q01, q02, q03, q04⟩ := q0; have q1 := (row5 hSw.2.1).1; obtain ⟨q10, q11, q12, q13, q14⟩ := q1; have q2 := (row5 hSw.2.2.1).1; obtain ⟨q20, q21, q22, q23, q24⟩ := q2; have q3 := (row5 hSw.2.2.2).1; obtain ⟨q30, q31, q32, q33, q34⟩ := q3; clear hSw; go_simp; with_reducible rfl
        try simp only [Act.put, List.setIfInBounds_toArray, List.set_cons_zero, List.set_cons_succ]
        refine wpAnyH_take (i := 8) (oi := { dst := some 46, op := Op.load 25 (Operand.tmp 5), type := 25, pos := "law.go:54", after := #[{ on := 6, ground := Ground.guard }], guard := some (6, true) }) (v := ?_) rfl (by kernel_rfl) (by kernel_rfl) (by kernel_rfl) (fun _ _ _ h => h) (Or.inl ⟨by rfl, ?_⟩) hHeld ?_
        rotate_left
        · intro w hSw; (try dsimp only at hSw); have q0 := (row5 hSw.1).1; obtain ⟨q00, q01, q02, q03, q04⟩ := q0; have q1 := (row5 hSw.2.1).1; obtain ⟨q10, q11, q12, q13, q14⟩ := q1; have q2 := (row5 hSw.2.2.1).1; obtain ⟨q20, q21, q22, q23, q24⟩ := q2; have q3 := (row5 hSw.2.2.2).1; obtain ⟨q30, q31, q32, q33, q34⟩ := q3; clear hSw; go_simp; with_reducible rfl
        try simp only [Act.put, List.setIfInBounds_toArray, List.set_cons_zero, List.set_cons_succ]
        refine wpAnyH_ready (rs := [9]) (by kernel_rfl) (by simp) ?_
        refine AllReadyH.cons (o := { dst := some 47, op := Op.call { callee := Callee.value (Operand.func 20), args := #[Operand.tmp 45, Operand.tmp 46], argTypes := #[25, 25] }, type := 4, pos := "law.go:54", after := #[{ on := 7, ground := Ground.data }, { on := 8, ground := Ground.data }, { on := 6, ground := Ground.chain }, { on := 6, ground := Ground.guard }], guard := some (6, true) }) rfl (fun K hK => ?_) AllReadyH.nil
        go_simp
        go_at_call 20
        refine (HSMva.out [.int .i64 k, .int .i64 n, .string S, .slice A1 l1 c1, .slice A2 m1 c2] [.int .i64 ak, .int .i64 an, .string aS, .slice aA al ac, .slice aB am ad] _ (RdA.below HXv.out HZu0.out (Nat.le_refl _) HZu0.out.size) (RdA.below HXa.out HZu0.out (Nat.le_refl _) HZu0.out.size)).mono ?_
        rintro e u1 ⟨rfl, hb⟩
        have HZu1 := Lib.hid (HZu0.out.trans (hb.mono HZu0.out.size))
        have HRu1 := Lib.hid (show u1.heap[w.heap.size]? = some (.cells #[.int .i64 k, .int .i64 n, .string S, .slice A1 l1 c1, .slice A2 m1 c2] 25 (0, 0)) ∧ u1.heap[w.heap.size + 1]? = some (.cells #[.int .i64 k', .int .i64 n', .string S', .slice B1 l2 d1, .slice B2 m2 d2] 25 (0, 0)) ∧ u1.heap[w4.heap.size]? = some (.cells #[.int .i64 ak, .int .i64 an, .string aS, .slice aA al ac, .slice aB am ad] 25 (0, 0)) ∧ u1.heap[w5.heap.size]? = some (.cells #[.int .i64 bk, .int .i64 bn, .string bS, .slice bA bl bc, .slice bB bm bd] 25 (0, 0)) from ⟨(hb.block _ (Nat.lt_of_lt_of_le Lw7_0.out HZu0.out.size)).trans hHeld.1, (hb.block _ (Nat.lt_of_lt_of_le Lw7_1.out HZu0.out.size)).trans hHeld.2.1, (hb.block _ (Nat.lt_of_lt_of_le Lw7_2.out HZu0.out.size)).trans hHeld.2.2.1, (hb.block _ (Nat.lt_of_lt_of_le Lw7_3.out HZu0.out.size)).trans hHeld.2.2.2⟩)
        clear hb
        refine hK.out _ _ (HRu1.out) (fun hHeld => ?_)
        clear hK K
        try simp only [Act.put, List.setIfInBounds_toArray, List.set_cons_zero, List.set_cons_succ]
        refine wpAnyH_take (i := 10) (oi := { dst := some 48, op := Op.pick (Operand.tmp 44) (Operand.tmp 47) (Operand.const (Value.bool false)), type := 4, pos := "law.go:54", after := #[{ on := 6, ground := Ground.data }, { on := 9, ground := Ground.data }], guard := none }) (v := ?_) rfl (by kernel_rfl) (by kernel_rfl) (by kernel_rfl) (fun _ _ _ h => h) (Or.inl ⟨by rfl, ?_⟩) hHeld ?_
        rotate_left
        · intro w hSw; (try dsimp only at hSw); go_simp; with_reducible rfl
        try simp only [Act.put, List.setIfInBounds_toArray, List.set_cons_zero, List.set_cons_succ]
        refine wpAnyH_take (i := 11) (oi := { dst := some 49, op := Op.move (Operand.tmp 48), type := 4, pos := "law.go:54", after := #[{ on := 10, ground := Ground.data }, { on := 9, ground := Ground.chain }], guard := none }) (v := ?_) rfl (by kernel_rfl) (by kernel_rfl) (by kernel_rfl) (fun _ _ _ h => h) (Or.inl ⟨by rfl, ?_⟩) hHeld ?_
        rotate_left
        · intro w hSw; (try dsimp only at hSw); go_simp; with_reducible rfl
        try simp only [Act.put, List.setIfInBounds_toArray, List.set_cons_zero, List.set_cons_succ]
        refine wpAnyH_take (i := 12) (oi := { dst := some 50, op := Op.load 25 (Operand.tmp 5), type := 25, pos := "law.go:54", after := #[{ on := 11, ground := Ground.guard }], guard := some (11, true) }) (v := ?_) rfl (by kernel_rfl) (by kernel_rfl) (by kernel_rfl) (fun _ _ _ h => h) (Or.inl ⟨by rfl, ?_⟩) hHeld ?_
        rotate_left
        · intro w hSw; (try dsimp only at hSw); have q0 := (row5 hSw.1).1; obtain ⟨q00, q01, q02, q03, q04⟩ := q0; have q1 := (row5 hSw.2.1).1; obtain ⟨q10, q11, q12, q13, q14⟩ := q1; have q2 := (row5 hSw.2.2.1).1; obtain ⟨q20, q21, q22, q23, q24⟩ := q2; have q3 := (row5 hSw.2.2.2).1; obtain ⟨q30, q31, q32, q33, q34⟩ := q3; clear hSw; go_simp; with_reducible rfl
        try simp only [Act.put, List.setIfInBounds_toArray, List.set_cons_zero, List.set_cons_succ]
        refine wpAnyH_take (i := 13) (oi := { dst := some 51, op := Op.load 25 (Operand.tmp 2), type := 25, pos := "law.go:54", after := #[{ on := 11, ground := Ground.guard }], guard := some (11, true) }) (v := ?_) rfl (by kernel_rfl) (by kernel_rfl) (by kernel_rfl) (fun _ _ _ h => h) (Or.inl ⟨by rfl, ?_⟩) hHeld ?_
        rotate_left
        · intro w hSw; (try dsimp only at hSw); have q0 := (row5 hSw.1).1; obtain ⟨q00, q01, q02, q03, q04⟩ := q0; have q1 := (row5 hSw.2.1).1; obtain ⟨q10, q11, q12, q13, q14⟩ := q1; have q2 := (row5 hSw.2.2.1).1; obtain ⟨q20, q21, q22, q23, q24⟩ := q2; have q3 := (row5 hSw.2.2.2).1; obtain ⟨q30, q31, q32, q33, q34⟩ := q3; clear hSw; go_simp; with_reducible rfl
        try simp only [Act.put, List.setIfInBounds_toArray, List.set_cons_zero, List.set_cons_succ]
        refine wpAnyH_ready (rs := [14]) (by kernel_rfl) (by simp) ?_
        refine AllReadyH.cons (o := { dst := some 52, op := Op.call { callee := Callee.value (Operand.func 20), args := #[Operand.tmp 50, Operand.tmp 51], argTypes := #[25, 25] }, type := 4, pos := "law.go:54", after := #[{ on := 12, ground := Ground.data }, { on := 13, ground := Ground.data }, { on := 11, ground := Ground.chain }, { on := 11, ground := Ground.guard }], guard := some (11, true) }) rfl (fun K hK => ?_) AllReadyH.nil
        go_simp
        go_at_call 20
        refine (HSMav.out [.int .i64 ak, .int .i64 an, .string aS, .slice aA al ac, .slice aB am ad] [.int .i64 k, .int .i64 n, .string S, .slice A1 l1 c1, .slice A2 m1 c2] _ (RdA.below HXa.out HZu1.out (Nat.le_refl _) HZu1.out.size) (RdA.below HXv.out HZu1.out (Nat.le_refl _) HZu1.out.size)).mono ?_
        rintro e u2 ⟨rfl, hb⟩
        have HZu2 := Lib.hid (HZu1.out.trans (hb.mono HZu1.out.size))
        have HRu2 := Lib.hid (show u2.heap[w.heap.size]? = some (.cells #[.int .i64 k, .int .i64 n, .string S, .slice A1 l1 c1, .slice A2 m1 c2] 25 (0, 0)) ∧ u2.heap[w.heap.size + 1]? = some (.cells #[.int .i64 k', .int .i64 n', .string S', .slice B1 l2 d1, .slice B2 m2 d2] 25 (0, 0)) ∧ u2.heap[w4.heap.size]? = some (.cells #[.int .i64 ak, .int .i64 an, .string aS, .slice aA al ac, .slice aB am ad] 25 (0, 0)) ∧ u2.heap[w5.heap.size]? = some (.cells #[.int .i64 bk, .int .i64 bn, .string bS, .slice bA bl bc, .slice bB bm bd] 25 (0, 0)) from ⟨(hb.block _ (Nat.lt_of_lt_of_le Lw7_0.out HZu1.out.size)).trans hHeld.1, (hb.block _ (Nat.lt_of_lt_of_le Lw7_1.out HZu1.out.size)).trans hHeld.2.1, (hb.block _ (Nat.lt_of_lt_of_le Lw7_2.out HZu1.out.size)).trans hHeld.2.2.1, (hb.block _ (Nat.lt_of_lt_of_le Lw7_3.out HZu1.out.size)).trans hHeld.2.2.2⟩)
        clear hb
        refine hK.out _ _ (HRu2.out) (fun hHeld => ?_)
        clear hK K
        try simp only [Act.put, List.setIfInBounds_toArray, List.set_cons_zero, List.set_cons_succ]
        refine wpAnyH_take (i := 15) (oi := { dst := some 53, op := Op.pick (Operand.tmp 49) (Operand.tmp 52) (Operand.const (Value.bool false)), type := 4, pos := "law.go:54", after := #[{ on := 11, ground := Ground.data }, { on := 14, ground := Ground.data }], guard := none }) (v := ?_) rfl (by kernel_rfl) (by kernel_rfl) (by kernel_rfl) (fun _ _ _ h => h) (Or.inl ⟨by rfl, ?_⟩) hHeld ?_
        rotate_left
        · intro w hSw; (try dsimp only at hSw); go_simp; with_reducible rfl
        try simp only [Act.put, List.setIfInBounds_toArray, List.set_cons_zero, List.set_cons_succ]
        refine wpAnyH_take (i := 16) (oi := { dst := some 54, op := Op.move (Operand.tmp 53), type := 4, pos := "law.go:54", after := #[{ on := 15, ground := Ground.data }, { on := 14, ground := Ground.chain }], guard := none }) (v := ?_) rfl (by kernel_rfl) (by kernel_rfl) (by kernel_rfl) (fun _ _ _ h => h) (Or.inl ⟨by rfl, ?_⟩) hHeld ?_
        rotate_left
        · intro w hSw; (try dsimp only at hSw); go_simp; with_reducible rfl
        try simp only [Act.put, List.setIfInBounds_toArray, List.set_cons_zero, List.set_cons_succ]
        refine wpAnyH_take (i := 17) (oi := { dst := some 55, op := Op.load 25 (Operand.tmp 2), type := 25, pos := "law.go:54", after := #[{ on := 16, ground := Ground.guard }], guard := some (16, true) }) (v := ?_) rfl (by kernel_rfl) (by kernel_rfl) (by kernel_rfl) (fun _ _ _ h => h) (Or.inl ⟨by rfl, ?_⟩) hHeld ?_
        rotate_left
        · intro w hSw; (try dsimp only at hSw); have q0 := (row5 hSw.1).1; obtain ⟨q00, q01, q02, q03, q04⟩ := q0; have q1 := (row5 hSw.2.1).1; obtain ⟨q10, q11, q12, q13, q14⟩ := q1; have q2 := (row5 hSw.2.2.1).1; obtain ⟨q20, q21, q22, q23, q24⟩ := q2; have q3 := (row5 hSw.2.2.2).1; obtain ⟨q30, q31, q32, q33, q34⟩ := q3; clear hSw; go_simp; with_reducible rfl
        try simp only [Act.put, List.setIfInBounds_toArray, List.set_cons_zero, List.set_cons_succ]
        refine wpAnyH_take (i := 18) (oi := { dst := some 56, op := Op.load 25 (Operand.tmp 3), type := 25, pos := "law.go:54", after := #[{ on := 16, ground := Ground.guard }], guard := some (16, true) }) (v := ?_) rfl (by kernel_rfl) (by kernel_rfl) (by kernel_rfl) (fun _ _ _ h => h) (Or.inl ⟨by rfl, ?_⟩) hHeld ?_
        rotate_left
        · intro w hSw; (try dsimp only at hSw); have q0 := (row5 hSw.1).1; obtain ⟨q00, q01, q02, q03, q04⟩ := q0; have q1 := (row5 hSw.2.1).1; obtain ⟨q10, q11, q12, q13, q14⟩ := q1; have q2 := (row5 hSw.2.2.1).1; obtain ⟨q20, q21, q22, q23, q24⟩ := q2; have q3 := (row5 hSw.2.2.2).1; obtain ⟨q30, q31, q32, q33, q34⟩ := q3; clear hSw; go_simp; with_reducible rfl
        try simp only [Act.put, List.setIfInBounds_toArray, List.set_cons_zero, List.set_cons_succ]
        refine wpAnyH_take (i := 20) (oi := { dst := some 58, op := Op.move (Operand.tmp 7), type := 9, pos := "law.go:54", after := #[{ on := 16, ground := Ground.guard }], guard := some (16, true) }) (v := ?_) rfl (by kernel_rfl) (by kernel_rfl) (by kernel_rfl) (fun _ _ _ h => h) (Or.inl ⟨by rfl, ?_⟩) hHeld ?_
        rotate_left
        · intro w hSw; (try dsimp only at hSw); go_simp; with_reducible rfl
        try simp only [Act.put, List.setIfInBounds_toArray, List.set_cons_zero, List.set_cons_succ]
        refine wpAnyH_take (i := 21) (oi := { dst := some 59, op := Op.move (Operand.tmp 9), type := 9, pos := "law.go:54", after := #[{ on := 16, ground := Ground.guard }], guard := some (16, true) }) (v := ?_) rfl (by kernel_rfl) (by kernel_rfl) (by kernel_rfl) (fun _ _ _ h => h) (Or.inl ⟨by rfl, ?_⟩) hHeld ?_
        rotate_left
        · intro w hSw; (try dsimp only at hSw); go_simp; with_reducible rfl
        try simp only [Act.put, List.setIfInBounds_toArray, List.set_cons_zero, List.set_cons_succ]
        refine wpAnyH_take (i := 22) (oi := { dst := some 60, op := Op.binOp BinOp.eql 9 (Operand.tmp 58) (Operand.tmp 59) 9, type := 4, pos := "law.go:54", after := #[{ on := 20, ground := Ground.data }, { on := 21, ground := Ground.data }, { on := 16, ground := Ground.guard }], guard := some (16, true) }) (v := ?_) rfl (by kernel_rfl) (by kernel_rfl) (by kernel_rfl) (fun _ _ _ h => h) (Or.inl ⟨by rfl, ?_⟩) hHeld ?_
        rotate_left
        · intro w hSw; (try dsimp only at hSw); go_simp; with_reducible rfl
        try simp only [Act.put, List.setIfInBounds_toArray, List.set_cons_zero, List.set_cons_succ]
        refine wpAnyH_ready (rs := [19]) (by kernel_rfl) (by simp) ?_
        refine AllReadyH.cons (o := { dst := some 57, op := Op.call { callee := Callee.value (Operand.func 20), args := #[Operand.tmp 55, Operand.tmp 56], argTypes := #[25, 25] }, type := 4, pos := "law.go:54", after := #[{ on := 17, ground := Ground.data }, { on := 18, ground := Ground.data }, { on := 16, ground := Ground.chain }, { on := 16, ground := Ground.guard }], guard := some (16, true) }) rfl (fun K hK => ?_) AllReadyH.nil
        go_simp
        go_at_call 20
        refine (HSMvu.out [.int .i64 k, .int .i64 n, .string S, .slice A1 l1 c1, .slice A2 m1 c2] [.int .i64 k', .int .i64 n', .string S', .slice B1 l2 d1, .slice B2 m2 d2] _ (RdA.below HXv.out HZu2.out (Nat.le_refl _) HZu2.out.size) (RdA.below HXu.out HZu2.out (Nat.le_refl _) HZu2.out.size)).mono ?_
        rintro e u3 ⟨rfl, hb⟩
        have HZu3 := Lib.hid (HZu2.out.trans (hb.mono HZu2.out.size))
        have HRu3 := Lib.hid (show u3.heap[w.heap.size]? = some (.cells #[.int .i64 k, .int .i64 n, .string S, .slice A1 l1 c1, .slice A2 m1 c2] 25 (0, 0)) ∧ u3.heap[w.heap.size + 1]? = some (.cells #[.int .i64 k', .int .i64 n', .string S', .slice B1 l2 d1, .slice B2 m2 d2] 25 (0, 0)) ∧ u3.heap[w4.heap.size]? = some (.cells #[.int .i64 ak, .int .i64 an, .string aS, .slice aA al ac, .slice aB am ad] 25 (0, 0)) ∧ u3.heap[w5.heap.size]? = some (.cells #[.int .i64 bk, .int .i64 bn, .string bS, .slice bA bl bc, .slice bB bm bd] 25 (0, 0)) from ⟨(hb.block _ (Nat.lt_of_lt_of_le Lw7_0.out HZu2.out.size)).trans hHeld.1, (hb.block _ (Nat.lt_of_lt_of_le Lw7_1.out HZu2.out.size)).trans hHeld.2.1, (hb.block _ (Nat.lt_of_lt_of_le Lw7_2.out HZu2.out.size)).trans hHeld.2.2.1, (hb.block _ (Nat.lt_of_lt_of_le Lw7_3.out HZu2.out.size)).trans hHeld.2.2.2⟩)
        clear hb
        refine hK.out _ _ (HRu3.out) (fun hHeld => ?_)
        clear hK K
        try simp only [Act.put, List.setIfInBounds_toArray, List.set_cons_zero, List.set_cons_succ]
        refine wpAnyH_take (i := 23) (oi := { dst := some 61, op := Op.binOp BinOp.eql 4 (Operand.tmp 57) (Operand.tmp 60) 4, type := 4, pos := "law.go:54", after := #[{ on := 19, ground := Ground.data }, { on := 22, ground := Ground.data }, { on := 16, ground := Ground.guard }], guard := some (16, true) }) (v := ?_) rfl (by kernel_rfl) (by kernel_rfl) (by kernel_rfl) (fun _ _ _ h => h) (Or.inl ⟨by rfl, ?_⟩) hHeld ?_
        rotate_left
        · intro w hSw; (try dsimp only at hSw); go_simp; with_reducible rfl
        try simp only [Act.put, List.setIfInBounds_toArray, List.set_cons_zero, List.set_cons_succ]
        refine wpAnyH_take (i := 24) (oi := { dst := some 62, op := Op.pick (Operand.tmp 54) (Operand.tmp 61) (Operand.const (Value.bool false)), type := 4, pos := "law.go:54", after := #[{ on := 16, ground := Ground.data }, { on := 23, ground := Ground.data }], guard := none }) (v := ?_) rfl (by kernel_rfl) (by kernel_rfl) (by kernel_rfl) (fun _ _ _ h => h) (Or.inl ⟨by rfl, ?_⟩) hHeld ?_
        rotate_left
        · intro w hSw; (try dsimp only at hSw); go_simp; with_reducible rfl
        try simp only [Act.put, List.setIfInBounds_toArray, List.set_cons_zero, List.set_cons_succ]
        refine wpAnyH_take (i := 25) (oi := { dst := some 63, op := Op.move (Operand.tmp 62), type := 4, pos := "law.go:54", after := #[{ on := 24, ground := Ground.data }, { on := 19, ground := Ground.chain }], guard := none }) (v := ?_) rfl (by kernel_rfl) (by kernel_rfl) (by kernel_rfl) (fun _ _ _ h => h) (Or.inl ⟨by rfl, ?_⟩) hHeld ?_
        rotate_left
        · intro w hSw; (try dsimp only at hSw); go_simp; with_reducible rfl
        try simp only [Act.put, List.setIfInBounds_toArray, List.set_cons_zero, List.set_cons_succ]
        refine wpAnyH_take (i := 26) (oi := { dst := some 64, op := Op.load 25 (Operand.tmp 2), type := 25, pos := "law.go:54", after := #[{ on := 25, ground := Ground.guard }], guard := some (25, true) }) (v := ?_) rfl (by kernel_rfl) (by kernel_rfl) (by kernel_rfl) (fun _ _ _ h => h) (Or.inl ⟨by rfl, ?_⟩) hHeld ?_
        rotate_left
        · intro w hSw; (try dsimp only at hSw); have q0 := (row5 hSw.1).1; obtain ⟨q00, q01, q02, q03, q04⟩ := q0; have q1 := (row5 hSw.2.1).1; obtain ⟨q10, q11, q12, q13, q14⟩ := q1; have q2 := (row5 hSw.2.2.1).1; obtain ⟨q20, q21, q22, q23, q24⟩ := q2; have q3 := (row5 hSw.2.2.2).1; obtain ⟨q30, q31, q32, q33, q34⟩ := q3; clear hSw; go_simp; with_reducible rfl
        try simp only [Act.put, List.setIfInBounds_toArray, List.set_cons_zero, List.set_cons_succ]
        refine wpAnyH_take (i := 27) (oi := { dst := some 65, op := Op.load 25 (Operand.tmp 3), type := 25, pos := "law.go:54", after := #[{ on := 25, ground := Ground.guard }], guard := some (25, true) }) (v := ?_) rfl (by kernel_rfl) (by kernel_rfl) (by kernel_rfl) (fun _ _ _ h => h) (Or.inl ⟨by rfl, ?_⟩) hHeld ?_
        rotate_left
        · intro w hSw; (try dsimp only at hSw); have q0 := (row5 hSw.1).1; obtain ⟨q00, q01, q02, q03, q04⟩ := q0; have q1 := (row5 hSw.2.1).1; obtain ⟨q10, q11, q12, q13, q14⟩ := q1; have q2 := (row5 hSw.2.2.1).1; obtain ⟨q20, q21, q22, q23, q24⟩ := q2; have q3 := (row5 hSw.2.2.2).1; obtain ⟨q30, q31, q32, q33, q34⟩ := q3; clear hSw; go_simp; with_reducible rfl
        try simp only [Act.put, List.setIfInBounds_toArray, List.set_cons_zero, List.set_cons_succ]
        refine wpAnyH_take (i := 29) (oi := { dst := some 67, op := Op.load 25 (Operand.tmp 3), type := 25, pos := "law.go:54", after := #[{ on := 25, ground := Ground.guard }], guard := some (25, true) }) (v := ?_) rfl (by kernel_rfl) (by kernel_rfl) (by kernel_rfl) (fun _ _ _ h => h) (Or.inl ⟨by rfl, ?_⟩) hHeld ?_
        rotate_left
        · intro w hSw; (try dsimp only at hSw); have q0 := (row5 hSw.1).1; obtain ⟨q00, q01, q02, q03, q04⟩ := q0; have q1 := (row5 hSw.2.1).1; obtain ⟨q10, q11, q12, q13, q14⟩ := q1; have q2 := (row5 hSw.2.2.1).1; obtain ⟨q20, q21, q22, q23, q24⟩ := q2; have q3 := (row5 hSw.2.2.2).1; obtain ⟨q30, q31, q32, q33, q34⟩ := q3; clear hSw; go_simp; with_reducible rfl
        try simp only [Act.put, List.setIfInBounds_toArray, List.set_cons_zero, List.set_cons_succ]
        refine wpAnyH_take (i := 30) (oi := { dst := some 68, op := Op.load 25 (Operand.tmp 2), type := 25, pos := "law.go:54", after := #[{ on := 25, ground := Ground.guard }], guard := some (25, true) }) (v := ?_) rfl (by kernel_rfl) (by kernel_rfl) (by kernel_rfl) (fun _ _ _ h => h) (Or.inl ⟨by rfl, ?_⟩) hHeld ?_
        rotate_left
        · intro w hSw; (try dsimp only at hSw); have q0 := (row5 hSw.1).1; obtain ⟨q00, q01, q02, q03, q04⟩ := q0; have q1 := (row5 hSw.2.1).1; obtain ⟨q10, q11, q12, q13, q14⟩ := q1; have q2 := (row5 hSw.2.2.1).1; obtain ⟨q20, q21, q22, q23, q24⟩ := q2; have q3 := (row5 hSw.2.2.2).1; obtain ⟨q30, q31, q32, q33, q34⟩ := q3; clear hSw; go_simp; with_reducible rfl
        try simp only [Act.put, List.setIfInBounds_toArray, List.set_cons_zero, List.set_cons_succ]
        refine wpAnyH_ready (rs := [28]) (by kernel_rfl) (by simp) ?_
        refine AllReadyH.cons (o := { dst := some 66, op := Op.call { callee := Callee.value (Operand.func 20), args := #[Operand.tmp 64, Operand.tmp 65], argTypes := #[25, 25] }, type := 4, pos := "law.go:54", after := #[{ on := 26, ground := Ground.data }, { on := 27, ground := Ground.data }, { on := 25, ground := Ground.chain }, { on := 25, ground := Ground.guard }], guard := some (25, true) }) rfl (fun K hK => ?_) AllReadyH.nil
        go_simp
        go_at_call 20
        refine (HSMvu.out [.int .i64 k, .int .i64 n, .string S, .slice A1 l1 c1, .slice A2 m1 c2] [.int .i64 k', .int .i64 n', .string S', .slice B1 l2 d1, .slice B2 m2 d2] _ (RdA.below HXv.out HZu3.out (Nat.le_refl _) HZu3.out.size) (RdA.below HXu.out HZu3.out (Nat.le_refl _) HZu3.out.size)).mono ?_
        rintro e u4 ⟨rfl, hb⟩
        have HZu4 := Lib.hid (HZu3.out.trans (hb.mono HZu3.out.size))
        have HRu4 := Lib.hid (show u4.heap[w.heap.size]? = some (.cells #[.int .i64 k, .int .i64 n, .string S, .slice A1 l1 c1, .slice A2 m1 c2] 25 (0, 0)) ∧ u4.heap[w.heap.size + 1]? = some (.cells #[.int .i64 k', .int .i64 n', .string S', .slice B1 l2 d1, .slice B2 m2 d2] 25 (0, 0)) ∧ u4.heap[w4.heap.size]? = some (.cells #[.int .i64 ak, .int .i64 an, .string aS, .slice aA al ac, .slice aB am ad] 25 (0, 0)) ∧ u4.heap[w5.heap.size]? = some (.cells #[.int .i64 bk, .int .i64 bn, .string bS, .slice bA bl bc, .slice bB bm bd] 25 (0, 0)) from ⟨(hb.block _ (Nat.lt_of_lt_of_le Lw7_0.out HZu3.out.size)).trans hHeld.1, (hb.block _ (Nat.lt_of_lt_of_le Lw7_1.out HZu3.out.size)).trans hHeld.2.1, (hb.block _ (Nat.lt_of_lt_of_le Lw7_2.out HZu3.out.size)).trans hHeld.2.2.1, (hb.block _ (Nat.lt_of_lt_of_le Lw7_3.out HZu3.out.size)).trans hHeld.2.2.2⟩)
        clear hb
        refine hK.out _ _ (HRu4.out) (fun hHeld => ?_)
        clear hK K
        try simp only [Act.put, List.setIfInBounds_toArray, List.set_cons_zero, List.set_cons_succ]
        refine wpAnyH_ready (rs := [31]) (by kernel_rfl) (by simp) ?_
        refine AllReadyH.cons (o := { dst := some 69, op := Op.call { callee := Callee.value (Operand.func 20), args := #[Operand.tmp 67, Operand.tmp 68], argTypes := #[25, 25] }, type := 4, pos := "law.go:54", after := #[{ on := 29, ground := Ground.data }, { on := 30, ground := Ground.data }, { on := 28, ground := Ground.chain }, { on := 25, ground := Ground.guard }], guard := some (25, true) }) rfl (fun K hK => ?_) AllReadyH.nil
        go_simp
        go_at_call 20
        refine (HSMuv.out [.int .i64 k', .int .i64 n', .string S', .slice B1 l2 d1, .slice B2 m2 d2] [.int .i64 k, .int .i64 n, .string S, .slice A1 l1 c1, .slice A2 m1 c2] _ (RdA.below HXu.out HZu4.out (Nat.le_refl _) HZu4.out.size) (RdA.below HXv.out HZu4.out (Nat.le_refl _) HZu4.out.size)).mono ?_
        rintro e u5 ⟨rfl, hb⟩
        have HZu5 := Lib.hid (HZu4.out.trans (hb.mono HZu4.out.size))
        have HRu5 := Lib.hid (show u5.heap[w.heap.size]? = some (.cells #[.int .i64 k, .int .i64 n, .string S, .slice A1 l1 c1, .slice A2 m1 c2] 25 (0, 0)) ∧ u5.heap[w.heap.size + 1]? = some (.cells #[.int .i64 k', .int .i64 n', .string S', .slice B1 l2 d1, .slice B2 m2 d2] 25 (0, 0)) ∧ u5.heap[w4.heap.size]? = some (.cells #[.int .i64 ak, .int .i64 an, .string aS, .slice aA al ac, .slice aB am ad] 25 (0, 0)) ∧ u5.heap[w5.heap.size]? = some (.cells #[.int .i64 bk, .int .i64 bn, .string bS, .slice bA bl bc, .slice bB bm bd] 25 (0, 0)) from ⟨(hb.block _ (Nat.lt_of_lt_of_le Lw7_0.out HZu4.out.size)).trans hHeld.1, (hb.block _ (Nat.lt_of_lt_of_le Lw7_1.out HZu4.out.size)).trans hHeld.2.1, (hb.block _ (Nat.lt_of_lt_of_le Lw7_2.out HZu4.out.size)).trans hHeld.2.2.1, (hb.block _ (Nat.lt_of_lt_of_le Lw7_3.out HZu4.out.size)).trans hHeld.2.2.2⟩)
        clear hb
        refine hK.out _ _ (HRu5.out) (fun hHeld => ?_)
        clear hK K
        try simp only [Act.put, List.setIfInBounds_toArray, List.set_cons_zero, List.set_cons_succ]
        refine wpAnyH_take (i := 32) (oi := { dst := some 70, op := Op.binOp BinOp.eql 4 (Operand.tmp 66) (Operand.tmp 69) 4, type := 4, pos := "law.go:54", after := #[{ on := 28, ground := Ground.data }, { on := 31, ground := Ground.data }, { on := 25, ground := Ground.guard }], guard := some (25, true) }) (v := ?_) rfl (by kernel_rfl) (by kernel_rfl) (by kernel_rfl) (fun _ _ _ h => h) (Or.inl ⟨by rfl, ?_⟩) hHeld ?_
        rotate_left
        · intro w hSw; (try dsimp only at hSw); go_simp; with_reducible rfl
        try simp only [Act.put, List.setIfInBounds_toArray, List.set_cons_zero, List.set_cons_succ]
        refine wpAnyH_take (i := 33) (oi := { dst := some 71, op := Op.pick (Operand.tmp 63) (Operand.tmp 70) (Operand.const (Value.bool false)), type := 4, pos := "law.go:54", after := #[{ on := 25, ground := Ground.data }, { on := 32, ground := Ground.data }], guard := none }) (v := ?_) rfl (by kernel_rfl) (by kernel_rfl) (by kernel_rfl) (fun _ _ _ h => h) (Or.inl ⟨by rfl, ?_⟩) hHeld ?_
        rotate_left
        · intro w hSw; (try dsimp only at hSw); go_simp; with_reducible rfl
        try simp only [Act.put, List.setIfInBounds_toArray, List.set_cons_zero, List.set_cons_succ]
        refine wpAnyH_take (i := 34) (oi := { dst := some 4, op := Op.assign (Operand.tmp 71), type := 4, pos := "law.go:54", after := #[{ on := 33, ground := Ground.data }, { on := 31, ground := Ground.chain }, { on := 0, ground := Ground.phase }, { on := 1, ground := Ground.phase }, { on := 2, ground := Ground.phase }, { on := 3, ground := Ground.phase }, { on := 4, ground := Ground.phase }, { on := 5, ground := Ground.phase }, { on := 6, ground := Ground.phase }, { on := 7, ground := Ground.phase }, { on := 8, ground := Ground.phase }, { on := 9, ground := Ground.phase }, { on := 10, ground := Ground.phase }, { on := 11, ground := Ground.phase }, { on := 12, ground := Ground.phase }, { on := 13, ground := Ground.phase }, { on := 14, ground := Ground.phase }, { on := 15, ground := Ground.phase }, { on := 16, ground := Ground.phase }, { on := 17, ground := Ground.phase }, { on := 18, ground := Ground.phase }, { on := 19, ground := Ground.phase }, { on := 20, ground := Ground.phase }, { on := 21, ground := Ground.phase }, { on := 22, ground := Ground.phase }, { on := 23, ground := Ground.phase }, { on := 24, ground := Ground.phase }, { on := 25, ground := Ground.phase }, { on := 26, ground := Ground.phase }, { on := 27, ground := Ground.phase }, { on := 28, ground := Ground.phase }, { on := 29, ground := Ground.phase }, { on := 30, ground := Ground.phase }, { on := 31, ground := Ground.phase }, { on := 32, ground := Ground.phase }, { on := 33, ground := Ground.phase }], guard := none }) (v := ?_) rfl (by kernel_rfl) (by kernel_rfl) (by kernel_rfl) (fun _ _ _ h => h) (Or.inl ⟨by rfl, ?_⟩) hHeld ?_
        rotate_left
        · intro w hSw; (try dsimp only at hSw); go_simp; with_reducible rfl
        try simp only [Act.put, List.setIfInBounds_toArray, List.set_cons_zero, List.set_cons_succ]
        refine wpAnyH_done (by kernel_rfl) ?_ _
        have HFIN := Lib.hid (HBw7.out.trans (HZu5.out.mono HBw7.out.size))
        go_wp2
        go_ret
        exact ⟨rfl, HFIN.out⟩
      · have hm := same_facts v u a b HSa.out HSb.out HFV.out.1 HFU.out.1 HLV.out HLU.out HFV.out.2.2.2 HFU.out.2.2.2 HFV.out.2.1 HFU.out.2.1 false (by simpa using hab)
        obtain ⟨tq, s1, s2, s3, s4⟩ := hm
        have HSMva := Lib.hid s1
        have HSMav := Lib.hid s2
        have HSMvu := Lib.hid s3
        have HSMuv := Lib.hid s4
        clear s1 s2 s3 s4 hab
        have HZu0 := Lib.hid (show Below w7.heap.size w7 w7.drew from (Below.refl w7.heap.size w7).drew)
        have HR0 := Lib.hid (show w7.heap[w.heap.size]? = some (.cells #[.int .i64 k, .int .i64 n, .string S, .slice A1 l1 c1, .slice A2 m1 c2] 25 (0, 0)) ∧ w7.heap[w.heap.size + 1]? = some (.cells #[.int .i64 k', .int .i64 n', .string S', .slice B1 l2 d1, .slice B2 m2 d2] 25 (0, 0)) ∧ w7.heap[w4.heap.size]? = some (.cells #[.int .i64 ak, .int .i64 an, .string aS, .slice aA al ac, .slice aB am ad] 25 (0, 0)) ∧ w7.heap[w5.heap.size]? = some (.cells #[.int .i64 bk, .int .i64 bn, .string bS, .slice bA bl bc, .slice bB bm bd] 25 (0, 0)) from ⟨Rw7_0.out, Rw7_1.out, Rw7_2.out, Rw7_3.out⟩)
        have HXv := Lib.hid (HV.out.below HBw7.out (Nat.le_refl _) HBw7.out.size)
        have HXu := Lib.hid (HU.out.below HBw7.out (Nat.le_refl _) HBw7.out.size)
        have HXa := Lib.hid (RdA.below RAa.out HX3.out (Nat.le_refl _) HX3.out.size)
        have HXb := Lib.hid (RdA.below RAb.out HY3.out (Nat.le_refl _) HY3.out.size)
        generalize strOf (Em.emV a) = T1 at *
        generalize strOf (Em.emV b) = T2 at *
        go_wp2_with fail
        refine wp_region_held_drew (S := fun w' => w'.heap[w.heap.size]? = some (.cells #[.int .i64 k, .int .i64 n, .string S, .slice A1 l1 c1, .slice A2 m1 c2] 25 (0, 0)) ∧ w'.heap[w.heap.size + 1]? = some (.cells #[.int .i64 k', .int .i64 n', .string S', .slice B1 l2 d1, .slice B2 m2 d2] 25 (0, 0)) ∧ w'.heap[w4.heap.size]? = some (.cells #[.int .i64 ak, .int .i64 an, .string aS, .slice aA al ac, .slice aB am ad] 25 (0, 0)) ∧ w'.heap[w5.heap.size]? = some (.cells #[.int .i64 bk, .int .i64 bn, .string bS, .slice bA bl bc, .slice bB bm bd] 25 (0, 0))) (by kernel_rfl) (HR0.out) (fun hHeld => ?_)
        refine wpAnyH_take (i := 0) (oi := { dst := some 38, op := Op.move (Operand.tmp 8), type := 34, pos := "law.go:54", after := #[], guard := none }) (v := ?_) rfl (by kernel_rfl) (by kernel_rfl) (by kernel_rfl) (fun _ _ _ h => h) (Or.inl ⟨by rfl, ?_⟩) hHeld ?_
        rotate_left
        · intro w hSw; (try dsimp only at hSw); go_simp; with_reducible rfl
        try simp only [Act.put, List.setIfInBounds_toArray, List.set_cons_zero, List.set_cons_succ]
        refine wpAnyH_take (i := 1) (oi := { dst := some 39, op := Op.binOp BinOp.eql 34 (Operand.tmp 38) (Operand.const (Value.int IntKind.i64 0)) 34, type := 4, pos := "law.go:54", after := #[{ on := 0, ground := Ground.data }], guard := none }) (v := ?_) rfl (by kernel_rfl) (by kernel_rfl) (by kernel_rfl) (fun _ _ _ h => h) (Or.inl ⟨by rfl, ?_⟩) hHeld ?_
        rotate_left
        · intro w hSw; (try dsimp only at hSw); go_simp; with_reducible rfl
        try simp only [Act.put, List.setIfInBounds_toArray, List.set_cons_zero, List.set_cons_succ]
        refine wpAnyH_take (i := 2) (oi := { dst := some 40, op := Op.move (Operand.tmp 39), type := 4, pos := "law.go:54", after := #[{ on := 1, ground := Ground.data }], guard := none }) (v := ?_) rfl (by kernel_rfl) (by kernel_rfl) (by kernel_rfl) (fun _ _ _ h => h) (Or.inl ⟨by rfl, ?_⟩) hHeld ?_
        rotate_left
        · intro w hSw; (try dsimp only at hSw); go_simp; with_reducible rfl
        try simp only [Act.put, List.setIfInBounds_toArray, List.set_cons_zero, List.set_cons_succ]
        refine wpAnyH_take (i := 3) (oi := { dst := some 41, op := Op.move (Operand.tmp 10), type := 34, pos := "law.go:54", after := #[{ on := 2, ground := Ground.guard }], guard := some (2, true) }) (v := ?_) rfl (by kernel_rfl) (by kernel_rfl) (by kernel_rfl) (fun _ _ _ h => h) (Or.inl ⟨by rfl, ?_⟩) hHeld ?_
        rotate_left
        · intro w hSw; (try dsimp only at hSw); go_simp; with_reducible rfl
        try simp only [Act.put, List.setIfInBounds_toArray, List.set_cons_zero, List.set_cons_succ]
        refine wpAnyH_take (i := 4) (oi := { dst := some 42, op := Op.binOp BinOp.eql 34 (Operand.tmp 41) (Operand.const (Value.int IntKind.i64 0)) 34, type := 4, pos := "law.go:54", after := #[{ on := 3, ground := Ground.data }, { on := 2, ground := Ground.guard }], guard := some (2, true) }) (v := ?_) rfl (by kernel_rfl) (by kernel_rfl) (by kernel_rfl) (fun _ _ _ h => h) (Or.inl ⟨by rfl, ?_⟩) hHeld ?_
        rotate_left
        · intro w hSw; (try dsimp only at hSw); go_simp; with_reducible rfl
        try simp only [Act.put, List.setIfInBounds_toArray, List.set_cons_zero, List.set_cons_succ]
        refine wpAnyH_take (i := 5) (oi := { dst := some 43, op := Op.pick (Operand.tmp 40) (Operand.tmp 42) (Operand.const (Value.bool false)), type := 4, pos := "law.go:54", after := #[{ on := 2, ground := Ground.data }, { on := 4, ground := Ground.data }], guard := none }) (v := ?_) rfl (by kernel_rfl) (by kernel_rfl) (by kernel_rfl) (fun _ _ _ h => h) (Or.inl ⟨by rfl, ?_⟩) hHeld ?_
        rotate_left
        · intro w hSw; (try dsimp only at hSw); go_simp; with_reducible rfl
        try simp only [Act.put, List.setIfInBounds_toArray, List.set_cons_zero, List.set_cons_succ]
        refine wpAnyH_take (i := 6) (oi := { dst := some 44, op := Op.move (Operand.tmp 43), type := 4, pos := "law.go:54", after := #[{ on := 5, ground := Ground.data }, { on := 2, ground := Ground.chain }], guard := none }) (v := ?_) rfl (by kernel_rfl) (by kernel_rfl) (by kernel_rfl) (fun _ _ _ h => h) (Or.inl ⟨by rfl, ?_⟩) hHeld ?_
        rotate_left
        · intro w hSw; (try dsimp only at hSw); go_simp; with_reducible rfl
        try simp only [Act.put, List.setIfInBounds_toArray, List.set_cons_zero, List.set_cons_succ]
        refine wpAnyH_take (i := 7) (oi := { dst := some 45, op := Op.load 25 (Operand.tmp 2), type := 25, pos := "law.go:54", after := #[{ on := 6, ground := Ground.guard }], guard := some (6, true) }) (v := ?_) rfl (by kernel_rfl) (by kernel_rfl) (by kernel_rfl) (fun _ _ _ h => h) (Or.inl ⟨by rfl, ?_⟩) hHeld ?_
        rotate_left
        · intro w hSw; (try dsimp only at hSw); have q0 := (row5 hSw.1).1; obtain ⟨q00, q01, q02, q03, q04⟩ := q0; have q1 := (row5 hSw.2.1).1; obtain ⟨q10, q11, q12, q13, q14⟩ := q1; have q2 := (row5 hSw.2.2.1).1; obtain ⟨q20, q21, q22, q23, q24⟩ := q2; have q3 := (row5 hSw.2.2.2).1; obtain ⟨q30, q31, q32, q33, q34⟩ := q3; clear hSw; go_simp; with_reducible rfl
        try simp only [Act.put, List.setIfInBounds_toArray, List.set_cons_zero, List.set_cons_succ]
        refine wpAnyH_take (i := 8) (oi := { dst := some 46, op := Op.load 25 (Operand.tmp 5), type := 25, pos := "law.go:54", after := #[{ on := 6, ground := Ground.guard }], guard := some (6, true) }) (v := ?_) rfl (by kernel_rfl) (by kernel_rfl) (by kernel_rfl) (fun _ _ _ h => h) (Or.inl ⟨by rfl, ?_⟩) hHeld ?_
        rotate_left
        · intro w hSw; (try dsimp only at hSw); have q0 := (row5 hSw.1).1; obtain ⟨q00, q01, q02, q03, q04⟩ := q0; have q1 := (row5 hSw.2.1).1; obtain ⟨q10, q11, q12, q13, q14⟩ := q1; have q2 := (row5 hSw.2.2.1).1; obtain ⟨q20, q21, q22, q23, q24⟩ := q2; have q3 := (row5 hSw.2.2.2).1; obtain ⟨q30, q31, q32, q33, q34⟩ := q3; clear hSw; go_simp; with_reducible rfl
        try simp only [Act.put, List.setIfInBounds_toArray, List.set_cons_zero, List.set_cons_succ]
        refine wpAnyH_ready (rs := [9]) (by kernel_rfl) (by simp) ?_
        refine AllReadyH.cons (o := { dst := some 47, op := Op.call { callee := Callee.value (Operand.func 20), args := #[Operand.tmp 45, Operand.tmp 46], argTypes := #[25, 25] }, type := 4, pos := "law.go:54", after := #[{ on := 7, ground := Ground.data }, { on := 8, ground := Ground.data }, { on := 6, ground := Ground.chain }, { on := 6, ground := Ground.guard }], guard := some (6, true) }) rfl (fun K hK => ?_) AllReadyH.nil
        go_simp
        go_at_call 20
        refine (HSMva.out [.int .i64 k, .int .i64 n, .string S, .slice A1 l1 c1, .slice A2 m1 c2] [.int .i64 ak, .int .i64 an, .string aS, .slice aA al ac, .slice aB am ad] _ (RdA.below HXv.out HZu0.out (Nat.le_refl _) HZu0.out.size) (RdA.below HXa.out HZu0.out (Nat.le_refl _) HZu0.out.size)).mono ?_
        rintro e u1 ⟨rfl, hb⟩
        have HZu1 := Lib.hid (HZu0.out.trans (hb.mono HZu0.out.size))
        have HRu1 := Lib.hid (show u1.heap[w.heap.size]? = some (.cells #[.int .i64 k, .int .i64 n, .string S, .slice A1 l1 c1, .slice A2 m1 c2] 25 (0, 0)) ∧ u1.heap[w.heap.size + 1]? = some (.cells #[.int .i64 k', .int .i64 n', .string S', .slice B1 l2 d1, .slice B2 m2 d2] 25 (0, 0)) ∧ u1.heap[w4.heap.size]? = some (.cells #[.int .i64 ak, .int .i64 an, .string aS, .slice aA al ac, .slice aB am ad] 25 (0, 0)) ∧ u1.heap[w5.heap.size]? = some (.cells #[.int .i64 bk, .int .i64 bn, .string bS, .slice bA bl bc, .slice bB bm bd] 25 (0, 0)) from ⟨(hb.block _ (Nat.lt_of_lt_of_le Lw7_0.out HZu0.out.size)).trans hHeld.1, (hb.block _ (Nat.lt_of_lt_of_le Lw7_1.out HZu0.out.size)).trans hHeld.2.1, (hb.block _ (Nat.lt_of_lt_of_le Lw7_2.out HZu0.out.size)).trans hHeld.2.2.1, (hb.block _ (Nat.lt_of_lt_of_le Lw7_3.out HZu0.out.size)).trans hHeld.2.2.2⟩)
        clear hb
        refine hK.out _ _ (HRu1.out) (fun hHeld => ?_)
        clear hK K
        try simp only [Act.put, List.setIfInBounds_toArray, List.set_cons_zero, List.set_cons_succ]
        refine wpAnyH_take (i := 10) (oi := { dst := some 48, op := Op.pick (Operand.tmp 44) (Operand.tmp 47) (Operand.const (Value.bool false)), type := 4, pos := "law.go:54", after := #[{ on := 6, ground := Ground.data }, { on := 9, ground := Ground.data }], guard := none }) (v := ?_) rfl (by kernel_rfl) (by kernel_rfl) (by kernel_rfl) (fun _ _ _ h => h) (Or.inl ⟨by rfl, ?_⟩) hHeld ?_
        rotate_left
        · intro w hSw; (try dsimp only at hSw); go_simp; with_reducible rfl
        try simp only [Act.put, List.setIfInBounds_toArray, List.set_cons_zero, List.set_cons_succ]
        refine wpAnyH_take (i := 11) (oi := { dst := some 49, op := Op.move (Operand.tmp 48), type := 4, pos := "law.go:54", after := #[{ on := 10, ground := Ground.data }, { on := 9, ground := Ground.chain }], guard := none }) (v := ?_) rfl (by kernel_rfl) (by kernel_rfl) (by kernel_rfl) (fun _ _ _ h => h) (Or.inl ⟨by rfl, ?_⟩) hHeld ?_
        rotate_left
        · intro w hSw; (try dsimp only at hSw); go_simp; with_reducible rfl
        try simp only [Act.put, List.setIfInBounds_toArray, List.set_cons_zero, List.set_cons_succ]
        refine wpAnyH_take (i := 12) (oi := { dst := some 50, op := Op.load 25 (Operand.tmp 5), type := 25, pos := "law.go:54", after := #[{ on := 11, ground := Ground.guard }], guard := some (11, true) }) (v := ?_) rfl (by kernel_rfl) (by kernel_rfl) (by kernel_rfl) (fun _ _ _ h => h) (Or.inl ⟨by rfl, ?_⟩) hHeld ?_
        rotate_left
        · intro w hSw; (try dsimp only at hSw); have q0 := (row5 hSw.1).1; obtain ⟨q00, q01, q02, q03, q04⟩ := q0; have q1 := (row5 hSw.2.1).1; obtain ⟨q10, q11, q12, q13, q14⟩ := q1; have q2 := (row5 hSw.2.2.1).1; obtain ⟨q20, q21, q22, q23, q24⟩ := q2; have q3 := (row5 hSw.2.2.2).1; obtain ⟨q30, q31, q32, q33, q34⟩ := q3; clear hSw; go_simp; with_reducible rfl
        try simp only [Act.put, List.setIfInBounds_toArray, List.set_cons_zero, List.set_cons_succ]
        refine wpAnyH_take (i := 13) (oi := { dst := some 51, op := Op.load 25 (Operand.tmp 2), type := 25, pos := "law.go:54", after := #[{ on := 11, ground := Ground.guard }], guard := some (11, true) }) (v := ?_) rfl (by kernel_rfl) (by kernel_rfl) (by kernel_rfl) (fun _ _ _ h => h) (Or.inl ⟨by rfl, ?_⟩) hHeld ?_
        rotate_left
        · intro w hSw; (try dsimp only at hSw); have q0 := (row5 hSw.1).1; obtain ⟨q00, q01, q02, q03, q04⟩ := q0; have q1 := (row5 hSw.2.1).1; obtain ⟨q10, q11, q12, q13, q14⟩ := q1; have q2 := (row5 hSw.2.2.1).1; obtain ⟨q20, q21, q22, q23, q24⟩ := q2; have q3 := (row5 hSw.2.2.2).1; obtain ⟨q30, q31, q32, q33, q34⟩ := q3; clear hSw; go_simp; with_reducible rfl
        try simp only [Act.put, List.setIfInBounds_toArray, List.set_cons_zero, List.set_cons_succ]
        refine wpAnyH_ready (rs := [14]) (by kernel_rfl) (by simp) ?_
        refine AllReadyH.cons (o := { dst := some 52, op := Op.call { callee := Callee.value (Operand.func 20), args := #[Operand.tmp 50, Operand.tmp 51], argTypes := #[25, 25] }, type := 4, pos := "law.go:54", after := #[{ on := 12, ground := Ground.data }, { on := 13, ground := Ground.data }, { on := 11, ground := Ground.chain }, { on := 11, ground := Ground.guard }], guard := some (11, true) }) rfl (fun K hK => ?_) AllReadyH.nil
        go_simp
        go_at_call 20
        refine (HSMav.out [.int .i64 ak, .int .i64 an, .string aS, .slice aA al ac, .slice aB am ad] [.int .i64 k, .int .i64 n, .string S, .slice A1 l1 c1, .slice A2 m1 c2] _ (RdA.below HXa.out HZu1.out (Nat.le_refl _) HZu1.out.size) (RdA.below HXv.out HZu1.out (Nat.le_refl _) HZu1.out.size)).mono ?_
        rintro e u2 ⟨rfl, hb⟩
        have HZu2 := Lib.hid (HZu1.out.trans (hb.mono HZu1.out.size))
        have HRu2 := Lib.hid (show u2.heap[w.heap.size]? = some (.cells #[.int .i64 k, .int .i64 n, .string S, .slice A1 l1 c1, .slice A2 m1 c2] 25 (0, 0)) ∧ u2.heap[w.heap.size + 1]? = some (.cells #[.int .i64 k', .int .i64 n', .string S', .slice B1 l2 d1, .slice B2 m2 d2] 25 (0, 0)) ∧ u2.heap[w4.heap.size]? = some (.cells #[.int .i64 ak, .int .i64 an, .string aS, .slice aA al ac, .slice aB am ad] 25 (0, 0)) ∧ u2.heap[w5.heap.size]? = some (.cells #[.int .i64 bk, .int .i64 bn, .string bS, .slice bA bl bc, .slice bB bm bd] 25 (0, 0)) from ⟨(hb.block _ (Nat.lt_of_lt_of_le Lw7_0.out HZu1.out.size)).trans hHeld.1, (hb.block _ (Nat.lt_of_lt_of_le Lw7_1.out HZu1.out.size)).trans hHeld.2.1, (hb.block _ (Nat.lt_of_lt_of_le Lw7_2.out HZu1.out.size)).trans hHeld.2.2.1, (hb.block _ (Nat.lt_of_lt_of_le Lw7_3.out HZu1.out.size)).trans hHeld.2.2.2⟩)
        clear hb
        refine hK.out _ _ (HRu2.out) (fun hHeld => ?_)
        clear hK K
        try simp only [Act.put, List.setIfInBounds_toArray, List.set_cons_zero, List.set_cons_succ]
        refine wpAnyH_take (i := 15) (oi := { dst := some 53, op := Op.pick (Operand.tmp 49) (Operand.tmp 52) (Operand.const (Value.bool false)), type := 4, pos := "law.go:54", after := #[{ on := 11, ground := Ground.data }, { on := 14, ground := Ground.data }], guard := none }) (v := ?_) rfl (by kernel_rfl) (by kernel_rfl) (by kernel_rfl) (fun _ _ _ h => h) (Or.inl ⟨by rfl, ?_⟩) hHeld ?_
        rotate_left
        · intro w hSw; (try dsimp only at hSw); go_simp; with_reducible rfl
        try simp only [Act.put, List.setIfInBounds_toArray, List.set_cons_zero, List.set_cons_succ]
        refine wpAnyH_take (i := 16) (oi := { dst := some 54, op := Op.move (Operand.tmp 53), type := 4, pos := "law.go:54", after := #[{ on := 15, ground := Ground.data }, { on := 14, ground := Ground.chain }], guard := none }) (v := ?_) rfl (by kernel_rfl) (by kernel_rfl) (by kernel_rfl) (fun _ _ _ h => h) (Or.inl ⟨by rfl, ?_⟩) hHeld ?_
        rotate_left
        · intro w hSw; (try dsimp only at hSw); go_simp; with_reducible rfl
        try simp only [Act.put, List.setIfInBounds_toArray, List.set_cons_zero, List.set_cons_succ]
        refine wpAnyH_take (i := 17) (oi := { dst := some 55, op := Op.load 25 (Operand.tmp 2), type := 25, pos := "law.go:54", after := #[{ on := 16, ground := Ground.guard }], guard := some (16, true) }) (v := ?_) rfl (by kernel_rfl) (by kernel_rfl) (by kernel_rfl) (fun _ _ _ h => h) (Or.inl ⟨by rfl, ?_⟩) hHeld ?_
        rotate_left
        · intro w hSw; (try dsimp only at hSw); have q0 := (row5 hSw.1).1; obtain ⟨q00, q01, q02, q03, q04⟩ := q0; have q1 := (row5 hSw.2.1).1; obtain ⟨q10, q11, q12, q13, q14⟩ := q1; have q2 := (row5 hSw.2.2.1).1; obtain ⟨q20, q21, q22, q23, q24⟩ := q2; have q3 := (row5 hSw.2.2.2).1; obtain ⟨q30, q31, q32, q33, q34⟩ := q3; clear hSw; go_simp; with_reducible rfl
        try simp only [Act.put, List.setIfInBounds_toArray, List.set_cons_zero, List.set_cons_succ]
        refine wpAnyH_take (i := 18) (oi := { dst := some 56, op := Op.load 25 (Operand.tmp 3), type := 25, pos := "law.go:54", after := #[{ on := 16, ground := Ground.guard }], guard := some (16, true) }) (v := ?_) rfl (by kernel_rfl) (by kernel_rfl) (by kernel_rfl) (fun _ _ _ h => h) (Or.inl ⟨by rfl, ?_⟩) hHeld ?_
        rotate_left
        · intro w hSw; (try dsimp only at hSw); have q0 := (row5 hSw.1).1; obtain ⟨q00, q01, q02, q03, q04⟩ := q0; have q1 := (row5 hSw.2.1).1; obtain ⟨q10, q11, q12, q13, q14⟩ := q1; have q2 := (row5 hSw.2.2.1).1; obtain ⟨q20, q21, q22, q23, q24⟩ := q2; have q3 := (row5 hSw.2.2.2).1; obtain ⟨q30, q31, q32, q33, q34⟩ := q3; clear hSw; go_simp; with_reducible rfl
        try simp only [Act.put, List.setIfInBounds_toArray, List.set_cons_zero, List.set_cons_succ]
        refine wpAnyH_take (i := 20) (oi := { dst := some 58, op := Op.move (Operand.tmp 7), type := 9, pos := "law.go:54", after := #[{ on := 16, ground := Ground.guard }], guard := some (16, true) }) (v := ?_) rfl (by kernel_rfl) (by kernel_rfl) (by kernel_rfl) (fun _ _ _ h => h) (Or.inl ⟨by rfl, ?_⟩) hHeld ?_
        rotate_left
        · intro w hSw; (try dsimp only at hSw); go_simp; with_reducible rfl
        try simp only [Act.put, List.setIfInBounds_toArray, List.set_cons_zero, List.set_cons_succ]
        refine wpAnyH_take (i := 21) (oi := { dst := some 59, op := Op.move (Operand.tmp 9), type := 9, pos := "law.go:54", after := #[{ on := 16, ground := Ground.guard }], guard := some (16, true) }) (v := ?_) rfl (by kernel_rfl) (by kernel_rfl) (by kernel_rfl) (fun _ _ _ h => h) (Or.inl ⟨by rfl, ?_⟩) hHeld ?_
        rotate_left
        · intro w hSw; (try dsimp only at hSw); go_simp; with_reducible rfl
        try simp only [Act.put, List.setIfInBounds_toArray, List.set_cons_zero, List.set_cons_succ]
        refine wpAnyH_take (i := 22) (oi := { dst := some 60, op := Op.binOp BinOp.eql 9 (Operand.tmp 58) (Operand.tmp 59) 9, type := 4, pos := "law.go:54", after := #[{ on := 20, ground := Ground.data }, { on := 21, ground := Ground.data }, { on := 16, ground := Ground.guard }], guard := some (16, true) }) (v := ?_) rfl (by kernel_rfl) (by kernel_rfl) (by kernel_rfl) (fun _ _ _ h => h) (Or.inl ⟨by rfl, ?_⟩) hHeld ?_
        rotate_left
        · intro w hSw; (try dsimp only at hSw); go_simp; with_reducible rfl
        try simp only [Act.put, List.setIfInBounds_toArray, List.set_cons_zero, List.set_cons_succ]
        refine wpAnyH_ready (rs := [19]) (by kernel_rfl) (by simp) ?_
        refine AllReadyH.cons (o := { dst := some 57, op := Op.call { callee := Callee.value (Operand.func 20), args := #[Operand.tmp 55, Operand.tmp 56], argTypes := #[25, 25] }, type := 4, pos := "law.go:54", after := #[{ on := 17, ground := Ground.data }, { on := 18, ground := Ground.data }, { on := 16, ground := Ground.chain }, { on := 16, ground := Ground.guard }], guard := some (16, true) }) rfl (fun K hK => ?_) AllReadyH.nil
        go_simp
        go_at_call 20
        refine (HSMvu.out [.int .i64 k, .int .i64 n, .string S, .slice A1 l1 c1, .slice A2 m1 c2] [.int .i64 k', .int .i64 n', .string S', .slice B1 l2 d1, .slice B2 m2 d2] _ (RdA.below HXv.out HZu2.out (Nat.le_refl _) HZu2.out.size) (RdA.below HXu.out HZu2.out (Nat.le_refl _) HZu2.out.size)).mono ?_
        rintro e u3 ⟨rfl, hb⟩
        have HZu3 := Lib.hid (HZu2.out.trans (hb.mono HZu2.out.size))
        have HRu3 := Lib.hid (show u3.heap[w.heap.size]? = some (.cells #[.int .i64 k, .int .i64 n, .string S, .slice A1 l1 c1, .slice A2 m1 c2] 25 (0, 0)) ∧ u3.heap[w.heap.size + 1]? = some (.cells #[.int .i64 k', .int .i64 n', .string S', .slice B1 l2 d1, .slice B2 m2 d2] 25 (0, 0)) ∧ u3.heap[w4.heap.size]? = some (.cells #[.int .i64 ak, .int .i64 an, .string aS, .slice aA al ac, .slice aB am ad] 25 (0, 0)) ∧ u3.heap[w5.heap.size]? = some (.cells #[.int .i64 bk, .int .i64 bn, .string bS, .slice bA bl bc, .slice bB bm bd] 25 (0, 0)) from ⟨(hb.block _ (Nat.lt_of_lt_of_le Lw7_0.out HZu2.out.size)).trans hHeld.1, (hb.block _ (Nat.lt_of_lt_of_le Lw7_1.out HZu2.out.size)).trans hHeld.2.1, (hb.block _ (Nat.lt_of_lt_of_le Lw7_2.out HZu2.out.size)).trans hHeld.2.2.1, (hb.block _ (Nat.lt_of_lt_of_le Lw7_3.out HZu2.out.size)).trans hHeld.2.2.2⟩)
        clear hb
        refine hK.out _ _ (HRu3.out) (fun hHeld => ?_)
        clear hK K
        try simp only [Act.put, List.setIfInBounds_toArray, List.set_cons_zero, List.set_cons_succ]
        refine wpAnyH_take (i := 23) (oi := { dst := some 61, op := Op.binOp BinOp.eql 4 (Operand.tmp 57) (Operand.tmp 60) 4, type := 4, pos := "law.go:54", after := #[{ on := 19, ground := Ground.data }, { on := 22, ground := Ground.data }, { on := 16, ground := Ground.guard }], guard := some (16, true) }) (v := ?_) rfl (by kernel_rfl) (by kernel_rfl) (by kernel_rfl) (fun _ _ _ h => h) (Or.inl ⟨by rfl, ?_⟩) hHeld ?_
        rotate_left
        · intro w hSw; (try dsimp only at hSw); go_simp; with_reducible rfl
        try simp only [Act.put, List.setIfInBounds_toArray, List.set_cons_zero, List.set_cons_succ]
        refine wpAnyH_take (i := 24) (oi := { dst := some 62, op := Op.pick (Operand.tmp 54) (Operand.tmp 61) (Operand.const (Value.bool false)), type := 4, pos := "law.go:54", after := #[{ on := 16, ground := Ground.data }, { on := 23, ground := Ground.data }], guard := none }) (v := ?_) rfl (by kernel_rfl) (by kernel_rfl) (by kernel_rfl) (fun _ _ _ h => h) (Or.inl ⟨by rfl, ?_⟩) hHeld ?_
        rotate_left
        · intro w hSw; (try dsimp only at hSw); go_simp; with_reducible rfl
        try simp only [Act.put, List.setIfInBounds_toArray, List.set_cons_zero, List.set_cons_succ]
        refine wpAnyH_take (i := 25) (oi := { dst := some 63, op := Op.move (Operand.tmp 62), type := 4, pos := "law.go:54", after := #[{ on := 24, ground := Ground.data }, { on := 19, ground := Ground.chain }], guard := none }) (v := ?_) rfl (by kernel_rfl) (by kernel_rfl) (by kernel_rfl) (fun _ _ _ h => h) (Or.inl ⟨by rfl, ?_⟩) hHeld ?_
        rotate_left
        · intro w hSw; (try dsimp only at hSw); go_simp; with_reducible rfl
        try simp only [Act.put, List.setIfInBounds_toArray, List.set_cons_zero, List.set_cons_succ]
        refine wpAnyH_take (i := 26) (oi := { dst := some 64, op := Op.load 25 (Operand.tmp 2), type := 25, pos := "law.go:54", after := #[{ on := 25, ground := Ground.guard }], guard := some (25, true) }) (v := ?_) rfl (by kernel_rfl) (by kernel_rfl) (by kernel_rfl) (fun _ _ _ h => h) (Or.inl ⟨by rfl, ?_⟩) hHeld ?_
        rotate_left
        · intro w hSw; (try dsimp only at hSw); have q0 := (row5 hSw.1).1; obtain ⟨q00, q01, q02, q03, q04⟩ := q0; have q1 := (row5 hSw.2.1).1; obtain ⟨q10, q11, q12, q13, q14⟩ := q1; have q2 := (row5 hSw.2.2.1).1; obtain ⟨q20, q21, q22, q23, q24⟩ := q2; have q3 := (row5 hSw.2.2.2).1; obtain ⟨q30, q31, q32, q33, q34⟩ := q3; clear hSw; go_simp; with_reducible rfl
        try simp only [Act.put, List.setIfInBounds_toArray, List.set_cons_zero, List.set_cons_succ]
        refine wpAnyH_take (i := 27) (oi := { dst := some 65, op := Op.load 25 (Operand.tmp 3), type := 25, pos := "law.go:54", after := #[{ on := 25, ground := Ground.guard }], guard := some (25, true) }) (v := ?_) rfl (by kernel_rfl) (by kernel_rfl) (by kernel_rfl) (fun _ _ _ h => h) (Or.inl ⟨by rfl, ?_⟩) hHeld ?_
        rotate_left
        · intro w hSw; (try dsimp only at hSw); have q0 := (row5 hSw.1).1; obtain ⟨q00, q01, q02, q03, q04⟩ := q0; have q1 := (row5 hSw.2.1).1; obtain ⟨q10, q11, q12, q13, q14⟩ := q1; have q2 := (row5 hSw.2.2.1).1; obtain ⟨q20, q21, q22, q23, q24⟩ := q2; have q3 := (row5 hSw.2.2.2).1; obtain ⟨q30, q31, q32, q33, q34⟩ := q3; clear hSw; go_simp; with_reducible rfl
        try simp only [Act.put, List.setIfInBounds_toArray, List.set_cons_zero, List.set_cons_succ]
        refine wpAnyH_take (i := 29) (oi := { dst := some 67, op := Op.load 25 (Operand.tmp 3), type := 25, pos := "law.go:54", after := #[{ on := 25, ground := Ground.guard }], guard := some (25, true) }) (v := ?_) rfl (by kernel_rfl) (by kernel_rfl) (by kernel_rfl) (fun _ _ _ h => h) (Or.inl ⟨by rfl, ?_⟩) hHeld ?_
        rotate_left
        · intro w hSw; (try dsimp only at hSw); have q0 := (row5 hSw.1).1; obtain ⟨q00, q01, q02, q03, q04⟩ := q0; have q1 := (row5 hSw.2.1).1; obtain ⟨q10, q11, q12, q13, q14⟩ := q1; have q2 := (row5 hSw.2.2.1).1; obtain ⟨q20, q21, q22, q23, q24⟩ := q2; have q3 := (row5 hSw.2.2.2).1; obtain ⟨q30, q31, q32, q33, q34⟩ := q3; clear hSw; go_simp; with_reducible rfl
        try simp only [Act.put, List.setIfInBounds_toArray, List.set_cons_zero, List.set_cons_succ]
        refine wpAnyH_take (i := 30) (oi := { dst := some 68, op := Op.load 25 (Operand.tmp 2), type := 25, pos := "law.go:54", after := #[{ on := 25, ground := Ground.guard }], guard := some (25, true) }) (v := ?_) rfl (by kernel_rfl) (by kernel_rfl) (by kernel_rfl) (fun _ _ _ h => h) (Or.inl ⟨by rfl, ?_⟩) hHeld ?_
        rotate_left
        · intro w hSw; (try dsimp only at hSw); have q0 := (row5 hSw.1).1; obtain ⟨q00, q01, q02, q03, q04⟩ := q0; have q1 := (row5 hSw.2.1).1; obtain ⟨q10, q11, q12, q13, q14⟩ := q1; have q2 := (row5 hSw.2.2.1).1; obtain ⟨q20, q21, q22, q23, q24⟩ := q2; have q3 := (row5 hSw.2.2.2).1; obtain ⟨q30, q31, q32, q33, q34⟩ := q3; clear hSw; go_simp; with_reducible rfl
        try simp only [Act.put, List.setIfInBounds_toArray, List.set_cons_zero, List.set_cons_succ]
        refine wpAnyH_ready (rs := [28]) (by kernel_rfl) (by simp) ?_
        refine AllReadyH.cons (o := { dst := some 66, op := Op.call { callee := Callee.value (Operand.func 20), args := #[Operand.tmp 64, Operand.tmp 65], argTypes := #[25, 25] }, type := 4, pos := "law.go:54", after := #[{ on := 26, ground := Ground.data }, { on := 27, ground := Ground.data }, { on := 25, ground := Ground.chain }, { on := 25, ground := Ground.guard }], guard := some (25, true) }) rfl (fun K hK => ?_) AllReadyH.nil
        go_simp
        go_at_call 20
        refine (HSMvu.out [.int .i64 k, .int .i64 n, .string S, .slice A1 l1 c1, .slice A2 m1 c2] [.int .i64 k', .int .i64 n', .string S', .slice B1 l2 d1, .slice B2 m2 d2] _ (RdA.below HXv.out HZu3.out (Nat.le_refl _) HZu3.out.size) (RdA.below HXu.out HZu3.out (Nat.le_refl _) HZu3.out.size)).mono ?_
        rintro e u4 ⟨rfl, hb⟩
        have HZu4 := Lib.hid (HZu3.out.trans (hb.mono HZu3.out.size))
        have HRu4 := Lib.hid (show u4.heap[w.heap.size]? = some (.cells #[.int .i64 k, .int .i64 n, .string S, .slice A1 l1 c1, .slice A2 m1 c2] 25 (0, 0)) ∧ u4.heap[w.heap.size + 1]? = some (.cells #[.int .i64 k', .int .i64 n', .string S', .slice B1 l2 d1, .slice B2 m2 d2] 25 (0, 0)) ∧ u4.heap[w4.heap.size]? = some (.cells #[.int .i64 ak, .int .i64 an, .string aS, .slice aA al ac, .slice aB am ad] 25 (0, 0)) ∧ u4.heap[w5.heap.size]? = some (.cells #[.int .i64 bk, .int .i64 bn, .string bS, .slice bA bl bc, .slice bB bm bd] 25 (0, 0)) from ⟨(hb.block _ (Nat.lt_of_lt_of_le Lw7_0.out HZu3.out.size)).trans hHeld.1, (hb.block _ (Nat.lt_of_lt_of_le Lw7_1.out HZu3.out.size)).trans hHeld.2.1, (hb.block _ (Nat.lt_of_lt_of_le Lw7_2.out HZu3.out.size)).trans hHeld.2.2.1, (hb.block _ (Nat.lt_of_lt_of_le Lw7_3.out HZu3.out.size)).trans hHeld.2.2.2⟩)
        clear hb
        refine hK.out _ _ (HRu4.out) (fun hHeld => ?_)
        clear hK K
        try simp only [Act.put, List.setIfInBounds_toArray, List.set_cons_zero, List.set_cons_succ]
        refine wpAnyH_ready (rs := [31]) (by kernel_rfl) (by simp) ?_
        refine AllReadyH.cons (o := { dst := some 69, op := Op.call { callee := Callee.value (Operand.func 20), args := #[Operand.tmp 67, Operand.tmp 68], argTypes := #[25, 25] }, type := 4, pos := "law.go:54", after := #[{ on := 29, ground := Ground.data }, { on := 30, ground := Ground.data }, { on := 28, ground := Ground.chain }, { on := 25, ground := Ground.guard }], guard := some (25, true) }) rfl (fun K hK => ?_) AllReadyH.nil
        go_simp
        go_at_call 20
        refine (HSMuv.out [.int .i64 k', .int .i64 n', .string S', .slice B1 l2 d1, .slice B2 m2 d2] [.int .i64 k, .int .i64 n, .string S, .slice A1 l1 c1, .slice A2 m1 c2] _ (RdA.below HXu.out HZu4.out (Nat.le_refl _) HZu4.out.size) (RdA.below HXv.out HZu4.out (Nat.le_refl _) HZu4.out.size)).mono ?_
        rintro e u5 ⟨rfl, hb⟩
        have HZu5 := Lib.hid (HZu4.out.trans (hb.mono HZu4.out.size))
        have HRu5 := Lib.hid (show u5.heap[w.heap.size]? = some (.cells #[.int .i64 k, .int .i64 n, .string S, .slice A1 l1 c1, .slice A2 m1 c2] 25 (0, 0)) ∧ u5.heap[w.heap.size + 1]? = some (.cells #[.int .i64 k', .int .i64 n', .string S', .slice B1 l2 d1, .slice B2 m2 d2] 25 (0, 0)) ∧ u5.heap[w4.heap.size]? = some (.cells #[.int .i64 ak, .int .i64 an, .string aS, .slice aA al ac, .slice aB am ad] 25 (0, 0)) ∧ u5.heap[w5.heap.size]? = some (.cells #[.int .i64 bk, .int .i64 bn, .string bS, .slice bA bl bc, .slice bB bm bd] 25 (0, 0)) from ⟨(hb.block _ (Nat.lt_of_lt_of_le Lw7_0.out HZu4.out.size)).trans hHeld.1, (hb.block _ (Nat.lt_of_lt_of_le Lw7_1.out HZu4.out.size)).trans hHeld.2.1, (hb.block _ (Nat.lt_of_lt_of_le Lw7_2.out HZu4.out.size)).trans hHeld.2.2.1, (hb.block _ (Nat.lt_of_lt_of_le Lw7_3.out HZu4.out.size)).trans hHeld.2.2.2⟩)
        clear hb
        refine hK.out _ _ (HRu5.out) (fun hHeld => ?_)
        clear hK K
        try simp only [Act.put, List.setIfInBounds_toArray, List.set_cons_zero, List.set_cons_succ]
        refine wpAnyH_take (i := 32) (oi := { dst := some 70, op := Op.binOp BinOp.eql 4 (Operand.tmp 66) (Operand.tmp 69) 4, type := 4, pos := "law.go:54", after := #[{ on := 28, ground := Ground.data }, { on := 31, ground := Ground.data }, { on := 25, ground := Ground.guard }], guard := some (25, true) }) (v := ?_) rfl (by kernel_rfl) (by kernel_rfl) (by kernel_rfl) (fun _ _ _ h => h) (Or.inl ⟨by rfl, ?_⟩) hHeld ?_
        rotate_left
        · intro w hSw; (try dsimp only at hSw); go_simp; with_reducible rfl
        try simp only [Act.put, List.setIfInBounds_toArray, List.set_cons_zero, List.set_cons_succ]
        refine wpAnyH_take (i := 33) (oi := { dst := some 71, op := Op.pick (Operand.tmp 63) (Operand.tmp 70) (Operand.const (Value.bool false)), type := 4, pos := "law.go:54", after := #[{ on := 25, ground := Ground.data }, { on := 32, ground := Ground.data }], guard := none }) (v := ?_) rfl (by kernel_rfl) (by kernel_rfl) (by kernel_rfl) (fun _ _ _ h => h) (Or.inl ⟨by rfl, ?_⟩) hHeld ?_
        rotate_left
        · intro w hSw; (try dsimp only at hSw); go_simp; with_reducible rfl
        try simp only [Act.put, List.setIfInBounds_toArray, List.set_cons_zero, List.set_cons_succ]
        refine wpAnyH_take (i := 34) (oi := { dst := some 4, op := Op.assign (Operand.tmp 71), type := 4, pos := "law.go:54", after := #[{ on := 33, ground := Ground.data }, { on := 31, ground := Ground.chain }, { on := 0, ground := Ground.phase }, { on := 1, ground := Ground.phase }, { on := 2, ground := Ground.phase }, { on := 3, ground := Ground.phase }, { on := 4, ground := Ground.phase }, { on := 5, ground := Ground.phase }, { on := 6, ground := Ground.phase }, { on := 7, ground := Ground.phase }, { on := 8, ground := Ground.phase }, { on := 9, ground := Ground.phase }, { on := 10, ground := Ground.phase }, { on := 11, ground := Ground.phase }, { on := 12, ground := Ground.phase }, { on := 13, ground := Ground.phase }, { on := 14, ground := Ground.phase }, { on := 15, ground := Ground.phase }, { on := 16, ground := Ground.phase }, { on := 17, ground := Ground.phase }, { on := 18, ground := Ground.phase }, { on := 19, ground := Ground.phase }, { on := 20, ground := Ground.phase }, { on := 21, ground := Ground.phase }, { on := 22, ground := Ground.phase }, { on := 23, ground := Ground.phase }, { on := 24, ground := Ground.phase }, { on := 25, ground := Ground.phase }, { on := 26, ground := Ground.phase }, { on := 27, ground := Ground.phase }, { on := 28, ground := Ground.phase }, { on := 29, ground := Ground.phase }, { on := 30, ground := Ground.phase }, { on := 31, ground := Ground.phase }, { on := 32, ground := Ground.phase }, { on := 33, ground := Ground.phase }], guard := none }) (v := ?_) rfl (by kernel_rfl) (by kernel_rfl) (by kernel_rfl) (fun _ _ _ h => h) (Or.inl ⟨by rfl, ?_⟩) hHeld ?_
        rotate_left
        · intro w hSw; (try dsimp only at hSw); go_simp; with_reducible rfl
        try simp only [Act.put, List.setIfInBounds_toArray, List.set_cons_zero, List.set_cons_succ]
        refine wpAnyH_done (by kernel_rfl) ?_ _
        have HFIN := Lib.hid (HBw7.out.trans (HZu5.out.mono HBw7.out.size))
        go_wp2
        go_ret
        exact ⟨rfl, HFIN.out⟩
    · rw [hc] at HCV
      subst ev eu
      clear hv hu zv zu fv fu sv su sv2 su2 lv lu hc
      generalize hx : chk u = x at *
      have t1 : decide ((x : Int) = 0) = false := decide_eq_false (by omega)
      clear hx
      generalize v.k = k at *
      generalize v.n = n at *
      generalize strOf v.s = S at *
      generalize v.l.length = l1 at *
      generalize v.ms.length = m1 at *
      generalize u.k = k' at *
      generalize u.n = n' at *
      generalize strOf u.s = S' at *
      generalize u.l.length = l2 at *
      generalize u.ms.length = m2 at *
      obtain ⟨W0, hW0⟩ : ∃ W0, W0 = ((w.alloc (.cells #[.int .i64 k, .int .i64 n, .string S, .slice A1 l1 c1, .slice A2 m1 c2] 25)).alloc (.cells #[.int .i64 k', .int .i64 n', .string S', .slice B1 l2 d1, .slice B2 m2 d2] 25)) := ⟨_, rfl⟩
      have HBW0 := Lib.hid (show Below w.heap.size w W0 by rw [hW0]; exact ((Below.refl _ _).alloc (Nat.le_refl _) _).alloc (by simp) _)
      have hs0 : W0.heap.size = w.heap.size + 2 := by rw [hW0, szAl, szAl]
      have RW0_0 := Lib.hid (show W0.heap[w.heap.size]? = some (.cells #[.int .i64 k, .int .i64 n, .string S, .slice A1 l1 c1, .slice A2 m1 c2] 25 (0, 0)) by rw [hW0]; exact heapOld ((show (w.alloc (.cells #[.int .i64 k, .int .i64 n, .string S, .slice A1 l1 c1, .slice A2 m1 c2] 25)).heap[w.heap.size]? = some (.cells #[.int .i64 k, .int .i64 n, .string S, .slice A1 l1 c1, .slice A2 m1 c2] 25 (0, 0)) from by rw [show w.heap.size = w.heap.size by simp]; exact heapNew _ _)) _)
      have LW0_0 := Lib.hid (show w.heap.size < W0.heap.size by omega)
      have RW0_1 := Lib.hid (show W0.heap[w.heap.size + 1]? = some (.cells #[.int .i64 k', .int .i64 n', .string S', .slice B1 l2 d1, .slice B2 m2 d2] 25 (0, 0)) by rw [hW0]; exact (show ((w.alloc (.cells #[.int .i64 k, .int .i64 n, .string S, .slice A1 l1 c1, .slice A2 m1 c2] 25)).alloc (.cells #[.int .i64 k', .int .i64 n', .string S', .slice B1 l2 d1, .slice B2 m2 d2] 25)).heap[w.heap.size + 1]? = some (.cells #[.int .i64 k', .int .i64 n', .string S', .slice B1 l2 d1, .slice B2 m2 d2] 25 (0, 0)) from by rw [show w.heap.size + 1 = (w.alloc (.cells #[.int .i64 k, .int .i64 n, .string S, .slice A1 l1 c1, .slice A2 m1 c2] 25)).heap.size by simp]; exact heapNew _ _))
      have LW0_1 := Lib.hid (show w.heap.size + 1 < W0.heap.size by omega)
      have HW0 := Lib.hid hW0
      clear hW0 hs0
      go_enter Try.func4, Try.ntmps4
      go_wp2_with fail
      rw [← HW0.out]
      refine (awake_any7 _).mono ?_
      rintro e w1 ⟨rfl, hb⟩
      have Rw1_0 := Lib.hid (show w1.heap[w.heap.size]? = some (.cells #[.int .i64 k, .int .i64 n, .string S, .slice A1 l1 c1, .slice A2 m1 c2] 25 (0, 0)) from (hb.block _ LW0_0.out).trans RW0_0.out)
      have Lw1_0 := Lib.hid (show w.heap.size < w1.heap.size from Nat.lt_of_lt_of_le LW0_0.out hb.size)
      have Rw1_1 := Lib.hid (show w1.heap[w.heap.size + 1]? = some (.cells #[.int .i64 k', .int .i64 n', .string S', .slice B1 l2 d1, .slice B2 m2 d2] 25 (0, 0)) from (hb.block _ LW0_1.out).trans RW0_1.out)
      have Lw1_1 := Lib.hid (show w.heap.size + 1 < w1.heap.size from Nat.lt_of_lt_of_le LW0_1.out hb.size)
      have HBw1 := Lib.hid (HBW0.out.trans (hb.mono HBW0.out.size))
      clear hb
      obtain ⟨⟨p0_0, p0_1, p0_2, p0_3, p0_4⟩, -⟩ := row5 Rw1_0.out
      obtain ⟨⟨p1_0, p1_1, p1_2, p1_3, p1_4⟩, -⟩ := row5 Rw1_1.out
      go_wp2_with fail
      clear p0_0 p0_1 p0_2 p0_3 p0_4 p1_0 p1_1 p1_2 p1_3 p1_4
      refine (HCV.out _ HBw1.out).mono ?_
      rintro e w2 ⟨rfl, hb⟩
      have Rw2_0 := Lib.hid (show w2.heap[w.heap.size]? = some (.cells #[.int .i64 k, .int .i64 n, .string S, .slice A1 l1 c1, .slice A2 m1 c2] 25 (0, 0)) from (hb.block _ Lw1_0.out).trans Rw1_0.out)
      have Lw2_0 := Lib.hid (show w.heap.size < w2.heap.size from Nat.lt_of_lt_of_le Lw1_0.out hb.size)
      have Rw2_1 := Lib.hid (show w2.heap[w.heap.size + 1]? = some (.cells #[.int .i64 k', .int .i64 n', .string S', .slice B1 l2 d1, .slice B2 m2 d2] 25 (0, 0)) from (hb.block _ Lw1_1.out).trans Rw1_1.out)
      have Lw2_1 := Lib.hid (show w.heap.size + 1 < w2.heap.size from Nat.lt_of_lt_of_le Lw1_1.out hb.size)
      have HBw2 := Lib.hid (HBw1.out.trans (hb.mono HBw1.out.size))
      clear hb
      obtain ⟨⟨p0_0, p0_1, p0_2, p0_3, p0_4⟩, -⟩ := row5 Rw2_0.out
      obtain ⟨⟨p1_0, p1_1, p1_2, p1_3, p1_4⟩, -⟩ := row5 Rw2_1.out
      go_wp2_with fail
      clear p0_0 p0_1 p0_2 p0_3 p0_4 p1_0 p1_1 p1_2 p1_3 p1_4
      refine (HCU.out _ HBw2.out).mono ?_
      rintro e w3 ⟨rfl, hb⟩
      have Rw3_0 := Lib.hid (show w3.heap[w.heap.size]? = some (.cells #[.int .i64 k, .int .i64 n, .string S, .slice A1 l1 c1, .slice A2 m1 c2] 25 (0, 0)) from (hb.block _ Lw2_0.out).trans Rw2_0.out)
      have Lw3_0 := Lib.hid (show w.heap.size < w3.heap.size from Nat.lt_of_lt_of_le Lw2_0.out hb.size)
      have Rw3_1 := Lib.hid (show w3.heap[w.heap.size + 1]? = some (.cells #[.int .i64 k', .int .i64 n', .string S', .slice B1 l2 d1, .slice B2 m2 d2] 25 (0, 0)) from (hb.block _ Lw2_1.out).trans Rw2_1.out)
      have Lw3_1 := Lib.hid (show w.heap.size + 1 < w3.heap.size from Nat.lt_of_lt_of_le Lw2_1.out hb.size)
      have HBw3 := Lib.hid (HBw2.out.trans (hb.mono HBw2.out.size))
      clear hb
      obtain ⟨⟨p0_0, p0_1, p0_2, p0_3, p0_4⟩, -⟩ := row5 Rw3_0.out
      obtain ⟨⟨p1_0, p1_1, p1_2, p1_3, p1_4⟩, -⟩ := row5 Rw3_1.out
      go_wp2_with fail
      clear p0_0 p0_1 p0_2 p0_3 p0_4 p1_0 p1_1 p1_2 p1_3 p1_4
      refine (awake_any7 _).mono ?_
      rintro e w4 ⟨rfl, hb⟩
      have Rw4_0 := Lib.hid (show w4.heap[w.heap.size]? = some (.cells #[.int .i64 k, .int .i64 n, .string S, .slice A1 l1 c1, .slice A2 m1 c2] 25 (0, 0)) from (hb.block _ Lw3_0.out).trans Rw3_0.out)
      have Lw4_0 := Lib.hid (show w.heap.size < w4.heap.size from Nat.lt_of_lt_of_le Lw3_0.out hb.size)
      have Rw4_1 := Lib.hid (show w4.heap[w.heap.size + 1]? = some (.cells #[.int .i64 k', .int .i64 n', .string S', .slice B1 l2 d1, .slice B2 m2 d2] 25 (0, 0)) from (hb.block _ Lw3_1.out).trans Rw3_1.out)
      have Lw4_1 := Lib.hid (show w.heap.size + 1 < w4.heap.size from Nat.lt_of_lt_of_le Lw3_1.out hb.size)
      have HBw4 := Lib.hid (HBw3.out.trans (hb.mono HBw3.out.size))
      clear hb
      go_wp2
      go_ret
      exact ⟨rfl, HBw4.out⟩
  · subst ev eu
    clear hv hu zv zu fv fu sv su sv2 su2 lv lu
    generalize hx : chk v = x at *
    have t1 : decide ((x : Int) = 0) = false := decide_eq_false (by omega)
    clear hx
    generalize v.k = k at *
    generalize v.n = n at *
    generalize strOf v.s = S at *
    generalize v.l.length = l1 at *
    generalize v.ms.length = m1 at *
    generalize u.k = k' at *
    generalize u.n = n' at *
    generalize strOf u.s = S' at *
    generalize u.l.length = l2 at *
    generalize u.ms.length = m2 at *
    obtain ⟨W0, hW0⟩ : ∃ W0, W0 = ((w.alloc (.cells #[.int .i64 k, .int .i64 n, .string S, .slice A1 l1 c1, .slice A2 m1 c2] 25)).alloc (.cells #[.int .i64 k', .int .i64 n', .string S', .slice B1 l2 d1, .slice B2 m2 d2] 25)) := ⟨_, rfl⟩
    have HBW0 := Lib.hid (show Below w.heap.size w W0 by rw [hW0]; exact ((Below.refl _ _).alloc (Nat.le_refl _) _).alloc (by simp) _)
    have hs0 : W0.heap.size = w.heap.size + 2 := by rw [hW0, szAl, szAl]
    have RW0_0 := Lib.hid (show W0.heap[w.heap.size]? = some (.cells #[.int .i64 k, .int .i64 n, .string S, .slice A1 l1 c1, .slice A2 m1 c2] 25 (0, 0)) by rw [hW0]; exact heapOld ((show (w.alloc (.cells #[.int .i64 k, .int .i64 n, .string S, .slice A1 l1 c1, .slice A2 m1 c2] 25)).heap[w.heap.size]? = some (.cells #[.int .i64 k, .int .i64 n, .string S, .slice A1 l1 c1, .slice A2 m1 c2] 25 (0, 0)) from by rw [show w.heap.size = w.heap.size by simp]; exact heapNew _ _)) _)
    have LW0_0 := Lib.hid (show w.heap.size < W0.heap.size by omega)
    have RW0_1 := Lib.hid (show W0.heap[w.heap.size + 1]? = some (.cells #[.int .i64 k', .int .i64 n', .string S', .slice B1 l2 d1, .slice B2 m2 d2] 25 (0, 0)) by rw [hW0]; exact (show ((w.alloc (.cells #[.int .i64 k, .int .i64 n, .string S, .slice A1 l1 c1, .slice A2 m1 c2] 25)).alloc (.cells #[.int .i64 k', .int .i64 n', .string S', .slice B1 l2 d1, .slice B2 m2 d2] 25)).heap[w.heap.size + 1]? = some (.cells #[.int .i64 k', .int .i64 n', .string S', .slice B1 l2 d1, .slice B2 m2 d2] 25 (0, 0)) from by rw [show w.heap.size + 1 = (w.alloc (.cells #[.int .i64 k, .int .i64 n, .string S, .slice A1 l1 c1, .slice A2 m1 c2] 25)).heap.size by simp]; exact heapNew _ _))
    have LW0_1 := Lib.hid (show w.heap.size + 1 < W0.heap.size by omega)
    have HW0 := Lib.hid hW0
    clear hW0 hs0
    go_enter Try.func4, Try.ntmps4
    go_wp2_with fail
    rw [← HW0.out]
    refine (awake_any7 _).mono ?_
    rintro e w1 ⟨rfl, hb⟩
    have Rw1_0 := Lib.hid (show w1.heap[w.heap.size]? = some (.cells #[.int .i64 k, .int .i64 n, .string S, .slice A1 l1 c1, .slice A2 m1 c2] 25 (0, 0)) from (hb.block _ LW0_0.out).trans RW0_0.out)
    have Lw1_0 := Lib.hid (show w.heap.size < w1.heap.size from Nat.lt_of_lt_of_le LW0_0.out hb.size)
    have Rw1_1 := Lib.hid (show w1.heap[w.heap.size + 1]? = some (.cells #[.int .i64 k', .int .i64 n', .string S', .slice B1 l2 d1, .slice B2 m2 d2] 25 (0, 0)) from (hb.block _ LW0_1.out).trans RW0_1.out)
    have Lw1_1 := Lib.hid (show w.heap.size + 1 < w1.heap.size from Nat.lt_of_lt_of_le LW0_1.out hb.size)
    have HBw1 := Lib.hid (HBW0.out.trans (hb.mono HBW0.out.size))
    clear hb
    obtain ⟨⟨p0_0, p0_1, p0_2, p0_3, p0_4⟩, -⟩ := row5 Rw1_0.out
    obtain ⟨⟨p1_0, p1_1, p1_2, p1_3, p1_4⟩, -⟩ := row5 Rw1_1.out
    go_wp2_with fail
    clear p0_0 p0_1 p0_2 p0_3 p0_4 p1_0 p1_1 p1_2 p1_3 p1_4
    refine (HCV.out _ HBw1.out).mono ?_
    rintro e w2 ⟨rfl, hb⟩
    have Rw2_0 := Lib.hid (show w2.heap[w.heap.size]? = some (.cells #[.int .i64 k, .int .i64 n, .string S, .slice A1 l1 c1, .slice A2 m1 c2] 25 (0, 0)) from (hb.block _ Lw1_0.out).trans Rw1_0.out)
    have Lw2_0 := Lib.hid (show w.heap.size < w2.heap.size from Nat.lt_of_lt_of_le Lw1_0.out hb.size)
    have Rw2_1 := Lib.hid (show w2.heap[w.heap.size + 1]? = some (.cells #[.int .i64 k', .int .i64 n', .string S', .slice B1 l2 d1, .slice B2 m2 d2] 25 (0, 0)) from (hb.block _ Lw1_1.out).trans Rw1_1.out)
    have Lw2_1 := Lib.hid (show w.heap.size + 1 < w2.heap.size from Nat.lt_of_lt_of_le Lw1_1.out hb.size)
    have HBw2 := Lib.hid (HBw1.out.trans (hb.mono HBw1.out.size))
    clear hb
    obtain ⟨⟨p0_0, p0_1, p0_2, p0_3, p0_4⟩, -⟩ := row5 Rw2_0.out
    obtain ⟨⟨p1_0, p1_1, p1_2, p1_3, p1_4⟩, -⟩ := row5 Rw2_1.out
    go_wp2_with fail
    clear p0_0 p0_1 p0_2 p0_3 p0_4 p1_0 p1_1 p1_2 p1_3 p1_4
    refine (awake_any7 _).mono ?_
    rintro e w3 ⟨rfl, hb⟩
    have Rw3_0 := Lib.hid (show w3.heap[w.heap.size]? = some (.cells #[.int .i64 k, .int .i64 n, .string S, .slice A1 l1 c1, .slice A2 m1 c2] 25 (0, 0)) from (hb.block _ Lw2_0.out).trans Rw2_0.out)
    have Lw3_0 := Lib.hid (show w.heap.size < w3.heap.size from Nat.lt_of_lt_of_le Lw2_0.out hb.size)
    have Rw3_1 := Lib.hid (show w3.heap[w.heap.size + 1]? = some (.cells #[.int .i64 k', .int .i64 n', .string S', .slice B1 l2 d1, .slice B2 m2 d2] 25 (0, 0)) from (hb.block _ Lw2_1.out).trans Rw2_1.out)
    have Lw3_1 := Lib.hid (show w.heap.size + 1 < w3.heap.size from Nat.lt_of_lt_of_le Lw2_1.out hb.size)
    have HBw3 := Lib.hid (HBw2.out.trans (hb.mono HBw2.out.size))
    clear hb
    go_wp2
    go_ret
    exact ⟨rfl, HBw3.out⟩
end Go.Proofs.Ytbepnjgbkfidiaa.Tr
