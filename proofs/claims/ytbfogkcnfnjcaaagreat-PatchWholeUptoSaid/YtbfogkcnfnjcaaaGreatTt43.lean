/- Merged: PaW5. -/
import Derived.Test.YtbfogkcnfnjcaaaGreatTt42
import Derived.Deep.AppendLies
set_option linter.unusedSimpArgs false
namespace Go.Proofs.YtbfogkcnfnjcaaaGreat.Pa
open Go.Proofs Go.RowKit Go.Lib
open Go.Proofs.YtbfogkcnfnjcaaaGreat.Utf
open Go.Proofs.YtbfogkcnfnjcaaaGreat.Sc
open Go.Proofs.YtbfogkcnfnjcaaaGreat.Re
open Go.Proofs.YtbfogkcnfnjcaaaGreat.Tr
open Go.Proofs.YtbfogkcnfnjcaaaGreat.Po
open Go.Proofs.YtbfogkcnfnjcaaaGreat.Em (lenV szU wfV szA_of chk Check_any)

set_option maxRecDepth 100000 in
set_option maxHeartbeats 2000000 in
theorem whole_walk (v : V) (cv : List Value) (p : V) (cp : List Value) (w : World) (hv : RdA w 0 w.heap.size v cv) (zv : szU v ≤ 1048576) (fv : wfV v) (hp : RdA w 0 w.heap.size p cp) (zp : szU p ≤ 1048576) (fp : wfV p) :
    Calls Tryz.prog 4 #[.agg cv.toArray, .agg cp.toArray] w fun e w' => e = .returned (.bool true) ∧ Below w.heap.size w w' := by
  have lv := Em.len_of_RdA v cv hv
  have lp := Em.len_of_RdA p cp hp
  have sv : szA 4611686018427387904 v := szA_of _ v fv (by omega)
  have sp : szA 4611686018427387904 p := szA_of _ p fp (by omega)
  have HFEW := Lib.hid (fun (W : World) (hW : Below w.heap.size w W) => few_any v p cv cp W (hv.below hW (Nat.le_refl _) hW.size) (hp.below hW (Nat.le_refl _) hW.size) sv sp)
  have HCV := Lib.hid (fun (W : World) (hW : Below w.heap.size w W) => Check_any v cv 0 W sv (hv.below hW (Nat.le_refl _) hW.size))
  have HCP := Lib.hid (fun (W : World) (hW : Below w.heap.size w W) => Check_any p cp 0 W sp (hp.below hW (Nat.le_refl _) hW.size))
  obtain ⟨i0, hi0, hz0, hz1, hz2⟩ := info_parts infoMember
  have I0 := Lib.hid hi0
  have I1 := Lib.hid hz0
  have I2 := Lib.hid hz1
  have I3 := Lib.hid hz2
  clear hi0 hz0 hz1 hz2
  obtain ⟨cV, hcV⟩ : ∃ c, chk v = c := ⟨_, rfl⟩
  obtain ⟨cP, hcP⟩ : ∃ c, chk p = c := ⟨_, rfl⟩
  rw [hcV] at HCV
  rw [hcP] at HCP
  have HVF := Lib.hid (And.intro lv (And.intro fv zv))
  have HPF := Lib.hid (And.intro lp (And.intro fp zp))
  have HCHV := Lib.hid hcV
  have HCHP := Lib.hid hcP
  have HRV := Lib.hid hv
  have HRP := Lib.hid hp
  have HHAS := Lib.hid (fun (nm : List UInt8) (W : World) (hW : Below w.heap.size w W) => Has_any v cv nm W (hv.below hW (Nat.le_refl _) hW.size) sv)
  have hnv := ((szA_eq _ v).1 (szA_of 1000000000 v fv (by omega))).2.2.2.2.2.1
  have hnp := ((szA_eq _ p).1 (szA_of 1000000000 p fp (by omega))).2.2.2.2.2.1
  obtain ⟨A1, c1, A2, c2, ev, hnl, -, hvm⟩ := hv.cells
  obtain ⟨B1, e1, B2, e2, ep, hnl2, -, hpm⟩ := hp.cells
  obtain ⟨dv, hdv⟩ := mems_of hnl hvm
  obtain ⟨dp, hdp⟩ := mems_of hnl2 hpm
  have HDV := Lib.hid hdv
  have HDP := Lib.hid hdp
  have HDR := Lib.hid (show RawM w w.heap.size A2 dv from fun h => by
    obtain ⟨g, o, e, _, g2, hr⟩ := hdv.2.2.1 h
    exact ⟨g, o, e, g2, hr⟩)
  have HDRP := Lib.hid (show RawM w w.heap.size B2 dp from fun h => by
    obtain ⟨g, o, e, _, g2, hr⟩ := hdp.2.2.1 h
    exact ⟨g, o, e, g2, hr⟩)
  have HNS := Lib.hid (show ∀ i (h : i < dv.length), dv[i].nm.length ≤ 1000000000 from fun i h => hnv _ (by rw [← hdv.2.1]; exact List.mem_map.2 ⟨_, List.getElem_mem h, rfl⟩))
  have HNSP := Lib.hid (show ∀ i (h : i < dp.length), dp[i].nm.length ≤ 1000000000 from fun i h => hnp _ (by rw [← hdp.2.1]; exact List.mem_map.2 ⟨_, List.getElem_mem h, rfl⟩))
  have hm1 : v.ms.length ≤ 1048576 := Nat.le_trans (ms_szU v) zv
  have hpm1 : p.ms.length ≤ 1048576 := Nat.le_trans (ms_szU p) zp
  subst ev ep
  obtain ⟨k, hk⟩ : ∃ x, v.k = x := ⟨_, rfl⟩
  obtain ⟨pk, hpk⟩ : ∃ x, p.k = x := ⟨_, rfl⟩
  obtain ⟨m1, hml⟩ : ∃ x, v.ms.length = x := ⟨_, rfl⟩
  obtain ⟨pm, hpml⟩ : ∃ x, p.ms.length = x := ⟨_, rfl⟩
  have HVK := Lib.hid hk
  have HPK := Lib.hid hpk
  have HML := Lib.hid hml
  have HPML := Lib.hid hpml
  have HDL := Lib.hid (hdv.1.trans hml)
  have HDLP := Lib.hid (hdp.1.trans hpml)
  rw [hml] at hm1
  rw [hpml] at hpm1
  have HM1 := Lib.hid hm1
  have HPM1 := Lib.hid hpm1
  rw [hk, hpk, hml, hpml] at HFEW ⊢
  rw [hk, hml] at HCV HHAS HRV
  rw [hpk, hpml] at HCP HRP
  clear hv hp zv zp fv fp lv lp sv sp hcV hcP hnv hnp hnl hnl2 hvm hpm hdv hdp hk hpk hml hpml hm1 hpm1
  generalize v.n = n at *
  generalize strOf v.s = S at *
  generalize v.l.length = l1 at *
  generalize p.n = pn at *
  generalize strOf p.s = PS at *
  generalize p.l.length = pl at *
  obtain ⟨W0, hW0⟩ : ∃ W0, W0 = ((w.alloc (.cells #[.int .i64 k, .int .i64 n, .string S, .slice A1 l1 c1, .slice A2 m1 c2] 25)).alloc (.cells #[.int .i64 pk, .int .i64 pn, .string PS, .slice B1 pl e1, .slice B2 pm e2] 25)) := ⟨_, rfl⟩
  have HBW0 := Lib.hid (show Below w.heap.size w W0 by rw [hW0]; exact ((Below.refl _ _).alloc (Nat.le_refl _) _).alloc (by simp) _)
  have hs0 : W0.heap.size = w.heap.size + 2 := by rw [hW0, szAl, szAl]
  have RW0_0 := Lib.hid (show W0.heap[w.heap.size]? = some (.cells #[.int .i64 k, .int .i64 n, .string S, .slice A1 l1 c1, .slice A2 m1 c2] 25 (0, 0)) by rw [hW0]; exact heapOld ((show (w.alloc (.cells #[.int .i64 k, .int .i64 n, .string S, .slice A1 l1 c1, .slice A2 m1 c2] 25)).heap[w.heap.size]? = some (.cells #[.int .i64 k, .int .i64 n, .string S, .slice A1 l1 c1, .slice A2 m1 c2] 25 (0, 0)) from by rw [show w.heap.size = w.heap.size by simp]; exact heapNew _ _)) _)
  have LW0_0 := Lib.hid (show w.heap.size < W0.heap.size by omega)
  have RW0_1 := Lib.hid (show W0.heap[w.heap.size + 1]? = some (.cells #[.int .i64 pk, .int .i64 pn, .string PS, .slice B1 pl e1, .slice B2 pm e2] 25 (0, 0)) by rw [hW0]; exact (show ((w.alloc (.cells #[.int .i64 k, .int .i64 n, .string S, .slice A1 l1 c1, .slice A2 m1 c2] 25)).alloc (.cells #[.int .i64 pk, .int .i64 pn, .string PS, .slice B1 pl e1, .slice B2 pm e2] 25)).heap[w.heap.size + 1]? = some (.cells #[.int .i64 pk, .int .i64 pn, .string PS, .slice B1 pl e1, .slice B2 pm e2] 25 (0, 0)) from by rw [show w.heap.size + 1 = (w.alloc (.cells #[.int .i64 k, .int .i64 n, .string S, .slice A1 l1 c1, .slice A2 m1 c2] 25)).heap.size by simp]; exact heapNew _ _))
  have LW0_1 := Lib.hid (show w.heap.size + 1 < W0.heap.size by omega)
  have HW0 := Lib.hid hW0
  clear hW0 hs0
  go_enter Tryz.func4, Tryz.ntmps4
  go_wp2_with fail
  rw [← HW0.out]
  refine (awake_any9 _).mono ?_
  rintro e w1 ⟨rfl, hb⟩
  have Rw1_0 := Lib.hid (show w1.heap[w.heap.size]? = some (.cells #[.int .i64 k, .int .i64 n, .string S, .slice A1 l1 c1, .slice A2 m1 c2] 25 (0, 0)) from (hb.block _ LW0_0.out).trans RW0_0.out)
  have Lw1_0 := Lib.hid (show w.heap.size < w1.heap.size from Nat.lt_of_lt_of_le LW0_0.out hb.size)
  have Rw1_1 := Lib.hid (show w1.heap[w.heap.size + 1]? = some (.cells #[.int .i64 pk, .int .i64 pn, .string PS, .slice B1 pl e1, .slice B2 pm e2] 25 (0, 0)) from (hb.block _ LW0_1.out).trans RW0_1.out)
  have Lw1_1 := Lib.hid (show w.heap.size + 1 < w1.heap.size from Nat.lt_of_lt_of_le LW0_1.out hb.size)
  have HBw1 := Lib.hid (HBW0.out.trans (hb.mono HBW0.out.size))
  clear hb
  obtain ⟨⟨p0_0, p0_1, p0_2, p0_3, p0_4⟩, -⟩ := row5 Rw1_0.out
  obtain ⟨⟨p1_0, p1_1, p1_2, p1_3, p1_4⟩, -⟩ := row5 Rw1_1.out
  go_wp2_with fail
  clear p0_0 p0_1 p0_2 p0_3 p0_4 p1_0 p1_1 p1_2 p1_3 p1_4
  refine (HFEW.out _ HBw1.out).mono ?_
  rintro e w2 ⟨⟨b, rfl⟩, hb⟩
  have Rw2_0 := Lib.hid (show w2.heap[w.heap.size]? = some (.cells #[.int .i64 k, .int .i64 n, .string S, .slice A1 l1 c1, .slice A2 m1 c2] 25 (0, 0)) from (hb.block _ Lw1_0.out).trans Rw1_0.out)
  have Lw2_0 := Lib.hid (show w.heap.size < w2.heap.size from Nat.lt_of_lt_of_le Lw1_0.out hb.size)
  have Rw2_1 := Lib.hid (show w2.heap[w.heap.size + 1]? = some (.cells #[.int .i64 pk, .int .i64 pn, .string PS, .slice B1 pl e1, .slice B2 pm e2] 25 (0, 0)) from (hb.block _ Lw1_1.out).trans Rw1_1.out)
  have Lw2_1 := Lib.hid (show w.heap.size + 1 < w2.heap.size from Nat.lt_of_lt_of_le Lw1_1.out hb.size)
  have HBw2 := Lib.hid (HBw1.out.trans (hb.mono HBw1.out.size))
  clear hb
  cases b
  · obtain ⟨⟨p0_0, p0_1, p0_2, p0_3, p0_4⟩, -⟩ := row5 Rw2_0.out
    obtain ⟨⟨p1_0, p1_1, p1_2, p1_3, p1_4⟩, -⟩ := row5 Rw2_1.out
    go_wp2_with fail
    clear p0_0 p0_1 p0_2 p0_3 p0_4 p1_0 p1_1 p1_2 p1_3 p1_4
    refine (awake_any9 _).mono ?_
    rintro e w3 ⟨rfl, hb⟩
    have Rw3_0 := Lib.hid (show w3.heap[w.heap.size]? = some (.cells #[.int .i64 k, .int .i64 n, .string S, .slice A1 l1 c1, .slice A2 m1 c2] 25 (0, 0)) from (hb.block _ Lw2_0.out).trans Rw2_0.out)
    have Lw3_0 := Lib.hid (show w.heap.size < w3.heap.size from Nat.lt_of_lt_of_le Lw2_0.out hb.size)
    have Rw3_1 := Lib.hid (show w3.heap[w.heap.size + 1]? = some (.cells #[.int .i64 pk, .int .i64 pn, .string PS, .slice B1 pl e1, .slice B2 pm e2] 25 (0, 0)) from (hb.block _ Lw2_1.out).trans Rw2_1.out)
    have Lw3_1 := Lib.hid (show w.heap.size + 1 < w3.heap.size from Nat.lt_of_lt_of_le Lw2_1.out hb.size)
    have HBw3 := Lib.hid (HBw2.out.trans (hb.mono HBw2.out.size))
    clear hb
    go_wp2
    go_ret
    exact ⟨rfl, HBw3.out⟩
  · by_cases hk : k = 6
    · have Hk := Lib.hid hk
      have tk : (k != 6) = false := by rw [bne_eq_false_iff_eq]; exact hk
      clear hk
      by_cases hpk : pk = 6
      · have Hpk := Lib.hid hpk
        have tpk : (pk != 6) = false := by rw [bne_eq_false_iff_eq]; exact hpk
        clear hpk
        obtain ⟨⟨p0_0, p0_1, p0_2, p0_3, p0_4⟩, -⟩ := row5 Rw2_0.out
        obtain ⟨⟨p1_0, p1_1, p1_2, p1_3, p1_4⟩, -⟩ := row5 Rw2_1.out
        go_wp2_with fail
        clear p0_0 p0_1 p0_2 p0_3 p0_4 p1_0 p1_1 p1_2 p1_3 p1_4
        refine (HCV.out _ HBw2.out).mono ?_
        rintro e w3 ⟨rfl, hb⟩
        have Rw3_0 := Lib.hid (show w3.heap[w.heap.size]? = some (.cells #[.int .i64 k, .int .i64 n, .string S, .slice A1 l1 c1, .slice A2 m1 c2] 25 (0, 0)) from (hb.block _ Lw2_0.out).trans Rw2_0.out)
        have Lw3_0 := Lib.hid (show w.heap.size < w3.heap.size from Nat.lt_of_lt_of_le Lw2_0.out hb.size)
        have Rw3_1 := Lib.hid (show w3.heap[w.heap.size + 1]? = some (.cells #[.int .i64 pk, .int .i64 pn, .string PS, .slice B1 pl e1, .slice B2 pm e2] 25 (0, 0)) from (hb.block _ Lw2_1.out).trans Rw2_1.out)
        have Lw3_1 := Lib.hid (show w.heap.size + 1 < w3.heap.size from Nat.lt_of_lt_of_le Lw2_1.out hb.size)
        have HBw3 := Lib.hid (HBw2.out.trans (hb.mono HBw2.out.size))
        clear hb
        by_cases hcV : cV = 0
        · have HcV := Lib.hid hcV
          subst hcV
          obtain ⟨⟨p0_0, p0_1, p0_2, p0_3, p0_4⟩, -⟩ := row5 Rw3_0.out
          obtain ⟨⟨p1_0, p1_1, p1_2, p1_3, p1_4⟩, -⟩ := row5 Rw3_1.out
          go_wp2_with fail
          clear p0_0 p0_1 p0_2 p0_3 p0_4 p1_0 p1_1 p1_2 p1_3 p1_4
          refine (HCP.out _ HBw3.out).mono ?_
          rintro e w4 ⟨rfl, hb⟩
          have Rw4_0 := Lib.hid (show w4.heap[w.heap.size]? = some (.cells #[.int .i64 k, .int .i64 n, .string S, .slice A1 l1 c1, .slice A2 m1 c2] 25 (0, 0)) from (hb.block _ Lw3_0.out).trans Rw3_0.out)
          have Lw4_0 := Lib.hid (show w.heap.size < w4.heap.size from Nat.lt_of_lt_of_le Lw3_0.out hb.size)
          have Rw4_1 := Lib.hid (show w4.heap[w.heap.size + 1]? = some (.cells #[.int .i64 pk, .int .i64 pn, .string PS, .slice B1 pl e1, .slice B2 pm e2] 25 (0, 0)) from (hb.block _ Lw3_1.out).trans Rw3_1.out)
          have Lw4_1 := Lib.hid (show w.heap.size + 1 < w4.heap.size from Nat.lt_of_lt_of_le Lw3_1.out hb.size)
          have HBw4 := Lib.hid (HBw3.out.trans (hb.mono HBw3.out.size))
          clear hb
          by_cases hcP : cP = 0
          · have HcP := Lib.hid hcP
            subst hcP
            obtain ⟨W5, hW5⟩ : ∃ W5, W5 = w4.alloc (.cells #[.int .i64 6, .int .i64 0, .string ⟨#[]⟩, .slice none 0 0, .slice none 0 0] 25) := ⟨_, rfl⟩
            have hb : Below w4.heap.size w4 W5 := by rw [hW5]; exact (Below.refl _ _).alloc (Nat.le_refl _) _
            have RW5_0 := Lib.hid (show W5.heap[w.heap.size]? = some (.cells #[.int .i64 k, .int .i64 n, .string S, .slice A1 l1 c1, .slice A2 m1 c2] 25 (0, 0)) from (hb.block _ Lw4_0.out).trans Rw4_0.out)
            have LW5_0 := Lib.hid (show w.heap.size < W5.heap.size from Nat.lt_of_lt_of_le Lw4_0.out hb.size)
            have RW5_1 := Lib.hid (show W5.heap[w.heap.size + 1]? = some (.cells #[.int .i64 pk, .int .i64 pn, .string PS, .slice B1 pl e1, .slice B2 pm e2] 25 (0, 0)) from (hb.block _ Lw4_1.out).trans Rw4_1.out)
            have LW5_1 := Lib.hid (show w.heap.size + 1 < W5.heap.size from Nat.lt_of_lt_of_le Lw4_1.out hb.size)
            have HBW5 := Lib.hid (HBw4.out.trans (hb.mono HBw4.out.size))
            have RW5_2 := Lib.hid (show W5.heap[w4.heap.size]? = some (.cells #[.int .i64 6, .int .i64 0, .string ⟨#[]⟩, .slice none 0 0, .slice none 0 0] 25 (0, 0)) by rw [hW5]; exact heapNew _ _)
            have LW5_2 := Lib.hid (show w4.heap.size < W5.heap.size by rw [hW5, szAl]; exact Nat.lt_succ_self _)
            have HW5 := Lib.hid hW5
            clear hW5 hb
            have q0 := RW5_0.out
            rw [HW5.out] at q0
            obtain ⟨⟨p0_0, p0_1, p0_2, p0_3, p0_4⟩, -⟩ := row5 q0
            clear q0
            have q1 := RW5_1.out
            rw [HW5.out] at q1
            obtain ⟨⟨p1_0, p1_1, p1_2, p1_3, p1_4⟩, -⟩ := row5 q1
            clear q1
            have q2 := RW5_2.out
            rw [HW5.out] at q2
            obtain ⟨⟨p2_0, p2_1, p2_2, p2_3, p2_4⟩, -⟩ := row5 q2
            clear q2
            go_wp2_with fail
            rw [← HW5.out]
            clear p0_0 p0_1 p0_2 p0_3 p0_4 p1_0 p1_1 p1_2 p1_3 p1_4 p2_0 p2_1 p2_2 p2_3 p2_4
            obtain ⟨wa, hwa⟩ : ∃ x, x = w4 := ⟨_, rfl⟩
            have HWA := Lib.hid hwa
            obtain ⟨b, hbe⟩ : ∃ b, w4.heap.size = b := ⟨_, rfl⟩
            have HBE0 := Lib.hid hbe
            have HBE := Lib.hid (show wa.heap.size = b by rw [hwa]; exact hbe)
            have HBWA := Lib.hid (show Below w.heap.size w wa by rw [hwa]; exact HBw4.out)
            have HSW := Lib.hid (show Below b wa W5 by rw [← hbe, hwa, HW5.out]; exact (Below.refl _ _).alloc (Nat.le_refl _) _)
            have HOA := Lib.hid (show OutAt W5 b [] by
              rw [← hbe]
              exact ⟨none, 0, by rw [HW5.out]; exact heapNew _ _, World.ownsRow_nil _ _ _ _⟩)
            have HRA0 := Lib.hid (show wa.heap[w.heap.size]? = some (.cells #[.int .i64 k, .int .i64 n, .string S, .slice A1 l1 c1, .slice A2 m1 c2] 25 (0, 0)) by rw [hwa]; exact Rw4_0.out)
            have HRA1 := Lib.hid (show wa.heap[w.heap.size + 1]? = some (.cells #[.int .i64 pk, .int .i64 pn, .string PS, .slice B1 pl e1, .slice B2 pm e2] 25 (0, 0)) by rw [hwa]; exact Rw4_1.out)
            have HLA := Lib.hid (show w.heap.size + 1 < b by rw [← hbe]; exact Lw4_1.out)
            rw [hbe]
            clear hwa hbe
            go_loopw [6] (fun si wr => ∃ ii : Nat, si = .int .i64 ii ∧ ii ≤ m1 ∧ Aside (OutAt wr b (rwP (dv.take ii))) ∧ Aside (Below b wa wr) ∧ Aside (∀ j (h : j < dv.length), j < ii → dv[j].k ≠ 1)) (fun si _ => m1 - (intOf si).toNat)
            case atStart => exact ⟨0, rfl, by omega, (show OutAt _ _ _ from HOA.out), (show Below _ _ _ from HSW.out), (show ∀ j (_ : j < dv.length), _ → _ from fun j _ h => by omega)⟩
            case round =>
              obtain ⟨ii, rfl, hii, hout, hbel, hnn⟩ := hrel
              obtain ⟨wo, hwo⟩ : ∃ wo, wo = wr := ⟨_, rfl⟩
              subst hwo
              have HOT := Lib.hid hout.out
              have HBA := Lib.hid hbel.out
              have HNN := Lib.hid hnn.out
              clear hout hbel hnn
              have Rwo_0 := Lib.hid (show wo.heap[w.heap.size]? = some (.cells #[.int .i64 k, .int .i64 n, .string S, .slice A1 l1 c1, .slice A2 m1 c2] 25 (0, 0)) from (HBA.out.block _ (by have := HLA.out; omega)).trans HRA0.out)
              have Rwo_1 := Lib.hid (show wo.heap[w.heap.size + 1]? = some (.cells #[.int .i64 pk, .int .i64 pn, .string PS, .slice B1 pl e1, .slice B2 pm e2] 25 (0, 0)) from (HBA.out.block _ (by have := HLA.out; omega)).trans HRA1.out)
              have HBwo := Lib.hid (show Below w.heap.size w wo from HBWA.out.trans (HBA.out.mono (by have := HLA.out; omega)))
              by_cases hlt : ii < m1
              · have t1 : decide ((ii : Int) < (m1 : Int)) = true := decide_eq_true (by omega)
                have t2 : decide (ii < m1) = true := decide_eq_true hlt
                have k0 : (0 : Int) ≤ (ii : Int) := by omega
                have k1 : (ii : Int) < (m1 : Int) := by omega
                have k2 : ((ii : Int)).toNat = ii := by omega
                have HLT := Lib.hid hlt
                have hm1 := HM1.out
                have hkd : ii < dv.length := by rw [HDL.out]; exact hlt
                have hnm9 := HNS.out ii hkd
                have hsucc := rwP_succ hkd
                have hnn2 : dv[ii].k ≠ 1 → ∀ j (h : j < dv.length), j < ii + 1 → dv[j].k ≠ 1 := fun h0 j h hj => by
                  by_cases e : j = ii
                  · subst e; exact h0
                  · exact HNN.out j h (by omega)
                obtain ⟨g, off, rfl, hgw, hcl⟩ := HDR.out (by omega)
                have HGW := Lib.hid (show g < w.heap.size from hgw)
                have hc0 := hcl ii hkd
                obtain ⟨m, hm⟩ : ∃ m, dv[ii]'hkd = m := ⟨_, rfl⟩
                rw [hm] at hc0 hnm9 hsucc hnn2
                obtain ⟨qq, qk, qn, qS, qA, ql, qc, qB, qm, qd⟩ := m
                simp only [M6At] at hc0
                simp only [m6tail] at hsucc
                simp only at hnm9 hnn2
                have HNM0 := Lib.hid (fun (W : World) => name_any qq hnm9 W)
                obtain ⟨ZN, hZN⟩ : ∃ z, strOf (esc qq) = z := ⟨_, rfl⟩
                rw [hZN] at HNM0 hsucc
                obtain ⟨QN, hQN⟩ : ∃ z, strOf qq = z := ⟨_, rfl⟩
                rw [hQN] at HNM0 hc0
                have HNM := Lib.hid HNM0.out
                have hcw : Six wo g (off + ii * 6) (.string QN) (.int .i64 qk) (.int .i64 qn) (.string qS) (.slice qA ql qc) (.slice qB qm qd) := Six.keep (w := w) hc0 (fun i => HBwo.out.cell (p := ⟨g, i, none⟩) hgw)
                have HCW := Lib.hid hcw
                have HSUC := Lib.hid hsucc
                have HNN2 := Lib.hid hnn2
                obtain ⟨A, c, ho1, ho2⟩ := HOT.out
                obtain ⟨rows, hrows⟩ : ∃ r, rwP (dv.take ii) = r := ⟨_, rfl⟩
                rw [hrows] at ho1 ho2
                obtain ⟨N, hN⟩ : ∃ N, rows.length = N := ⟨_, rfl⟩
                rw [hN] at ho1 ho2
                have HNR := Lib.hid hN
                have HROWS := Lib.hid hrows
                have HR1 := Lib.hid ho1
                have HO2 := Lib.hid ho2
                have hNii : N ≤ m1 := by
                  have : N = ii := by rw [← hN, ← hrows]; exact rwP_len (Nat.le_of_lt hkd)
                  omega
                obtain ⟨a0, a1, a2, a3, a4, a5⟩ := hcw
                have HBB := Lib.hid (show b < wo.heap.size from (Array.getElem?_eq_some_iff.1 ho1).1)
                have HEL := Lib.hid (show w.heap.size ≤ b by have := HLA.out; omega)
                have HEB := Lib.hid (show w.heap.size < wo.heap.size by have := HBB.out; have := HLA.out; omega)
                have HGL := Lib.hid (show g ≤ b by have := HGW.out; have := HLA.out; omega)
                have HGB := Lib.hid (show g < wo.heap.size by have := HBB.out; have := HGL.out; omega)
                have HEN := Lib.hid (show w.heap.size ≠ b by have := HLA.out; omega)
                have HGN := Lib.hid (show g ≠ b by have := HGW.out; have := HLA.out; omega)
                clear hgw hcl hc0 hm hZN hQN hsucc hnn2 hnm9 hkd hlt HNM0 hrows hN ho2
                obtain ⟨⟨p0_0, p0_1, p0_2, p0_3, p0_4⟩, -⟩ := row5 Rwo_0.out
                obtain ⟨⟨p1_0, p1_1, p1_2, p1_3, p1_4⟩, -⟩ := row5 Rwo_1.out
                clear ho1
                by_cases hq1 : qk = 1
                · have u1 : (qk == 1) = true := beq_iff_eq.2 hq1
                  clear hq1
                  go_wp2
                  go_ret
                  exact ⟨rfl, HBwo.out⟩
                · have u1 : (qk == 1) = false := beq_eq_false_iff_ne.2 hq1
                  have HNN3 := Lib.hid (HNN2.out hq1)
                  clear hq1
                  go_wp2_with fail
                  clear p0_0 p0_1 p0_2 p0_3 p0_4 p1_0 p1_1 p1_2 p1_3 p1_4 a0 a1 a2 a3 a4 a5
                  have HS := Lib.hid (show SV wo (w.heap.size) (.cells #[.int .i64 k, .int .i64 n, .string S, .slice A1 l1 c1, .slice (some ⟨g, off, none⟩) m1 c2] 25 (0, 0)) g (off + ii * 6) (.string QN) (.int .i64 qk) (.int .i64 qn) (.string qS) (.slice qA ql qc) (.slice qB qm qd) from ⟨Rwo_0.out, HCW.out⟩)
                  have x3w := (row5 HR1.out).1.2.2.2.2
                  have hi0 := I0.out
                  have hz0 := I1.out
                  have hz1 := I2.out
                  have hz2 := I3.out
                  refine wp_region_held_drew (S := fun W' => SV W' (w.heap.size) (.cells #[.int .i64 k, .int .i64 n, .string S, .slice A1 l1 c1, .slice (some ⟨g, off, none⟩) m1 c2] 25 (0, 0)) g (off + ii * 6) (.string QN) (.int .i64 qk) (.int .i64 qn) (.string qS) (.slice qA ql qc) (.slice qB qm qd)) (by kernel_rfl) (HS.out) (fun hHeld => ?_)
                  refine wpAnyH_take (i := 0) (oi := { dst := some 55, op := Op.fieldAddr 25 (Operand.tmp 5) 4, type := 0, pos := "law.go:118", after := #[], guard := none }) (v := ?_) rfl (by kernel_rfl) (by kernel_rfl) (by kernel_rfl) (fun _ _ _ h => h) (Or.inl ⟨by rfl, ?_⟩) hHeld ?_
                  rotate_left
                  · intro w hSw; (try dsimp only at hSw); go_simp; with_reducible rfl
                  try simp only [Act.put, List.setIfInBounds_toArray, List.set_cons_zero, List.set_cons_succ]
                  refine wpAnyH_take (i := 2) (oi := { dst := some 57, op := Op.fieldAddr 25 (Operand.tmp 2) 4, type := 0, pos := "law.go:118", after := #[], guard := none }) (v := ?_) rfl (by kernel_rfl) (by kernel_rfl) (by kernel_rfl) (fun _ _ _ h => h) (Or.inl ⟨by rfl, ?_⟩) hHeld ?_
                  rotate_left
                  · intro w hSw; (try dsimp only at hSw); go_simp; with_reducible rfl
                  try simp only [Act.put, List.setIfInBounds_toArray, List.set_cons_zero, List.set_cons_succ]
                  refine wpAnyH_take (i := 3) (oi := { dst := some 58, op := Op.load 23 (Operand.tmp 57), type := 23, pos := "law.go:118", after := #[{ on := 2, ground := Ground.data }], guard := none }) (v := ?_) rfl (by kernel_rfl) (by kernel_rfl) (by kernel_rfl) (fun _ _ _ h => h) (Or.inl ⟨by rfl, ?_⟩) hHeld ?_
                  rotate_left
                  · intro w hSw; (try dsimp only at hSw); obtain ⟨⟨p0, p1, p2, p3, p4⟩, -⟩ := row5 hSw.1; go_simp; with_reducible rfl
                  try simp only [Act.put, List.setIfInBounds_toArray, List.set_cons_zero, List.set_cons_succ]
                  refine wpAnyH_take (i := 4) (oi := { dst := some 59, op := Op.move (Operand.tmp 6), type := 3, pos := "law.go:118", after := #[], guard := none }) (v := ?_) rfl (by kernel_rfl) (by kernel_rfl) (by kernel_rfl) (fun _ _ _ h => h) (Or.inl ⟨by rfl, ?_⟩) hHeld ?_
                  rotate_left
                  · intro w hSw; (try dsimp only at hSw); go_simp; with_reducible rfl
                  try simp only [Act.put, List.setIfInBounds_toArray, List.set_cons_zero, List.set_cons_succ]
                  refine wpAnyH_take (i := 5) (oi := { dst := some 60, op := Op.indexAddr 23 (Operand.tmp 58) (Operand.tmp 59), type := 0, pos := "law.go:118", after := #[{ on := 3, ground := Ground.data }, { on := 4, ground := Ground.data }], guard := none }) (v := ?_) rfl (by kernel_rfl) (by kernel_rfl) (by kernel_rfl) (fun _ _ _ h => h) (Or.inl ⟨by rfl, ?_⟩) hHeld ?_
                  rotate_left
                  · intro w hSw; (try dsimp only at hSw); go_simp; with_reducible rfl
                  try simp only [Act.put, List.setIfInBounds_toArray, List.set_cons_zero, List.set_cons_succ]
                  refine wpAnyH_take (i := 6) (oi := { dst := some 61, op := Op.fieldAddr 35 (Operand.tmp 60) 0, type := 0, pos := "law.go:118", after := #[{ on := 5, ground := Ground.data }], guard := none }) (v := ?_) rfl (by kernel_rfl) (by kernel_rfl) (by kernel_rfl) (fun _ _ _ h => h) (Or.inl ⟨by rfl, ?_⟩) hHeld ?_
                  rotate_left
                  · intro w hSw; (try dsimp only at hSw); go_simp; with_reducible rfl
                  try simp only [Act.put, List.setIfInBounds_toArray, List.set_cons_zero, List.set_cons_succ]
                  refine wpAnyH_take (i := 7) (oi := { dst := some 62, op := Op.load 9 (Operand.tmp 61), type := 9, pos := "law.go:118", after := #[{ on := 6, ground := Ground.data }], guard := none }) (v := ?_) rfl (by kernel_rfl) (by kernel_rfl) (by kernel_rfl) (fun _ _ _ h => h) (Or.inl ⟨by rfl, ?_⟩) hHeld ?_
                  rotate_left
                  · intro w hSw; (try dsimp only at hSw); obtain ⟨a0, a1, a2, a3, a4, a5⟩ := hSw.2; go_simp; with_reducible rfl
                  try simp only [Act.put, List.setIfInBounds_toArray, List.set_cons_zero, List.set_cons_succ]
                  refine wpAnyH_take (i := 9) (oi := { dst := some 64, op := Op.fieldAddr 25 (Operand.tmp 2) 4, type := 0, pos := "law.go:118", after := #[], guard := none }) (v := ?_) rfl (by kernel_rfl) (by kernel_rfl) (by kernel_rfl) (fun _ _ _ h => h) (Or.inl ⟨by rfl, ?_⟩) hHeld ?_
                  rotate_left
                  · intro w hSw; (try dsimp only at hSw); go_simp; with_reducible rfl
                  try simp only [Act.put, List.setIfInBounds_toArray, List.set_cons_zero, List.set_cons_succ]
                  refine wpAnyH_take (i := 10) (oi := { dst := some 65, op := Op.load 23 (Operand.tmp 64), type := 23, pos := "law.go:118", after := #[{ on := 9, ground := Ground.data }], guard := none }) (v := ?_) rfl (by kernel_rfl) (by kernel_rfl) (by kernel_rfl) (fun _ _ _ h => h) (Or.inl ⟨by rfl, ?_⟩) hHeld ?_
                  rotate_left
                  · intro w hSw; (try dsimp only at hSw); obtain ⟨⟨p0, p1, p2, p3, p4⟩, -⟩ := row5 hSw.1; go_simp; with_reducible rfl
                  try simp only [Act.put, List.setIfInBounds_toArray, List.set_cons_zero, List.set_cons_succ]
                  refine wpAnyH_take (i := 11) (oi := { dst := some 66, op := Op.move (Operand.tmp 6), type := 3, pos := "law.go:118", after := #[], guard := none }) (v := ?_) rfl (by kernel_rfl) (by kernel_rfl) (by kernel_rfl) (fun _ _ _ h => h) (Or.inl ⟨by rfl, ?_⟩) hHeld ?_
                  rotate_left
                  · intro w hSw; (try dsimp only at hSw); go_simp; with_reducible rfl
                  try simp only [Act.put, List.setIfInBounds_toArray, List.set_cons_zero, List.set_cons_succ]
                  refine wpAnyH_take (i := 12) (oi := { dst := some 67, op := Op.indexAddr 23 (Operand.tmp 65) (Operand.tmp 66), type := 0, pos := "law.go:118", after := #[{ on := 10, ground := Ground.data }, { on := 11, ground := Ground.data }], guard := none }) (v := ?_) rfl (by kernel_rfl) (by kernel_rfl) (by kernel_rfl) (fun _ _ _ h => h) (Or.inl ⟨by rfl, ?_⟩) hHeld ?_
                  rotate_left
                  · intro w hSw; (try dsimp only at hSw); go_simp; with_reducible rfl
                  try simp only [Act.put, List.setIfInBounds_toArray, List.set_cons_zero, List.set_cons_succ]
                  refine wpAnyH_take (i := 13) (oi := { dst := some 68, op := Op.fieldAddr 35 (Operand.tmp 67) 1, type := 0, pos := "law.go:118", after := #[{ on := 12, ground := Ground.data }], guard := none }) (v := ?_) rfl (by kernel_rfl) (by kernel_rfl) (by kernel_rfl) (fun _ _ _ h => h) (Or.inl ⟨by rfl, ?_⟩) hHeld ?_
                  rotate_left
                  · intro w hSw; (try dsimp only at hSw); go_simp; with_reducible rfl
                  try simp only [Act.put, List.setIfInBounds_toArray, List.set_cons_zero, List.set_cons_succ]
                  refine wpAnyH_take (i := 14) (oi := { dst := some 69, op := Op.load 25 (Operand.tmp 68), type := 25, pos := "law.go:118", after := #[{ on := 13, ground := Ground.data }], guard := none }) (v := ?_) rfl (by kernel_rfl) (by kernel_rfl) (by kernel_rfl) (fun _ _ _ h => h) (Or.inl ⟨by rfl, ?_⟩) hHeld ?_
                  rotate_left
                  · intro w hSw; (try dsimp only at hSw); obtain ⟨a0, a1, a2, a3, a4, a5⟩ := hSw.2; have b2 : w.cell? ⟨g, off + ii * 6 + 1 + 1, none⟩ = some (.int .i64 qn) := a2; have b3 : w.cell? ⟨g, off + ii * 6 + 1 + 2, none⟩ = some (.string qS) := a3; have b4 : w.cell? ⟨g, off + ii * 6 + 1 + 3, none⟩ = some (.slice qA ql qc) := a4; have b5 : w.cell? ⟨g, off + ii * 6 + 1 + 4, none⟩ = some (.slice qB qm qd) := a5; go_simp; with_reducible rfl
                  try simp only [Act.put, List.setIfInBounds_toArray, List.set_cons_zero, List.set_cons_succ]
                  refine wpAnyH_ready (rs := [1, 8]) (by kernel_rfl) (by simp) ?_
                  refine AllReadyH.cons (o := { dst := some 56, op := Op.load 23 (Operand.tmp 55), type := 23, pos := "law.go:118", after := #[{ on := 0, ground := Ground.data }], guard := none }) rfl (fun K hK => ?_) (AllReadyH.cons (o := { dst := some 63, op := Op.call { callee := Callee.value (Operand.func 13), args := #[Operand.tmp 62], argTypes := #[9] }, type := 9, pos := "law.go:118", after := #[{ on := 7, ground := Ground.data }], guard := none }) rfl (fun K hK => ?_) AllReadyH.nil)
                  · go_simp
                    refine hK.out _ _ (hHeld) (fun hHeld => ?_)
                    clear hK K
                    try simp only [Act.put, List.setIfInBounds_toArray, List.set_cons_zero, List.set_cons_succ]
                    refine wpAnyH_ready (rs := [8]) (by kernel_rfl) (by simp) ?_
                    refine AllReadyH.cons (o := { dst := some 63, op := Op.call { callee := Callee.value (Operand.func 13), args := #[Operand.tmp 62], argTypes := #[9] }, type := 9, pos := "law.go:118", after := #[{ on := 7, ground := Ground.data }], guard := none }) rfl (fun K hK => ?_) AllReadyH.nil
                    go_simp
                    go_at_call 13
                    refine (HNM.out _).mono ?_
                    rintro e w3 ⟨rfl, hb3⟩
                    have HB3 := Lib.hid (show Below wo.heap.size wo w3 from (Below.drew (Below.refl wo.heap.size wo)).trans hb3)
                    clear hb3
                    have hr3 := (HB3.out.block b HBB.out).trans HR1.out
                    have x3w := (row5 hr3).1.2.2.2.2
                    have hown3 := own_below HO2.out HB3.out
                    have hS3 : SV w3 (w.heap.size) (.cells #[.int .i64 k, .int .i64 n, .string S, .slice A1 l1 c1, .slice (some ⟨g, off, none⟩) m1 c2] 25 (0, 0)) g (off + ii * 6) (.string QN) (.int .i64 qk) (.int .i64 qn) (.string qS) (.slice qA ql qc) (.slice qB qm qd) := HS.out.keep (HB3.out.block _ HEB.out) (HB3.out.block _ HGB.out)
                    refine hK.out _ _ (hS3) (fun hHeld => ?_)
                    clear hK K
                    try simp only [Act.put, List.setIfInBounds_toArray, List.set_cons_zero, List.set_cons_succ]
                    refine wpAnyH_take (i := 15) (oi := { dst := some 70, op := Op.build 35 #[(0, Operand.tmp 63), (1, Operand.tmp 69)], type := 35, pos := "law.go:118", after := #[{ on := 8, ground := Ground.data }, { on := 14, ground := Ground.data }], guard := none }) (v := ?_) rfl (by kernel_rfl) (by kernel_rfl) (by kernel_rfl) (fun _ _ _ h => h) (Or.inl ⟨by rfl, ?_⟩) hHeld ?_
                    rotate_left
                    · intro w hSw; (try dsimp only at hSw); go_simp; with_reducible rfl
                    try simp only [Act.put, List.setIfInBounds_toArray, List.set_cons_zero, List.set_cons_succ]
                    refine wpAnyH_ready (rs := [16]) (by kernel_rfl) (by simp) ?_
                    refine AllReadyH.cons (o := { dst := some 71, op := Op.buildSlice 23 1 #[(0, Operand.tmp 70)], type := 23, pos := "law.go:118", after := #[{ on := 15, ground := Ground.data }], guard := none }) rfl (fun K hK => ?_) AllReadyH.nil
                    go_simp
                    refine hK.out _ _ (hS3.keep (Below.heap_alloc w3 _ _ (by have := HEB.out; have := HB3.out.size; omega)) (Below.heap_alloc w3 _ _ (by have := HGB.out; have := HB3.out.size; omega))) (fun hHeld => ?_)
                    clear hK K
                    try simp only [Act.put, List.setIfInBounds_toArray, List.set_cons_zero, List.set_cons_succ]
                    have x3b := (row5 (heapOld hr3 (.cells #[.string ZN, .int .i64 qk, .int .i64 qn, .string qS, .slice qA ql qc, .slice qB qm qd] 35))).1.2.2.2.2
                    refine wpAnyH_ready (rs := [17]) (by kernel_rfl) (by simp) ?_
                    refine AllReadyH.cons (o := { dst := some 72, op := Op.call { callee := Callee.builtin Builtin.append, args := #[Operand.tmp 56, Operand.tmp 71], argTypes := #[23, 23] }, type := 23, pos := "law.go:118", after := #[{ on := 1, ground := Ground.data }, { on := 16, ground := Ground.data }, { on := 8, ground := Ground.chain }], guard := none }) rfl (fun K hK => ?_) AllReadyH.nil
                    refine step_append_lies _ (by rfl) _ _ _ (by rfl) (b + 1) 35 i0 _ 6 96 Tryz.underlying23 hi0 hz0 hz1 hz2 (by rfl) (by omega) (.slice A N c) N rows.flatten (by rfl) (hown3.alloc _) ⟨w3.heap.size, 0, none⟩ 1 1 [.string ZN, .int .i64 qk, .int .i64 qn, .string qS, .slice qA ql qc, .slice qB qm qd] (by rfl) (by rfl) (World.news_of_block (cs := #[.string ZN, .int .i64 qk, .int .i64 qn, .string qS, .slice qA ql qc, .slice qB qm qd]) (t := 35) (fr := (0, 0)) (heapNew w3 _)) (by simp [Value.oneCell']) (by omega) (by unfold maxLen; omega) (by omega) (by have := HB3.out.size; have := HBB.out; simp; omega) (w3.heap.size + 1) (by simp) ?_
                    intro g2 cap w4 hown4 hg4 hat hlt4
                    obtain ⟨hr4, hout4, hbel4⟩ := out_step (Wb := wa) (wp := w3.alloc (.cells #[.string ZN, .int .i64 qk, .int .i64 qn, .string qS, .slice qA ql qc, .slice qB qm qd] 35)) (w1 := w4) (b := b) (rows := rows) (row := [.string ZN, .int .i64 qk, .int .i64 qn, .string qS, .slice qA ql qc, .slice qB qm qd]) HNR.out (heapOld hr3 _) (hown3.alloc _) ((HBA.out.trans (HB3.out.mono (Nat.le_of_lt HBB.out))).alloc (by have := HB3.out.size; have := HBB.out; omega) _) hg4 hown4
                    have x3w := (row5 hr4).1.2.2.2.2
                    have f3w := (row5 hr4).2.2.2.2.2
                    have hne4 : ∀ k, k ≤ b → some k ≠ (Value.slice A N c).ownBlock := fun k hk e => by have := (hown3.lt k e.symm).1; omega
                    have hS4 : SV w4 (w.heap.size) (.cells #[.int .i64 k, .int .i64 n, .string S, .slice A1 l1 c1, .slice (some ⟨g, off, none⟩) m1 c2] 25 (0, 0)) g (off + ii * 6) (.string QN) (.int .i64 qk) (.int .i64 qn) (.string qS) (.slice qA ql qc) (.slice qB qm qd) := HS.out.keep ((hg4.block _ (by have := HEB.out; have := HB3.out.size; simp; omega) (hne4 _ HEL.out)).trans ((Below.heap_alloc w3 _ _ (by have := HEB.out; have := HB3.out.size; omega)).trans (HB3.out.block _ HEB.out))) ((hg4.block _ (by have := HGB.out; have := HB3.out.size; simp; omega) (hne4 _ HGL.out)).trans ((Below.heap_alloc w3 _ _ (by have := HGB.out; have := HB3.out.size; omega)).trans (HB3.out.block _ HGB.out)))
                    have hSb : SV w4 (w.heap.size) (.cells #[.int .i64 k, .int .i64 n, .string S, .slice A1 l1 c1, .slice (some ⟨g, off, none⟩) m1 c2] 25 (0, 0)) g (off + ii * 6) (.string QN) (.int .i64 qk) (.int .i64 qn) (.string qS) (.slice qA ql qc) (.slice qB qm qd) := hS4
                    refine hK.out _ _ (hS4) (fun hHeld => ?_)
                    clear hK K
                    try simp only [Act.put, List.setIfInBounds_toArray, List.set_cons_zero, List.set_cons_succ]
                    refine wpAnyH_take (i := 18) (oi := { dst := some 73, op := Op.fieldAddr 25 (Operand.tmp 5) 4, type := 0, pos := "law.go:118", after := #[{ on := 0, ground := Ground.phase }, { on := 1, ground := Ground.phase }, { on := 2, ground := Ground.phase }, { on := 3, ground := Ground.phase }, { on := 4, ground := Ground.phase }, { on := 5, ground := Ground.phase }, { on := 6, ground := Ground.phase }, { on := 7, ground := Ground.phase }, { on := 8, ground := Ground.phase }, { on := 9, ground := Ground.phase }, { on := 10, ground := Ground.phase }, { on := 11, ground := Ground.phase }, { on := 12, ground := Ground.phase }, { on := 13, ground := Ground.phase }, { on := 14, ground := Ground.phase }, { on := 15, ground := Ground.phase }, { on := 16, ground := Ground.phase }, { on := 17, ground := Ground.phase }], guard := none }) (v := ?_) rfl (by kernel_rfl) (by kernel_rfl) (by kernel_rfl) (fun _ _ _ h => h) (Or.inl ⟨by rfl, ?_⟩) hHeld ?_
                    rotate_left
                    · intro w hSw; (try dsimp only at hSw); go_simp; with_reducible rfl
                    try simp only [Act.put, List.setIfInBounds_toArray, List.set_cons_zero, List.set_cons_succ]
                    refine wpAnyH_ready (rs := [19]) (by kernel_rfl) (by simp) ?_
                    refine AllReadyH.cons (o := { dst := none, op := Op.store 23 (Operand.tmp 73) (Operand.tmp 72), type := 0, pos := "law.go:118", after := #[{ on := 18, ground := Ground.data }, { on := 17, ground := Ground.data }, { on := 17, ground := Ground.chain }, { on := 0, ground := Ground.phase }, { on := 1, ground := Ground.phase }, { on := 2, ground := Ground.phase }, { on := 3, ground := Ground.phase }, { on := 4, ground := Ground.phase }, { on := 5, ground := Ground.phase }, { on := 6, ground := Ground.phase }, { on := 7, ground := Ground.phase }, { on := 8, ground := Ground.phase }, { on := 9, ground := Ground.phase }, { on := 10, ground := Ground.phase }, { on := 11, ground := Ground.phase }, { on := 12, ground := Ground.phase }, { on := 13, ground := Ground.phase }, { on := 14, ground := Ground.phase }, { on := 15, ground := Ground.phase }, { on := 16, ground := Ground.phase }, { on := 17, ground := Ground.phase }], guard := none }) rfl (fun K hK => ?_) AllReadyH.nil
                    go_simp
                    refine hK.out _ _ (hS4.keep (Below.heap_setCell w4 ⟨b, 4, none⟩ _ _ HEN.out) (Below.heap_setCell w4 ⟨b, 4, none⟩ _ _ HGN.out)) (fun hHeld => ?_)
                    clear hK K
                    try simp only [Act.put, List.setIfInBounds_toArray, List.set_cons_zero, List.set_cons_succ]
                    refine wpAnyH_done (by kernel_rfl) ?_ _
                    clear hHeld
                    obtain ⟨w5, hw5⟩ : ∃ w5, w5 = w4.setCell ⟨b, 4, none⟩ (.slice (some ⟨g2, 0, none⟩) (N + 1) cap) := ⟨_, rfl⟩
                    rw [← hw5] at hout4 hbel4
                    rw [← hw5]
                    have HOUT5 := Lib.hid hout4
                    have HBL5 := Lib.hid hbel4
                    clear hw5 hout4 hbel4 hr4 hown4 hg4 hat hlt4 hr3 x3w f3w hown3 hS3 hS4 hSb hne4
                    go_wp2_with fail
                    go_roundw
                    case rel => exact ⟨ii + 1, by go_num, by have := HLT.out; omega, (show OutAt _ _ _ from by rw [HSUC.out, HROWS.out]; exact HOUT5.out), (show Below _ _ _ from HBL5.out), (show ∀ _ _, _ → _ from HNN3.out)⟩
                    case measure => have := HLT.out; simp [intOf]; omega
                  · go_simp
                    go_at_call 13
                    refine (HNM.out _).mono ?_
                    rintro e w3 ⟨rfl, hb3⟩
                    have HB3 := Lib.hid (show Below wo.heap.size wo w3 from (Below.drew (Below.refl wo.heap.size wo)).trans hb3)
                    clear hb3
                    have hr3 := (HB3.out.block b HBB.out).trans HR1.out
                    have x3w := (row5 hr3).1.2.2.2.2
                    have hown3 := own_below HO2.out HB3.out
                    have hS3 : SV w3 (w.heap.size) (.cells #[.int .i64 k, .int .i64 n, .string S, .slice A1 l1 c1, .slice (some ⟨g, off, none⟩) m1 c2] 25 (0, 0)) g (off + ii * 6) (.string QN) (.int .i64 qk) (.int .i64 qn) (.string qS) (.slice qA ql qc) (.slice qB qm qd) := HS.out.keep (HB3.out.block _ HEB.out) (HB3.out.block _ HGB.out)
                    refine hK.out _ _ (hS3) (fun hHeld => ?_)
                    clear hK K
                    try simp only [Act.put, List.setIfInBounds_toArray, List.set_cons_zero, List.set_cons_succ]
                    refine wpAnyH_take (i := 15) (oi := { dst := some 70, op := Op.build 35 #[(0, Operand.tmp 63), (1, Operand.tmp 69)], type := 35, pos := "law.go:118", after := #[{ on := 8, ground := Ground.data }, { on := 14, ground := Ground.data }], guard := none }) (v := ?_) rfl (by kernel_rfl) (by kernel_rfl) (by kernel_rfl) (fun _ _ _ h => h) (Or.inl ⟨by rfl, ?_⟩) hHeld ?_
                    rotate_left
                    · intro w hSw; (try dsimp only at hSw); go_simp; with_reducible rfl
                    try simp only [Act.put, List.setIfInBounds_toArray, List.set_cons_zero, List.set_cons_succ]
                    refine wpAnyH_ready (rs := [1, 16]) (by kernel_rfl) (by simp) ?_
                    refine AllReadyH.cons (o := { dst := some 56, op := Op.load 23 (Operand.tmp 55), type := 23, pos := "law.go:118", after := #[{ on := 0, ground := Ground.data }], guard := none }) rfl (fun K hK => ?_) (AllReadyH.cons (o := { dst := some 71, op := Op.buildSlice 23 1 #[(0, Operand.tmp 70)], type := 23, pos := "law.go:118", after := #[{ on := 15, ground := Ground.data }], guard := none }) rfl (fun K hK => ?_) AllReadyH.nil)
                    · go_simp
                      refine hK.out _ _ (hHeld) (fun hHeld => ?_)
                      clear hK K
                      try simp only [Act.put, List.setIfInBounds_toArray, List.set_cons_zero, List.set_cons_succ]
                      refine wpAnyH_ready (rs := [16]) (by kernel_rfl) (by simp) ?_
                      refine AllReadyH.cons (o := { dst := some 71, op := Op.buildSlice 23 1 #[(0, Operand.tmp 70)], type := 23, pos := "law.go:118", after := #[{ on := 15, ground := Ground.data }], guard := none }) rfl (fun K hK => ?_) AllReadyH.nil
                      go_simp
                      refine hK.out _ _ (hS3.keep (Below.heap_alloc w3 _ _ (by have := HEB.out; have := HB3.out.size; omega)) (Below.heap_alloc w3 _ _ (by have := HGB.out; have := HB3.out.size; omega))) (fun hHeld => ?_)
                      clear hK K
                      try simp only [Act.put, List.setIfInBounds_toArray, List.set_cons_zero, List.set_cons_succ]
                      have x3b := (row5 (heapOld hr3 (.cells #[.string ZN, .int .i64 qk, .int .i64 qn, .string qS, .slice qA ql qc, .slice qB qm qd] 35))).1.2.2.2.2
                      refine wpAnyH_ready (rs := [17]) (by kernel_rfl) (by simp) ?_
                      refine AllReadyH.cons (o := { dst := some 72, op := Op.call { callee := Callee.builtin Builtin.append, args := #[Operand.tmp 56, Operand.tmp 71], argTypes := #[23, 23] }, type := 23, pos := "law.go:118", after := #[{ on := 1, ground := Ground.data }, { on := 16, ground := Ground.data }, { on := 8, ground := Ground.chain }], guard := none }) rfl (fun K hK => ?_) AllReadyH.nil
                      refine step_append_lies _ (by rfl) _ _ _ (by rfl) (b + 1) 35 i0 _ 6 96 Tryz.underlying23 hi0 hz0 hz1 hz2 (by rfl) (by omega) (.slice A N c) N rows.flatten (by rfl) (hown3.alloc _) ⟨w3.heap.size, 0, none⟩ 1 1 [.string ZN, .int .i64 qk, .int .i64 qn, .string qS, .slice qA ql qc, .slice qB qm qd] (by rfl) (by rfl) (World.news_of_block (cs := #[.string ZN, .int .i64 qk, .int .i64 qn, .string qS, .slice qA ql qc, .slice qB qm qd]) (t := 35) (fr := (0, 0)) (heapNew w3 _)) (by simp [Value.oneCell']) (by omega) (by unfold maxLen; omega) (by omega) (by have := HB3.out.size; have := HBB.out; simp; omega) (w3.heap.size + 1) (by simp) ?_
                      intro g2 cap w4 hown4 hg4 hat hlt4
                      obtain ⟨hr4, hout4, hbel4⟩ := out_step (Wb := wa) (wp := w3.alloc (.cells #[.string ZN, .int .i64 qk, .int .i64 qn, .string qS, .slice qA ql qc, .slice qB qm qd] 35)) (w1 := w4) (b := b) (rows := rows) (row := [.string ZN, .int .i64 qk, .int .i64 qn, .string qS, .slice qA ql qc, .slice qB qm qd]) HNR.out (heapOld hr3 _) (hown3.alloc _) ((HBA.out.trans (HB3.out.mono (Nat.le_of_lt HBB.out))).alloc (by have := HB3.out.size; have := HBB.out; omega) _) hg4 hown4
                      have x3w := (row5 hr4).1.2.2.2.2
                      have f3w := (row5 hr4).2.2.2.2.2
                      have hne4 : ∀ k, k ≤ b → some k ≠ (Value.slice A N c).ownBlock := fun k hk e => by have := (hown3.lt k e.symm).1; omega
                      have hS4 : SV w4 (w.heap.size) (.cells #[.int .i64 k, .int .i64 n, .string S, .slice A1 l1 c1, .slice (some ⟨g, off, none⟩) m1 c2] 25 (0, 0)) g (off + ii * 6) (.string QN) (.int .i64 qk) (.int .i64 qn) (.string qS) (.slice qA ql qc) (.slice qB qm qd) := HS.out.keep ((hg4.block _ (by have := HEB.out; have := HB3.out.size; simp; omega) (hne4 _ HEL.out)).trans ((Below.heap_alloc w3 _ _ (by have := HEB.out; have := HB3.out.size; omega)).trans (HB3.out.block _ HEB.out))) ((hg4.block _ (by have := HGB.out; have := HB3.out.size; simp; omega) (hne4 _ HGL.out)).trans ((Below.heap_alloc w3 _ _ (by have := HGB.out; have := HB3.out.size; omega)).trans (HB3.out.block _ HGB.out)))
                      have hSb : SV w4 (w.heap.size) (.cells #[.int .i64 k, .int .i64 n, .string S, .slice A1 l1 c1, .slice (some ⟨g, off, none⟩) m1 c2] 25 (0, 0)) g (off + ii * 6) (.string QN) (.int .i64 qk) (.int .i64 qn) (.string qS) (.slice qA ql qc) (.slice qB qm qd) := hS4
                      refine hK.out _ _ (hS4) (fun hHeld => ?_)
                      clear hK K
                      try simp only [Act.put, List.setIfInBounds_toArray, List.set_cons_zero, List.set_cons_succ]
                      refine wpAnyH_take (i := 18) (oi := { dst := some 73, op := Op.fieldAddr 25 (Operand.tmp 5) 4, type := 0, pos := "law.go:118", after := #[{ on := 0, ground := Ground.phase }, { on := 1, ground := Ground.phase }, { on := 2, ground := Ground.phase }, { on := 3, ground := Ground.phase }, { on := 4, ground := Ground.phase }, { on := 5, ground := Ground.phase }, { on := 6, ground := Ground.phase }, { on := 7, ground := Ground.phase }, { on := 8, ground := Ground.phase }, { on := 9, ground := Ground.phase }, { on := 10, ground := Ground.phase }, { on := 11, ground := Ground.phase }, { on := 12, ground := Ground.phase }, { on := 13, ground := Ground.phase }, { on := 14, ground := Ground.phase }, { on := 15, ground := Ground.phase }, { on := 16, ground := Ground.phase }, { on := 17, ground := Ground.phase }], guard := none }) (v := ?_) rfl (by kernel_rfl) (by kernel_rfl) (by kernel_rfl) (fun _ _ _ h => h) (Or.inl ⟨by rfl, ?_⟩) hHeld ?_
                      rotate_left
                      · intro w hSw; (try dsimp only at hSw); go_simp; with_reducible rfl
                      try simp only [Act.put, List.setIfInBounds_toArray, List.set_cons_zero, List.set_cons_succ]
                      refine wpAnyH_ready (rs := [19]) (by kernel_rfl) (by simp) ?_
                      refine AllReadyH.cons (o := { dst := none, op := Op.store 23 (Operand.tmp 73) (Operand.tmp 72), type := 0, pos := "law.go:118", after := #[{ on := 18, ground := Ground.data }, { on := 17, ground := Ground.data }, { on := 17, ground := Ground.chain }, { on := 0, ground := Ground.phase }, { on := 1, ground := Ground.phase }, { on := 2, ground := Ground.phase }, { on := 3, ground := Ground.phase }, { on := 4, ground := Ground.phase }, { on := 5, ground := Ground.phase }, { on := 6, ground := Ground.phase }, { on := 7, ground := Ground.phase }, { on := 8, ground := Ground.phase }, { on := 9, ground := Ground.phase }, { on := 10, ground := Ground.phase }, { on := 11, ground := Ground.phase }, { on := 12, ground := Ground.phase }, { on := 13, ground := Ground.phase }, { on := 14, ground := Ground.phase }, { on := 15, ground := Ground.phase }, { on := 16, ground := Ground.phase }, { on := 17, ground := Ground.phase }], guard := none }) rfl (fun K hK => ?_) AllReadyH.nil
                      go_simp
                      refine hK.out _ _ (hS4.keep (Below.heap_setCell w4 ⟨b, 4, none⟩ _ _ HEN.out) (Below.heap_setCell w4 ⟨b, 4, none⟩ _ _ HGN.out)) (fun hHeld => ?_)
                      clear hK K
                      try simp only [Act.put, List.setIfInBounds_toArray, List.set_cons_zero, List.set_cons_succ]
                      refine wpAnyH_done (by kernel_rfl) ?_ _
                      clear hHeld
                      obtain ⟨w5, hw5⟩ : ∃ w5, w5 = w4.setCell ⟨b, 4, none⟩ (.slice (some ⟨g2, 0, none⟩) (N + 1) cap) := ⟨_, rfl⟩
                      rw [← hw5] at hout4 hbel4
                      rw [← hw5]
                      have HOUT5 := Lib.hid hout4
                      have HBL5 := Lib.hid hbel4
                      clear hw5 hout4 hbel4 hr4 hown4 hg4 hat hlt4 hr3 x3w f3w hown3 hS3 hS4 hSb hne4
                      go_wp2_with fail
                      go_roundw
                      case rel => exact ⟨ii + 1, by go_num, by have := HLT.out; omega, (show OutAt _ _ _ from by rw [HSUC.out, HROWS.out]; exact HOUT5.out), (show Below _ _ _ from HBL5.out), (show ∀ _ _, _ → _ from HNN3.out)⟩
                      case measure => have := HLT.out; simp [intOf]; omega
                    · go_simp
                      refine hK.out _ _ (hS3.keep (Below.heap_alloc w3 _ _ (by have := HEB.out; have := HB3.out.size; omega)) (Below.heap_alloc w3 _ _ (by have := HGB.out; have := HB3.out.size; omega))) (fun hHeld => ?_)
                      clear hK K
                      try simp only [Act.put, List.setIfInBounds_toArray, List.set_cons_zero, List.set_cons_succ]
                      have x3b := (row5 (heapOld hr3 (.cells #[.string ZN, .int .i64 qk, .int .i64 qn, .string qS, .slice qA ql qc, .slice qB qm qd] 35))).1.2.2.2.2
                      refine wpAnyH_ready (rs := [1]) (by kernel_rfl) (by simp) ?_
                      refine AllReadyH.cons (o := { dst := some 56, op := Op.load 23 (Operand.tmp 55), type := 23, pos := "law.go:118", after := #[{ on := 0, ground := Ground.data }], guard := none }) rfl (fun K hK => ?_) AllReadyH.nil
                      go_simp
                      refine hK.out _ _ (hHeld) (fun hHeld => ?_)
                      clear hK K
                      try simp only [Act.put, List.setIfInBounds_toArray, List.set_cons_zero, List.set_cons_succ]
                      refine wpAnyH_ready (rs := [17]) (by kernel_rfl) (by simp) ?_
                      refine AllReadyH.cons (o := { dst := some 72, op := Op.call { callee := Callee.builtin Builtin.append, args := #[Operand.tmp 56, Operand.tmp 71], argTypes := #[23, 23] }, type := 23, pos := "law.go:118", after := #[{ on := 1, ground := Ground.data }, { on := 16, ground := Ground.data }, { on := 8, ground := Ground.chain }], guard := none }) rfl (fun K hK => ?_) AllReadyH.nil
                      refine step_append_lies _ (by rfl) _ _ _ (by rfl) (b + 1) 35 i0 _ 6 96 Tryz.underlying23 hi0 hz0 hz1 hz2 (by rfl) (by omega) (.slice A N c) N rows.flatten (by rfl) (hown3.alloc _) ⟨w3.heap.size, 0, none⟩ 1 1 [.string ZN, .int .i64 qk, .int .i64 qn, .string qS, .slice qA ql qc, .slice qB qm qd] (by rfl) (by rfl) (World.news_of_block (cs := #[.string ZN, .int .i64 qk, .int .i64 qn, .string qS, .slice qA ql qc, .slice qB qm qd]) (t := 35) (fr := (0, 0)) (heapNew w3 _)) (by simp [Value.oneCell']) (by omega) (by unfold maxLen; omega) (by omega) (by have := HB3.out.size; have := HBB.out; simp; omega) (w3.heap.size + 1) (by simp) ?_
                      intro g2 cap w4 hown4 hg4 hat hlt4
                      obtain ⟨hr4, hout4, hbel4⟩ := out_step (Wb := wa) (wp := w3.alloc (.cells #[.string ZN, .int .i64 qk, .int .i64 qn, .string qS, .slice qA ql qc, .slice qB qm qd] 35)) (w1 := w4) (b := b) (rows := rows) (row := [.string ZN, .int .i64 qk, .int .i64 qn, .string qS, .slice qA ql qc, .slice qB qm qd]) HNR.out (heapOld hr3 _) (hown3.alloc _) ((HBA.out.trans (HB3.out.mono (Nat.le_of_lt HBB.out))).alloc (by have := HB3.out.size; have := HBB.out; omega) _) hg4 hown4
                      have x3w := (row5 hr4).1.2.2.2.2
                      have f3w := (row5 hr4).2.2.2.2.2
                      have hne4 : ∀ k, k ≤ b → some k ≠ (Value.slice A N c).ownBlock := fun k hk e => by have := (hown3.lt k e.symm).1; omega
                      have hS4 : SV w4 (w.heap.size) (.cells #[.int .i64 k, .int .i64 n, .string S, .slice A1 l1 c1, .slice (some ⟨g, off, none⟩) m1 c2] 25 (0, 0)) g (off + ii * 6) (.string QN) (.int .i64 qk) (.int .i64 qn) (.string qS) (.slice qA ql qc) (.slice qB qm qd) := HS.out.keep ((hg4.block _ (by have := HEB.out; have := HB3.out.size; simp; omega) (hne4 _ HEL.out)).trans ((Below.heap_alloc w3 _ _ (by have := HEB.out; have := HB3.out.size; omega)).trans (HB3.out.block _ HEB.out))) ((hg4.block _ (by have := HGB.out; have := HB3.out.size; simp; omega) (hne4 _ HGL.out)).trans ((Below.heap_alloc w3 _ _ (by have := HGB.out; have := HB3.out.size; omega)).trans (HB3.out.block _ HGB.out)))
                      have hSb : SV w4 (w.heap.size) (.cells #[.int .i64 k, .int .i64 n, .string S, .slice A1 l1 c1, .slice (some ⟨g, off, none⟩) m1 c2] 25 (0, 0)) g (off + ii * 6) (.string QN) (.int .i64 qk) (.int .i64 qn) (.string qS) (.slice qA ql qc) (.slice qB qm qd) := hS4
                      refine hK.out _ _ (hS4) (fun hHeld => ?_)
                      clear hK K
                      try simp only [Act.put, List.setIfInBounds_toArray, List.set_cons_zero, List.set_cons_succ]
                      refine wpAnyH_take (i := 18) (oi := { dst := some 73, op := Op.fieldAddr 25 (Operand.tmp 5) 4, type := 0, pos := "law.go:118", after := #[{ on := 0, ground := Ground.phase }, { on := 1, ground := Ground.phase }, { on := 2, ground := Ground.phase }, { on := 3, ground := Ground.phase }, { on := 4, ground := Ground.phase }, { on := 5, ground := Ground.phase }, { on := 6, ground := Ground.phase }, { on := 7, ground := Ground.phase }, { on := 8, ground := Ground.phase }, { on := 9, ground := Ground.phase }, { on := 10, ground := Ground.phase }, { on := 11, ground := Ground.phase }, { on := 12, ground := Ground.phase }, { on := 13, ground := Ground.phase }, { on := 14, ground := Ground.phase }, { on := 15, ground := Ground.phase }, { on := 16, ground := Ground.phase }, { on := 17, ground := Ground.phase }], guard := none }) (v := ?_) rfl (by kernel_rfl) (by kernel_rfl) (by kernel_rfl) (fun _ _ _ h => h) (Or.inl ⟨by rfl, ?_⟩) hHeld ?_
                      rotate_left
                      · intro w hSw; (try dsimp only at hSw); go_simp; with_reducible rfl
                      try simp only [Act.put, List.setIfInBounds_toArray, List.set_cons_zero, List.set_cons_succ]
                      refine wpAnyH_ready (rs := [19]) (by kernel_rfl) (by simp) ?_
                      refine AllReadyH.cons (o := { dst := none, op := Op.store 23 (Operand.tmp 73) (Operand.tmp 72), type := 0, pos := "law.go:118", after := #[{ on := 18, ground := Ground.data }, { on := 17, ground := Ground.data }, { on := 17, ground := Ground.chain }, { on := 0, ground := Ground.phase }, { on := 1, ground := Ground.phase }, { on := 2, ground := Ground.phase }, { on := 3, ground := Ground.phase }, { on := 4, ground := Ground.phase }, { on := 5, ground := Ground.phase }, { on := 6, ground := Ground.phase }, { on := 7, ground := Ground.phase }, { on := 8, ground := Ground.phase }, { on := 9, ground := Ground.phase }, { on := 10, ground := Ground.phase }, { on := 11, ground := Ground.phase }, { on := 12, ground := Ground.phase }, { on := 13, ground := Ground.phase }, { on := 14, ground := Ground.phase }, { on := 15, ground := Ground.phase }, { on := 16, ground := Ground.phase }, { on := 17, ground := Ground.phase }], guard := none }) rfl (fun K hK => ?_) AllReadyH.nil
                      go_simp
                      refine hK.out _ _ (hS4.keep (Below.heap_setCell w4 ⟨b, 4, none⟩ _ _ HEN.out) (Below.heap_setCell w4 ⟨b, 4, none⟩ _ _ HGN.out)) (fun hHeld => ?_)
                      clear hK K
                      try simp only [Act.put, List.setIfInBounds_toArray, List.set_cons_zero, List.set_cons_succ]
                      refine wpAnyH_done (by kernel_rfl) ?_ _
                      clear hHeld
                      obtain ⟨w5, hw5⟩ : ∃ w5, w5 = w4.setCell ⟨b, 4, none⟩ (.slice (some ⟨g2, 0, none⟩) (N + 1) cap) := ⟨_, rfl⟩
                      rw [← hw5] at hout4 hbel4
                      rw [← hw5]
                      have HOUT5 := Lib.hid hout4
                      have HBL5 := Lib.hid hbel4
                      clear hw5 hout4 hbel4 hr4 hown4 hg4 hat hlt4 hr3 x3w f3w hown3 hS3 hS4 hSb hne4
                      go_wp2_with fail
                      go_roundw
                      case rel => exact ⟨ii + 1, by go_num, by have := HLT.out; omega, (show OutAt _ _ _ from by rw [HSUC.out, HROWS.out]; exact HOUT5.out), (show Below _ _ _ from HBL5.out), (show ∀ _ _, _ → _ from HNN3.out)⟩
                      case measure => have := HLT.out; simp [intOf]; omega
              · have t1 : decide ((ii : Int) < (m1 : Int)) = false := decide_eq_false (by omega)
                have t2 : decide (ii < m1) = false := decide_eq_false hlt
                obtain rfl : m1 = ii := by omega
                have HNV := Lib.hid (show ∀ y ∈ v.ms, y.k ≠ 1 from fun y hy => by
                  obtain ⟨q, hq, rfl⟩ := List.getElem_of_mem hy
                  have hq2 : q < dv.length := by rw [HDV.out.1]; exact hq
                  obtain ⟨_, _, _, _, e, -⟩ := (HDV.out.2.2.2 q hq2 hq).cells
                  unfold m6tail at e
                  injection e with e _
                  injection e with _ e
                  rw [← e]
                  exact HNN.out q hq2 (by rw [← HDL.out]; exact hq2))
                have HOT1 := Lib.hid (show OutAt wo b (rwP dv ++ rwN v (dp.take 0)) by
                  have h := HOT.out
                  rw [List.take_of_length_le (by rw [HDL.out]; exact Nat.le_refl _)] at h
                  rw [List.take_zero]
                  simpa [rwN] using h)
                have HBA1 := Lib.hid HBA.out
                clear hlt hii HOT HNN
                obtain ⟨⟨p0_0, p0_1, p0_2, p0_3, p0_4⟩, -⟩ := row5 Rwo_0.out
                obtain ⟨⟨p1_0, p1_1, p1_2, p1_3, p1_4⟩, -⟩ := row5 Rwo_1.out
                go_wp2_with fail
                clear p0_0 p0_1 p0_2 p0_3 p0_4 p1_0 p1_1 p1_2 p1_3 p1_4
                clear t1 t2
                go_loopw [7] (fun si wr => ∃ jj : Nat, si = .int .i64 jj ∧ jj ≤ pm ∧ Aside (OutAt wr b (rwP dv ++ rwN v (dp.take jj))) ∧ Aside (Below b wa wr)) (fun si _ => pm - (intOf si).toNat)
                case atStart => exact ⟨0, rfl, by omega, (show OutAt _ _ _ from HOT1.out), (show Below _ _ _ from HBA1.out)⟩
                case round =>
                  obtain ⟨jj, rfl, hjj, hout, hbel⟩ := hrel
                  clear HOT1 HBA1 HBA HBwo Rwo_0 Rwo_1
                  obtain ⟨wi, hwi⟩ : ∃ wi, wi = wr := ⟨_, rfl⟩
                  subst hwi
                  have HOI := Lib.hid hout.out
                  have HBI := Lib.hid hbel.out
                  clear hout hbel
                  have Rwi_0 := Lib.hid (show wi.heap[w.heap.size]? = some (.cells #[.int .i64 k, .int .i64 n, .string S, .slice A1 l1 c1, .slice A2 m1 c2] 25 (0, 0)) from (HBI.out.block _ (by have := HLA.out; omega)).trans HRA0.out)
                  have Rwi_1 := Lib.hid (show wi.heap[w.heap.size + 1]? = some (.cells #[.int .i64 pk, .int .i64 pn, .string PS, .slice B1 pl e1, .slice B2 pm e2] 25 (0, 0)) from (HBI.out.block _ (by have := HLA.out; omega)).trans HRA1.out)
                  have HBwi := Lib.hid (show Below w.heap.size w wi from HBWA.out.trans (HBI.out.mono (by have := HLA.out; omega)))
                  by_cases hlt : jj < pm
                  · have t1 : decide ((jj : Int) < (pm : Int)) = true := decide_eq_true (by omega)
                    have t2 : decide (jj < pm) = true := decide_eq_true hlt
                    have k0 : (0 : Int) ≤ (jj : Int) := by omega
                    have k1 : (jj : Int) < (pm : Int) := by omega
                    have k2 : ((jj : Int)).toNat = jj := by omega
                    have HLT := Lib.hid hlt
                    have hm1 := HPM1.out
                    have hm2 := HM1.out
                    have hkd : jj < dp.length := by rw [HDLP.out]; exact hlt
                    have hnm9 := HNSP.out jj hkd
                    have hyes := rwN_yes (v := v) hkd
                    have hno := rwN_no (v := v) hkd
                    obtain ⟨g, off, rfl, hgw, hcl⟩ := HDRP.out (by omega)
                    have HGW := Lib.hid (show g < w.heap.size from hgw)
                    have hc0 := hcl jj hkd
                    obtain ⟨m, hm⟩ : ∃ m, dp[jj]'hkd = m := ⟨_, rfl⟩
                    rw [hm] at hc0 hnm9 hyes hno
                    obtain ⟨qq, qk, qn, qS, qA, ql, qc, qB, qm, qd⟩ := m
                    simp only [M6At] at hc0
                    simp only at hnm9 hyes hno
                    have HNM0 := Lib.hid (fun (W : World) => name_any qq hnm9 W)
                    have HHQ := Lib.hid (fun (W : World) (hW : Below w.heap.size w W) => HHAS.out qq W hW)
                    obtain ⟨ZN, hZN⟩ : ∃ z, strOf (esc qq) = z := ⟨_, rfl⟩
                    rw [hZN] at HNM0 hyes
                    obtain ⟨QN, hQN⟩ : ∃ z, strOf qq = z := ⟨_, rfl⟩
                    rw [hQN] at HNM0 hc0 HHQ
                    have HNM := Lib.hid HNM0.out
                    have hinv : inN v = v.ns := by unfold inN; rw [if_pos (HVK.out.trans Hk.out)]
                    rw [hinv] at HHQ
                    obtain ⟨qb, hqb⟩ : ∃ x, decide (qq ∈ v.ns) = x := ⟨_, rfl⟩
                    have HQB := Lib.hid hqb
                    rw [hqb] at HHQ
                    have hcw : Six wi g (off + jj * 6) (.string QN) (.int .i64 qk) (.int .i64 qn) (.string qS) (.slice qA ql qc) (.slice qB qm qd) := Six.keep (w := w) hc0 (fun i => HBwi.out.cell (p := ⟨g, i, none⟩) hgw)
                    have HCW := Lib.hid hcw
                    have HYES := Lib.hid hyes
                    have HNO := Lib.hid hno
                    have HBB0 := Lib.hid (show b < wi.heap.size from by obtain ⟨_, _, h, _⟩ := HOI.out; exact (Array.getElem?_eq_some_iff.1 h).1)
                    clear hgw hcl hc0 hm hZN hQN hyes hno hnm9 hkd hlt HNM0 hinv hqb hcw
                    obtain ⟨⟨p0_0, p0_1, p0_2, p0_3, p0_4⟩, -⟩ := row5 Rwi_0.out
                    obtain ⟨⟨p1_0, p1_1, p1_2, p1_3, p1_4⟩, -⟩ := row5 Rwi_1.out
                    go_wp2_with fail
                    clear p0_0 p0_1 p0_2 p0_3 p0_4 p1_0 p1_1 p1_2 p1_3 p1_4
                    refine wp_region_held_drew (S := fun W' => W'.heap[w.heap.size]? = some (.cells #[.int .i64 k, .int .i64 n, .string S, .slice A1 l1 c1, .slice A2 m1 c2] 25 (0, 0)) ∧ W'.heap[w.heap.size + 1]? = some (.cells #[.int .i64 pk, .int .i64 pn, .string PS, .slice B1 pl e1, .slice (some ⟨g, off, none⟩) pm e2] 25 (0, 0)) ∧ W'.cell? ⟨g, off + jj * 6, none⟩ = some (.string QN)) (by kernel_rfl) (⟨Rwi_0.out, Rwi_1.out, HCW.out.1⟩) (fun hHeld => ?_)
                    refine wpAnyH_take (i := 0) (oi := { dst := some 81, op := Op.load 25 (Operand.tmp 2), type := 25, pos := "law.go:121", after := #[], guard := none }) (v := ?_) rfl (by kernel_rfl) (by kernel_rfl) (by kernel_rfl) (fun _ _ _ h => h) (Or.inl ⟨by rfl, ?_⟩) hHeld ?_
                    rotate_left
                    · intro w hSw; (try dsimp only at hSw); obtain ⟨⟨p0, p1, p2, p3, p4⟩, -⟩ := row5 hSw.1; go_simp; with_reducible rfl
                    try simp only [Act.put, List.setIfInBounds_toArray, List.set_cons_zero, List.set_cons_succ]
                    refine wpAnyH_take (i := 1) (oi := { dst := some 82, op := Op.fieldAddr 25 (Operand.tmp 3) 4, type := 0, pos := "law.go:121", after := #[], guard := none }) (v := ?_) rfl (by kernel_rfl) (by kernel_rfl) (by kernel_rfl) (fun _ _ _ h => h) (Or.inl ⟨by rfl, ?_⟩) hHeld ?_
                    rotate_left
                    · intro w hSw; (try dsimp only at hSw); go_simp; with_reducible rfl
                    try simp only [Act.put, List.setIfInBounds_toArray, List.set_cons_zero, List.set_cons_succ]
                    refine wpAnyH_take (i := 2) (oi := { dst := some 83, op := Op.load 23 (Operand.tmp 82), type := 23, pos := "law.go:121", after := #[{ on := 1, ground := Ground.data }], guard := none }) (v := ?_) rfl (by kernel_rfl) (by kernel_rfl) (by kernel_rfl) (fun _ _ _ h => h) (Or.inl ⟨by rfl, ?_⟩) hHeld ?_
                    rotate_left
                    · intro w hSw; (try dsimp only at hSw); obtain ⟨⟨p0, p1, p2, p3, p4⟩, -⟩ := row5 hSw.2.1; go_simp; with_reducible rfl
                    try simp only [Act.put, List.setIfInBounds_toArray, List.set_cons_zero, List.set_cons_succ]
                    refine wpAnyH_take (i := 3) (oi := { dst := some 84, op := Op.move (Operand.tmp 7), type := 3, pos := "law.go:121", after := #[], guard := none }) (v := ?_) rfl (by kernel_rfl) (by kernel_rfl) (by kernel_rfl) (fun _ _ _ h => h) (Or.inl ⟨by rfl, ?_⟩) hHeld ?_
                    rotate_left
                    · intro w hSw; (try dsimp only at hSw); go_simp; with_reducible rfl
                    try simp only [Act.put, List.setIfInBounds_toArray, List.set_cons_zero, List.set_cons_succ]
                    refine wpAnyH_take (i := 4) (oi := { dst := some 85, op := Op.indexAddr 23 (Operand.tmp 83) (Operand.tmp 84), type := 0, pos := "law.go:121", after := #[{ on := 2, ground := Ground.data }, { on := 3, ground := Ground.data }], guard := none }) (v := ?_) rfl (by kernel_rfl) (by kernel_rfl) (by kernel_rfl) (fun _ _ _ h => h) (Or.inl ⟨by rfl, ?_⟩) hHeld ?_
                    rotate_left
                    · intro w hSw; (try dsimp only at hSw); go_simp; with_reducible rfl
                    try simp only [Act.put, List.setIfInBounds_toArray, List.set_cons_zero, List.set_cons_succ]
                    refine wpAnyH_take (i := 5) (oi := { dst := some 86, op := Op.fieldAddr 35 (Operand.tmp 85) 0, type := 0, pos := "law.go:121", after := #[{ on := 4, ground := Ground.data }], guard := none }) (v := ?_) rfl (by kernel_rfl) (by kernel_rfl) (by kernel_rfl) (fun _ _ _ h => h) (Or.inl ⟨by rfl, ?_⟩) hHeld ?_
                    rotate_left
                    · intro w hSw; (try dsimp only at hSw); go_simp; with_reducible rfl
                    try simp only [Act.put, List.setIfInBounds_toArray, List.set_cons_zero, List.set_cons_succ]
                    refine wpAnyH_take (i := 6) (oi := { dst := some 87, op := Op.load 9 (Operand.tmp 86), type := 9, pos := "law.go:121", after := #[{ on := 5, ground := Ground.data }], guard := none }) (v := ?_) rfl (by kernel_rfl) (by kernel_rfl) (by kernel_rfl) (fun _ _ _ h => h) (Or.inl ⟨by rfl, ?_⟩) hHeld ?_
                    rotate_left
                    · intro w hSw; (try dsimp only at hSw); have hq := hSw.2.2; go_simp; with_reducible rfl
                    try simp only [Act.put, List.setIfInBounds_toArray, List.set_cons_zero, List.set_cons_succ]
                    refine wpAnyH_ready (rs := [7]) (by kernel_rfl) (by simp) ?_
                    refine AllReadyH.cons (o := { dst := some 88, op := Op.call { callee := Callee.value (Operand.func 14), args := #[Operand.tmp 81, Operand.tmp 87], argTypes := #[25, 9] }, type := 4, pos := "law.go:121", after := #[{ on := 0, ground := Ground.data }, { on := 6, ground := Ground.data }], guard := none }) rfl (fun K hK => ?_) AllReadyH.nil
                    go_simp
                    go_at_call 14
                    refine (HHQ.out _ HBwi.out.drew).mono ?_
                    rintro e w2 ⟨rfl, hb2⟩
                    have HB2 := Lib.hid (show Below wi.heap.size wi w2 from (Below.drew (Below.refl wi.heap.size wi)).trans hb2)
                    have HGI := Lib.hid (show g < wi.heap.size from by have := HGW.out; have := HBwi.out.size; omega)
                    clear hb2
                    refine hK.out _ _ (⟨(HB2.out.block _ (by have := HBB0.out; have := HLA.out; omega)).trans Rwi_0.out, (HB2.out.block _ (by have := HBB0.out; have := HLA.out; omega)).trans Rwi_1.out, (HB2.out.cell (p := ⟨g, off + jj * 6, none⟩) HGI.out).trans HCW.out.1⟩) (fun hHeld => ?_)
                    clear hK K
                    try simp only [Act.put, List.setIfInBounds_toArray, List.set_cons_zero, List.set_cons_succ]
                    refine wpAnyH_take (i := 8) (oi := { dst := some 89, op := Op.unOp UnOp.not 4 (Operand.tmp 88), type := 4, pos := "law.go:121", after := #[{ on := 7, ground := Ground.data }], guard := none }) (v := ?_) rfl (by kernel_rfl) (by kernel_rfl) (by kernel_rfl) (fun _ _ _ h => h) (Or.inl ⟨by rfl, ?_⟩) hHeld ?_
                    rotate_left
                    · intro w hSw; (try dsimp only at hSw); go_simp; with_reducible rfl
                    try simp only [Act.put, List.setIfInBounds_toArray, List.set_cons_zero, List.set_cons_succ]
                    refine wpAnyH_done (by kernel_rfl) ?_ _
                    clear hHeld
                    have HOT := Lib.hid (show OutAt w2 b (rwP dv ++ rwN v (dp.take jj)) from HOI.out.same HB2.out)
                    have HBA := Lib.hid (show Below b wa w2 from HBI.out.trans (HB2.out.mono (Nat.le_of_lt HBB0.out)))
                    obtain ⟨wo, hwo⟩ : ∃ x, x = w2 := ⟨_, rfl⟩
                    subst hwo
                    have HBwo := Lib.hid (show Below w.heap.size w wo from HBWA.out.trans (HBA.out.mono (by have := HLA.out; omega)))
                    have Rwo_0 := Lib.hid (show wo.heap[w.heap.size]? = some (.cells #[.int .i64 k, .int .i64 n, .string S, .slice A1 l1 c1, .slice A2 m1 c2] 25 (0, 0)) from (HB2.out.block _ (by have := HBB0.out; have := HLA.out; omega)).trans Rwi_0.out)
                    have Rwo_1 := Lib.hid (show wo.heap[w.heap.size + 1]? = some (.cells #[.int .i64 pk, .int .i64 pn, .string PS, .slice B1 pl e1, .slice (some ⟨g, off, none⟩) pm e2] 25 (0, 0)) from (HB2.out.block _ (by have := HBB0.out; have := HLA.out; omega)).trans Rwi_1.out)
                    cases qb
                    · have HSUC := Lib.hid (HYES.out (of_decide_eq_false HQB.out))
                      obtain ⟨A, c, ho1, ho2⟩ := HOT.out
                      obtain ⟨rows, hrows⟩ : ∃ r, rwP dv ++ rwN v (dp.take jj) = r := ⟨_, rfl⟩
                      rw [hrows] at ho1 ho2
                      obtain ⟨N, hN⟩ : ∃ N, rows.length = N := ⟨_, rfl⟩
                      rw [hN] at ho1 ho2
                      have HNR := Lib.hid hN
                      have HROWS := Lib.hid hrows
                      have HR1 := Lib.hid ho1
                      have HO2 := Lib.hid ho2
                      have hNii : N ≤ m1 + jj := by
                        have h1 := rwN_len v dp jj
                        have h2 : (rwP dv).length = m1 := by unfold rwP; rw [List.length_map]; exact HDL.out
                        rw [← hN, ← hrows, List.length_append]
                        omega
                      have HCW2 := Lib.hid (HCW.out.keep (w' := wo) (fun i => HB2.out.cell (p := ⟨g, i, none⟩) HGI.out))
                      have HBB := Lib.hid (show b < wo.heap.size from (Array.getElem?_eq_some_iff.1 ho1).1)
                      have HEL := Lib.hid (show w.heap.size + 1 ≤ b by have := HLA.out; omega)
                      have HEB := Lib.hid (show w.heap.size + 1 < wo.heap.size by have := HBB.out; have := HLA.out; omega)
                      have HGL := Lib.hid (show g ≤ b by have := HGW.out; have := HLA.out; omega)
                      have HGB := Lib.hid (show g < wo.heap.size by have := HBB.out; have := HGL.out; omega)
                      have HEN := Lib.hid (show w.heap.size + 1 ≠ b by have := HLA.out; omega)
                      have HGN := Lib.hid (show g ≠ b by have := HGW.out; have := HLA.out; omega)
                      clear hrows hN ho2 ho1
                      obtain ⟨⟨p0_0, p0_1, p0_2, p0_3, p0_4⟩, -⟩ := row5 Rwo_0.out
                      obtain ⟨⟨p1_0, p1_1, p1_2, p1_3, p1_4⟩, -⟩ := row5 Rwo_1.out
                      go_wp2_with fail
                      clear p0_0 p0_1 p0_2 p0_3 p0_4 p1_0 p1_1 p1_2 p1_3 p1_4
                      have HS := Lib.hid (show SV wo (w.heap.size + 1) (.cells #[.int .i64 pk, .int .i64 pn, .string PS, .slice B1 pl e1, .slice (some ⟨g, off, none⟩) pm e2] 25 (0, 0)) g (off + jj * 6) (.string QN) (.int .i64 qk) (.int .i64 qn) (.string qS) (.slice qA ql qc) (.slice qB qm qd) from ⟨Rwo_1.out, HCW2.out⟩)
                      have x3w := (row5 HR1.out).1.2.2.2.2
                      have hi0 := I0.out
                      have hz0 := I1.out
                      have hz1 := I2.out
                      have hz2 := I3.out
                      refine wp_region_held_drew (S := fun W' => SV W' (w.heap.size + 1) (.cells #[.int .i64 pk, .int .i64 pn, .string PS, .slice B1 pl e1, .slice (some ⟨g, off, none⟩) pm e2] 25 (0, 0)) g (off + jj * 6) (.string QN) (.int .i64 qk) (.int .i64 qn) (.string qS) (.slice qA ql qc) (.slice qB qm qd)) (by kernel_rfl) (HS.out) (fun hHeld => ?_)
                      refine wpAnyH_take (i := 0) (oi := { dst := some 90, op := Op.fieldAddr 25 (Operand.tmp 5) 4, type := 0, pos := "law.go:122", after := #[], guard := none }) (v := ?_) rfl (by kernel_rfl) (by kernel_rfl) (by kernel_rfl) (fun _ _ _ h => h) (Or.inl ⟨by rfl, ?_⟩) hHeld ?_
                      rotate_left
                      · intro w hSw; (try dsimp only at hSw); go_simp; with_reducible rfl
                      try simp only [Act.put, List.setIfInBounds_toArray, List.set_cons_zero, List.set_cons_succ]
                      refine wpAnyH_take (i := 2) (oi := { dst := some 92, op := Op.fieldAddr 25 (Operand.tmp 3) 4, type := 0, pos := "law.go:122", after := #[], guard := none }) (v := ?_) rfl (by kernel_rfl) (by kernel_rfl) (by kernel_rfl) (fun _ _ _ h => h) (Or.inl ⟨by rfl, ?_⟩) hHeld ?_
                      rotate_left
                      · intro w hSw; (try dsimp only at hSw); go_simp; with_reducible rfl
                      try simp only [Act.put, List.setIfInBounds_toArray, List.set_cons_zero, List.set_cons_succ]
                      refine wpAnyH_take (i := 3) (oi := { dst := some 93, op := Op.load 23 (Operand.tmp 92), type := 23, pos := "law.go:122", after := #[{ on := 2, ground := Ground.data }], guard := none }) (v := ?_) rfl (by kernel_rfl) (by kernel_rfl) (by kernel_rfl) (fun _ _ _ h => h) (Or.inl ⟨by rfl, ?_⟩) hHeld ?_
                      rotate_left
                      · intro w hSw; (try dsimp only at hSw); obtain ⟨⟨p0, p1, p2, p3, p4⟩, -⟩ := row5 hSw.1; go_simp; with_reducible rfl
                      try simp only [Act.put, List.setIfInBounds_toArray, List.set_cons_zero, List.set_cons_succ]
                      refine wpAnyH_take (i := 4) (oi := { dst := some 94, op := Op.move (Operand.tmp 7), type := 3, pos := "law.go:122", after := #[], guard := none }) (v := ?_) rfl (by kernel_rfl) (by kernel_rfl) (by kernel_rfl) (fun _ _ _ h => h) (Or.inl ⟨by rfl, ?_⟩) hHeld ?_
                      rotate_left
                      · intro w hSw; (try dsimp only at hSw); go_simp; with_reducible rfl
                      try simp only [Act.put, List.setIfInBounds_toArray, List.set_cons_zero, List.set_cons_succ]
                      refine wpAnyH_take (i := 5) (oi := { dst := some 95, op := Op.indexAddr 23 (Operand.tmp 93) (Operand.tmp 94), type := 0, pos := "law.go:122", after := #[{ on := 3, ground := Ground.data }, { on := 4, ground := Ground.data }], guard := none }) (v := ?_) rfl (by kernel_rfl) (by kernel_rfl) (by kernel_rfl) (fun _ _ _ h => h) (Or.inl ⟨by rfl, ?_⟩) hHeld ?_
                      rotate_left
                      · intro w hSw; (try dsimp only at hSw); go_simp; with_reducible rfl
                      try simp only [Act.put, List.setIfInBounds_toArray, List.set_cons_zero, List.set_cons_succ]
                      refine wpAnyH_take (i := 6) (oi := { dst := some 96, op := Op.fieldAddr 35 (Operand.tmp 95) 0, type := 0, pos := "law.go:122", after := #[{ on := 5, ground := Ground.data }], guard := none }) (v := ?_) rfl (by kernel_rfl) (by kernel_rfl) (by kernel_rfl) (fun _ _ _ h => h) (Or.inl ⟨by rfl, ?_⟩) hHeld ?_
                      rotate_left
                      · intro w hSw; (try dsimp only at hSw); go_simp; with_reducible rfl
                      try simp only [Act.put, List.setIfInBounds_toArray, List.set_cons_zero, List.set_cons_succ]
                      refine wpAnyH_take (i := 7) (oi := { dst := some 97, op := Op.load 9 (Operand.tmp 96), type := 9, pos := "law.go:122", after := #[{ on := 6, ground := Ground.data }], guard := none }) (v := ?_) rfl (by kernel_rfl) (by kernel_rfl) (by kernel_rfl) (fun _ _ _ h => h) (Or.inl ⟨by rfl, ?_⟩) hHeld ?_
                      rotate_left
                      · intro w hSw; (try dsimp only at hSw); obtain ⟨a0, a1, a2, a3, a4, a5⟩ := hSw.2; go_simp; with_reducible rfl
                      try simp only [Act.put, List.setIfInBounds_toArray, List.set_cons_zero, List.set_cons_succ]
                      refine wpAnyH_take (i := 9) (oi := { dst := some 99, op := Op.build 25 #[(0, Operand.const (Value.int IntKind.i64 1))], type := 25, pos := "law.go:122", after := #[], guard := none }) (v := ?_) rfl (by kernel_rfl) (by kernel_rfl) (by kernel_rfl) (fun _ _ _ h => h) (Or.inl ⟨by rfl, ?_⟩) hHeld ?_
                      rotate_left
                      · intro w hSw; (try dsimp only at hSw); go_simp; with_reducible rfl
                      try simp only [Act.put, List.setIfInBounds_toArray, List.set_cons_zero, List.set_cons_succ]
                      refine wpAnyH_ready (rs := [1, 8]) (by kernel_rfl) (by simp) ?_
                      refine AllReadyH.cons (o := { dst := some 91, op := Op.load 23 (Operand.tmp 90), type := 23, pos := "law.go:122", after := #[{ on := 0, ground := Ground.data }], guard := none }) rfl (fun K hK => ?_) (AllReadyH.cons (o := { dst := some 98, op := Op.call { callee := Callee.value (Operand.func 13), args := #[Operand.tmp 97], argTypes := #[9] }, type := 9, pos := "law.go:122", after := #[{ on := 7, ground := Ground.data }], guard := none }) rfl (fun K hK => ?_) AllReadyH.nil)
                      · go_simp
                        refine hK.out _ _ (hHeld) (fun hHeld => ?_)
                        clear hK K
                        try simp only [Act.put, List.setIfInBounds_toArray, List.set_cons_zero, List.set_cons_succ]
                        refine wpAnyH_ready (rs := [8]) (by kernel_rfl) (by simp) ?_
                        refine AllReadyH.cons (o := { dst := some 98, op := Op.call { callee := Callee.value (Operand.func 13), args := #[Operand.tmp 97], argTypes := #[9] }, type := 9, pos := "law.go:122", after := #[{ on := 7, ground := Ground.data }], guard := none }) rfl (fun K hK => ?_) AllReadyH.nil
                        go_simp
                        go_at_call 13
                        refine (HNM.out _).mono ?_
                        rintro e w3 ⟨rfl, hb3⟩
                        have HB3 := Lib.hid (show Below wo.heap.size wo w3 from (Below.drew (Below.refl wo.heap.size wo)).trans hb3)
                        clear hb3
                        have hr3 := (HB3.out.block b HBB.out).trans HR1.out
                        have x3w := (row5 hr3).1.2.2.2.2
                        have hown3 := own_below HO2.out HB3.out
                        have hS3 : SV w3 (w.heap.size + 1) (.cells #[.int .i64 pk, .int .i64 pn, .string PS, .slice B1 pl e1, .slice (some ⟨g, off, none⟩) pm e2] 25 (0, 0)) g (off + jj * 6) (.string QN) (.int .i64 qk) (.int .i64 qn) (.string qS) (.slice qA ql qc) (.slice qB qm qd) := HS.out.keep (HB3.out.block _ HEB.out) (HB3.out.block _ HGB.out)
                        refine hK.out _ _ (hS3) (fun hHeld => ?_)
                        clear hK K
                        try simp only [Act.put, List.setIfInBounds_toArray, List.set_cons_zero, List.set_cons_succ]
                        refine wpAnyH_take (i := 10) (oi := { dst := some 100, op := Op.build 35 #[(0, Operand.tmp 98), (1, Operand.tmp 99)], type := 35, pos := "law.go:122", after := #[{ on := 8, ground := Ground.data }, { on := 9, ground := Ground.data }], guard := none }) (v := ?_) rfl (by kernel_rfl) (by kernel_rfl) (by kernel_rfl) (fun _ _ _ h => h) (Or.inl ⟨by rfl, ?_⟩) hHeld ?_
                        rotate_left
                        · intro w hSw; (try dsimp only at hSw); go_simp; with_reducible rfl
                        try simp only [Act.put, List.setIfInBounds_toArray, List.set_cons_zero, List.set_cons_succ]
                        refine wpAnyH_ready (rs := [11]) (by kernel_rfl) (by simp) ?_
                        refine AllReadyH.cons (o := { dst := some 101, op := Op.buildSlice 23 1 #[(0, Operand.tmp 100)], type := 23, pos := "law.go:122", after := #[{ on := 10, ground := Ground.data }], guard := none }) rfl (fun K hK => ?_) AllReadyH.nil
                        go_simp
                        refine hK.out _ _ (hS3.keep (Below.heap_alloc w3 _ _ (by have := HEB.out; have := HB3.out.size; omega)) (Below.heap_alloc w3 _ _ (by have := HGB.out; have := HB3.out.size; omega))) (fun hHeld => ?_)
                        clear hK K
                        try simp only [Act.put, List.setIfInBounds_toArray, List.set_cons_zero, List.set_cons_succ]
                        have x3b := (row5 (heapOld hr3 (.cells #[.string ZN, .int .i64 1, .int .i64 0, .string ⟨#[]⟩, .slice none 0 0, .slice none 0 0] 35))).1.2.2.2.2
                        refine wpAnyH_ready (rs := [12]) (by kernel_rfl) (by simp) ?_
                        refine AllReadyH.cons (o := { dst := some 102, op := Op.call { callee := Callee.builtin Builtin.append, args := #[Operand.tmp 91, Operand.tmp 101], argTypes := #[23, 23] }, type := 23, pos := "law.go:122", after := #[{ on := 1, ground := Ground.data }, { on := 11, ground := Ground.data }, { on := 8, ground := Ground.chain }], guard := none }) rfl (fun K hK => ?_) AllReadyH.nil
                        refine step_append_lies _ (by rfl) _ _ _ (by rfl) (b + 1) 35 i0 _ 6 96 Tryz.underlying23 hi0 hz0 hz1 hz2 (by rfl) (by omega) (.slice A N c) N rows.flatten (by rfl) (hown3.alloc _) ⟨w3.heap.size, 0, none⟩ 1 1 [.string ZN, .int .i64 1, .int .i64 0, .string ⟨#[]⟩, .slice none 0 0, .slice none 0 0] (by rfl) (by rfl) (World.news_of_block (cs := #[.string ZN, .int .i64 1, .int .i64 0, .string ⟨#[]⟩, .slice none 0 0, .slice none 0 0]) (t := 35) (fr := (0, 0)) (heapNew w3 _)) (by simp [Value.oneCell']) (by omega) (by unfold maxLen; omega) (by omega) (by have := HB3.out.size; have := HBB.out; simp; omega) (w3.heap.size + 1) (by simp) ?_
                        intro g2 cap w4 hown4 hg4 hat hlt4
                        obtain ⟨hr4, hout4, hbel4⟩ := out_step (Wb := wa) (wp := w3.alloc (.cells #[.string ZN, .int .i64 1, .int .i64 0, .string ⟨#[]⟩, .slice none 0 0, .slice none 0 0] 35)) (w1 := w4) (b := b) (rows := rows) (row := [.string ZN, .int .i64 1, .int .i64 0, .string ⟨#[]⟩, .slice none 0 0, .slice none 0 0]) HNR.out (heapOld hr3 _) (hown3.alloc _) ((HBA.out.trans (HB3.out.mono (Nat.le_of_lt HBB.out))).alloc (by have := HB3.out.size; have := HBB.out; omega) _) hg4 hown4
                        have x3w := (row5 hr4).1.2.2.2.2
                        have f3w := (row5 hr4).2.2.2.2.2
                        have hne4 : ∀ k, k ≤ b → some k ≠ (Value.slice A N c).ownBlock := fun k hk e => by have := (hown3.lt k e.symm).1; omega
                        have hS4 : SV w4 (w.heap.size + 1) (.cells #[.int .i64 pk, .int .i64 pn, .string PS, .slice B1 pl e1, .slice (some ⟨g, off, none⟩) pm e2] 25 (0, 0)) g (off + jj * 6) (.string QN) (.int .i64 qk) (.int .i64 qn) (.string qS) (.slice qA ql qc) (.slice qB qm qd) := HS.out.keep ((hg4.block _ (by have := HEB.out; have := HB3.out.size; simp; omega) (hne4 _ HEL.out)).trans ((Below.heap_alloc w3 _ _ (by have := HEB.out; have := HB3.out.size; omega)).trans (HB3.out.block _ HEB.out))) ((hg4.block _ (by have := HGB.out; have := HB3.out.size; simp; omega) (hne4 _ HGL.out)).trans ((Below.heap_alloc w3 _ _ (by have := HGB.out; have := HB3.out.size; omega)).trans (HB3.out.block _ HGB.out)))
                        have hSb : SV w4 (w.heap.size + 1) (.cells #[.int .i64 pk, .int .i64 pn, .string PS, .slice B1 pl e1, .slice (some ⟨g, off, none⟩) pm e2] 25 (0, 0)) g (off + jj * 6) (.string QN) (.int .i64 qk) (.int .i64 qn) (.string qS) (.slice qA ql qc) (.slice qB qm qd) := hS4
                        refine hK.out _ _ (hS4) (fun hHeld => ?_)
                        clear hK K
                        try simp only [Act.put, List.setIfInBounds_toArray, List.set_cons_zero, List.set_cons_succ]
                        refine wpAnyH_take (i := 13) (oi := { dst := some 103, op := Op.fieldAddr 25 (Operand.tmp 5) 4, type := 0, pos := "law.go:122", after := #[{ on := 0, ground := Ground.phase }, { on := 1, ground := Ground.phase }, { on := 2, ground := Ground.phase }, { on := 3, ground := Ground.phase }, { on := 4, ground := Ground.phase }, { on := 5, ground := Ground.phase }, { on := 6, ground := Ground.phase }, { on := 7, ground := Ground.phase }, { on := 8, ground := Ground.phase }, { on := 9, ground := Ground.phase }, { on := 10, ground := Ground.phase }, { on := 11, ground := Ground.phase }, { on := 12, ground := Ground.phase }], guard := none }) (v := ?_) rfl (by kernel_rfl) (by kernel_rfl) (by kernel_rfl) (fun _ _ _ h => h) (Or.inl ⟨by rfl, ?_⟩) hHeld ?_
                        rotate_left
                        · intro w hSw; (try dsimp only at hSw); go_simp; with_reducible rfl
                        try simp only [Act.put, List.setIfInBounds_toArray, List.set_cons_zero, List.set_cons_succ]
                        refine wpAnyH_ready (rs := [14]) (by kernel_rfl) (by simp) ?_
                        refine AllReadyH.cons (o := { dst := none, op := Op.store 23 (Operand.tmp 103) (Operand.tmp 102), type := 0, pos := "law.go:122", after := #[{ on := 13, ground := Ground.data }, { on := 12, ground := Ground.data }, { on := 12, ground := Ground.chain }, { on := 0, ground := Ground.phase }, { on := 1, ground := Ground.phase }, { on := 2, ground := Ground.phase }, { on := 3, ground := Ground.phase }, { on := 4, ground := Ground.phase }, { on := 5, ground := Ground.phase }, { on := 6, ground := Ground.phase }, { on := 7, ground := Ground.phase }, { on := 8, ground := Ground.phase }, { on := 9, ground := Ground.phase }, { on := 10, ground := Ground.phase }, { on := 11, ground := Ground.phase }, { on := 12, ground := Ground.phase }], guard := none }) rfl (fun K hK => ?_) AllReadyH.nil
                        go_simp
                        refine hK.out _ _ (hS4.keep (Below.heap_setCell w4 ⟨b, 4, none⟩ _ _ HEN.out) (Below.heap_setCell w4 ⟨b, 4, none⟩ _ _ HGN.out)) (fun hHeld => ?_)
                        clear hK K
                        try simp only [Act.put, List.setIfInBounds_toArray, List.set_cons_zero, List.set_cons_succ]
                        refine wpAnyH_done (by kernel_rfl) ?_ _
                        clear hHeld
                        obtain ⟨w5, hw5⟩ : ∃ w5, w5 = w4.setCell ⟨b, 4, none⟩ (.slice (some ⟨g2, 0, none⟩) (N + 1) cap) := ⟨_, rfl⟩
                        rw [← hw5] at hout4 hbel4
                        rw [← hw5]
                        have HOUT5 := Lib.hid hout4
                        have HBL5 := Lib.hid hbel4
                        clear hw5 hout4 hbel4 hr4 hown4 hg4 hat hlt4 hr3 x3w f3w hown3 hS3 hS4 hSb hne4
                        go_wp2_with fail
                        go_roundw
                        case rel => exact ⟨jj + 1, by go_num, by have := HLT.out; omega, (show OutAt _ _ _ from by rw [HSUC.out, ← List.append_assoc, HROWS.out]; exact HOUT5.out), (show Below _ _ _ from HBL5.out)⟩
                        case measure => have := HLT.out; simp [intOf]; omega
                      · go_simp
                        go_at_call 13
                        refine (HNM.out _).mono ?_
                        rintro e w3 ⟨rfl, hb3⟩
                        have HB3 := Lib.hid (show Below wo.heap.size wo w3 from (Below.drew (Below.refl wo.heap.size wo)).trans hb3)
                        clear hb3
                        have hr3 := (HB3.out.block b HBB.out).trans HR1.out
                        have x3w := (row5 hr3).1.2.2.2.2
                        have hown3 := own_below HO2.out HB3.out
                        have hS3 : SV w3 (w.heap.size + 1) (.cells #[.int .i64 pk, .int .i64 pn, .string PS, .slice B1 pl e1, .slice (some ⟨g, off, none⟩) pm e2] 25 (0, 0)) g (off + jj * 6) (.string QN) (.int .i64 qk) (.int .i64 qn) (.string qS) (.slice qA ql qc) (.slice qB qm qd) := HS.out.keep (HB3.out.block _ HEB.out) (HB3.out.block _ HGB.out)
                        refine hK.out _ _ (hS3) (fun hHeld => ?_)
                        clear hK K
                        try simp only [Act.put, List.setIfInBounds_toArray, List.set_cons_zero, List.set_cons_succ]
                        refine wpAnyH_take (i := 10) (oi := { dst := some 100, op := Op.build 35 #[(0, Operand.tmp 98), (1, Operand.tmp 99)], type := 35, pos := "law.go:122", after := #[{ on := 8, ground := Ground.data }, { on := 9, ground := Ground.data }], guard := none }) (v := ?_) rfl (by kernel_rfl) (by kernel_rfl) (by kernel_rfl) (fun _ _ _ h => h) (Or.inl ⟨by rfl, ?_⟩) hHeld ?_
                        rotate_left
                        · intro w hSw; (try dsimp only at hSw); go_simp; with_reducible rfl
                        try simp only [Act.put, List.setIfInBounds_toArray, List.set_cons_zero, List.set_cons_succ]
                        refine wpAnyH_ready (rs := [1, 11]) (by kernel_rfl) (by simp) ?_
                        refine AllReadyH.cons (o := { dst := some 91, op := Op.load 23 (Operand.tmp 90), type := 23, pos := "law.go:122", after := #[{ on := 0, ground := Ground.data }], guard := none }) rfl (fun K hK => ?_) (AllReadyH.cons (o := { dst := some 101, op := Op.buildSlice 23 1 #[(0, Operand.tmp 100)], type := 23, pos := "law.go:122", after := #[{ on := 10, ground := Ground.data }], guard := none }) rfl (fun K hK => ?_) AllReadyH.nil)
                        · go_simp
                          refine hK.out _ _ (hHeld) (fun hHeld => ?_)
                          clear hK K
                          try simp only [Act.put, List.setIfInBounds_toArray, List.set_cons_zero, List.set_cons_succ]
                          refine wpAnyH_ready (rs := [11]) (by kernel_rfl) (by simp) ?_
                          refine AllReadyH.cons (o := { dst := some 101, op := Op.buildSlice 23 1 #[(0, Operand.tmp 100)], type := 23, pos := "law.go:122", after := #[{ on := 10, ground := Ground.data }], guard := none }) rfl (fun K hK => ?_) AllReadyH.nil
                          go_simp
                          refine hK.out _ _ (hS3.keep (Below.heap_alloc w3 _ _ (by have := HEB.out; have := HB3.out.size; omega)) (Below.heap_alloc w3 _ _ (by have := HGB.out; have := HB3.out.size; omega))) (fun hHeld => ?_)
                          clear hK K
                          try simp only [Act.put, List.setIfInBounds_toArray, List.set_cons_zero, List.set_cons_succ]
                          have x3b := (row5 (heapOld hr3 (.cells #[.string ZN, .int .i64 1, .int .i64 0, .string ⟨#[]⟩, .slice none 0 0, .slice none 0 0] 35))).1.2.2.2.2
                          refine wpAnyH_ready (rs := [12]) (by kernel_rfl) (by simp) ?_
                          refine AllReadyH.cons (o := { dst := some 102, op := Op.call { callee := Callee.builtin Builtin.append, args := #[Operand.tmp 91, Operand.tmp 101], argTypes := #[23, 23] }, type := 23, pos := "law.go:122", after := #[{ on := 1, ground := Ground.data }, { on := 11, ground := Ground.data }, { on := 8, ground := Ground.chain }], guard := none }) rfl (fun K hK => ?_) AllReadyH.nil
                          refine step_append_lies _ (by rfl) _ _ _ (by rfl) (b + 1) 35 i0 _ 6 96 Tryz.underlying23 hi0 hz0 hz1 hz2 (by rfl) (by omega) (.slice A N c) N rows.flatten (by rfl) (hown3.alloc _) ⟨w3.heap.size, 0, none⟩ 1 1 [.string ZN, .int .i64 1, .int .i64 0, .string ⟨#[]⟩, .slice none 0 0, .slice none 0 0] (by rfl) (by rfl) (World.news_of_block (cs := #[.string ZN, .int .i64 1, .int .i64 0, .string ⟨#[]⟩, .slice none 0 0, .slice none 0 0]) (t := 35) (fr := (0, 0)) (heapNew w3 _)) (by simp [Value.oneCell']) (by omega) (by unfold maxLen; omega) (by omega) (by have := HB3.out.size; have := HBB.out; simp; omega) (w3.heap.size + 1) (by simp) ?_
                          intro g2 cap w4 hown4 hg4 hat hlt4
                          obtain ⟨hr4, hout4, hbel4⟩ := out_step (Wb := wa) (wp := w3.alloc (.cells #[.string ZN, .int .i64 1, .int .i64 0, .string ⟨#[]⟩, .slice none 0 0, .slice none 0 0] 35)) (w1 := w4) (b := b) (rows := rows) (row := [.string ZN, .int .i64 1, .int .i64 0, .string ⟨#[]⟩, .slice none 0 0, .slice none 0 0]) HNR.out (heapOld hr3 _) (hown3.alloc _) ((HBA.out.trans (HB3.out.mono (Nat.le_of_lt HBB.out))).alloc (by have := HB3.out.size; have := HBB.out; omega) _) hg4 hown4
                          have x3w := (row5 hr4).1.2.2.2.2
                          have f3w := (row5 hr4).2.2.2.2.2
                          have hne4 : ∀ k, k ≤ b → some k ≠ (Value.slice A N c).ownBlock := fun k hk e => by have := (hown3.lt k e.symm).1; omega
                          have hS4 : SV w4 (w.heap.size + 1) (.cells #[.int .i64 pk, .int .i64 pn, .string PS, .slice B1 pl e1, .slice (some ⟨g, off, none⟩) pm e2] 25 (0, 0)) g (off + jj * 6) (.string QN) (.int .i64 qk) (.int .i64 qn) (.string qS) (.slice qA ql qc) (.slice qB qm qd) := HS.out.keep ((hg4.block _ (by have := HEB.out; have := HB3.out.size; simp; omega) (hne4 _ HEL.out)).trans ((Below.heap_alloc w3 _ _ (by have := HEB.out; have := HB3.out.size; omega)).trans (HB3.out.block _ HEB.out))) ((hg4.block _ (by have := HGB.out; have := HB3.out.size; simp; omega) (hne4 _ HGL.out)).trans ((Below.heap_alloc w3 _ _ (by have := HGB.out; have := HB3.out.size; omega)).trans (HB3.out.block _ HGB.out)))
                          have hSb : SV w4 (w.heap.size + 1) (.cells #[.int .i64 pk, .int .i64 pn, .string PS, .slice B1 pl e1, .slice (some ⟨g, off, none⟩) pm e2] 25 (0, 0)) g (off + jj * 6) (.string QN) (.int .i64 qk) (.int .i64 qn) (.string qS) (.slice qA ql qc) (.slice qB qm qd) := hS4
                          refine hK.out _ _ (hS4) (fun hHeld => ?_)
                          clear hK K
                          try simp only [Act.put, List.setIfInBounds_toArray, List.set_cons_zero, List.set_cons_succ]
                          refine wpAnyH_take (i := 13) (oi := { dst := some 103, op := Op.fieldAddr 25 (Operand.tmp 5) 4, type := 0, pos := "law.go:122", after := #[{ on := 0, ground := Ground.phase }, { on := 1, ground := Ground.phase }, { on := 2, ground := Ground.phase }, { on := 3, ground := Ground.phase }, { on := 4, ground := Ground.phase }, { on := 5, ground := Ground.phase }, { on := 6, ground := Ground.phase }, { on := 7, ground := Ground.phase }, { on := 8, ground := Ground.phase }, { on := 9, ground := Ground.phase }, { on := 10, ground := Ground.phase }, { on := 11, ground := Ground.phase }, { on := 12, ground := Ground.phase }], guard := none }) (v := ?_) rfl (by kernel_rfl) (by kernel_rfl) (by kernel_rfl) (fun _ _ _ h => h) (Or.inl ⟨by rfl, ?_⟩) hHeld ?_
                          rotate_left
                          · intro w hSw; (try dsimp only at hSw); go_simp; with_reducible rfl
                          try simp only [Act.put, List.setIfInBounds_toArray, List.set_cons_zero, List.set_cons_succ]
                          refine wpAnyH_ready (rs := [14]) (by kernel_rfl) (by simp) ?_
                          refine AllReadyH.cons (o := { dst := none, op := Op.store 23 (Operand.tmp 103) (Operand.tmp 102), type := 0, pos := "law.go:122", after := #[{ on := 13, ground := Ground.data }, { on := 12, ground := Ground.data }, { on := 12, ground := Ground.chain }, { on := 0, ground := Ground.phase }, { on := 1, ground := Ground.phase }, { on := 2, ground := Ground.phase }, { on := 3, ground := Ground.phase }, { on := 4, ground := Ground.phase }, { on := 5, ground := Ground.phase }, { on := 6, ground := Ground.phase }, { on := 7, ground := Ground.phase }, { on := 8, ground := Ground.phase }, { on := 9, ground := Ground.phase }, { on := 10, ground := Ground.phase }, { on := 11, ground := Ground.phase }, { on := 12, ground := Ground.phase }], guard := none }) rfl (fun K hK => ?_) AllReadyH.nil
                          go_simp
                          refine hK.out _ _ (hS4.keep (Below.heap_setCell w4 ⟨b, 4, none⟩ _ _ HEN.out) (Below.heap_setCell w4 ⟨b, 4, none⟩ _ _ HGN.out)) (fun hHeld => ?_)
                          clear hK K
                          try simp only [Act.put, List.setIfInBounds_toArray, List.set_cons_zero, List.set_cons_succ]
                          refine wpAnyH_done (by kernel_rfl) ?_ _
                          clear hHeld
                          obtain ⟨w5, hw5⟩ : ∃ w5, w5 = w4.setCell ⟨b, 4, none⟩ (.slice (some ⟨g2, 0, none⟩) (N + 1) cap) := ⟨_, rfl⟩
                          rw [← hw5] at hout4 hbel4
                          rw [← hw5]
                          have HOUT5 := Lib.hid hout4
                          have HBL5 := Lib.hid hbel4
                          clear hw5 hout4 hbel4 hr4 hown4 hg4 hat hlt4 hr3 x3w f3w hown3 hS3 hS4 hSb hne4
                          go_wp2_with fail
                          go_roundw
                          case rel => exact ⟨jj + 1, by go_num, by have := HLT.out; omega, (show OutAt _ _ _ from by rw [HSUC.out, ← List.append_assoc, HROWS.out]; exact HOUT5.out), (show Below _ _ _ from HBL5.out)⟩
                          case measure => have := HLT.out; simp [intOf]; omega
                        · go_simp
                          refine hK.out _ _ (hS3.keep (Below.heap_alloc w3 _ _ (by have := HEB.out; have := HB3.out.size; omega)) (Below.heap_alloc w3 _ _ (by have := HGB.out; have := HB3.out.size; omega))) (fun hHeld => ?_)
                          clear hK K
                          try simp only [Act.put, List.setIfInBounds_toArray, List.set_cons_zero, List.set_cons_succ]
                          have x3b := (row5 (heapOld hr3 (.cells #[.string ZN, .int .i64 1, .int .i64 0, .string ⟨#[]⟩, .slice none 0 0, .slice none 0 0] 35))).1.2.2.2.2
                          refine wpAnyH_ready (rs := [1]) (by kernel_rfl) (by simp) ?_
                          refine AllReadyH.cons (o := { dst := some 91, op := Op.load 23 (Operand.tmp 90), type := 23, pos := "law.go:122", after := #[{ on := 0, ground := Ground.data }], guard := none }) rfl (fun K hK => ?_) AllReadyH.nil
                          go_simp
                          refine hK.out _ _ (hHeld) (fun hHeld => ?_)
                          clear hK K
                          try simp only [Act.put, List.setIfInBounds_toArray, List.set_cons_zero, List.set_cons_succ]
                          refine wpAnyH_ready (rs := [12]) (by kernel_rfl) (by simp) ?_
                          refine AllReadyH.cons (o := { dst := some 102, op := Op.call { callee := Callee.builtin Builtin.append, args := #[Operand.tmp 91, Operand.tmp 101], argTypes := #[23, 23] }, type := 23, pos := "law.go:122", after := #[{ on := 1, ground := Ground.data }, { on := 11, ground := Ground.data }, { on := 8, ground := Ground.chain }], guard := none }) rfl (fun K hK => ?_) AllReadyH.nil
                          refine step_append_lies _ (by rfl) _ _ _ (by rfl) (b + 1) 35 i0 _ 6 96 Tryz.underlying23 hi0 hz0 hz1 hz2 (by rfl) (by omega) (.slice A N c) N rows.flatten (by rfl) (hown3.alloc _) ⟨w3.heap.size, 0, none⟩ 1 1 [.string ZN, .int .i64 1, .int .i64 0, .string ⟨#[]⟩, .slice none 0 0, .slice none 0 0] (by rfl) (by rfl) (World.news_of_block (cs := #[.string ZN, .int .i64 1, .int .i64 0, .string ⟨#[]⟩, .slice none 0 0, .slice none 0 0]) (t := 35) (fr := (0, 0)) (heapNew w3 _)) (by simp [Value.oneCell']) (by omega) (by unfold maxLen; omega) (by omega) (by have := HB3.out.size; have := HBB.out; simp; omega) (w3.heap.size + 1) (by simp) ?_
                          intro g2 cap w4 hown4 hg4 hat hlt4
                          obtain ⟨hr4, hout4, hbel4⟩ := out_step (Wb := wa) (wp := w3.alloc (.cells #[.string ZN, .int .i64 1, .int .i64 0, .string ⟨#[]⟩, .slice none 0 0, .slice none 0 0] 35)) (w1 := w4) (b := b) (rows := rows) (row := [.string ZN, .int .i64 1, .int .i64 0, .string ⟨#[]⟩, .slice none 0 0, .slice none 0 0]) HNR.out (heapOld hr3 _) (hown3.alloc _) ((HBA.out.trans (HB3.out.mono (Nat.le_of_lt HBB.out))).alloc (by have := HB3.out.size; have := HBB.out; omega) _) hg4 hown4
                          have x3w := (row5 hr4).1.2.2.2.2
                          have f3w := (row5 hr4).2.2.2.2.2
                          have hne4 : ∀ k, k ≤ b → some k ≠ (Value.slice A N c).ownBlock := fun k hk e => by have := (hown3.lt k e.symm).1; omega
                          have hS4 : SV w4 (w.heap.size + 1) (.cells #[.int .i64 pk, .int .i64 pn, .string PS, .slice B1 pl e1, .slice (some ⟨g, off, none⟩) pm e2] 25 (0, 0)) g (off + jj * 6) (.string QN) (.int .i64 qk) (.int .i64 qn) (.string qS) (.slice qA ql qc) (.slice qB qm qd) := HS.out.keep ((hg4.block _ (by have := HEB.out; have := HB3.out.size; simp; omega) (hne4 _ HEL.out)).trans ((Below.heap_alloc w3 _ _ (by have := HEB.out; have := HB3.out.size; omega)).trans (HB3.out.block _ HEB.out))) ((hg4.block _ (by have := HGB.out; have := HB3.out.size; simp; omega) (hne4 _ HGL.out)).trans ((Below.heap_alloc w3 _ _ (by have := HGB.out; have := HB3.out.size; omega)).trans (HB3.out.block _ HGB.out)))
                          have hSb : SV w4 (w.heap.size + 1) (.cells #[.int .i64 pk, .int .i64 pn, .string PS, .slice B1 pl e1, .slice (some ⟨g, off, none⟩) pm e2] 25 (0, 0)) g (off + jj * 6) (.string QN) (.int .i64 qk) (.int .i64 qn) (.string qS) (.slice qA ql qc) (.slice qB qm qd) := hS4
                          refine hK.out _ _ (hS4) (fun hHeld => ?_)
                          clear hK K
                          try simp only [Act.put, List.setIfInBounds_toArray, List.set_cons_zero, List.set_cons_succ]
                          refine wpAnyH_take (i := 13) (oi := { dst := some 103, op := Op.fieldAddr 25 (Operand.tmp 5) 4, type := 0, pos := "law.go:122", after := #[{ on := 0, ground := Ground.phase }, { on := 1, ground := Ground.phase }, { on := 2, ground := Ground.phase }, { on := 3, ground := Ground.phase }, { on := 4, ground := Ground.phase }, { on := 5, ground := Ground.phase }, { on := 6, ground := Ground.phase }, { on := 7, ground := Ground.phase }, { on := 8, ground := Ground.phase }, { on := 9, ground := Ground.phase }, { on := 10, ground := Ground.phase }, { on := 11, ground := Ground.phase }, { on := 12, ground := Ground.phase }], guard := none }) (v := ?_) rfl (by kernel_rfl) (by kernel_rfl) (by kernel_rfl) (fun _ _ _ h => h) (Or.inl ⟨by rfl, ?_⟩) hHeld ?_
                          rotate_left
                          · intro w hSw; (try dsimp only at hSw); go_simp; with_reducible rfl
                          try simp only [Act.put, List.setIfInBounds_toArray, List.set_cons_zero, List.set_cons_succ]
                          refine wpAnyH_ready (rs := [14]) (by kernel_rfl) (by simp) ?_
                          refine AllReadyH.cons (o := { dst := none, op := Op.store 23 (Operand.tmp 103) (Operand.tmp 102), type := 0, pos := "law.go:122", after := #[{ on := 13, ground := Ground.data }, { on := 12, ground := Ground.data }, { on := 12, ground := Ground.chain }, { on := 0, ground := Ground.phase }, { on := 1, ground := Ground.phase }, { on := 2, ground := Ground.phase }, { on := 3, ground := Ground.phase }, { on := 4, ground := Ground.phase }, { on := 5, ground := Ground.phase }, { on := 6, ground := Ground.phase }, { on := 7, ground := Ground.phase }, { on := 8, ground := Ground.phase }, { on := 9, ground := Ground.phase }, { on := 10, ground := Ground.phase }, { on := 11, ground := Ground.phase }, { on := 12, ground := Ground.phase }], guard := none }) rfl (fun K hK => ?_) AllReadyH.nil
                          go_simp
                          refine hK.out _ _ (hS4.keep (Below.heap_setCell w4 ⟨b, 4, none⟩ _ _ HEN.out) (Below.heap_setCell w4 ⟨b, 4, none⟩ _ _ HGN.out)) (fun hHeld => ?_)
                          clear hK K
                          try simp only [Act.put, List.setIfInBounds_toArray, List.set_cons_zero, List.set_cons_succ]
                          refine wpAnyH_done (by kernel_rfl) ?_ _
                          clear hHeld
                          obtain ⟨w5, hw5⟩ : ∃ w5, w5 = w4.setCell ⟨b, 4, none⟩ (.slice (some ⟨g2, 0, none⟩) (N + 1) cap) := ⟨_, rfl⟩
                          rw [← hw5] at hout4 hbel4
                          rw [← hw5]
                          have HOUT5 := Lib.hid hout4
                          have HBL5 := Lib.hid hbel4
                          clear hw5 hout4 hbel4 hr4 hown4 hg4 hat hlt4 hr3 x3w f3w hown3 hS3 hS4 hSb hne4
                          go_wp2_with fail
                          go_roundw
                          case rel => exact ⟨jj + 1, by go_num, by have := HLT.out; omega, (show OutAt _ _ _ from by rw [HSUC.out, ← List.append_assoc, HROWS.out]; exact HOUT5.out), (show Below _ _ _ from HBL5.out)⟩
                          case measure => have := HLT.out; simp [intOf]; omega
                    · have HSUC := Lib.hid (HNO.out (of_decide_eq_true HQB.out))
                      obtain ⟨⟨p0_0, p0_1, p0_2, p0_3, p0_4⟩, -⟩ := row5 Rwo_0.out
                      obtain ⟨⟨p1_0, p1_1, p1_2, p1_3, p1_4⟩, -⟩ := row5 Rwo_1.out
                      go_wp2
                      go_roundw
                      case rel => exact ⟨jj + 1, by go_num, by have := HLT.out; omega, (show OutAt _ _ _ from by rw [HSUC.out]; exact HOT.out), (show Below _ _ _ from HBA.out)⟩
                      case measure => have := HLT.out; simp [intOf]; omega
                  · have t1 : decide ((jj : Int) < (pm : Int)) = false := decide_eq_false (by omega)
                    have t2 : decide (jj < pm) = false := decide_eq_false hlt
                    obtain rfl : pm = jj := by omega
                    have hot := HOI.out
                    rw [List.take_of_length_le (by rw [HDLP.out]; exact Nat.le_refl _)] at hot
                    obtain ⟨A, c, hrow, hrd⟩ := rd_whole (p := p) HBwi.out (by have := HLA.out; omega) HVF.out.1 hot HDV.out.2.1 HDV.out.1 HDP.out.2.1 HDV.out.2.2.2
                    have HRD := Lib.hid hrd
                    obtain ⟨cn, hcn⟩ : ∃ x, (whM v p).length = x := ⟨_, rfl⟩
                    have HCN := Lib.hid hcn
                    rw [hcn] at hrow HRD
                    have Rwi_2 := Lib.hid hrow
                    have Lwi_2 := Lib.hid (show b < wi.heap.size from (Array.getElem?_eq_some_iff.1 hrow).1)
                    have Lwi_0 := Lib.hid (show w.heap.size < wi.heap.size by have := Lwi_2.out; have := HLA.out; omega)
                    have Lwi_1 := Lib.hid (show w.heap.size + 1 < wi.heap.size by have := Lwi_2.out; have := HLA.out; omega)
                    have HPW := Lib.hid (show wfV (whP v p) ∧ szU (whP v p) ≤ 10000000 from ⟨wfV_wh HVF.out.2.1, by have := szU_wh v p; have := HVF.out.2.2; have := HPF.out.2.2; omega⟩)
                    have HNDV := Lib.hid (nd_chk HVF.out.1 HCHV.out)
                    have HNDP := Lib.hid (nd_chk HPF.out.1 HCHP.out)
                    clear hlt hjj hot hrow hrd hcn
                    have Fwi_P := Lib.hid (Below.refl wi.heap.size wi)
                    by_cases hc4 : 400 < cn
                    · have s1 : decide ((400 : Int) < (cn : Int)) = true := decide_eq_true (by omega)
                      have s2 : decide (400 < cn) = true := decide_eq_true hc4
                      have HNF := Lib.hid (show ¬ fitP p (whP v p) from fun h => by have := h.2.2.1; have e := HCN.out; unfold whP mpV at this; simp only [V.ms] at this; omega)
                      clear hc4
                      obtain ⟨⟨p0_0, p0_1, p0_2, p0_3, p0_4⟩, -⟩ := row5 Rwi_0.out
                      obtain ⟨⟨p1_0, p1_1, p1_2, p1_3, p1_4⟩, -⟩ := row5 Rwi_1.out
                      obtain ⟨⟨p2_0, p2_1, p2_2, p2_3, p2_4⟩, -⟩ := row5 Rwi_2.out
                      go_wp2_with fail
                      clear p0_0 p0_1 p0_2 p0_3 p0_4 p1_0 p1_1 p1_2 p1_3 p1_4 p2_0 p2_1 p2_2 p2_3 p2_4
                      refine (Fits_any p (whP v p) [.int .i64 pk, .int .i64 pn, .string PS, .slice B1 pl e1, .slice B2 pm e2] [.int .i64 6, .int .i64 0, .string ⟨#[]⟩, .slice none 0 0, .slice A cn c] _ (HRP.out.below HBwi.out (Nat.le_refl _) HBwi.out.size) (HRD.out.below Fwi_P.out (Nat.le_refl _) Fwi_P.out.size) HPF.out.2.1 HPW.out.1 (by have := HPF.out.2.2; omega) HPW.out.2).mono ?_
                      rintro e wf ⟨⟨fb, rfl, hfb⟩, hb⟩
                      have Rwf_0 := Lib.hid (show wf.heap[w.heap.size]? = some (.cells #[.int .i64 k, .int .i64 n, .string S, .slice A1 l1 c1, .slice A2 m1 c2] 25 (0, 0)) from (hb.block _ Lwi_0.out).trans Rwi_0.out)
                      have Lwf_0 := Lib.hid (show w.heap.size < wf.heap.size from Nat.lt_of_lt_of_le Lwi_0.out hb.size)
                      have Rwf_1 := Lib.hid (show wf.heap[w.heap.size + 1]? = some (.cells #[.int .i64 pk, .int .i64 pn, .string PS, .slice B1 pl e1, .slice B2 pm e2] 25 (0, 0)) from (hb.block _ Lwi_1.out).trans Rwi_1.out)
                      have Lwf_1 := Lib.hid (show w.heap.size + 1 < wf.heap.size from Nat.lt_of_lt_of_le Lwi_1.out hb.size)
                      have Rwf_2 := Lib.hid (show wf.heap[b]? = some (.cells #[.int .i64 6, .int .i64 0, .string ⟨#[]⟩, .slice none 0 0, .slice A cn c] 25 (0, 0)) from (hb.block _ Lwi_2.out).trans Rwi_2.out)
                      have Lwf_2 := Lib.hid (show b < wf.heap.size from Nat.lt_of_lt_of_le Lwi_2.out hb.size)
                      have Fwf_P := Lib.hid (Fwi_P.out.trans (hb.mono Fwi_P.out.size))
                      have HBwf := Lib.hid (HBwi.out.trans (hb.mono HBwi.out.size))
                      obtain rfl : fb = false := by
                        cases fb
                        · rfl
                        · exact absurd (hfb.1 rfl) HNF.out
                      clear hfb
                      clear hb
                      obtain ⟨⟨p0_0, p0_1, p0_2, p0_3, p0_4⟩, -⟩ := row5 Rwf_0.out
                      obtain ⟨⟨p1_0, p1_1, p1_2, p1_3, p1_4⟩, -⟩ := row5 Rwf_1.out
                      obtain ⟨⟨p2_0, p2_1, p2_2, p2_3, p2_4⟩, -⟩ := row5 Rwf_2.out
                      go_wp2
                      go_ret
                      exact ⟨rfl, HBwf.out⟩
                    · have s1 : decide ((400 : Int) < (cn : Int)) = false := decide_eq_false (by omega)
                      have s2 : decide (400 < cn) = false := decide_eq_false hc4
                      have hf : fitP p (whP v p) := wh_fit (HPK.out.trans Hpk.out) ((ndV_eq v).1 HNDV.out).1 ((ndV_eq p).1 HNDP.out).1 (by rw [HCN.out]; omega)
                      have HF := Lib.hid hf
                      have hE := wh_eq HVF.out.1 HPF.out.1 (ty_chk HCHV.out) (ty_chk HCHP.out) HNDV.out HNDP.out (HVK.out.trans Hk.out) hf HNV.out
                      have hL := fit_of hf (lenV_wh (p := p) HVF.out.1)
                      have hxw := wfV_apl _ p hL HPF.out.1 HPF.out.2.1 (fun m hm => by
                        obtain ⟨nm, _, h2, _⟩ := lst_mem hm
                        exact wfV_ms HPW.out.1 _ h2)
                      have hxz := szU_take hL HPF.out.1 (lst (whP v p)).length
                      rw [apl_all] at hxz
                      obtain ⟨x, hxv⟩ : ∃ x, aplV p (lst (whP v p)) = x := ⟨_, rfl⟩
                      rw [hxv] at hE hxw hxz
                      have HXV := Lib.hid hxv
                      have HE := Lib.hid hE
                      have HXF := Lib.hid (show wfV x ∧ szU x ≤ 20000000 from ⟨hxw, by have := HPF.out.2.2; have := HPW.out.2; omega⟩)
                      clear hc4 hf hE hL hxw hxz hxv
                      obtain ⟨⟨p0_0, p0_1, p0_2, p0_3, p0_4⟩, -⟩ := row5 Rwi_0.out
                      obtain ⟨⟨p1_0, p1_1, p1_2, p1_3, p1_4⟩, -⟩ := row5 Rwi_1.out
                      obtain ⟨⟨p2_0, p2_1, p2_2, p2_3, p2_4⟩, -⟩ := row5 Rwi_2.out
                      go_wp2_with fail
                      clear p0_0 p0_1 p0_2 p0_3 p0_4 p1_0 p1_1 p1_2 p1_3 p1_4 p2_0 p2_1 p2_2 p2_3 p2_4
                      refine (Apply_any p (whP v p) [.int .i64 pk, .int .i64 pn, .string PS, .slice B1 pl e1, .slice B2 pm e2] [.int .i64 6, .int .i64 0, .string ⟨#[]⟩, .slice none 0 0, .slice A cn c] _ (HRP.out.below HBwi.out (Nat.le_refl _) HBwi.out.size) (HRD.out.below Fwi_P.out (Nat.le_refl _) Fwi_P.out.size) HPF.out.2.1 HPW.out.1 (by have := HPF.out.2.2; omega) HPW.out.2).mono ?_
                      rintro e wx ⟨⟨xs, xe, rfl, hx0⟩, hb⟩
                      have Rwx_0 := Lib.hid (show wx.heap[w.heap.size]? = some (.cells #[.int .i64 k, .int .i64 n, .string S, .slice A1 l1 c1, .slice A2 m1 c2] 25 (0, 0)) from (hb.block _ Lwi_0.out).trans Rwi_0.out)
                      have Lwx_0 := Lib.hid (show w.heap.size < wx.heap.size from Nat.lt_of_lt_of_le Lwi_0.out hb.size)
                      have Rwx_1 := Lib.hid (show wx.heap[w.heap.size + 1]? = some (.cells #[.int .i64 pk, .int .i64 pn, .string PS, .slice B1 pl e1, .slice B2 pm e2] 25 (0, 0)) from (hb.block _ Lwi_1.out).trans Rwi_1.out)
                      have Lwx_1 := Lib.hid (show w.heap.size + 1 < wx.heap.size from Nat.lt_of_lt_of_le Lwi_1.out hb.size)
                      have Rwx_2 := Lib.hid (show wx.heap[b]? = some (.cells #[.int .i64 6, .int .i64 0, .string ⟨#[]⟩, .slice none 0 0, .slice A cn c] 25 (0, 0)) from (hb.block _ Lwi_2.out).trans Rwi_2.out)
                      have Lwx_2 := Lib.hid (show b < wx.heap.size from Nat.lt_of_lt_of_le Lwi_2.out hb.size)
                      have Fwx_P := Lib.hid (Fwi_P.out.trans (hb.mono Fwi_P.out.size))
                      have HBwx := Lib.hid (HBwi.out.trans (hb.mono HBwi.out.size))
                      obtain ⟨e0, hx⟩ : xe = 0 ∧ RdA wx 0 wx.heap.size x xs := by
                        rcases hx0 with ⟨_, e0, F, h1, _, h3⟩ | ⟨h0, _⟩
                        · refine ⟨e0, ?_⟩
                          have h2 := RdF.toA (lo := 0) (hi := wx.heap.size) _ _ _ (fun k hk => ⟨Nat.zero_le _, (h3 k hk).2⟩) h1
                          rw [HXV.out] at h2
                          exact h2
                        · exact absurd HF.out h0
                      subst e0
                      clear hx0
                      have Hx := Lib.hid hx
                      obtain ⟨xA, xc, xB, xd, ex, -⟩ := hx.cells
                      subst ex
                      clear hx
                      generalize x.k = xk at *
                      generalize x.n = xn at *
                      generalize strOf x.s = xS at *
                      generalize x.l.length = xl at *
                      generalize x.ms.length = xm at *
                      clear hb
                      have Fwx_x := Lib.hid (Below.refl wx.heap.size wx)
                      obtain ⟨WX, hWX⟩ : ∃ WX, WX = wx.alloc (.cells #[.int .i64 xk, .int .i64 xn, .string xS, .slice xA xl xc, .slice xB xm xd] 25) := ⟨_, rfl⟩
                      have hb : Below wx.heap.size wx WX := by rw [hWX]; exact (Below.refl _ _).alloc (Nat.le_refl _) _
                      have RWX_0 := Lib.hid (show WX.heap[w.heap.size]? = some (.cells #[.int .i64 k, .int .i64 n, .string S, .slice A1 l1 c1, .slice A2 m1 c2] 25 (0, 0)) from (hb.block _ Lwx_0.out).trans Rwx_0.out)
                      have LWX_0 := Lib.hid (show w.heap.size < WX.heap.size from Nat.lt_of_lt_of_le Lwx_0.out hb.size)
                      have RWX_1 := Lib.hid (show WX.heap[w.heap.size + 1]? = some (.cells #[.int .i64 pk, .int .i64 pn, .string PS, .slice B1 pl e1, .slice B2 pm e2] 25 (0, 0)) from (hb.block _ Lwx_1.out).trans Rwx_1.out)
                      have LWX_1 := Lib.hid (show w.heap.size + 1 < WX.heap.size from Nat.lt_of_lt_of_le Lwx_1.out hb.size)
                      have RWX_2 := Lib.hid (show WX.heap[b]? = some (.cells #[.int .i64 6, .int .i64 0, .string ⟨#[]⟩, .slice none 0 0, .slice A cn c] 25 (0, 0)) from (hb.block _ Lwx_2.out).trans Rwx_2.out)
                      have LWX_2 := Lib.hid (show b < WX.heap.size from Nat.lt_of_lt_of_le Lwx_2.out hb.size)
                      have FWX_P := Lib.hid (Fwx_P.out.trans (hb.mono Fwx_P.out.size))
                      have FWX_x := Lib.hid (Fwx_x.out.trans (hb.mono Fwx_x.out.size))
                      have HBWX := Lib.hid (HBwx.out.trans (hb.mono HBwx.out.size))
                      have RWX_3 := Lib.hid (show WX.heap[wx.heap.size]? = some (.cells #[.int .i64 xk, .int .i64 xn, .string xS, .slice xA xl xc, .slice xB xm xd] 25 (0, 0)) by rw [hWX]; exact heapNew _ _)
                      have LWX_3 := Lib.hid (show wx.heap.size < WX.heap.size by rw [hWX, szAl]; exact Nat.lt_succ_self _)
                      have HWX := Lib.hid hWX
                      clear hWX hb
                      have q0 := RWX_0.out
                      rw [HWX.out] at q0
                      obtain ⟨⟨p0_0, p0_1, p0_2, p0_3, p0_4⟩, -⟩ := row5 q0
                      clear q0
                      have q1 := RWX_1.out
                      rw [HWX.out] at q1
                      obtain ⟨⟨p1_0, p1_1, p1_2, p1_3, p1_4⟩, -⟩ := row5 q1
                      clear q1
                      have q2 := RWX_2.out
                      rw [HWX.out] at q2
                      obtain ⟨⟨p2_0, p2_1, p2_2, p2_3, p2_4⟩, -⟩ := row5 q2
                      clear q2
                      have q3 := RWX_3.out
                      rw [HWX.out] at q3
                      obtain ⟨⟨p3_0, p3_1, p3_2, p3_3, p3_4⟩, -⟩ := row5 q3
                      clear q3
                      go_wp2_with fail
                      rw [← HWX.out]
                      clear p0_0 p0_1 p0_2 p0_3 p0_4 p1_0 p1_1 p1_2 p1_3 p1_4 p2_0 p2_1 p2_2 p2_3 p2_4 p3_0 p3_1 p3_2 p3_3 p3_4
                      refine (rSame7_any (ht x) x v [.int .i64 xk, .int .i64 xn, .string xS, .slice xA xl xc, .slice xB xm xd] [.int .i64 k, .int .i64 n, .string S, .slice A1 l1 c1, .slice A2 m1 c2] _ (Nat.le_refl _) (szA_of _ x HXF.out.1 (by have := HXF.out.2; omega)) HE.out (Hx.out.below FWX_x.out (Nat.le_refl _) FWX_x.out.size) (HRV.out.below HBWX.out (Nat.le_refl _) HBWX.out.size)).mono ?_
                      rintro e wy ⟨rfl, hb⟩
                      have Rwy_0 := Lib.hid (show wy.heap[w.heap.size]? = some (.cells #[.int .i64 k, .int .i64 n, .string S, .slice A1 l1 c1, .slice A2 m1 c2] 25 (0, 0)) from (hb.block _ LWX_0.out).trans RWX_0.out)
                      have Lwy_0 := Lib.hid (show w.heap.size < wy.heap.size from Nat.lt_of_lt_of_le LWX_0.out hb.size)
                      have Rwy_1 := Lib.hid (show wy.heap[w.heap.size + 1]? = some (.cells #[.int .i64 pk, .int .i64 pn, .string PS, .slice B1 pl e1, .slice B2 pm e2] 25 (0, 0)) from (hb.block _ LWX_1.out).trans RWX_1.out)
                      have Lwy_1 := Lib.hid (show w.heap.size + 1 < wy.heap.size from Nat.lt_of_lt_of_le LWX_1.out hb.size)
                      have Rwy_2 := Lib.hid (show wy.heap[b]? = some (.cells #[.int .i64 6, .int .i64 0, .string ⟨#[]⟩, .slice none 0 0, .slice A cn c] 25 (0, 0)) from (hb.block _ LWX_2.out).trans RWX_2.out)
                      have Lwy_2 := Lib.hid (show b < wy.heap.size from Nat.lt_of_lt_of_le LWX_2.out hb.size)
                      have Rwy_3 := Lib.hid (show wy.heap[wx.heap.size]? = some (.cells #[.int .i64 xk, .int .i64 xn, .string xS, .slice xA xl xc, .slice xB xm xd] 25 (0, 0)) from (hb.block _ LWX_3.out).trans RWX_3.out)
                      have Lwy_3 := Lib.hid (show wx.heap.size < wy.heap.size from Nat.lt_of_lt_of_le LWX_3.out hb.size)
                      have Fwy_P := Lib.hid (FWX_P.out.trans (hb.mono FWX_P.out.size))
                      have Fwy_x := Lib.hid (FWX_x.out.trans (hb.mono FWX_x.out.size))
                      have HBwy := Lib.hid (HBWX.out.trans (hb.mono HBWX.out.size))
                      clear hb
                      go_wp2
                      go_ret
                      exact ⟨rfl, HBwy.out⟩
          · have tcP : (cP != 0) = true := bne_iff_ne.2 hcP
            clear hcP
            obtain ⟨⟨p0_0, p0_1, p0_2, p0_3, p0_4⟩, -⟩ := row5 Rw4_0.out
            obtain ⟨⟨p1_0, p1_1, p1_2, p1_3, p1_4⟩, -⟩ := row5 Rw4_1.out
            go_wp2_with fail
            clear p0_0 p0_1 p0_2 p0_3 p0_4 p1_0 p1_1 p1_2 p1_3 p1_4
            refine (awake_any9 _).mono ?_
            rintro e w5 ⟨rfl, hb⟩
            have Rw5_0 := Lib.hid (show w5.heap[w.heap.size]? = some (.cells #[.int .i64 k, .int .i64 n, .string S, .slice A1 l1 c1, .slice A2 m1 c2] 25 (0, 0)) from (hb.block _ Lw4_0.out).trans Rw4_0.out)
            have Lw5_0 := Lib.hid (show w.heap.size < w5.heap.size from Nat.lt_of_lt_of_le Lw4_0.out hb.size)
            have Rw5_1 := Lib.hid (show w5.heap[w.heap.size + 1]? = some (.cells #[.int .i64 pk, .int .i64 pn, .string PS, .slice B1 pl e1, .slice B2 pm e2] 25 (0, 0)) from (hb.block _ Lw4_1.out).trans Rw4_1.out)
            have Lw5_1 := Lib.hid (show w.heap.size + 1 < w5.heap.size from Nat.lt_of_lt_of_le Lw4_1.out hb.size)
            have HBw5 := Lib.hid (HBw4.out.trans (hb.mono HBw4.out.size))
            clear hb
            go_wp2
            go_ret
            exact ⟨rfl, HBw5.out⟩
        · have tcV : (cV != 0) = true := bne_iff_ne.2 hcV
          clear hcV
          obtain ⟨⟨p0_0, p0_1, p0_2, p0_3, p0_4⟩, -⟩ := row5 Rw3_0.out
          obtain ⟨⟨p1_0, p1_1, p1_2, p1_3, p1_4⟩, -⟩ := row5 Rw3_1.out
          go_wp2_with fail
          clear p0_0 p0_1 p0_2 p0_3 p0_4 p1_0 p1_1 p1_2 p1_3 p1_4
          refine (awake_any9 _).mono ?_
          rintro e w4 ⟨rfl, hb⟩
          have Rw4_0 := Lib.hid (show w4.heap[w.heap.size]? = some (.cells #[.int .i64 k, .int .i64 n, .string S, .slice A1 l1 c1, .slice A2 m1 c2] 25 (0, 0)) from (hb.block _ Lw3_0.out).trans Rw3_0.out)
          have Lw4_0 := Lib.hid (show w.heap.size < w4.heap.size from Nat.lt_of_lt_of_le Lw3_0.out hb.size)
          have Rw4_1 := Lib.hid (show w4.heap[w.heap.size + 1]? = some (.cells #[.int .i64 pk, .int .i64 pn, .string PS, .slice B1 pl e1, .slice B2 pm e2] 25 (0, 0)) from (hb.block _ Lw3_1.out).trans Rw3_1.out)
          have Lw4_1 := Lib.hid (show w.heap.size + 1 < w4.heap.size from Nat.lt_of_lt_of_le Lw3_1.out hb.size)
          have HBw4 := Lib.hid (HBw3.out.trans (hb.mono HBw3.out.size))
          clear hb
          go_wp2
          go_ret
          exact ⟨rfl, HBw4.out⟩
      · have tpk : (pk != 6) = true := bne_iff_ne.2 hpk
        clear hpk
        obtain ⟨⟨p0_0, p0_1, p0_2, p0_3, p0_4⟩, -⟩ := row5 Rw2_0.out
        obtain ⟨⟨p1_0, p1_1, p1_2, p1_3, p1_4⟩, -⟩ := row5 Rw2_1.out
        go_wp2_with fail
        clear p0_0 p0_1 p0_2 p0_3 p0_4 p1_0 p1_1 p1_2 p1_3 p1_4
        refine (awake_any9 _).mono ?_
        rintro e w3 ⟨rfl, hb⟩
        have Rw3_0 := Lib.hid (show w3.heap[w.heap.size]? = some (.cells #[.int .i64 k, .int .i64 n, .string S, .slice A1 l1 c1, .slice A2 m1 c2] 25 (0, 0)) from (hb.block _ Lw2_0.out).trans Rw2_0.out)
        have Lw3_0 := Lib.hid (show w.heap.size < w3.heap.size from Nat.lt_of_lt_of_le Lw2_0.out hb.size)
        have Rw3_1 := Lib.hid (show w3.heap[w.heap.size + 1]? = some (.cells #[.int .i64 pk, .int .i64 pn, .string PS, .slice B1 pl e1, .slice B2 pm e2] 25 (0, 0)) from (hb.block _ Lw2_1.out).trans Rw2_1.out)
        have Lw3_1 := Lib.hid (show w.heap.size + 1 < w3.heap.size from Nat.lt_of_lt_of_le Lw2_1.out hb.size)
        have HBw3 := Lib.hid (HBw2.out.trans (hb.mono HBw2.out.size))
        clear hb
        go_wp2
        go_ret
        exact ⟨rfl, HBw3.out⟩
    · have tk : (k != 6) = true := bne_iff_ne.2 hk
      clear hk
      obtain ⟨⟨p0_0, p0_1, p0_2, p0_3, p0_4⟩, -⟩ := row5 Rw2_0.out
      obtain ⟨⟨p1_0, p1_1, p1_2, p1_3, p1_4⟩, -⟩ := row5 Rw2_1.out
      go_wp2_with fail
      clear p0_0 p0_1 p0_2 p0_3 p0_4 p1_0 p1_1 p1_2 p1_3 p1_4
      refine (awake_any9 _).mono ?_
      rintro e w3 ⟨rfl, hb⟩
      have Rw3_0 := Lib.hid (show w3.heap[w.heap.size]? = some (.cells #[.int .i64 k, .int .i64 n, .string S, .slice A1 l1 c1, .slice A2 m1 c2] 25 (0, 0)) from (hb.block _ Lw2_0.out).trans Rw2_0.out)
      have Lw3_0 := Lib.hid (show w.heap.size < w3.heap.size from Nat.lt_of_lt_of_le Lw2_0.out hb.size)
      have Rw3_1 := Lib.hid (show w3.heap[w.heap.size + 1]? = some (.cells #[.int .i64 pk, .int .i64 pn, .string PS, .slice B1 pl e1, .slice B2 pm e2] 25 (0, 0)) from (hb.block _ Lw2_1.out).trans Rw2_1.out)
      have Lw3_1 := Lib.hid (show w.heap.size + 1 < w3.heap.size from Nat.lt_of_lt_of_le Lw2_1.out hb.size)
      have HBw3 := Lib.hid (HBw2.out.trans (hb.mono HBw2.out.size))
      clear hb
      go_wp2
      go_ret
      exact ⟨rfl, HBw3.out⟩
end Go.Proofs.YtbfogkcnfnjcaaaGreat.Pa
