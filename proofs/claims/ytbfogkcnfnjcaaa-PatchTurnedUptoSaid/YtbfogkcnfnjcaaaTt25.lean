/- Merged: PoS. -/
import Derived.Test.YtbfogkcnfnjcaaaTt24
import Derived.Test.YtbfogkcnfnjcaaaTt8
namespace Go.Proofs.Ytbfogkcnfnjcaaa.Po
open Go.Proofs Go.RowKit
open Go.Proofs.Ytbfogkcnfnjcaaa.Utf
open Go.Proofs.Ytbfogkcnfnjcaaa.Sc
open Go.Proofs.Ytbfogkcnfnjcaaa.Re
open Go.Proofs.Ytbfogkcnfnjcaaa.Tr
open Go.Proofs.Ytbfogkcnfnjcaaa.Nu

def GivesOV (hi : Nat) (o : Option V) (w : World) (e : Ending) (w' : World) : Prop :=
  (∃ cs : List Value, e = .returned (.tuple #[.agg cs.toArray, .bool o.isSome]) ∧ RdA w 0 hi (o.getD V0) cs) ∧ Below w.heap.size w w'
theorem idx_yes {v : V} {p : List UInt8} {n : Int} (h : allS p = (n, true)) (h0 : 0 ≤ n) (h1 : n < v.l.length) (hk : n.toNat < v.l.length) : idxV v p = some v.l[n.toNat] := by
  unfold idxV
  rw [h]
  simp only [true_and]
  rw [if_pos ⟨h0, h1⟩, List.getElem?_eq_getElem hk]
theorem idx_no {v : V} {p : List UInt8} {n : Int} {b : Bool} (h : allS p = (n, b)) (h1 : ¬ (b = true ∧ 0 ≤ n ∧ n < v.l.length)) : idxV v p = none := by
  unfold idxV
  rw [h]
  exact if_neg h1

set_option maxRecDepth 100000 in
set_option maxHeartbeats 1000000 in
theorem step_any (hi : Nat) (v : V) (cs : List Value) (p : List UInt8) (w : World) (hhi : hi ≤ w.heap.size) (hv : RdA w 0 hi v cs) (hz : szA 4611686018427387904 v) (hp : p.length ≤ 9223372036854775807) :
    Calls Try.prog 40 #[.agg cs.toArray, .string (strOf p)] w (GivesOV hi (stepV v p) w) := by
  have hlen := in_len hv
  have HGET := Lib.hid (fun (W : World) (hW : Below w.heap.size w W) => Get_hi hi v cs p W (Nat.le_trans hhi hW.size) (hv.below hW hhi (Nat.le_refl _)) hz)
  have HALL := Lib.hid (fun (W : World) => All_any (strOf p) W (by rw [strOf_size]; exact hp))
  obtain ⟨-, -, -, z1, -, -, -, -⟩ := (szA_eq _ v).1 hz
  obtain ⟨A0, c0, A20, c20, rfl, hns, hL, -⟩ := hv.cells
  have HL := Lib.hid hL
  have HLEN := Lib.hid hlen
  obtain ⟨k, hk⟩ : ∃ x, v.k = x := ⟨_, rfl⟩
  obtain ⟨l, hl⟩ : ∃ x, v.l.length = x := ⟨_, rfl⟩
  have HK := Lib.hid hk
  have HLL := Lib.hid hl
  rw [hl] at z1 HL HGET ⊢
  rw [hk] at HGET ⊢
  clear hv hz hL hns hlen hk hl
  generalize v.n = n at *
  generalize strOf v.s = S at *
  generalize v.ms.length = m at *
  obtain ⟨X, hX⟩ : ∃ X, strOf p = X := ⟨_, rfl⟩
  have hXd : X.data.toList = p := by rw [← hX, strOf_data]
  rw [hX] at HGET HALL ⊢
  clear hX
  obtain ⟨W0, hW0⟩ : ∃ W0, W0 = ((w.alloc (.cells #[.int .i64 k, .int .i64 n, .string S, .slice A0 l c0, .slice A20 m c20] 25)).alloc (.cells #[.int .i64 0, .int .i64 0, .string ⟨#[]⟩, .slice none 0 0, .slice none 0 0] 25)) := ⟨_, rfl⟩
  have HB0 := Lib.hid (show Below w.heap.size w W0 by rw [hW0]; exact ((Below.refl _ _).alloc (Nat.le_refl _) _).alloc (by simp) _)
  have HS0 := Lib.hid (show W0.heap.size = w.heap.size + 2 by rw [hW0, szAl, szAl])
  have hv0 : W0.heap[w.heap.size]? = some (.cells #[.int .i64 k, .int .i64 n, .string S, .slice A0 l c0, .slice A20 m c20] 25 (0, 0)) := by rw [hW0]; exact heapOld (heapNew _ _) _
  have HR0 := Lib.hid (show W0.heap[w.heap.size + 1]? = some (.cells #[.int .i64 0, .int .i64 0, .string ⟨#[]⟩, .slice none 0 0, .slice none 0 0] 25 (0, 0)) by
    rw [hW0, show w.heap.size + 1 = (w.alloc (.cells #[.int .i64 k, .int .i64 n, .string S, .slice A0 l c0, .slice A20 m c20] 25)).heap.size by simp]; exact heapNew _ _)
  have HV0 := Lib.hid hv0
  have HW0 := Lib.hid hW0
  rw [hW0] at hv0
  obtain ⟨⟨p0, p1, p2, p3, p4⟩, -⟩ := row5 hv0
  clear hW0 hv0
  have NONE : ∀ W : World, stepV v p = none → Below w.heap.size w W → GivesOV hi (stepV v p) w (.returned (.tuple #[.agg #[.int .i64 0, .int .i64 0, .string ⟨#[]⟩, .slice none 0 0, .slice none 0 0], .bool false])) (st5 W (w.heap.size + 1) (.int .i64 0) (.int .i64 0) (.string ⟨#[]⟩) (.slice none 0 0) (.slice none 0 0)) := fun W hn hb => by
    rw [hn]
    exact ⟨⟨[.int .i64 0, .int .i64 0, .string ⟨#[]⟩, .slice none 0 0, .slice none 0 0], rfl, rd_zero _ _ _⟩, st5_below hb (by omega) _ _ _ _ _⟩
  have HNO := Lib.hid NONE
  clear NONE
  by_cases h6 : k = 6
  · subst h6
    go_enter Try.func40, Try.ntmps40
    go_wp2_with fail
    rw [← HW0.out]
    refine (HGET.out _ HB0.out).mono ?_
    rintro e w1 ⟨⟨ca, rfl, hca⟩, hb1⟩
    have HB1 := Lib.hid (HB0.out.trans (hb1.mono HB0.out.size))
    have hr1 := (hb1.block (w.heap.size + 1) (by rw [HS0.out]; omega)).trans HR0.out
    have HR1 := Lib.hid hr1
    obtain ⟨⟨r0, r1, r2, r3, r4⟩, ⟨f0, f1, f2, f3, f4⟩⟩ := row5 hr1
    have HST := Lib.hid (show stepV v p = if p ∈ inN v then some (getV v p) else none from if_pos HK.out)
    obtain ⟨B, hB⟩ : ∃ B, decide (p ∈ inN v) = B := ⟨_, rfl⟩
    have HDB := Lib.hid hB
    rw [hB]
    clear hB
    have HV0' := Lib.hid (show p ∉ inN v → getV v p = V0 from fun h => getV_none HLEN.out h)
    obtain ⟨g, hg⟩ : ∃ g, getV v p = g := ⟨_, rfl⟩
    rw [hg] at hca HST HV0'
    have HCA := Lib.hid hca
    obtain ⟨xA, xc, xB, xd, rfl, -⟩ := hca.cells
    clear hca hb1 hr1 p0 p1 p2 p3 p4 hg
    generalize g.k = xk at *
    generalize g.n = xn at *
    generalize strOf g.s = xs at *
    generalize g.l.length = xl at *
    generalize g.ms.length = xm at *
    go_wp2
    refine bodyPost_ret (res5b rfl rfl rfl (st5_row HR1.out (.int .i64 xk) (.int .i64 xn) (.string xs) (.slice xA xl xc) (.slice xB xm xd))) rfl ?_
    refine ⟨⟨[.int .i64 xk, .int .i64 xn, .string xs, .slice xA xl xc, .slice xB xm xd], ?_, ?_⟩, st5_below HB1.out (by omega) _ _ _ _ _⟩
    · rw [HST.out, ← HDB.out]
      by_cases hm : p ∈ inN v
      · rw [if_pos hm, decide_eq_true hm]; rfl
      · rw [if_neg hm, decide_eq_false hm]; rfl
    · rw [HST.out]
      have hca := RdA.keep (w' := w) (fun q _ hq => (HB0.out.cell (p := q) (Nat.lt_of_lt_of_le hq hhi)).symm) (Nat.le_refl _) (Nat.le_refl _) _ _ HCA.out
      by_cases hm : p ∈ inN v
      · rw [if_pos hm]; exact hca
      · rw [if_neg hm]
        have := HV0'.out hm
        rw [← this]
        exact hca
  · have d6 : (k == 6) = false := beq_eq_false_iff_ne.2 h6
    by_cases h5 : k = 5
    · subst h5
      have hst : stepV v p = idxV v p := by unfold stepV; rw [if_neg (by rw [HK.out]; decide), if_pos HK.out]
      have HST := Lib.hid hst
      clear hst d6 h6
      go_enter Try.func40, Try.ntmps40
      go_wp2_with fail
      rw [← HW0.out]
      refine (HALL.out _).mono ?_
      rintro e w1 ⟨rfl, hb1⟩
      have HB1 := Lib.hid (HB0.out.trans (hb1.mono HB0.out.size))
      have hr1 := (hb1.block (w.heap.size + 1) (by rw [HS0.out]; omega)).trans HR0.out
      have HR1 := Lib.hid hr1
      obtain ⟨⟨r0, r1, r2, r3, r4⟩, ⟨f0, f1, f2, f3, f4⟩⟩ := row5 hr1
      clear p0 p1 p2 p3 p4
      obtain ⟨⟨p0, p1, p2, p3, p4⟩, -⟩ := row5 ((hb1.block w.heap.size (by rw [HS0.out]; omega)).trans HV0.out)
      rw [hXd]
      rcases hO : allS p with ⟨i, ok⟩
      have HO := Lib.hid hO
      clear hb1 hr1 hO hXd
      cases ok
      · have HN := Lib.hid (HST.out.trans (idx_no HO.out (by simp)))
        go_wp2
        refine bodyPost_ret (res5b rfl rfl rfl (st5_row HR1.out (.int .i64 0) (.int .i64 0) (.string ⟨#[]⟩) (.slice none 0 0) (.slice none 0 0))) rfl ?_
        exact HNO.out _ HN.out HB1.out
      · by_cases h0 : 0 ≤ i
        · have d0 : decide (0 ≤ i) = true := decide_eq_true h0
          by_cases h1 : i < (l : Int)
          · have d1 : decide (i < (l : Int)) = true := decide_eq_true h1
            obtain ⟨j, rfl⟩ := Int.eq_ofNat_of_zero_le h0
            have hjl : j < v.l.length := by rw [HLL.out]; omega
            obtain ⟨g, o, rfl, _, hg, hr⟩ := HL.out (by omega)
            obtain ⟨xcs, hxc, hxv⟩ := RdAL.at_ _ o hr j hjl
            have HN := Lib.hid (HST.out.trans (idx_yes HO.out h0 (by rw [HLL.out]; exact h1) (by rw [Int.toNat_natCast]; exact hjl)))
            simp only [Int.toNat_natCast] at HN
            have HXV := Lib.hid hxv
            obtain ⟨xA, xc, xB, xd, rfl, -⟩ := hxv.cells
            have a0 := (HB1.out.cell (p := ⟨g, o + j * 5, none⟩) (Nat.lt_of_lt_of_le hg hhi)).trans (hxc 0 _ rfl)
            have a1 := (HB1.out.cell (p := ⟨g, o + j * 5 + 1, none⟩) (Nat.lt_of_lt_of_le hg hhi)).trans (hxc 1 _ rfl)
            have a2 := (HB1.out.cell (p := ⟨g, o + j * 5 + 2, none⟩) (Nat.lt_of_lt_of_le hg hhi)).trans (hxc 2 _ rfl)
            have a3 := (HB1.out.cell (p := ⟨g, o + j * 5 + 3, none⟩) (Nat.lt_of_lt_of_le hg hhi)).trans (hxc 3 _ rfl)
            have a4 := (HB1.out.cell (p := ⟨g, o + j * 5 + 4, none⟩) (Nat.lt_of_lt_of_le hg hhi)).trans (hxc 4 _ rfl)
            generalize v.l[j] = y at *
            generalize y.k = xk at *
            generalize y.n = xn at *
            generalize strOf y.s = xs at *
            generalize y.l.length = xl at *
            generalize y.ms.length = xm at *
            have k0 : (0 : Int) ≤ (j : Int) := by omega
            have k1 : (j : Int) < (l : Int) := by omega
            have k2 : ((j : Int)).toNat = j := by omega
            clear hxv hxc hr
            go_wp2
            refine bodyPost_ret (res5b rfl rfl rfl (st5_row HR1.out (.int .i64 xk) (.int .i64 xn) (.string xs) (.slice xA xl xc) (.slice xB xm xd))) rfl ?_
            refine ⟨⟨[.int .i64 xk, .int .i64 xn, .string xs, .slice xA xl xc, .slice xB xm xd], by rw [HN.out]; rfl, ?_⟩, st5_below HB1.out (by omega) _ _ _ _ _⟩
            rw [HN.out]
            exact HXV.out
          · have d1 : decide (i < (l : Int)) = false := decide_eq_false h1
            have HN := Lib.hid (HST.out.trans (idx_no HO.out (by rw [HLL.out]; omega)))
            clear h0 h1
            go_wp2
            refine bodyPost_ret (res5b rfl rfl rfl (st5_row HR1.out (.int .i64 0) (.int .i64 0) (.string ⟨#[]⟩) (.slice none 0 0) (.slice none 0 0))) rfl ?_
            exact HNO.out _ HN.out HB1.out
        · have d0 : decide (0 ≤ i) = false := decide_eq_false h0
          have HN := Lib.hid (HST.out.trans (idx_no HO.out (by rw [HLL.out]; omega)))
          clear h0
          go_wp2
          refine bodyPost_ret (res5b rfl rfl rfl (st5_row HR1.out (.int .i64 0) (.int .i64 0) (.string ⟨#[]⟩) (.slice none 0 0) (.slice none 0 0))) rfl ?_
          exact HNO.out _ HN.out HB1.out
    · have d5 : (k == 5) = false := beq_eq_false_iff_ne.2 h5
      have hst : stepV v p = none := by unfold stepV; rw [if_neg (by rw [HK.out]; exact h6), if_neg (by rw [HK.out]; exact h5)]
      have HST := Lib.hid hst
      have hr0 := HR0.out
      rw [HW0.out] at hr0
      obtain ⟨⟨r0, r1, r2, r3, r4⟩, ⟨f0, f1, f2, f3, f4⟩⟩ := row5 hr0
      clear hst h6 h5 hr0
      go_enter Try.func40, Try.ntmps40
      go_wp2
      rw [← HW0.out]
      refine bodyPost_ret (res5b rfl rfl rfl HR0.out) rfl ?_
      rw [HST.out]
      exact ⟨⟨[.int .i64 0, .int .i64 0, .string ⟨#[]⟩, .slice none 0 0, .slice none 0 0], rfl, rd_zero _ _ _⟩, HB0.out⟩
end Go.Proofs.Ytbfogkcnfnjcaaa.Po
