/- Merged: SmW1. -/
import Derived.Test.YthfladbanghkiaaTt11
import Derived.ArgAppend
import Derived.Deep.RegionHeld3
namespace Go.Proofs.Ythfladbanghkiaa.Sm
open Go.Proofs Go.RowKit
open Go.Proofs.Ythfladbanghkiaa.Utf
open Go.Proofs.Ythfladbanghkiaa.Nu
open Go.Proofs.Ythfladbanghkiaa.Wo

theorem drwP {B : Nat} {a w : World} (h : Below B a w) (n : Nat) : Below B a (w.drewN n) := ⟨h.os, h.tape, h.output, h.size, h.block⟩
theorem props_few (l : List UInt8) : (propsS l).length ≤ 701 := by
  unfold propsS
  split
  · simp
  · rw [lineP, List.length_map]
    have := spl_cnt 59 (tabS l)
    have := tab_len l
    omega
theorem typ_all (l : List UInt8) (k : Nat) (h : k < 21) : k < (typS ++ [l]).length := by rw [List.length_append, typS_len]; exact h

set_option maxRecDepth 100000 in
set_option maxHeartbeats 4000000 in
theorem tables_walk (X : ByteArray) (w : World) (_hx : X.size ≤ maxLen) :
    Calls Try.prog 3 #[.string X] w fun e w' => e = .returned (.bool true) ∧ Below w.heap.size w w' := by
  obtain ⟨i0, hi, hz0, hz1, hz2⟩ := info_parts infoSt
  have C1 := Lib.hid (fun wx => pTypes_any wx)
  have C2 := Lib.hid (fun wx => rTypes_any2 wx)
  have C3 := Lib.hid (fun wx => awake_any13 wx)
  have C4 := Lib.hid (fun Y wx => pProps_any Y wx)
  have C5 := Lib.hid (fun Y wx => rProps_any Y wx)
  have C6 := Lib.hid (fun (p : Pr) wx => same_any (strOf p.nm) (strOf p.ar) (strOf p.df) p.fm p.mu wx)
  go_enter Try.func3, Try.ntmps3
  go_wp2_with fail
  refine (C1.out _).mono ?_
  rintro e x1 ⟨v, rfl, hown, hb1⟩
  obtain ⟨gt, ct, rfl, hgt, htc⟩ := own_blk' hown (by rw [strK_len, typS_len]; omega)
  have HTC := Lib.hid htc
  have HB1 := Lib.hid hb1
  rw [strK_len, typS_len]
  clear hown hb1 htc
  go_wp2_with fail
  refine (C2.out _).mono ?_
  rintro e x2 ⟨gu, rfl, hgu, hgu2, huc, hb2⟩
  have HUC := Lib.hid huc
  have HTC2 := Lib.hid (fun j u hu => (hb2.cell (p := ⟨gt, j, none⟩) hgt).trans (HTC.out j u hu))
  have HB2 := Lib.hid (HB1.out.trans (hb2.mono HB1.out.size))
  have hgt2 : gt < x2.heap.size := Nat.lt_of_lt_of_le hgt hb2.size
  clear hb2 huc
  go_wp2_with fail
  refine (C3.out _).mono ?_
  rintro e x3 ⟨rfl, hb3⟩
  have huc3 := fun j u hu => (hb3.cell (p := ⟨gu, j, none⟩) hgu).trans (HUC.out j u hu)
  have HUC3 := Lib.hid huc3
  have HTC3 := Lib.hid (fun j u hu => (hb3.cell (p := ⟨gt, j, none⟩) hgt2).trans (HTC2.out j u hu))
  have HB3 := Lib.hid (HB2.out.trans (hb3.mono HB2.out.size))
  have hgt3 : gt < x3.heap.size := Nat.lt_of_lt_of_le hgt2 hb3.size
  have hgu3 : gu < x3.heap.size := Nat.lt_of_lt_of_le hgu hb3.size
  clear hb3
  have HLK := Lib.hid (show (strK typS).length = 20 by rw [strK_len]; rfl)
  have holds : ∀ b, some (⟨gu, 0, none⟩ : Addr) = some b → ∀ j u, (strK typS)[j]? = some u → (x3.alloc (.cells #[.string X] 9)).cell? (b.add j) = some u := fun b hb j u hu => by
    injection hb with hb
    subst hb
    have hp : (⟨gu, 0, none⟩ : Addr).add j = ⟨gu, j, none⟩ := by unfold Addr.add; split <;> simp_all
    rw [hp]
    exact (((Below.refl x3.heap.size x3).alloc (Nat.le_refl _) _).cell (p := ⟨gu, j, none⟩) hgu3).trans (HUC3.out j u hu)
  go_wp2_with (at_builtin; refine wpList_append_grows _ rfl _ _ 22 rfl 9 i0 _ 1 16 Try.underlying22 hi hz0 hz1 hz2 (by rfl) (by decide) (some ⟨gu, 0, none⟩) 20 20 (strK typS) rfl (fun h => by cases h) (by rw [HLK.out]) holds ⟨x3.heap.size, 0, none⟩ 1 1 [.string X] rfl rfl (cells_new _ _ _) (fun u hu => by simp at hu; subst hu; rfl) (by omega) (by unfold maxLen; omega) (by omega) ?_; intro va W0 hown0 hg0)
  have HBW := Lib.hid (show Below w.heap.size w W0 from (HB3.out.alloc HB3.out.size _).grown hg0 (by have := HB3.out.size; simp; omega) (fun k hk => by cases hk))
  have hbx : Below x3.heap.size x3 W0 := ((Below.refl x3.heap.size x3).alloc (Nat.le_refl _) _).grown hg0 (by simp) (fun k hk => by cases hk)
  have HUC0 := Lib.hid (fun j u hu => (hbx.cell (p := ⟨gu, j, none⟩) hgu3).trans (HUC3.out j u hu))
  have HTC0 := Lib.hid (fun j u hu => (hbx.cell (p := ⟨gt, j, none⟩) hgt3).trans (HTC3.out j u hu))
  have hgt0 : gt < W0.heap.size := Nat.lt_of_lt_of_le hgt3 hbx.size
  have hgu0 : gu < W0.heap.size := Nat.lt_of_lt_of_le hgu3 hbx.size
  have hall : strK typS ++ [.string X] = strK (typS ++ [X.data.toList]) := by unfold strK; rw [List.map_append]; rfl
  rw [hall] at hown0
  obtain ⟨ga, ca, rfl, hga, hac⟩ := own_blk' hown0 (by rw [strK_len, List.length_append, typS_len]; simp)
  have HAC := Lib.hid hac
  have HNA := Lib.hid (show (strK (typS ++ [X.data.toList])).length = 21 by rw [strK_len, List.length_append, typS_len]; rfl)
  rw [HNA.out]
  clear hown0 hg0 hbx hall hac holds huc3 HUC HUC3 HTC HTC2 HTC3
  go_wp2_with fail
  go_loopw [6] (fun i wr => ∃ k : Nat, i = .int .i64 (k : Int) ∧ k ≤ 21 ∧ Aside (Below W0.heap.size W0 wr)) (fun i _ => 21 - (intOf i).toNat)
  case atStart => exact ⟨0, rfl, by omega, (show Below _ _ _ from Below.refl _ _)⟩
  case round =>
    obtain ⟨k, rfl, hk, hbel⟩ := hrel
    have HBE := Lib.hid hbel.out
    clear hbel
    by_cases hlt : k < 21
    · have t1 : decide ((k : Int) < 21) = true := decide_eq_true (by omega)
      have t2 : decide (k < 21) = true := decide_eq_true hlt
      have k0 : (0 : Int) ≤ (k : Int) := by omega
      have k1 : (k : Int) < 21 := by omega
      have k2 : ((k : Int)).toNat = k := by omega
      have HZL := Lib.hid (typ_all X.data.toList k hlt)
      have pa0 := HAC.out k _ (strK_at (typS ++ [X.data.toList]) k HZL.out)
      have pa := (HBE.out.cell (p := ⟨ga, k, none⟩) hga).trans pa0
      have HPA := Lib.hid pa0
      have HT0 := Lib.hid (fun (h : k < 20) => (HBE.out.cell (p := ⟨gt, k, none⟩) hgt0).trans (HTC0.out k _ (strK_at typS k (by rw [typS_len]; exact h))))
      have HU0 := Lib.hid (fun (h : k < 20) => (HBE.out.cell (p := ⟨gu, k, none⟩) hgu0).trans (HUC0.out k _ (strK_at typS k (by rw [typS_len]; exact h))))
      clear pa0
      generalize (typS ++ [X.data.toList])[k] = z at *
      have HFEW := Lib.hid (props_few z)
      have C4Z := Lib.hid (fun wx => C4.out (strOf z) wx)
      have C5Z := Lib.hid (fun wx => C5.out (strOf z) wx)
      rw [strOf_data] at C4Z C5Z
      generalize propsS z = L at *
      generalize strOf z = Z at *
      have hcase : (∃ (Y : ByteArray), decide ((k : Int) < 20) = true ∧ wr.cell? ⟨gt, k, none⟩ = some (.string Y) ∧ wr.cell? ⟨gu, k, none⟩ = some (.string Y) ∧ (Y.toList != Y.toList) = false ∧ (k : Int) < 20 ∧ (Y.toList == Y.toList) = true) ∨ (decide ((k : Int) < 20) = false ∧ ¬ (k : Int) < 20) := by
        by_cases h20 : k < 20
        · exact .inl ⟨_, decide_eq_true (by omega), HT0.out h20, HU0.out h20, bne_self_eq_false _, by omega, beq_self_eq_true _⟩
        · exact .inr ⟨decide_eq_false (by omega), by omega⟩
      rcases hcase with ⟨Y, d1, pt, pu, yq, d2, yq2⟩ | ⟨d1, d2⟩
      all_goals
        go_wp2_with fail
        go_quiet (fail)
        go_wp2_with fail
        refine (C4Z.out _).mono ?_
        rintro e y1 ⟨v1, rfl, hown1, hb1⟩
        have HY1 := Lib.hid ((drwP HBE.out _).trans (hb1.mono (drwP HBE.out _).size))
        have HR1 := Lib.hid (RdP.of_own hown1)
        obtain ⟨A1, c1, rfl, -⟩ := RdP.of_own hown1
        have pa2 := (HY1.out.cell (p := ⟨ga, k, none⟩) hga).trans HPA.out
        clear hown1 hb1 pa
        go_wp2_with fail
        refine (C5Z.out _).mono ?_
        rintro e y2 ⟨v2, rfl, hown2, hb2⟩
        have HY2 := Lib.hid (HY1.out.trans (hb2.mono HY1.out.size))
        have HR1b := Lib.hid ((HR1.out.below hb2 (Nat.le_refl _)).more hb2.size)
        have HR2 := Lib.hid (RdP.of_own hown2)
        obtain ⟨A2, c2, rfl, -⟩ := RdP.of_own hown2
        obtain ⟨n, hn⟩ : ∃ n, L.length = n := ⟨_, rfl⟩
        have HN := Lib.hid hn
        have hn2 : n ≤ 701 := by have := HFEW.out; omega
        rw [hn]
        clear hown2 hb2 pa2 hn
        go_wp2_with fail
        go_loopw [9] (fun i wq => ∃ j : Nat, i = .int .i64 (j : Int) ∧ j ≤ n ∧ Aside (Below y2.heap.size y2 wq)) (fun i _ => n - (intOf i).toNat)
        case atStart => exact ⟨0, rfl, by omega, (show Below _ _ _ from Below.refl _ _)⟩
        case round =>
          obtain ⟨j, rfl, hj, hbq⟩ := hrel
          have HBQ := Lib.hid hbq.out
          clear hbq
          by_cases hjt : j < n
          · have t3 : decide ((j : Int) < (n : Int)) = true := decide_eq_true (by omega)
            have t4 : decide (j < n) = true := decide_eq_true hjt
            have j0 : (0 : Int) ≤ (j : Int) := by omega
            have j1 : (j : Int) < (n : Int) := by omega
            have j2 : ((j : Int)).toNat = j := by omega
            have hjL : j < L.length := by rw [HN.out]; exact hjt
            obtain ⟨g1, cc1, hA1, hg1, hp1⟩ := HR1b.out.at_ j hjL
            obtain ⟨g2, cc2, hA2, hg2, hp2⟩ := HR2.out.at_ j hjL
            injection hA1 with hA1 n1 m1
            injection hA2 with hA2 n2 m2
            clear n1 m1 n2 m2
            subst hA1 hA2
            have CS := Lib.hid (fun wx => C6.out L[j] wx)
            have q0 := (HBQ.out.cell (p := ⟨g1, j * 5, none⟩) hg1).trans hp1.1
            have q1 := (HBQ.out.cell (p := ⟨g1, j * 5 + 1, none⟩) hg1).trans hp1.2.1
            have q2 := (HBQ.out.cell (p := ⟨g1, j * 5 + 2, none⟩) hg1).trans hp1.2.2.1
            have q3 := (HBQ.out.cell (p := ⟨g1, j * 5 + 3, none⟩) hg1).trans hp1.2.2.2.1
            have q4 := (HBQ.out.cell (p := ⟨g1, j * 5 + 4, none⟩) hg1).trans hp1.2.2.2.2
            have r0 := (HBQ.out.cell (p := ⟨g2, j * 5, none⟩) hg2).trans hp2.1
            have r1 := (HBQ.out.cell (p := ⟨g2, j * 5 + 1, none⟩) hg2).trans hp2.2.1
            have r2 := (HBQ.out.cell (p := ⟨g2, j * 5 + 2, none⟩) hg2).trans hp2.2.2.1
            have r3 := (HBQ.out.cell (p := ⟨g2, j * 5 + 3, none⟩) hg2).trans hp2.2.2.2.1
            have r4 := (HBQ.out.cell (p := ⟨g2, j * 5 + 4, none⟩) hg2).trans hp2.2.2.2.2
            clear hp1 hp2
            generalize strOf L[j].nm = p0 at *
            generalize L[j].fm = p1 at *
            generalize strOf L[j].ar = p2 at *
            generalize L[j].mu = p3 at *
            generalize strOf L[j].df = p4 at *
            have gq1 : g1 < wr.heap.size := Nat.lt_of_lt_of_le hg1 HBQ.out.size
            have gq2 : g2 < wr.heap.size := Nat.lt_of_lt_of_le hg2 HBQ.out.size
            go_wp2_with fail
            go_region_held3 (fun w' => w'.cell? ⟨g1, j * 5, none⟩ = some (.string p0) ∧ w'.cell? ⟨g1, j * 5 + 1, none⟩ = some (.int .i64 p1) ∧ w'.cell? ⟨g1, j * 5 + 2, none⟩ = some (.string p2) ∧ w'.cell? ⟨g1, j * 5 + 3, none⟩ = some (.bool p3) ∧ w'.cell? ⟨g1, j * 5 + 4, none⟩ = some (.string p4) ∧ w'.cell? ⟨g2, j * 5, none⟩ = some (.string p0) ∧ w'.cell? ⟨g2, j * 5 + 1, none⟩ = some (.int .i64 p1) ∧ w'.cell? ⟨g2, j * 5 + 2, none⟩ = some (.string p2) ∧ w'.cell? ⟨g2, j * 5 + 3, none⟩ = some (.bool p3) ∧ w'.cell? ⟨g2, j * 5 + 4, none⟩ = some (.string p4))
              (first | go_keep | exact ⟨(hb5.cell (p := ⟨g1, j * 5, none⟩) (by simpa using gq1)).trans q0, (hb5.cell (p := ⟨g1, j * 5 + 1, none⟩) (by simpa using gq1)).trans q1, (hb5.cell (p := ⟨g1, j * 5 + 2, none⟩) (by simpa using gq1)).trans q2, (hb5.cell (p := ⟨g1, j * 5 + 3, none⟩) (by simpa using gq1)).trans q3, (hb5.cell (p := ⟨g1, j * 5 + 4, none⟩) (by simpa using gq1)).trans q4, (hb5.cell (p := ⟨g2, j * 5, none⟩) (by simpa using gq2)).trans r0, (hb5.cell (p := ⟨g2, j * 5 + 1, none⟩) (by simpa using gq2)).trans r1, (hb5.cell (p := ⟨g2, j * 5 + 2, none⟩) (by simpa using gq2)).trans r2, (hb5.cell (p := ⟨g2, j * 5 + 3, none⟩) (by simpa using gq2)).trans r3, (hb5.cell (p := ⟨g2, j * 5 + 4, none⟩) (by simpa using gq2)).trans r4⟩)
              ((go_at_call 12; refine (CS.out _).mono ?_; rintro e w5 ⟨rfl, hb5⟩))
            have HB5 := Lib.hid (HBQ.out.drew.trans (hb5.mono (by have := HBQ.out.size; simpa using this)))
            clear hb5
            go_wp2_with fail
            go_roundw
            case rel => exact ⟨j + 1, by go_num, by omega, HB5.out⟩
            case measure => simp [intOf]; omega
          · have t3 : decide ((j : Int) < (n : Int)) = false := decide_eq_false (by omega)
            have t4 : decide (j < n) = false := decide_eq_false hjt
            have HQ2 := Lib.hid (HY2.out.trans (HBQ.out.mono HY2.out.size))
            go_wp2_with fail
            go_roundw
            case rel => exact ⟨k + 1, by go_num, by omega, HQ2.out⟩
            case measure => simp [intOf]; omega
    · have t1 : decide ((k : Int) < 21) = false := decide_eq_false (by omega)
      have t2 : decide (k < 21) = false := decide_eq_false hlt
      go_wp2_with fail
      go_ret
      exact ⟨rfl, HBW.out.trans (HBE.out.mono HBW.out.size)⟩
end Go.Proofs.Ythfladbanghkiaa.Sm
