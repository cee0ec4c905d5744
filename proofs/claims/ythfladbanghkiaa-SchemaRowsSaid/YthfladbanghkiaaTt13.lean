/- Merged: SmW3. -/
import Derived.Test.YthfladbanghkiaaTt12
import Derived.Test.YthfladbanghkiaaTt2
import Derived.Test.YthfladbanghkiaaTt4
import Derived.Deep.DeepCutAuto
namespace Go.Proofs.Ythfladbanghkiaa.Sm
open Go.Proofs Go.RowKit
open Go.Proofs.Ythfladbanghkiaa.Utf
open Go.Proofs.Ythfladbanghkiaa.Nu
open Go.Proofs.Ythfladbanghkiaa.Wo

set_option maxRecDepth 100000 in
set_option maxHeartbeats 4000000 in
theorem rows_walk (n : Int) (w : World) (hn : (Lit.int .u8 n).wf = true) :
    Calls Try.prog 5 #[.int .u8 n] w fun e w' => e = .returned (.bool true) ∧ Below w.heap.size w w' := by
  have hn2 : 0 ≤ n ∧ n ≤ 255 := by
    have h1 : IntKind.u8.min ≤ n ∧ n ≤ IntKind.u8.max := by simpa [Lit.wf] using hn
    rwa [show IntKind.u8.min = 0 from rfl, show IntKind.u8.max = 255 from rfl] at h1
  obtain ⟨q, hq, hq20⟩ := typ_get n hn2.1 hn2.2
  have hqi : (q : Int) < 20 := by omega
  have hq0 : (0 : Int) ≤ (q : Int) := by omega
  have hqn : ((q : Int)).toNat = q := by omega
  have hql : q < typS.length := by rw [typS_len]; exact hq20
  have C1 := Lib.hid (fun wx => pTypes_any wx)
  have C3 := Lib.hid (fun wx => awake_any13 wx)
  have C4 := Lib.hid (fun wx => pProps_any (strOf typS[q]) wx)
  have C5 := Lib.hid (fun (l : List UInt8) wx => pProps_any (strOf l) wx)
  have C6 := Lib.hid (fun (l t : List UInt8) wx (h : l.length ≤ 9223372036854775807) => In_any (strOf l) (strOf t) wx (by rw [strOf_size]; exact h))
  have HAT := Lib.hid (strK_at typS q hql)
  rw [strOf_data] at C4
  have HFEW := Lib.hid (props_few typS[q])
  have HRO := Lib.hid (rows_at hql)
  have HPO := Lib.hid (props_some hql)
  have HARL := Lib.hid (arg_few hql)
  generalize propsS typS[q] = L at *
  generalize strOf typS[q] = Z at *
  clear hql
  go_enter Try.func5, Try.ntmps5
  go_wp2_with fail
  refine (C1.out _).mono ?_
  rintro e x1 ⟨v, rfl, hown, hb1⟩
  obtain ⟨gt, ct, rfl, hgt, hcell⟩ := own_blk' hown (by rw [strK_len, typS_len]; omega)
  have HC := Lib.hid hcell
  have HB1 := Lib.hid hb1
  rw [strK_len, typS_len]
  clear hown hb1 hcell
  go_wp2_with fail
  refine (C3.out _).mono ?_
  rintro e x2 ⟨rfl, hb2⟩
  have pq := (hb2.cell (p := ⟨gt, q, none⟩) hgt).trans (HC.out q _ HAT.out)
  have HB2 := Lib.hid (HB1.out.trans (hb2.mono HB1.out.size))
  clear hb2
  go_wp2_with fail
  refine (C4.out _).mono ?_
  rintro e x3 ⟨vl, rfl, hown, hb3⟩
  have HRD := Lib.hid (RdP.of_own hown)
  obtain ⟨A, cl, rfl, -⟩ := RdP.of_own hown
  obtain ⟨N, hN⟩ : ∃ N, L.length = N := ⟨_, rfl⟩
  have HN := Lib.hid hN
  rw [hN]
  have hN2 : N ≤ 701 := by have := HFEW.out; omega
  have hN0 : 0 < N := by have := HPO.out; omega
  have HB3 := Lib.hid (HB2.out.trans (hb3.mono HB2.out.size))
  clear hown hb3 hN pq
  go_wp2_with fail
  go_loopw [6] (fun i wr => ∃ k : Nat, i = .int .i64 (k : Int) ∧ k ≤ N ∧ Aside (Below x3.heap.size x3 wr)) (fun i _ => N - (intOf i).toNat)
  case atStart => exact ⟨0, rfl, by omega, (show Below _ _ _ from Below.refl _ _)⟩
  case round =>
    obtain ⟨k, rfl, hk, hbel⟩ := hrel
    have HBE := Lib.hid hbel.out
    clear hbel
    by_cases hlt : k < N
    · have t1 : decide ((k : Int) < (N : Int)) = true := decide_eq_true (by omega)
      have t2 : decide (k < N) = true := decide_eq_true hlt
      have k0 : (0 : Int) ≤ (k : Int) := by omega
      have k1 : (k : Int) < (N : Int) := by omega
      have k2 : ((k : Int)).toNat = k := by omega
      have hkL : k < L.length := by rw [HN.out]; exact hlt
      obtain ⟨g, cc, hA, hg, hp5⟩ := HRD.out.at_ k hkL
      injection hA with hA n1 m1
      clear n1 m1
      subst hA
      obtain ⟨hlss, hf1, hf2, hmd, hrk⟩ := row_of hkL (HRO.out k hkL)
      have hal := HARL.out k hkL
      have HLS := Lib.hid (show 0 < k → ∃ Y : ByteArray, wr.cell? ⟨g, (k - 1) * 5, none⟩ = some (.string Y) ∧ Op.bytesLess Y.toList (strOf L[k].nm).toList = true from fun h0 => by
        obtain ⟨g', cc', hA', hg', hp'⟩ := HRD.out.at_ (k - 1) (by omega)
        injection hA' with hA' _ _
        injection hA' with hA'
        injection hA' with hA'
        subst hA'
        exact ⟨_, (HBE.out.cell (p := ⟨g, (k - 1) * 5, none⟩) hg').trans hp'.1, by rw [strOf_list, strOf_list]; exact hlss h0⟩)
      have q0 := (HBE.out.cell (p := ⟨g, k * 5, none⟩) hg).trans hp5.1
      have q1 := (HBE.out.cell (p := ⟨g, k * 5 + 1, none⟩) hg).trans hp5.2.1
      have q2 := (HBE.out.cell (p := ⟨g, k * 5 + 2, none⟩) hg).trans hp5.2.2.1
      have q3 := (HBE.out.cell (p := ⟨g, k * 5 + 3, none⟩) hg).trans hp5.2.2.2.1
      have q4 := (HBE.out.cell (p := ⟨g, k * 5 + 4, none⟩) hg).trans hp5.2.2.2.2
      clear hp5 hlss
      generalize L[k] = P at *
      obtain ⟨nm, f, ar, mu, df⟩ := P
      simp only at hal hf1 hf2 hmd q0 q1 q2 q3 q4 HLS
      have HRK := Lib.hid hrk
      unfold rowK at HRK
      simp only at HRK
      clear hrk
      have HAR := Lib.hid (strOf_list ar)
      have HAL := Lib.hid hal
      have HDF := Lib.hid (strOf_list df)
      have HPA := Lib.hid (fun wx => C5.out ar wx)
      rw [strOf_data] at HPA
      have HIN := Lib.hid (show ar.length ≤ 700 → ∀ wx, Calls Try.prog 15 #[.string (strOf ar), .string (strOf df)] wx (fun e w' => e = .returned (.bool (inS ar df)) ∧ Below wx.heap.size wx w') from fun h wx => by
        have h2 := C6.out ar df wx (by omega)
        rw [strOf_data, strOf_data] at h2
        exact h2)
      obtain ⟨AR, hAR⟩ : ∃ X, strOf ar = X := ⟨_, rfl⟩
      obtain ⟨DF, hDF⟩ : ∃ X, strOf df = X := ⟨_, rfl⟩
      rw [hAR] at q2 HAR HPA HIN
      rw [hDF] at q4 HDF HIN
      generalize strOf nm = NM at *
      clear hAR hDF
      have HA := Lib.hid (show Below x3.heap.size x3 (wr.alloc (.cells #[.string NM, .int .i64 f, .string AR, .bool mu, .string DF] 31)) from HBE.out.alloc HBE.out.size _)
      have HAB := Lib.hid (show (wr.alloc (.cells #[.string NM, .int .i64 f, .string AR, .bool mu, .string DF] 31)).heap[wr.heap.size]? = some (.cells #[.string NM, .int .i64 f, .string AR, .bool mu, .string DF] 31 (0, 0)) from heap_alloc_new _ _)
      have HAS := Lib.hid (szAlc wr (.cells #[.string NM, .int .i64 f, .string AR, .bool mu, .string DF] 31))
      have HAO := Lib.hid (fun (p : Addr) (hp : p.block < wr.heap.size) => ((Below.refl wr.heap.size wr).alloc (Nat.le_refl _) (.cells #[.string NM, .int .i64 f, .string AR, .bool mu, .string DF] 31)).cell hp)
      have hgw : g < wr.heap.size := Nat.lt_of_lt_of_le hg HBE.out.size
      go_upto_region 10 with fail
      generalize wr.alloc (.cells #[.string NM, .int .i64 f, .string AR, .bool mu, .string DF] 31) = wA at *
      obtain ⟨⟨z0, z1, z2, z3, z4⟩, -⟩ := rowP HAB.out
      have f1 : decide (f < 1) = false := decide_eq_false (by omega)
      have f2 : decide (f > 18) = false := decide_eq_false (by omega)
      have f3 : decide ((18 : Int) < f) = false := decide_eq_false (by omega)
      go_cut [63] (fun c wx => c = .bool false ∧ Aside (∃ z, wx = wA.drewN z))
      case first =>
        have HMD := Lib.hid (show mu = false ∨ (mu = true ∧ (DF.toList != []) = false ∧ DF.toList = []) from by
          cases mu
          · exact .inl rfl
          · exact .inr ⟨rfl, by rw [HDF.out, hmd rfl]; rfl, by rw [HDF.out, hmd rfl]⟩)
        clear hmd
        have hi : (k = 0 ∧ decide ((k : Int) > 0) = false ∧ decide ((0 : Int) < (k : Int)) = false) ∨ (0 < k ∧ decide ((k : Int) > 0) = true ∧ decide ((0 : Int) < (k : Int)) = true) := by
          rcases Nat.eq_zero_or_pos k with h | h
          · exact .inl ⟨h, decide_eq_false (by omega), decide_eq_false (by omega)⟩
          · exact .inr ⟨h, decide_eq_true (by omega), decide_eq_true (by omega)⟩
        rcases hi with ⟨h0, i1, i2⟩ | ⟨h0, i1, i2⟩
        · have i3 : decide (0 < k) = false := decide_eq_false (by omega)
          clear h0
          rcases HMD.out with hm | ⟨hm, d1, d2⟩
          all_goals
            subst hm
            go_wp2_with fail
            go_quiet (fail)
            go_wp2_with fail
            go_meet
            exact ⟨rfl, (show ∃ _, _ from ⟨_, rfl⟩)⟩
        · obtain ⟨Y, hy, hls⟩ := HLS.out h0
          have ly := (HAO.out ⟨g, (k - 1) * 5, none⟩ hgw).trans hy
          obtain ⟨k', hk'⟩ : ∃ k' : Nat, k = k' + 1 := ⟨k - 1, by omega⟩
          have kk : (k : Int) - 1 = (k' : Int) := by omega
          have kk0 : (0 : Int) ≤ (k' : Int) := by omega
          have kk1 : (k' : Int) < (N : Int) := by omega
          have kk2 : ((k' : Int)).toNat = k' := by omega
          rw [show k - 1 = k' by omega] at ly
          have ge1 : (!Op.bytesLess Y.toList NM.toList) = false := by rw [hls]; rfl
          clear hk'
          rcases HMD.out with hm | ⟨hm, d1, d2⟩
          all_goals
            subst hm
            go_wp2_with fail
            go_quiet (fail)
            go_wp2_with fail
            go_meet
            exact ⟨rfl, (show ∃ _, _ from ⟨_, rfl⟩)⟩
      case rest =>
        obtain ⟨rfl, hwc⟩ := hcut
        obtain ⟨zz, rfl⟩ := hwc.out
        clear hwc z0 z1 z2 z3 z4 f1 f2 f3 hmd q0 q1 q2 q3 q4
        have HAD := Lib.hid (show Below x3.heap.size x3 (wA.drewN zz) from drwP HA.out _)
        have HABD := Lib.hid (show (wA.drewN zz).heap[wr.heap.size]? = some (.cells #[.string NM, .int .i64 f, .string AR, .bool mu, .string DF] 31 (0, 0)) from HAB.out)
        have HASD := Lib.hid (show (wA.drewN zz).heap.size = wr.heap.size + 1 from HAS.out)
        generalize wA.drewN zz = wB at *
        obtain ⟨⟨z0, z1, z2, z3, z4⟩, -⟩ := rowP HABD.out
        have em : ∀ (X : ByteArray) (l : List UInt8), X.toList = l → l = [] → (X.toList == []) = true ∧ (X.toList != []) = false ∧ X.toList = [] ∧ X.toList.isEmpty = true := fun X l h1 h2 => by
          rw [h1, h2]; exact ⟨rfl, rfl, rfl, rfl⟩
        have ne : ∀ (X : ByteArray) (l : List UInt8), X.toList = l → l ≠ [] → (X.toList == []) = false ∧ (X.toList != []) = true ∧ ¬ X.toList = [] ∧ X.toList.isEmpty = false := fun X l h1 h2 => by
          rw [h1]
          cases l with
          | nil => exact absurd rfl h2
          | cons a b => exact ⟨rfl, rfl, by simp, rfl⟩
        have HEM := Lib.hid em
        have HNE := Lib.hid ne
        clear em ne
        rcases HRK.out with ⟨g1, g2, g3, g4, g5⟩ | ⟨g1, g2, g3⟩ | ⟨g1, g2, g3, g4⟩ | ⟨g1, g2, g3⟩ | ⟨g1, g2, g3, g4⟩ | ⟨g1, g2, g3⟩
        · obtain ⟨a1, a2, a3, a4⟩ := HNE.out AR ar HAR.out g4
          obtain ⟨b1, b2, b3, b4⟩ := HEM.out DF df HDF.out g5
          have c1 : decide (f ≥ 12) = true := decide_eq_true (by omega)
          have c1' : decide ((12 : Int) ≤ f) = true := decide_eq_true (by omega)
          have c2 : decide (f ≤ 15) = true := decide_eq_true (by omega)
          have c3 : (f == 11) = false := beq_eq_false_iff_ne.2 (by omega)
          have c4 : (f == 17) = false := beq_eq_false_iff_ne.2 (by omega)
          have HPN := Lib.hid (show (propsS ar).length ≠ 0 from fun h => g3 (List.eq_nil_of_length_eq_zero h))
          have HPF := Lib.hid (props_few ar)
          generalize propsS ar = PA at *
          clear g3 g4 g5 g1 g2
          go_wp2_with fail
          refine (HPA.out _).mono ?_
          rintro e y1 ⟨vp, rfl, hown, hb⟩
          obtain ⟨⟨z0, z1, z2, z3, z4⟩, -⟩ := rowP ((hb.block wr.heap.size (by have := HASD.out; omega)).trans HABD.out)
          have HY := Lib.hid (HAD.out.trans (hb.mono HAD.out.size))
          obtain ⟨Ap, cp, rfl, -⟩ := RdP.of_own hown
          obtain ⟨np, hnp⟩ : ∃ np, PA.length = np := ⟨_, rfl⟩
          rw [hnp]
          have pn : ((np : Int) == 0) = false := beq_eq_false_iff_ne.2 (by have := HPN.out; omega)
          clear hown hb hnp
          go_wp2_with fail
          go_roundw
          case rel => exact ⟨k + 1, by go_num, by omega, HY.out⟩
          case measure => simp [intOf]; omega
        · obtain ⟨a1, a2, a3, a4⟩ := HNE.out AR ar HAR.out g2
          obtain ⟨b1, b2, b3, b4⟩ := HEM.out DF df HDF.out g3
          subst g1
          clear g2 g3
          go_wp2_with fail
          go_roundw
          case rel => exact ⟨k + 1, by go_num, by omega, HAD.out⟩
          case measure => simp [intOf]; omega
        · obtain ⟨a1, a2, a3, a4⟩ := HNE.out AR ar HAR.out g2
          obtain ⟨b1, b2, b3, b4⟩ := HNE.out DF df HDF.out g3
          subst g1
          have HI := Lib.hid (HIN.out HAL.out)
          rw [g4] at HI
          clear g2 g3 g4
          go_wp2_with fail
          refine (HI.out _).mono ?_
          rintro e y1 ⟨rfl, hb⟩
          obtain ⟨⟨z0, z1, z2, z3, z4⟩, -⟩ := rowP ((hb.block wr.heap.size (by have := HASD.out; omega)).trans HABD.out)
          have HY := Lib.hid (HAD.out.trans (hb.mono HAD.out.size))
          clear hb
          go_wp2_with fail
          go_roundw
          case rel => exact ⟨k + 1, by go_num, by omega, HY.out⟩
          case measure => simp [intOf]; omega
        · obtain ⟨a1, a2, a3, a4⟩ := HNE.out AR ar HAR.out g2
          obtain ⟨b1, b2, b3, b4⟩ := HEM.out DF df HDF.out g3
          subst g1
          clear g2 g3
          go_wp2_with fail
          go_roundw
          case rel => exact ⟨k + 1, by go_num, by omega, HAD.out⟩
          case measure => simp [intOf]; omega
        · obtain ⟨a1, a2, a3, a4⟩ := HEM.out AR ar HAR.out g3
          obtain ⟨b1, b2, b3, b4⟩ := HEM.out DF df HDF.out g4
          have c3 : (f == 11) = false := beq_eq_false_iff_ne.2 (by omega)
          have c4 : (f == 17) = false := beq_eq_false_iff_ne.2 (by omega)
          have hf : f < 12 ∨ 15 < f := by omega
          clear g3 g4 g1 g2
          rcases hf with hf | hf
          · have c1 : decide (f ≥ 12) = false := decide_eq_false (by omega)
            have c1' : decide ((12 : Int) ≤ f) = false := decide_eq_false (by omega)
            go_wp2_with fail
            go_roundw
            case rel => exact ⟨k + 1, by go_num, by omega, HAD.out⟩
            case measure => simp [intOf]; omega
          · have c1 : decide (f ≥ 12) = true := decide_eq_true (by omega)
            have c1' : decide ((12 : Int) ≤ f) = true := decide_eq_true (by omega)
            have c2 : decide (f ≤ 15) = false := decide_eq_false (by omega)
            go_wp2_with fail
            go_roundw
            case rel => exact ⟨k + 1, by go_num, by omega, HAD.out⟩
            case measure => simp [intOf]; omega
        · obtain ⟨a1, a2, a3, a4⟩ := HEM.out AR ar HAR.out g2
          obtain ⟨b1, b2, b3, b4⟩ := HNE.out DF df HDF.out (by rw [g3]; simp)
          have d1 : (DF.toList == [102, 97, 108, 115, 101]) = true := by rw [HDF.out, g3]; rfl
          have d2 : DF.toList = [102, 97, 108, 115, 101] := by rw [HDF.out, g3]
          subst g1
          clear g2 g3 b1 b2 b3 b4
          have b2 : (DF.toList != []) = true := by rw [d2]; rfl
          go_wp2_with fail
          go_roundw
          case rel => exact ⟨k + 1, by go_num, by omega, HAD.out⟩
          case measure => simp [intOf]; omega
    · have t1 : decide ((k : Int) < (N : Int)) = false := decide_eq_false (by omega)
      have t2 : decide (k < N) = false := decide_eq_false hlt
      have tN : decide ((N : Int) > 0) = true := decide_eq_true (by omega)
      have tN2 : decide ((0 : Int) < (N : Int)) = true := decide_eq_true (by omega)
      go_wp2_with fail
      go_ret
      exact ⟨rfl, HB3.out.trans (HBE.out.mono HB3.out.size)⟩
end Go.Proofs.Ythfladbanghkiaa.Sm
