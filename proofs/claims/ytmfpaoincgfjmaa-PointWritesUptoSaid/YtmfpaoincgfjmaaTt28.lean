/- Merged: PoN. -/
import Derived.Test.YtmfpaoincgfjmaaTt22
import Derived.Test.YtmfpaoincgfjmaaTt24
set_option linter.unusedSimpArgs false
namespace Go.Proofs.Ytmfpaoincgfjmaa.Po
open Go.Proofs Go.RowKit
open Go.Proofs.Ytmfpaoincgfjmaa.Utf
open Go.Proofs.Ytmfpaoincgfjmaa.Sc
open Go.Proofs.Ytmfpaoincgfjmaa.Em
open Go.Proofs.Ytmfpaoincgfjmaa.Tr

theorem own_more {B : Nat} {w0 wr w2 : World} {vq v2 : Value} {X : List UInt8} {Y : List UInt8} {o : Obj} (hb : Below B w0 wr) (h : wr.ownsRow B 5 1 vq X.length (Lib.byteCells X)) (hB : B ≤ wr.heap.size) (hown : w2.ownsRow B 5 1 v2 (X.length + Y.length) (Lib.byteCells X ++ Lib.byteCells Y)) (hg : (wr.alloc o).grownBy w2 vq.ownBlock) :
    w2.ownsRow B 5 1 v2 (X ++ Y).length (Lib.byteCells (X ++ Y)) ∧ Below B w0 w2 :=
  ⟨by rw [List.length_append, Lib.byteCells_append]; exact hown, (hb.alloc hB _).grown hg (by simp; omega) (fun k hk => (h.lt k hk).1)⟩

set_option maxRecDepth 100000 in
set_option maxHeartbeats 2000000 in
theorem rText_any (v : Value) (ps : List (List UInt8)) (w : World) (hv : Rd w w.heap.size v (strC ps)) (hl : plen ps ≤ 70368744177664) :
    Calls Try.prog 13 #[v] w (Gives (.string (strOf (ptxt ps))) w) := by
  obtain ⟨i0, hi, hz0, hz1, hz2⟩ := info_parts infoU8
  obtain ⟨A, c, rfl, hc⟩ := hv
  rw [strC_len] at hc ⊢
  have HC := Lib.hid hc
  obtain ⟨n, hn⟩ : ∃ n, ps.length = n := ⟨_, rfl⟩
  have HN := Lib.hid hn
  have HL := Lib.hid hl
  have hnb : n ≤ 70368744177664 := by have := len_plen ps; omega
  rw [hn]
  clear hc hn hl
  go_enter Try.func13, Try.ntmps13
  go_wp2_with fail
  go_loopw [3, 4] (fun vq i wr => ∃ k : Nat, i = .int .i64 k ∧ k ≤ n ∧ Aside (wr.ownsRow w.heap.size 5 1 vq (ptxt (ps.take k)).length (Lib.byteCells (ptxt (ps.take k)))) ∧ Aside (Below w.heap.size w wr)) (fun _ i _ => n - (intOf i).toNat)
  case atStart => exact ⟨0, rfl, by omega, (show World.ownsRow _ _ _ _ _ _ _ from World.ownsRow_nil _ _ _ _), (show Below _ _ _ from Below.refl _ _)⟩
  case round =>
    obtain ⟨k, rfl, hk, hown, hbel⟩ := hrel
    have hown := hown.out
    have HBEL := Lib.hid hbel.out
    clear hbel
    by_cases hlt : k < n
    · have t1 : decide ((k : Int) < (n : Int)) = true := decide_eq_true (by omega)
      have t2 : decide (k < n) = true := decide_eq_true hlt
      have k0 : (0 : Int) ≤ (k : Int) := by omega
      have k1 : (k : Int) < (n : Int) := by omega
      have k2 : ((k : Int)).toNat = k := by omega
      have hkl : k < ps.length := by rw [HN.out]; exact hlt
      obtain ⟨ad, rfl, hab, hx⟩ := HC.out (by omega)
      have hcell := hx k _ (strC_at ps k hkl)
      obtain ⟨q, hq⟩ : ∃ q, ps[k] = q := ⟨_, rfl⟩
      have hT := ptxt_take ps k hkl
      have hP := plen_take ps k hkl
      have hP2 := plen_le ps (k + 1)
      have hP3 := ptxt_len (ps.take k)
      rw [hq] at hcell hT hP
      have HT := Lib.hid hT
      have hlen : (ptxt (ps.take k)).length + 1 + 2 * q.length ≤ 70368744177664 := by have := HL.out; omega
      have HLEN := Lib.hid hlen
      clear hx hq hT hP hP2 hP3 hlen
      obtain ⟨X, hX⟩ : ∃ X, ptxt (ps.take k) = X := ⟨_, rfl⟩
      rw [hX] at HT HLEN hown
      clear hX
      obtain ⟨S, hS⟩ : ∃ S, strOf q = S := ⟨_, rfl⟩
      have HS := Lib.hid (show S.data.toList = q by rw [← hS, strOf_data])
      have hSz : S.size = q.length := by rw [← hS, strOf_size]
      have HSz := Lib.hid hSz
      have hSb : S.size ≤ 70368744177664 := by have := HLEN.out; omega
      rw [hS] at hcell
      have HCELL := Lib.hid hcell
      have HAB := Lib.hid (show (ad.add k).block < w.heap.size by rw [blk_add]; exact hab)
      have hXb : X.length + 1 ≤ 70368744177664 := by have := HLEN.out; omega
      clear hS hSz hcell hab
      go_wp2_with (at_builtin; refine wpList_append_lies _ rfl _ _ 49 rfl w.heap.size 5 i0 (.int .u8 0) 1 1 Try.underlying49 hi hz0 hz1 hz2 (by rfl) (by decide) _ _ _ rfl (hown.alloc _) ⟨wr.heap.size, 0, none⟩ 1 1 [.int .u8 47] rfl rfl (cells_new _ _ _) ?_ ?_ ?_ ?_ ?_ _ rfl ?_; (intro u hu; simp at hu; subst hu; rfl); omega; (unfold maxLen; omega); omega; (have := HBEL.out.size; simp; omega); intro g cap w2 hown2 hg2 hat hgl)
      have h2 := own_more (Y := [47]) HBEL.out hown HBEL.out.size hown2 hg2
      have HO2 := Lib.hid h2.1
      have HB2 := Lib.hid h2.2
      clear hown hown2 hg2 hat h2 hXb
      obtain ⟨V2, hV2⟩ : ∃ V2, V2 = Value.slice (some ⟨g, 0, none⟩) (X.length + 1) cap := ⟨_, rfl⟩
      rw [← hV2] at HO2
      have HV2 := Lib.hid hV2
      clear hV2
      go_wp2_with fail
      rw [← HV2.out]
      go_loopw [3, 5] (fun vq j wr => ∃ jj : Nat, j = .int .i64 jj ∧ jj ≤ S.size ∧ Aside (wr.ownsRow w.heap.size 5 1 vq (X ++ [47] ++ esc (q.take jj)).length (Lib.byteCells (X ++ [47] ++ esc (q.take jj)))) ∧ Aside (Below w.heap.size w wr)) (fun _ j _ => S.size - (intOf j).toNat)
      case atStart => exact ⟨0, rfl, by omega, (show World.ownsRow _ _ _ _ _ _ _ by simpa [esc] using HO2.out), HB2.out⟩
      case round =>
        obtain ⟨j, rfl, hj, hown, hbel⟩ := hrel
        have hown := hown.out
        have HBL := Lib.hid hbel.out
        have ap := (hbel.out.cell HAB.out).trans HCELL.out
        clear hbel
        by_cases hlt2 : j < S.size
        · have t3 : decide ((j : Int) < (S.size : Int)) = true := decide_eq_true (by omega)
          have t4 : decide (j < S.size) = true := decide_eq_true hlt2
          have j0 : (0 : Int) ≤ (j : Int) := by omega
          have j1 : (j : Int) < (S.size : Int) := by omega
          have j2 : ((j : Int)).toNat = j := by omega
          have hjq : j < q.length := by rw [← HSz.out]; exact hlt2
          have hE := esc_take q j hjq
          have HLE : (X ++ [47] ++ esc (q.take j)).length + 2 ≤ 140737488355328 := by
            have := esc_len (q.take j)
            have := HLEN.out
            simp only [List.length_append, List.length_take, List.length_cons, List.length_nil] at *
            omega
          obtain ⟨Z, hZ⟩ : ∃ Z, X ++ [47] ++ esc (q.take j) = Z := ⟨_, rfl⟩
          have HZ := Lib.hid hZ
          rw [hZ] at hown HLE
          clear hZ
          have hsj : q[j] = S[j] := by
            have h1 := HS.out
            subst h1
            rfl
          rw [hsj] at hE
          by_cases h1 : (S[j].toNat : Int) = 126
          · have e1 : S[j] = 126 := UInt8.toNat_inj.1 (by show S[j].toNat = 126; omega)
            rw [if_pos e1] at hE
            have HE := Lib.hid hE
            have u1 : ((S[j].toNat : Int) == 126) = true := by rw [h1]; rfl
            clear hE e1 h1 hsj
            go_wp2_with (at_builtin; refine wpList_append_lies _ rfl _ _ 49 rfl w.heap.size 5 i0 (.int .u8 0) 1 1 Try.underlying49 hi hz0 hz1 hz2 (by rfl) (by decide) _ _ _ rfl (hown.alloc _) ⟨wr.heap.size, 0, none⟩ 2 2 [.int .u8 126, .int .u8 48] rfl rfl (cells_new _ _ _) ?_ ?_ ?_ ?_ ?_ _ rfl ?_; (intro u hu; simp at hu; rcases hu with rfl | rfl <;> rfl); omega; (unfold maxLen; omega); omega; (have := HBL.out.size; simp; omega); intro g cap w2 hown2 hg2 hat hgl)
            have h2 := own_more (Y := [126, 48]) HBL.out hown HBL.out.size hown2 hg2
            have HO3 := Lib.hid (show w2.ownsRow w.heap.size 5 1 (.slice (some ⟨g, 0, none⟩) (Z.length + 2) cap) (X ++ [47] ++ esc (q.take (j + 1))).length (Lib.byteCells (X ++ [47] ++ esc (q.take (j + 1)))) by rw [HE.out, ← List.append_assoc, HZ.out]; exact h2.1)
            have HB3 := Lib.hid h2.2
            clear hown hown2 hg2 hat h2 HLE ap
            go_wp2_with fail
            go_roundw
            case rel => exact ⟨j + 1, by go_num, by omega, HO3.out, HB3.out⟩
            case measure => simp [intOf]; omega
          · have u1 : ((S[j].toNat : Int) == 126) = false := beq_eq_false_iff_ne.2 h1
            have e1 : ¬ S[j] = 126 := fun e => h1 (by rw [e]; rfl)
            rw [if_neg e1] at hE
            by_cases h2 : (S[j].toNat : Int) = 47
            · have e2 : S[j] = 47 := UInt8.toNat_inj.1 (by show S[j].toNat = 47; omega)
              rw [if_pos e2] at hE
              have HE := Lib.hid hE
              have u2 : ((S[j].toNat : Int) == 47) = true := by rw [h2]; rfl
              clear hE e1 e2 h1 h2 hsj
              go_wp2_with (at_builtin; refine wpList_append_lies _ rfl _ _ 49 rfl w.heap.size 5 i0 (.int .u8 0) 1 1 Try.underlying49 hi hz0 hz1 hz2 (by rfl) (by decide) _ _ _ rfl (hown.alloc _) ⟨wr.heap.size, 0, none⟩ 2 2 [.int .u8 126, .int .u8 49] rfl rfl (cells_new _ _ _) ?_ ?_ ?_ ?_ ?_ _ rfl ?_; (intro u hu; simp at hu; rcases hu with rfl | rfl <;> rfl); omega; (unfold maxLen; omega); omega; (have := HBL.out.size; simp; omega); intro g cap w2 hown2 hg2 hat hgl)
              have h2 := own_more (Y := [126, 49]) HBL.out hown HBL.out.size hown2 hg2
              have HO3 := Lib.hid (show w2.ownsRow w.heap.size 5 1 (.slice (some ⟨g, 0, none⟩) (Z.length + 2) cap) (X ++ [47] ++ esc (q.take (j + 1))).length (Lib.byteCells (X ++ [47] ++ esc (q.take (j + 1)))) by rw [HE.out, ← List.append_assoc, HZ.out]; exact h2.1)
              have HB3 := Lib.hid h2.2
              clear hown hown2 hg2 hat h2 HLE ap
              go_wp2_with fail
              go_roundw
              case rel => exact ⟨j + 1, by go_num, by omega, HO3.out, HB3.out⟩
              case measure => simp [intOf]; omega
            · have u2 : ((S[j].toNat : Int) == 47) = false := beq_eq_false_iff_ne.2 h2
              have e2 : ¬ S[j] = 47 := fun e => h2 (by rw [e]; rfl)
              rw [if_neg e2] at hE
              have HE := Lib.hid hE
              clear hE e1 e2 h1 h2 hsj
              go_wp2_with (at_builtin; refine wpList_append_lies _ rfl _ _ 49 rfl w.heap.size 5 i0 (.int .u8 0) 1 1 Try.underlying49 hi hz0 hz1 hz2 (by rfl) (by decide) _ _ _ rfl (hown.alloc _) ⟨wr.heap.size, 0, none⟩ 1 1 [.int .u8 S[j].toNat] rfl rfl (cells_new _ _ _) ?_ ?_ ?_ ?_ ?_ _ rfl ?_; (intro u hu; simp at hu; subst hu; rfl); omega; (unfold maxLen; omega); omega; (have := HBL.out.size; simp; omega); intro g cap w2 hown2 hg2 hat hgl)
              have h2 := own_more (Y := [S[j]]) HBL.out hown HBL.out.size hown2 hg2
              have HO3 := Lib.hid (show w2.ownsRow w.heap.size 5 1 (.slice (some ⟨g, 0, none⟩) (Z.length + 1) cap) (X ++ [47] ++ esc (q.take (j + 1))).length (Lib.byteCells (X ++ [47] ++ esc (q.take (j + 1)))) by rw [HE.out, ← List.append_assoc, HZ.out]; exact h2.1)
              have HB3 := Lib.hid h2.2
              clear hown hown2 hg2 hat h2 HLE ap
              go_wp2_with fail
              go_roundw
              case rel => exact ⟨j + 1, by go_num, by omega, HO3.out, HB3.out⟩
              case measure => simp [intOf]; omega
        · have t3 : decide ((j : Int) < (S.size : Int)) = false := decide_eq_false (by omega)
          have t4 : decide (j < S.size) = false := decide_eq_false hlt2
          have hE : esc (q.take j) = esc q := by rw [List.take_of_length_le (by rw [← HSz.out]; omega)]
          have HO3 := Lib.hid (show wr.ownsRow w.heap.size 5 1 u3 (ptxt (ps.take (k + 1))).length (Lib.byteCells (ptxt (ps.take (k + 1)))) by
            rw [HT.out, ← hE]
            simpa using hown)
          clear hE hown
          go_wp2_with fail
          go_roundw
          case rel => exact ⟨k + 1, by go_num, by omega, HO3.out, HBL.out⟩
          case measure => simp [intOf]; omega
    · have t1 : decide ((k : Int) < (n : Int)) = false := decide_eq_false (by omega)
      have t2 : decide (k < n) = false := decide_eq_false hlt
      have hE : ptxt (ps.take k) = ptxt ps := by rw [List.take_of_length_le (by rw [HN.out]; omega)]
      rw [hE] at hown
      have hcv := Rd.conv (P := Try.prog) (Rd.of_own hown) Try.underlying49 Try.underlying5 Try.underlying9
      clear hE hown
      go_wp2_with fail
      go_ret
      exact ⟨rfl, HBEL.out⟩

set_option maxRecDepth 100000 in
set_option maxHeartbeats 1000000 in
theorem SameParts_any (a b : Value) (ps qs : List (List UInt8)) (w : World) (ha : Rd w w.heap.size a (strC ps)) (hb : Rd w w.heap.size b (strC qs)) (hn : ps.length ≤ 4611686018427387904) :
    Calls Try.prog 11 #[a, b] w (fun e w' => (∃ x, e = .returned (.bool x) ∧ (x = true ↔ ps = qs)) ∧ Below w.heap.size w w') := by
  obtain ⟨A, c, rfl, hA⟩ := ha
  obtain ⟨B, d, rfl, hB⟩ := hb
  rw [strC_len] at hA hB ⊢
  rw [strC_len]
  have HA := Lib.hid hA
  have HB := Lib.hid hB
  clear hA hB
  by_cases hl : ps.length = qs.length
  · have HL := Lib.hid hl
    rw [← hl]
    obtain ⟨n, hn'⟩ : ∃ n, ps.length = n := ⟨_, rfl⟩
    have HN := Lib.hid hn'
    rw [hn'] at hn ⊢
    clear hl hn'
    go_enter Try.func11, Try.ntmps11
    go_wp2_with fail
    go_loopw [5] (fun i wr => ∃ k : Nat, i = .int .i64 k ∧ k ≤ n ∧ Aside (ps.take k = qs.take k) ∧ Aside (Below w.heap.size w wr)) (fun i _ => n - (intOf i).toNat)
    case atStart => exact ⟨0, rfl, by omega, (show _ = _ from rfl), (show Below _ _ _ from Below.refl _ _)⟩
    case round =>
      obtain ⟨k, rfl, hk, hsm, hbel⟩ := hrel
      have HSM := Lib.hid hsm.out
      clear hsm
      by_cases hlt : k < n
      · have t1 : decide ((k : Int) < (n : Int)) = true := decide_eq_true (by omega)
        have t2 : decide (k < n) = true := decide_eq_true hlt
        have k0 : (0 : Int) ≤ (k : Int) := by omega
        have k1 : (k : Int) < (n : Int) := by omega
        have k2 : ((k : Int)).toNat = k := by omega
        have hkl : k < ps.length := by rw [HN.out]; exact hlt
        have hkq : k < qs.length := by rw [← HL.out]; exact hkl
        obtain ⟨ad, rfl, hab, hx⟩ := HA.out (by omega)
        obtain ⟨bd, rfl, hbb, hy⟩ := HB.out (by omega)
        have ap := (hbel.out.cell (p := ad.add k) (by rw [blk_add]; exact hab)).trans (hx k _ (strC_at ps k hkl))
        have bp := (hbel.out.cell (p := bd.add k) (by rw [blk_add]; exact hbb)).trans (hy k _ (strC_at qs k hkq))
        by_cases he : ps[k] = qs[k]
        · have tt : ((strOf ps[k]).toList != (strOf qs[k]).toList) = false := by rw [he]; simp
          have tt2 : ((strOf ps[k]).toList == (strOf qs[k]).toList) = true := by rw [he]; simp
          have HSM2 := Lib.hid (show ps.take (k + 1) = qs.take (k + 1) by rw [List.take_succ_eq_append_getElem hkl, List.take_succ_eq_append_getElem hkq, HSM.out, he])
          generalize strOf ps[k] = X at *
          generalize strOf qs[k] = Y at *
          have HBE := Lib.hid hbel.out
          clear he hx hy hbel
          go_wp2_with (go_quiet (fail))
          go_roundw
          case rel => exact ⟨k + 1, by go_num, by omega, HSM2.out, (show Below _ _ _ from bDrewN HBE.out _)⟩
          case measure => simp [intOf]; omega
        · have tt : ((strOf ps[k]).toList != (strOf qs[k]).toList) = true := by rw [strOf_list, strOf_list, bne_iff_ne]; exact he
          have tt2 : ((strOf ps[k]).toList == (strOf qs[k]).toList) = false := by rw [strOf_list, strOf_list]; exact beq_eq_false_iff_ne.2 he
          have HNE := Lib.hid (show ps ≠ qs from fun e => he (by simp only [e]))
          generalize strOf ps[k] = X at *
          generalize strOf qs[k] = Y at *
          have HBE := Lib.hid hbel.out
          clear he hx hy hbel
          go_wp2_with (go_quiet (fail))
          go_ret
          exact ⟨⟨false, rfl, by simp [HNE.out]⟩, bDrewN HBE.out _⟩
      · have t1 : decide ((k : Int) < (n : Int)) = false := decide_eq_false (by omega)
        have t2 : decide (k < n) = false := decide_eq_false hlt
        have HEQ := Lib.hid (show ps = qs by
          have h := HSM.out
          rwa [List.take_of_length_le (by rw [HN.out]; omega), List.take_of_length_le (by rw [← HL.out, HN.out]; omega)] at h)
        go_wp2_with fail
        go_ret
        exact ⟨⟨true, rfl, by simp [HEQ.out]⟩, hbel.out⟩
  · have t1 : ((ps.length : Int) != (qs.length : Int)) = true := by rw [bne_iff_ne]; omega
    have HNE := Lib.hid (show ps ≠ qs from fun e => hl (by rw [e]))
    generalize ps.length = n at *
    generalize qs.length = m at *
    clear hl
    go_enter Try.func11, Try.ntmps11
    go_wp2_with fail
    go_ret
    exact ⟨⟨false, rfl, by simp [HNE.out]⟩, Below.refl _ _⟩

end Go.Proofs.Ytmfpaoincgfjmaa.Po
