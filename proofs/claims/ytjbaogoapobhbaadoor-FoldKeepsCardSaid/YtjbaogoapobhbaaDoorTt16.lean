/- Merged: PoN. -/
import Derived.Test.YtjbaogoapobhbaaDoorTt10
import Derived.Test.YtjbaogoapobhbaaDoorTt15
set_option linter.unusedSimpArgs false
namespace Go.Proofs.YtjbaogoapobhbaaDoor.Po
open Go.Proofs Go.RowKit
open Go.Proofs.YtjbaogoapobhbaaDoor.Utf
open Go.Proofs.YtjbaogoapobhbaaDoor.Sc
open Go.Proofs.YtjbaogoapobhbaaDoor.Em
open Go.Proofs.YtjbaogoapobhbaaDoor.Tr

set_option maxRecDepth 100000 in
set_option maxHeartbeats 1000000 in
theorem SameParts_any (a b : Value) (ps qs : List (List UInt8)) (w : World) (ha : Rd w w.heap.size a (strC ps)) (hb : Rd w w.heap.size b (strC qs)) (hn : ps.length ≤ 4611686018427387904) :
    Calls Tryd.prog 16 #[a, b] w (fun e w' => (∃ x, e = .returned (.bool x) ∧ (x = true ↔ ps = qs)) ∧ Below w.heap.size w w') := by
  obtain ⟨A, c, rfl, hA⟩ := ha
  obtain ⟨B, d, rfl, hB⟩ := hb
  rw [strC_len] at hA hB ⊢
  rw [strC_len]
  have HA := Lib.hid hA
  have HB := Lib.hid hB
  clear hA hB
  by_cases hl : ps.length = qs.length
  · have HL := Lib.hid hl
    rw [← hl]
    obtain ⟨n, hn'⟩ : ∃ n, ps.length = n := ⟨_, rfl⟩
    have HN := Lib.hid hn'
    rw [hn'] at hn ⊢
    clear hl hn'
    go_enter Tryd.func16, Tryd.ntmps16
    go_wp2_with fail
    go_loopw [5] (fun i wr => ∃ k : Nat, i = .int .i64 k ∧ k ≤ n ∧ Aside (ps.take k = qs.take k) ∧ Aside (Below w.heap.size w wr)) (fun i _ => n - (intOf i).toNat)
    case atStart => exact ⟨0, rfl, by omega, (show _ = _ from rfl), (show Below _ _ _ from Below.refl _ _)⟩
    case round =>
      obtain ⟨k, rfl, hk, hsm, hbel⟩ := hrel
      have HSM := Lib.hid hsm.out
      clear hsm
      by_cases hlt : k < n
      · have t1 : decide ((k : Int) < (n : Int)) = true := decide_eq_true (by omega)
        have t2 : decide (k < n) = true := decide_eq_true hlt
        have k0 : (0 : Int) ≤ (k : Int) := by omega
        have k1 : (k : Int) < (n : Int) := by omega
        have k2 : ((k : Int)).toNat = k := by omega
        have hkl : k < ps.length := by rw [HN.out]; exact hlt
        have hkq : k < qs.length := by rw [← HL.out]; exact hkl
        obtain ⟨ad, rfl, hab, hx⟩ := HA.out (by omega)
        obtain ⟨bd, rfl, hbb, hy⟩ := HB.out (by omega)
        have ap := (hbel.out.cell (p := ad.add k) (by rw [blk_add]; exact hab)).trans (hx k _ (strC_at ps k hkl))
        have bp := (hbel.out.cell (p := bd.add k) (by rw [blk_add]; exact hbb)).trans (hy k _ (strC_at qs k hkq))
        by_cases he : ps[k] = qs[k]
        · have tt : ((strOf ps[k]).toList != (strOf qs[k]).toList) = false := by rw [he]; simp
          have tt2 : ((strOf ps[k]).toList == (strOf qs[k]).toList) = true := by rw [he]; simp
          have HSM2 := Lib.hid (show ps.take (k + 1) = qs.take (k + 1) by rw [List.take_succ_eq_append_getElem hkl, List.take_succ_eq_append_getElem hkq, HSM.out, he])
          generalize strOf ps[k] = X at *
          generalize strOf qs[k] = Y at *
          have HBE := Lib.hid hbel.out
          clear he hx hy hbel
          go_wp2_with (go_quiet (fail))
          go_roundw
          case rel => exact ⟨k + 1, by go_num, by omega, HSM2.out, (show Below _ _ _ from bDrewN HBE.out _)⟩
          case measure => simp [intOf]; omega
        · have tt : ((strOf ps[k]).toList != (strOf qs[k]).toList) = true := by rw [strOf_list, strOf_list, bne_iff_ne]; exact he
          have tt2 : ((strOf ps[k]).toList == (strOf qs[k]).toList) = false := by rw [strOf_list, strOf_list]; exact beq_eq_false_iff_ne.2 he
          have HNE := Lib.hid (show ps ≠ qs from fun e => he (by simp only [e]))
          generalize strOf ps[k] = X at *
          generalize strOf qs[k] = Y at *
          have HBE := Lib.hid hbel.out
          clear he hx hy hbel
          go_wp2_with (go_quiet (fail))
          go_ret
          exact ⟨⟨false, rfl, by simp [HNE.out]⟩, bDrewN HBE.out _⟩
      · have t1 : decide ((k : Int) < (n : Int)) = false := decide_eq_false (by omega)
        have t2 : decide (k < n) = false := decide_eq_false hlt
        have HEQ := Lib.hid (show ps = qs by
          have h := HSM.out
          rwa [List.take_of_length_le (by rw [HN.out]; omega), List.take_of_length_le (by rw [← HL.out, HN.out]; omega)] at h)
        go_wp2_with fail
        go_ret
        exact ⟨⟨true, rfl, by simp [HEQ.out]⟩, hbel.out⟩
  · have t1 : ((ps.length : Int) != (qs.length : Int)) = true := by rw [bne_iff_ne]; omega
    have HNE := Lib.hid (show ps ≠ qs from fun e => hl (by rw [e]))
    generalize ps.length = n at *
    generalize qs.length = m at *
    clear hl
    go_enter Tryd.func16, Tryd.ntmps16
    go_wp2_with fail
    go_ret
    exact ⟨⟨false, rfl, by simp [HNE.out]⟩, Below.refl _ _⟩

end Go.Proofs.YtjbaogoapobhbaaDoor.Po
