/- Merged: PoN. -/
import Derived.Test.YtmfpaoincgfjmaaTt23
import Derived.Test.YtmfpaoincgfjmaaTt24
set_option linter.unusedSimpArgs false
namespace Go.Proofs.Ytmfpaoincgfjmaa.Po
open Go.Proofs Go.RowKit
open Go.Proofs.Ytmfpaoincgfjmaa.Utf
open Go.Proofs.Ytmfpaoincgfjmaa.Sc
open Go.Proofs.Ytmfpaoincgfjmaa.Em
open Go.Proofs.Ytmfpaoincgfjmaa.Tr

set_option maxRecDepth 100000 in
set_option maxHeartbeats 1000000 in
theorem hasStar_any (s : ByteArray) (w : World) (hs : s.size ≤ 4398046511104) :
    Calls Try.prog 18 #[.string s] w (fun e w' => e = .returned (.bool (decide (42 ∈ s.data.toList))) ∧ w = w') := by
  have HG := Lib.hid (show ∀ k (h : k < s.size) (h2 : k < s.data.toList.length), s.data.toList[k] = s[k] from fun k h h2 => rfl)
  go_enter Try.func18, Try.ntmps18
  go_wp2_with fail
  go_loopw [3] (fun i wr => ∃ k : Nat, i = .int .i64 k ∧ k ≤ s.size ∧ Aside (∀ j (h : j < s.size), j < k → s[j] ≠ 42) ∧ Aside (w = wr)) (fun i _ => s.size - (intOf i).toNat)
  case atStart => exact ⟨0, rfl, by omega, (show ∀ _ _, _ from fun j h hj => by omega), (show _ = _ from rfl)⟩
  case round =>
    obtain ⟨k, rfl, hk, hno, hw⟩ := hrel
    have HNO := Lib.hid hno.out
    have HW := Lib.hid hw.out
    clear hno hw
    by_cases hlt : k < s.size
    · have t1 : decide ((k : Int) < (s.size : Int)) = true := decide_eq_true (by omega)
      have t2 : decide (k < s.size) = true := decide_eq_true hlt
      have k0 : (0 : Int) ≤ (k : Int) := by omega
      have k1 : (k : Int) < (s.size : Int) := by omega
      have k2 : ((k : Int)).toNat = k := by omega
      by_cases hc : (s[k].toNat : Int) = 42
      · have u1 : ((s[k].toNat : Int) == 42) = true := by rw [hc]; rfl
        have hx : s[k] = 42 := UInt8.toNat_inj.1 (by show s[k].toNat = 42; omega)
        have HD := Lib.hid (decide_eq_true (show 42 ∈ s.data.toList from by
          rw [← hx, ← HG.out k hlt (by rw [len_data]; exact hlt)]
          exact List.getElem_mem _))
        clear hc hx
        go_wp2_with fail
        go_ret
        exact ⟨by rw [HD.out]; rfl, HW.out⟩
      · have u1 : ((s[k].toNat : Int) == 42) = false := beq_eq_false_iff_ne.2 hc
        have HN2 := Lib.hid (show ∀ j (h : j < s.size), j < k + 1 → s[j] ≠ 42 from fun j h hj e => by
          by_cases hjk : j = k
          · subst hjk; exact hc (by rw [e]; rfl)
          · exact HNO.out j h (by omega) e)
        clear hc
        go_wp2_with fail
        go_roundw
        case rel => exact ⟨k + 1, by go_num, by omega, HN2.out, HW.out⟩
        case measure => simp [intOf]; omega
    · have t1 : decide ((k : Int) < (s.size : Int)) = false := decide_eq_false (by omega)
      have t2 : decide (k < s.size) = false := decide_eq_false hlt
      have HD := Lib.hid (decide_eq_false (show 42 ∉ s.data.toList from fun h => by
        obtain ⟨j, hj, e⟩ := List.getElem_of_mem h
        have hj2 : j < s.size := by rw [len_data] at hj; exact hj
        exact HNO.out j hj2 (by omega) (by rw [← HG.out j hj2 hj]; exact e)))
      go_wp2_with fail
      go_ret
      exact ⟨by rw [HD.out]; rfl, HW.out⟩
end Go.Proofs.Ytmfpaoincgfjmaa.Po
