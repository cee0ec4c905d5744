import Derived.Test.YthokaeaefmajjaaScG
import Derived.Test.YthokaeaefmajjaaScPl2
/- Walk of ScanKeeps. -/
namespace Go.Proofs.Ythokaeaefmajjaa.Sc
open Go.RowKit
open Go.Proofs.Ythokaeaefmajjaa.Utf

theorem own_form {w : World} {base E n : Nat} {v : Value} {xs : List Value} (h : w.ownsRow base E 4 v n xs) : ∃ A c, v = .slice A n c ∧ (0 < n → ∃ g, A = some ⟨g, 0, none⟩ ∧ base ≤ g ∧ g < w.heap.size) := by
  have hlt := h.lt
  rcases h.2 with ⟨rfl, h0⟩ | ⟨g, cap, cur, rfl, _, _, _⟩
  · exact ⟨none, 0, by rw [h0], fun h => by omega⟩
  · exact ⟨some ⟨g, 0, none⟩, cap, rfl, fun _ => ⟨g, rfl, hlt g rfl⟩⟩

set_option maxHeartbeats 2000000 in
theorem keeps_walk (s : ByteArray) (w : World) (hs : s.size ≤ maxLen) :
    Calls Try.prog 5 #[.string s] w fun e w' => e = .returned (.bool true) ∧ Below w.heap.size w w' := by
  unfold maxLen at hs
  have HT := fun w => Tokens_any s w hs
  have hsz : (scnS s.data.toList).1.length ≤ 65536 := by
    by_cases he : (scnS s.data.toList).2.2 = 0
    · obtain ⟨h1, _, h3, _⟩ := scnS_Scan he
      have := h3.le
      rw [len_data] at this h1
      omega
    · rw [(scnS_bad he).1]; simp
  rcases hR : scnS s.data.toList with ⟨ts, at_, er⟩
  rw [hR] at HT hsz
  simp only at hsz
  clear hR
  have HTT := Lib.hid HT; clear HT
  go_enter Try.func5, Try.ntmps5
  go_wp2_with fail
  refine (HTT.out _).mono ?_
  rintro e w1 ⟨v1, rfl, hown1, hb1⟩
  have hl1 := hown1.lt
  go_wp2_with fail
  refine (HTT.out _).mono ?_
  rintro e w2 ⟨v2, rfl, hown2, hb2⟩
  have hown1 := own_below hown1 hb2
  go_wp2_with fail
  refine (awake_any _).mono ?_
  rintro e w3 ⟨rfl, hb3⟩
  have s1 := hb1.size
  have s2 := hb2.size
  have s3 := hb3.size
  have hown1 := own_below hown1 hb3
  have hown2 := own_below hown2 hb3
  have B3 : Below w.heap.size w w3 := hb1.trans ((hb2.mono s1).trans (hb3.mono (by omega)))
  obtain ⟨A1, c1, hv1, _⟩ := own_form hown1
  obtain ⟨A2, c2, hv2, _⟩ := own_form hown2
  subst hv1 hv2
  have hle : ((ts.length : Int) != (ts.length : Int)) = false := by simp
  have hg1 : ∀ g, A1 = some ⟨g, 0, none⟩ → w.heap.size ≤ g ∧ g < w1.heap.size := by rintro g rfl; exact hl1 g rfl
  clear hb1 hb2 hb3 hl1
  go_wp2_with fail
  go_loopw [9] (fun i wr => ∃ k : Nat, i = .int .i64 k ∧ k ≤ ts.length ∧ (∃ xs, wr.ownsRow w.heap.size 28 4 (.slice A1 ts.length c1) ts.length xs) ∧ wr.ownsRow w1.heap.size 28 4 (.slice A2 ts.length c2) ts.length (toksC ts) ∧ Below w.heap.size w wr) (fun i _ => ts.length - (intOf i).toNat)
  case atStart => exact ⟨0, rfl, by omega, ⟨_, hown1⟩, hown2, B3⟩
  case round =>
    obtain ⟨k, rfl, hk, ⟨xs, hx⟩, hy, hbel⟩ := hrel
    by_cases hlt : k < ts.length
    · have hlb : decide ((k : Int) < (ts.length : Int)) = true := decide_eq_true (by omega)
      have hlb2 : decide (k < ts.length) = true := decide_eq_true hlt
      have k0 : (0 : Int) ≤ (k : Int) := by omega
      have k1 : (k : Int) < (ts.length : Int) := by omega
      obtain ⟨A, c, hv, hA⟩ := own_form hx
      obtain ⟨g, rfl, _, _⟩ := hA (by omega)
      have e1 : A1 = some ⟨g, 0, none⟩ := by injection hv
      clear hv hA
      subst e1
      obtain ⟨g2, g3⟩ := hg1 g rfl
      have hxl := hx.1
      have x0 := hx.cellAt (k * 4 + 2) (by omega)
      obtain ⟨u, hu⟩ : ∃ u, wr.cell? ⟨g, k * 4 + 2, none⟩ = some u := ⟨_, x0.trans (List.getElem?_eq_getElem (by omega))⟩
      clear x0
      have x1 := hx.frozenAt (k * 4 + 2)
      have x2 := hx.stored (k * 4 + 2) (.string ⟨#[115, 112, 111, 105, 108, 116]⟩)
      have HX := Lib.hid x2; clear x2 hx hxl
      have HY := Lib.hid hy; clear hy
      have HG := Lib.hid hg1; clear hg1
      go_wp2_with fail
      go_roundw
      case rel => exact ⟨k + 1, by go_num, by omega, ⟨_, HX.out.1⟩, ownsRow_setCell_below HY.out g3 _, hbel.setCell g2 _⟩
      case measure => simp [intOf]; omega
    · obtain rfl : k = ts.length := by omega
      have hlb : decide ((ts.length : Int) < (ts.length : Int)) = false := decide_eq_false (by omega)
      have HG := Lib.hid hg1; clear hg1
      have hr2 := RdT.of_own hy
      clear hx hy
      go_wp2_with fail
      refine (HTT.out _).mono ?_
      rintro e w5 ⟨v5, rfl, hown5, hb5⟩
      have hr5 := RdT.of_own hown5
      have hr2' := (hr2.below hb5 (Nat.le_refl _)).more hb5.size
      have s5 := hbel.size
      have s6 := hb5.size
      go_wp2_with fail
      refine (Same_any _ _ _ _ true _ hr2' hr5 (by omega)).mono ?_
      rintro e w6 ⟨⟨b, rfl, hb⟩, hb6⟩
      have : b = true := hb.2 (sameL_refl true ts)
      subst this
      go_wp2_with fail
      go_ret
      exact ⟨rfl, hbel.trans ((hb5.mono s5).trans (hb6.mono (by omega)))⟩
end Go.Proofs.Ythokaeaefmajjaa.Sc
