/- Merged: StW2. -/
import Derived.Test.YtfedidiieacakaaDoorTt9
import Derived.Test.YtfedidiieacakaaDoorTt8
namespace Go.Proofs.YtfedidiieacakaaDoor.St
open Go.RowKit
open Go.Proofs.YtfedidiieacakaaDoor.Utf
open Go.Proofs.YtfedidiieacakaaDoor.Nu

theorem wf_64 {n : Int} (h : (Lit.int .i64 n).wf = true) : -9223372036854775808 ≤ n ∧ n ≤ 9223372036854775807 := by
  have := bounds_i64 h
  omega

set_option maxRecDepth 100000 in
set_option maxHeartbeats 1000000 in
theorem makes_walk (n : Int) (w : World) (hn : (Lit.int .i64 n).wf = true) (T : Tab w) :
    Calls Tryd.prog 5 #[.int .i64 n] w fun e w' => e = .returned (.bool true) ∧ Below w.heap.size w w' := by
  obtain ⟨n0, n1⟩ := wf_64 hn
  have C1 := Lib.hid (fun wx (h : Tab wx) => awake_any11 wx h)
  have C2 := Lib.hid (fun wx (h : Tab wx) => stMake_any n wx h n0 n1)
  have C3 := Lib.hid (fun wx => rMake_any n wx n0 n1)
  go_enter Tryd.func5, Tryd.ntmps5
  go_wp2_with fail
  refine (C1.out _ T).mono ?_
  rintro e x1 ⟨rfl, hb1⟩
  have HB1 := Lib.hid hb1
  clear hb1
  go_wp2_with fail
  refine (C2.out _ (T.below HB1.out)).mono ?_
  rintro e x2 ⟨l, hl, rfl, hb2⟩
  have HB2 := Lib.hid (HB1.out.trans (hb2.mono HB1.out.size))
  have HL := Lib.hid hl
  clear hb2 hl
  obtain ⟨X, hX⟩ : ∃ X, strOf l = X := ⟨_, rfl⟩
  rw [hX]
  have HX := Lib.hid hX
  clear hX
  go_wp2_with fail
  refine (C3.out _).mono ?_
  rintro e x3 ⟨l', hl', rfl, hb3⟩
  have HB3 := Lib.hid (HB2.out.trans (hb3.mono HB2.out.size))
  obtain rfl := MkOf_eq HL.out hl'
  rw [HX.out]
  have t1 : (X.toList == X.toList) = true := beq_self_eq_true _
  clear hb3 hl'
  go_wp2_with fail
  go_ret
  exact ⟨rfl, HB3.out⟩
end Go.Proofs.YtfedidiieacakaaDoor.St
