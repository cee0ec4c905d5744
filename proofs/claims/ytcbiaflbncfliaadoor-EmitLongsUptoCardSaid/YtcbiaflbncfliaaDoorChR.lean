import Derived.Test.YtcbiaflbncfliaaDoorChA
import Derived.Test.YtcbiaflbncfliaaDoorChB
import Derived.Test.YtcbiaflbncfliaaDoorChPl
/- Contracts of the document's answer for layer 2: digit, hex, Unit. -/
namespace Go.Proofs.YtcbiaflbncfliaaDoor.Ch
open Go.RowKit
open Go.Proofs.YtcbiaflbncfliaaDoor.Utf

set_option maxRecDepth 100000 in
set_option maxHeartbeats 1000000 in
theorem hex_any (d : Int) (w : World) (h0 : 0 ≤ d) (h1 : d ≤ 15) : Calls Tryd.prog 37 #[.int .i64 d] w fun e w' => e = .returned (.int .u8 (hexV d)) ∧ w = w' := by
  go_enter Tryd.func37, Tryd.ntmps37
  go_wp2
  all_goals
    go_ret
    exact ⟨ret_int (by unfold hexV; split <;> omega), rfl⟩

theorem unit_no (l : List UInt8) (h : l.length < 6 ∨ byt l 0 ≠ 92 ∨ byt l 1 ≠ 117 ∨ hexOk l 4 = false) : unitL l = -1 := unitL_no fun x => by
  rcases h with h | h | h | h
  · omega
  · exact h x.2.1
  · exact h x.2.2.1
  · rw [h] at x; simp at x

end Go.Proofs.YtcbiaflbncfliaaDoor.Ch
