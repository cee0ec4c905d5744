import Derived.Test.YtcbiaflbncfliaaDoorEmA
import Derived.Test.YtcbiaflbncfliaaDoorRaOpen
import Derived.Test.YtcbiaflbncfliaaDoorUtfG
import Derived.Test.YtcbiaflbncfliaaDoorReC
import Derived.BigQuiet
import Derived.Deep.RegionHeld3
import Derived.Deep.RegionWith
/- Contracts of the document's answer: Bad, own. -/
namespace Go.Proofs.YtcbiaflbncfliaaDoor.Em
open Go.RowKit
open Go.Proofs.YtcbiaflbncfliaaDoor.Utf
open Go.Proofs.YtcbiaflbncfliaaDoor.Sc
open Go.Proofs.YtcbiaflbncfliaaDoor.Re

set_option maxRecDepth 100000 in
set_option maxHeartbeats 4000000 in
theorem rBad_any (s : ByteArray) (w : World) (hs : s.size < 17592186044416) : Calls Tryd.prog 35 #[.string s] w (Gives (.int .i64 (ptsL s.data.toList).2) w) := by
  have hp := rPoints_any s w hs
  generalize ((ptsL s.data.toList).2 : Nat) = x at *
  have HP := Lib.hid hp; clear hp
  go_enter Tryd.func35, Tryd.ntmps35
  go_wp2_with fail
  refine HP.out.mono ?_
  rintro e w1 ⟨v, rfl, _, hb⟩
  have HB := Lib.hid hb; clear hb
  go_wp2_with fail
  go_ret
  exact ⟨rfl, HB.out⟩
end Go.Proofs.YtcbiaflbncfliaaDoor.Em
