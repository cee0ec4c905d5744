/- Merged: TrS4. -/
import Derived.Test.YtofelafamfckiaaGreatDoorTt2
import Derived.Sort.Lot0
import Derived.Sort.WalkB2
import Derived.Sort.WalkB12
import Derived.Deep.LoopGhost
import Derived.BigRegion
import Derived.BigQuiet
namespace Go.Proofs.YtofelafamfckiaaGreatDoor
namespace Tr
open Go.Proofs Go.RowKit Go.Sort Go.Shelf Go.Lib Utf
theorem qcY:Tryz.prog.follows .mixedOrders=true:=by kernel_rfl
