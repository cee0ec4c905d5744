/- Merged: SmH. -/
import Derived.Test.YtofelafamfckiaaGreatDoorTt14
import Derived.RegionTactic
import Derived.BigRegion
import Derived.Test.YtofelafamfckiaaGreatDoorTt2
import Derived.Shelf.SlSortCmp.WholeK
namespace Go.Proofs.YtofelafamfckiaaGreatDoor
namespace Sm
open Go.Proofs Go.RowKit Go.Sort Go.Shelf Go.Lib Utf Nu Wo
instance:Inhabited Pr:=⟨Pr.zero⟩
theorem qjw (x:Pr):(prC x).length=5:=rfl
theorem qcY:Tryz.prog.follows .mixedOrders=true:=by kernel_rfl
