/- Merged: BkPut. -/
import Derived.Test.YtofelafamfckiaaGreatDoorTt30
import Derived.Test.YtofelafamfckiaaGreatDoorTt28
namespace Go.Proofs.YtofelafamfckiaaGreatDoor
namespace Bk
open Go.Proofs Go.RowKit Utf Sc Po
open Tr (ltN)
theorem qab (l:List (List UInt8)) (k:Nat) (h:k<l.length):(aG l)[k]? = some (.string (ae l[k])):=by
 unfold aG;rw [List.getElem?_map,List.getElem?_eq_getElem h];rfl
