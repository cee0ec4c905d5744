/- Merged: BkPut. -/
import Derived.Test.YtofelafamfckiaaGreatDoorTt31
import Derived.Test.YtofelafamfckiaaGreatDoorTt28
namespace Go.Proofs.YtofelafamfckiaaGreatDoor
namespace Bk
open Go.Proofs Go.RowKit Utf Sc Po
open Tr (ltN)
theorem qac (l:List (List UInt8)) (k:Nat) (h:k<l.length):(aI l)[k]? = some (.string (ae l[k])):=by
 unfold aI;rw [List.getElem?_map,List.getElem?_eq_getElem h];rfl
