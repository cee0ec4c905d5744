/- Merged: BkPut. -/
import Derived.Test.YtofelafamfckiaaGreatDoorTt32
import Derived.Test.YtofelafamfckiaaGreatDoorTt29
namespace Go.Proofs.YtofelafamfckiaaGreatDoor
namespace Bk
open Go.Proofs Go.RowKit Utf Sc Po
open Tr (ltN)
theorem qaj (l:List (List UInt8)) (k:Nat) (h:k<l.length):(aF l)[k]? = some (.string (ae l[k])):=by
 unfold aF;rw [List.getElem?_map,List.getElem?_eq_getElem h];rfl
