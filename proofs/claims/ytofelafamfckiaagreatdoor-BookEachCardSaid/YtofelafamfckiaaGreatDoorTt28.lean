/- Merged: PoT. -/
import Derived.Test.YtofelafamfckiaaGreatDoorTt27
import Derived.Shelf.Strings.Builder1
import Derived.Lib.ConvBytes
import Derived.Deep.LoopGhost
namespace Go.Proofs.YtofelafamfckiaaGreatDoor
namespace Po
open Go.Proofs Go.RowKit Utf Sc Em
def aG (ps:List (List UInt8)):List Value:=ps.map fun q=> .string (ae q)
theorem ba (ps:List (List UInt8)):(aG ps).length=ps.length:=by unfold aG;simp
theorem qab (ps:List (List UInt8)) (k:Nat) (h:k<ps.length):(aG ps)[k]? = some (.string (ae ps[k])):=by
 unfold aG;rw [List.getElem?_map,List.getElem?_eq_getElem h];rfl
