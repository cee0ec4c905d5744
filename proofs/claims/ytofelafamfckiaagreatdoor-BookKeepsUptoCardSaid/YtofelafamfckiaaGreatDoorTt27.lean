/- Merged: PoT. -/
import Derived.Test.YtofelafamfckiaaGreatDoorTt26
import Derived.Shelf.Strings.Builder1
import Derived.Lib.ConvBytes
import Derived.Deep.LoopGhost
namespace Go.Proofs.YtofelafamfckiaaGreatDoor
namespace Po
open Go.Proofs Go.RowKit Utf Sc Em
def aF (ps:List (List UInt8)):List Value:=ps.map fun q=> .string (ae q)
theorem bi (ps:List (List UInt8)):(aF ps).length=ps.length:=by unfold aF;simp
theorem qac (ps:List (List UInt8)) (k:Nat) (h:k<ps.length):(aF ps)[k]? = some (.string (ae ps[k])):=by
 unfold aF;rw [List.getElem?_map,List.getElem?_eq_getElem h];rfl
