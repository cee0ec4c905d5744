/- Merged: PoT. -/
import Derived.Test.YtnecfkhbncepnaaGreatDoorTt36
import Derived.Shelf.Strings.Builder1
import Derived.Lib.ConvBytes
namespace Go.Proofs.YtnecfkhbncepnaaGreatDoor
namespace Po
open Go.Proofs Go.RowKit Utf Sc Em
def bo (ps:List (List UInt8)):List Value:=ps.map fun q=> .string (aa q)
theorem bx (ps:List (List UInt8)):(bo ps).length=ps.length:=by unfold bo;simp
theorem dt (ps:List (List UInt8)) (k:Nat) (h:k<ps.length):(bo ps)[k]? = some (.string (aa ps[k])):=by
 unfold bo;rw [List.getElem?_map,List.getElem?_eq_getElem h];rfl
theorem qco (w:World) (e:TypeId) (s:ByteArray):Below w.heap.size w (Lib.bytesWorld w e s):=
 ⟨rfl,rfl,rfl,by rw [Lib.bytesWorld_size];omega,fun j hj=>Lib.bytesWorld_at_old w e s j hj⟩
theorem qdX (w:World) (s:ByteArray):(convert 9 94 (.string s)).run Tryz.prog w = .ok (.slice (some ⟨w.heap.size,0,none⟩) s.size (grownCap w s.size 0 5)) (Lib.bytesWorld w 5 s):=
 Lib.run_convert_string_bytes w _ _ _ s Tryz.underlying9 Tryz.underlying94 Tryz.underlying5
