/- Merged: PoT. -/
import Derived.Test.YtnecfkhbncepnaaGreatDoorTt35
import Derived.Shelf.Strings.Builder1
import Derived.Lib.ConvBytes
namespace Go.Proofs.YtnecfkhbncepnaaGreatDoor
namespace Po
open Go.Proofs Go.RowKit Utf Sc Em
def aV (ps:List (List UInt8)):List Value:=ps.map fun q=> .string (aa q)
theorem aL (ps:List (List UInt8)):(aV ps).length=ps.length:=by unfold aV;simp
theorem dz (ps:List (List UInt8)) (k:Nat) (h:k<ps.length):(aV ps)[k]? = some (.string (aa ps[k])):=by
 unfold aV;rw [List.getElem?_map,List.getElem?_eq_getElem h];rfl
theorem qb2 (w:World) (e:TypeId) (s:ByteArray):Below w.heap.size w (Lib.bytesWorld w e s):=
 ⟨rfl,rfl,rfl,by rw [Lib.bytesWorld_size];omega,fun j hj=>Lib.bytesWorld_at_old w e s j hj⟩
theorem qd0 (w:World) (s:ByteArray):(convert 9 94 (.string s)).run Tryz.prog w = .ok (.slice (some ⟨w.heap.size,0,none⟩) s.size (grownCap w s.size 0 5)) (Lib.bytesWorld w 5 s):=
 Lib.run_convert_string_bytes w _ _ _ s Tryz.underlying9 Tryz.underlying94 Tryz.underlying5
