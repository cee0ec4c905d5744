/- Merged: TsP TrY. -/
import Derived.Test.YtofelafamfckiaaGreatDoorTt38
import Derived.Test.YtofelafamfckiaaGreatDoorTt34
import Derived.Deep.MidRow
import Derived.Test.YtofelafamfckiaaGreatDoorTt19
namespace Go.Proofs.YtofelafamfckiaaGreatDoor
namespace Tr
open Go.Proofs Go.RowKit Go.Lib Utf Sc Re
theorem az.there {w:World} {g o:Nat} {cs:List Value} (h:az w g o cs):w.there g o cs.length:=fun j hj=>by
 obtain ⟨h1,h2⟩:=h j cs[j] (List.getElem?_eq_getElem hj);exact ⟨by rw [h1];rfl,h2⟩
end Tr
namespace Tr
open Go.Proofs Go.RowKit Go.Lib Utf Sc Re
open Em (qeI)
theorem qe2 {q:Prop} (h:q) {w:World} {e:Ending} {w':World} (t:(∃ b,e = .returned (.bool b)∧(b=true↔q))∧Below w.heap.size w w'):qdo (.bool true) w e w':=by
 obtain ⟨⟨b,rfl,hb⟩,hw⟩:=t;exact ⟨by rw [hb.2 h],hw⟩
