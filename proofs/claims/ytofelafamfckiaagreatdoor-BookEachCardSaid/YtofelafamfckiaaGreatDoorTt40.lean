/- Merged: TsP. -/
import Derived.Test.YtofelafamfckiaaGreatDoorTt37
import Derived.Test.YtofelafamfckiaaGreatDoorTt33
import Derived.Deep.MidRow
namespace Go.Proofs.YtofelafamfckiaaGreatDoor
namespace Tr
open Go.Proofs Go.RowKit Go.Lib Utf Sc Re
theorem al.there {w:World} {g o:Nat} {cs:List Value} (h:al w g o cs):w.there g o cs.length:=fun j hj=>by
 obtain ⟨h1,h2⟩:=h j cs[j] (List.getElem?_eq_getElem hj);exact ⟨by rw [h1];rfl,h2⟩
