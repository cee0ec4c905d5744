/- Merged: TsP. -/
import Derived.Test.YtofelafamfckiaaGreatDoorTt39
import Derived.Test.YtofelafamfckiaaGreatDoorTt35
import Derived.Deep.MidRow
namespace Go.Proofs.YtofelafamfckiaaGreatDoor
namespace Tr
open Go.Proofs Go.RowKit Go.Lib Utf Sc Re
theorem aw.there {w:World} {g o:Nat} {cs:List Value} (h:aw w g o cs):w.there g o cs.length:=fun j hj=>by
 obtain ⟨h1,h2⟩:=h j cs[j] (List.getElem?_eq_getElem hj);exact ⟨by rw [h1];rfl,h2⟩
