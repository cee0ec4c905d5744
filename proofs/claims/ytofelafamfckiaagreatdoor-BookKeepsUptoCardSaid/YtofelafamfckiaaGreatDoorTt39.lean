/- Merged: TsP. -/
import Derived.Test.YtofelafamfckiaaGreatDoorTt36
import Derived.Test.YtofelafamfckiaaGreatDoorTt32
import Derived.Deep.MidRow
namespace Go.Proofs.YtofelafamfckiaaGreatDoor
namespace Tr
open Go.Proofs Go.RowKit Go.Lib Utf Sc Re
theorem qdi (b:Nat):∀ (vs:List Value) (o:Nat) (w:World),(w.setCells b o vs).heap.size=w.heap.size
 | [],_,_=>rfl
 | v::r,o,w=>by rw [World.setCells,qdi b r];simp
theorem qbp (b:Nat) (F:List Nat) (hb:b∈F):∀ (vs:List Value) (o:Nat) (w:World),qbY F w (w.setCells b o vs)
 | [],_,w=>qbY.refl _ _
 | v::r,o,w=>by
  rw [World.setCells];exact (show qbY F w (w.setCell ⟨b,o,none⟩ v) from ⟨rfl,rfl,rfl,by simp,fun k _ hk=>Below.heap_setCell _ _ _ k (fun e=>hk (by rw [e];exact hb))⟩).trans (qbp b F hb r (o+1) _)
theorem aw.there {w:World} {g o:Nat} {cs:List Value} (h:aw w g o cs):w.there g o cs.length:=fun j hj=>by
 obtain ⟨h1,h2⟩:=h j cs[j] (List.getElem?_eq_getElem hj);exact ⟨by rw [h1];rfl,h2⟩
