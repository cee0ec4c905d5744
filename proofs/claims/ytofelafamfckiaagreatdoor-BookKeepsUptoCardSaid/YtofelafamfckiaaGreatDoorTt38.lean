/- Merged: CdC. -/
import Derived.Test.YtofelafamfckiaaGreatDoorTt10
import Derived.Deep.DeepCutAuto
import Derived.Deep.RegionWith
import Derived.Laws.Concat
import Derived.Lib.SlBytesConst
import Derived.WalkSmall
import Derived.Test.YtofelafamfckiaaGreatDoorTt28
import Derived.Test.YtofelafamfckiaaGreatDoorTt14
import Derived.Test.YtofelafamfckiaaGreatDoorTt27
namespace Go.Proofs.YtofelafamfckiaaGreatDoor
namespace Cd
open Go.Proofs Go.RowKit Go.Lib Utf Sc Re Tr
open Sm (Pr qky qjF)
open Po (aF bi qac)
theorem qcK (a b:List (List UInt8)):aF (a++b)=aF a++aF b:=List.map_append
theorem cG {w:World} {b b' E z n:Nat} {v:Value} {xs:List Value} (h:w.ownsRow b E z v n xs) (hb:b'≤b):w.ownsRow b' E z v n xs:=by
 obtain ⟨h0,h⟩:=h;refine ⟨h0,?_⟩;rcases h with h | ⟨g,cap,cur,e,h1,h2⟩
 ·exact .inl h
 ·exact .inr ⟨g,cap,cur,e,Nat.le_trans hb h1,h2⟩
