/- Merged: CdC. -/
import Derived.Test.YtofelafamfckiaaGreatDoorTt9
import Derived.Deep.DeepCutAuto
import Derived.Deep.RegionWith
import Derived.Laws.Concat
import Derived.Lib.SlBytesConst
import Derived.WalkSmall
import Derived.Test.YtofelafamfckiaaGreatDoorTt30
import Derived.Test.YtofelafamfckiaaGreatDoorTt14
import Derived.Test.YtofelafamfckiaaGreatDoorTt28
namespace Go.Proofs.YtofelafamfckiaaGreatDoor
namespace Cd
open Go.Proofs Go.RowKit Go.Lib Utf Sc Re Tr
open Sm (Pr qlf qkA)
open Po (aI bi qac)
theorem qc7 (a b:List (List UInt8)):aI (a++b)=aI a++aI b:=List.map_append
theorem cV {w:World} {b b' E z n:Nat} {v:Value} {xs:List Value} (h:w.ownsRow b E z v n xs) (hb:b'≤b):w.ownsRow b' E z v n xs:=by
 obtain ⟨h0,h⟩:=h;refine ⟨h0,?_⟩;rcases h with h | ⟨g,cap,cur,e,h1,h2⟩
 ·exact .inl h
 ·exact .inr ⟨g,cap,cur,e,Nat.le_trans hb h1,h2⟩
