/- Merged: CdC. -/
import Derived.Test.YtofelafamfckiaaGreatDoorTt9
import Derived.Lib.SlBytesConst
import Derived.Test.YtofelafamfckiaaGreatDoorTt15
import Derived.WalkSmall
import Derived.Test.YtofelafamfckiaaGreatDoorTt29
import Derived.Test.YtofelafamfckiaaGreatDoorTt13
import Derived.Test.YtofelafamfckiaaGreatDoorTt28
namespace Go.Proofs.YtofelafamfckiaaGreatDoor
namespace Cd
open Go.Proofs Go.RowKit Go.Lib Utf Sc Re Tr
open Sm (Pr qlH qkV)
open Po (aG ba qab)
theorem qcN (a b:List (List UInt8)):aG (a++b)=aG a++aG b:=List.map_append
theorem cY {w:World} {b b' E z n:Nat} {v:Value} {xs:List Value} (h:w.ownsRow b E z v n xs) (hb:b'≤b):w.ownsRow b' E z v n xs:=by
 obtain ⟨h0,h⟩:=h;refine ⟨h0,?_⟩;rcases h with h | ⟨g,cap,cur,e,h1,h2⟩
 ·exact .inl h
 ·exact .inr ⟨g,cap,cur,e,Nat.le_trans hb h1,h2⟩
