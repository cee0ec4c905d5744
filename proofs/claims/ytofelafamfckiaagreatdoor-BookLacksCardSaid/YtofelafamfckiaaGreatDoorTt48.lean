/- Merged: PoAw PoW6. -/
import Derived.Test.YtofelafamfckiaaGreatDoorTt46
import Derived.Test.YtofelafamfckiaaGreatDoorTt26
import Derived.Test.YtofelafamfckiaaGreatDoorTt36
import Derived.Test.YtofelafamfckiaaGreatDoorTt20
set_option linter.unusedSimpArgs false
namespace Go.Proofs.YtofelafamfckiaaGreatDoor
namespace Po
open Go.Proofs Go.RowKit Utf Sc Re Tr Nu
theorem _root_.Go.Proofs.YtofelafamfckiaaGreatDoor.Re.RdA.more {w:World} {lo hi hi':Nat} {v:V} {cs:List Value} (h:RdA w lo hi v cs) (hh:hi≤hi'):RdA w lo hi' v cs:=RdA.keep (fun _ _ _=>rfl) (Nat.le_refl _) hh _ _ h
end Po
end Go.Proofs.YtofelafamfckiaaGreatDoor
set_option linter.unusedSimpArgs false
namespace Go.Proofs.YtofelafamfckiaaGreatDoor
namespace Po
open Go.Proofs Go.RowKit Utf Sc Re Tr Em
theorem _root_.Go.Proofs.YtofelafamfckiaaGreatDoor.Re.RdA.wide {w:World} {lo hi:Nat} {v:V} {cs:List Value} (h:RdA w lo hi v cs):RdA w 0 hi v cs:=RdA.keep (fun _ _ _=>rfl) (Nat.zero_le _) (Nat.le_refl _) _ _ h
theorem qhi (v:V) (ca cb:List Value) (w:World) (hz:szA 4611686018427387904 v) (ha:RdA w 0 w.heap.size v ca) (hb:RdA w 0 w.heap.size v cb) :
  Calls Tryz.prog 13 #[.agg ca.toArray,.agg cb.toArray] w fun e w'=>e = .returned (.bool true)∧Below w.heap.size w w':=by
 refine (qhw (ht v) v v ca cb w (Nat.le_refl _) hz ha hb).mono ?_;rintro e w' ⟨⟨b,rfl,h⟩,hb⟩;obtain rfl:b=true:=h.2 rfl;exact ⟨rfl,hb⟩
