/- Merged: PoAw PoW6 PaAp PaAw0. -/
import Derived.Test.YtofelafamfckiaaGreatDoorTt43
import Derived.Test.YtofelafamfckiaaGreatDoorTt25
import Derived.Test.YtofelafamfckiaaGreatDoorTt35
set_option linter.unusedSimpArgs false
namespace Go.Proofs.YtofelafamfckiaaGreatDoor
namespace Po
open Go.Proofs Go.RowKit Utf Sc Re Tr Nu
theorem _root_.Go.Proofs.YtofelafamfckiaaGreatDoor.Re.RdA.more {w:World} {lo hi hi':Nat} {v:V} {cs:List Value} (h:RdA w lo hi v cs) (hh:hi≤hi'):RdA w lo hi' v cs:=RdA.keep (fun _ _ _=>rfl) (Nat.le_refl _) hh _ _ h
end Po
end Go.Proofs.YtofelafamfckiaaGreatDoor
set_option linter.unusedSimpArgs false
namespace Go.Proofs.YtofelafamfckiaaGreatDoor
namespace Po
open Go.Proofs Go.RowKit Utf Sc Re Tr Em
theorem _root_.Go.Proofs.YtofelafamfckiaaGreatDoor.Re.RdA.wide {w:World} {lo hi:Nat} {v:V} {cs:List Value} (h:RdA w lo hi v cs):RdA w 0 hi v cs:=RdA.keep (fun _ _ _=>rfl) (Nat.zero_le _) (Nat.le_refl _) _ _ h
theorem qhI (v:V) (ca cb:List Value) (w:World) (hz:szA 4611686018427387904 v) (ha:RdA w 0 w.heap.size v ca) (hb:RdA w 0 w.heap.size v cb) :
  Calls Tryz.prog 13 #[.agg ca.toArray,.agg cb.toArray] w fun e w'=>e = .returned (.bool true)∧Below w.heap.size w w':=by
 refine (qdW (ht v) v v ca cb w (Nat.le_refl _) hz ha hb).mono ?_;rintro e w' ⟨⟨b,rfl,h⟩,hb⟩;obtain rfl:b=true:=h.2 rfl;exact ⟨rfl,hb⟩
end Po
namespace Pa
open Go.Proofs Go.RowKit Go.Lib Utf Sc Re Tr Po
open Em (bC cD szU cC wfV wfL qaA)
theorem qdr {w:World} {b:Nat} {t:TypeId} {v0 v1 v2 v3 v4 v5:Value} {fr:Nat×Nat} (h:w.heap[b]? = some (.cells #[v0,v1,v2,v3,v4,v5] t fr)) :
  w.cell? ⟨b,0,none⟩=some v0∧w.cell? ⟨b,1,none⟩=some v1∧w.cell? ⟨b,2,none⟩=some v2∧w.cell? ⟨b,3,none⟩=some v3∧w.cell? ⟨b,4,none⟩=some v4∧w.cell? ⟨b,5,none⟩=some v5:=by
 simp [World.cell?,h]
end Pa
namespace Pa
open Go.Proofs Utf Sc Re Tr Po Em
set_option linter.unusedSimpArgs false
def qe4:V:= .mk 1 0 [] [] [] []
def awV:V:=mpV ([[97],[99]],[mpV ([[98]],[nmV 1]),nmV 2])
def awW:V:=mpV ([[97],[99],[100]],[mpV ([],[]),nmV 3,nmV 4])
