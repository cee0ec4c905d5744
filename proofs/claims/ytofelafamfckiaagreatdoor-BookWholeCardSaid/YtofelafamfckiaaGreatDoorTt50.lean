/- Merged: PaAp PaAw0. -/
import Derived.Test.YtofelafamfckiaaGreatDoorTt45
import Derived.Deep.DeepCutAuto
import Derived.Deep.RegionWith
import Derived.Laws.Concat
namespace Go.Proofs.YtofelafamfckiaaGreatDoor
namespace Pa
open Go.Proofs Go.RowKit Go.Lib Utf Sc Re Tr Po
open Em (bv cq szU cr wfV wfL qbg)
theorem qdc {w:World} {b:Nat} {t:TypeId} {v0 v1 v2 v3 v4 v5:Value} {fr:Nat×Nat} (h:w.heap[b]? = some (.cells #[v0,v1,v2,v3,v4,v5] t fr)) :
  w.cell? ⟨b,0,none⟩=some v0∧w.cell? ⟨b,1,none⟩=some v1∧w.cell? ⟨b,2,none⟩=some v2∧w.cell? ⟨b,3,none⟩=some v3∧w.cell? ⟨b,4,none⟩=some v4∧w.cell? ⟨b,5,none⟩=some v5:=by
 simp [World.cell?,h]
end Pa
namespace Pa
open Go.Proofs Utf Sc Re Tr Po Em
set_option linter.unusedSimpArgs false
def qcc:V:= .mk 1 0 [] [] [] []
def awV:V:=mpV ([[97],[99]],[mpV ([[98]],[nmV 1]),nmV 2])
def awW:V:=mpV ([[97],[99],[100]],[mpV ([],[]),nmV 3,nmV 4])
