/- Merged: PoH. -/
import Derived.Deep.DeepCutAuto
import Derived.Deep.RegionWith
import Derived.Laws.Concat
import Derived.Test.YtofelafamfckiaaGreatDoorTt28
import Derived.Test.YtofelafamfckiaaGreatDoorTt39
set_option linter.unusedSimpArgs false
namespace Go.Proofs.YtofelafamfckiaaGreatDoor
namespace Po
open Go.Proofs Go.RowKit Utf Sc Re Tr Nu
structure Gs (f:V→Option V) (l acc acc':List V) (k:Nat):Prop where
 ex:∃ g0,acc'=acc++g0∧qjc f l=(qjc f (l.drop k)).map fun r=>g0++r
 sz:acc'.length+aK (l.drop k)≤1000000000000
