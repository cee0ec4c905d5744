/- Merged: PoS. -/
import Derived.Test.YtbfogkcnfnjcaaaGreatTt23
import Derived.Test.YtbfogkcnfnjcaaaGreatTt4
import Derived.Deep.DeepCutAuto
import Derived.Deep.RegionWith
import Derived.Laws.Concat
namespace Go.Proofs.YtbfogkcnfnjcaaaGreat.Po
open Go.Proofs Go.RowKit
open Go.Proofs.YtbfogkcnfnjcaaaGreat.Utf
open Go.Proofs.YtbfogkcnfnjcaaaGreat.Sc
open Go.Proofs.YtbfogkcnfnjcaaaGreat.Re
open Go.Proofs.YtbfogkcnfnjcaaaGreat.Tr
open Go.Proofs.YtbfogkcnfnjcaaaGreat.Nu

def GivesOV (hi : Nat) (o : Option V) (w : World) (e : Ending) (w' : World) : Prop :=
  (∃ cs : List Value, e = .returned (.tuple #[.agg cs.toArray, .bool o.isSome]) ∧ RdA w 0 hi (o.getD V0) cs) ∧ Below w.heap.size w w'
end Go.Proofs.YtbfogkcnfnjcaaaGreat.Po
