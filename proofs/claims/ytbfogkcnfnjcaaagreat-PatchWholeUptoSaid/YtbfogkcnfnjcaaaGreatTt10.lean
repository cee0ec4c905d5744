/- Merged: ReA. -/
import Derived.Test.YtbfogkcnfnjcaaaGreatTt6
import Derived.BigQuiet
import Derived.IntWalk
import Derived.Deep.RegionHeld3
namespace Go.Proofs.YtbfogkcnfnjcaaaGreat.Re
open Go.RowKit
open Go.Proofs.YtbfogkcnfnjcaaaGreat.Utf
open Go.Proofs.YtbfogkcnfnjcaaaGreat.Sc

def GivesB (q : Prop) (w : World) (e : Ending) (w' : World) : Prop := (∃ b, e = .returned (.bool b) ∧ (b = true ↔ q)) ∧ Below w.heap.size w w'
end Go.Proofs.YtbfogkcnfnjcaaaGreat.Re
