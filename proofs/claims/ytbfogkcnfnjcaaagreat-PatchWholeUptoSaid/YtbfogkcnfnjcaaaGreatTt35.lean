/- Merged: PoAw PoW6. -/
import Derived.Test.YtbfogkcnfnjcaaaGreatTt23
import Derived.Test.YtbfogkcnfnjcaaaGreatTt7
import Derived.Test.YtbfogkcnfnjcaaaGreatTt34
import Derived.Test.YtbfogkcnfnjcaaaGreatTt26
import Derived.Test.YtbfogkcnfnjcaaaGreatTt20
import Derived.Test.YtbfogkcnfnjcaaaGreatTt18
import Derived.Test.YtbfogkcnfnjcaaaGreatTt22
import Derived.Test.YtbfogkcnfnjcaaaGreatTt11
import Derived.Test.YtbfogkcnfnjcaaaGreatTt10
import Derived.BigQuiet
import Derived.IntWalk
import Derived.Deep.RegionHeld3
import Derived.Test.YtbfogkcnfnjcaaaGreatTt15
import Derived.Test.YtbfogkcnfnjcaaaGreatTt6
set_option linter.unusedSimpArgs false
namespace Go.Proofs.YtbfogkcnfnjcaaaGreat.Po
open Go.Proofs Go.RowKit
open Go.Proofs.YtbfogkcnfnjcaaaGreat.Utf
open Go.Proofs.YtbfogkcnfnjcaaaGreat.Sc
open Go.Proofs.YtbfogkcnfnjcaaaGreat.Re
open Go.Proofs.YtbfogkcnfnjcaaaGreat.Tr
open Go.Proofs.YtbfogkcnfnjcaaaGreat.Nu

theorem _root_.Go.Proofs.YtbfogkcnfnjcaaaGreat.Re.RdA.more {w : World} {lo hi hi' : Nat} {v : V} {cs : List Value} (h : RdA w lo hi v cs) (hh : hi ≤ hi') : RdA w lo hi' v cs := RdA.keep (fun _ _ _ => rfl) (Nat.le_refl _) hh _ _ h

end Go.Proofs.YtbfogkcnfnjcaaaGreat.Po
set_option linter.unusedSimpArgs false
namespace Go.Proofs.YtbfogkcnfnjcaaaGreat.Po
open Go.Proofs Go.RowKit
open Go.Proofs.YtbfogkcnfnjcaaaGreat.Utf
open Go.Proofs.YtbfogkcnfnjcaaaGreat.Sc
open Go.Proofs.YtbfogkcnfnjcaaaGreat.Re
open Go.Proofs.YtbfogkcnfnjcaaaGreat.Tr
open Go.Proofs.YtbfogkcnfnjcaaaGreat.Em

theorem _root_.Go.Proofs.YtbfogkcnfnjcaaaGreat.Re.RdA.wide {w : World} {lo hi : Nat} {v : V} {cs : List Value} (h : RdA w lo hi v cs) : RdA w 0 hi v cs := RdA.keep (fun _ _ _ => rfl) (Nat.zero_le _) (Nat.le_refl _) _ _ h
end Go.Proofs.YtbfogkcnfnjcaaaGreat.Po
