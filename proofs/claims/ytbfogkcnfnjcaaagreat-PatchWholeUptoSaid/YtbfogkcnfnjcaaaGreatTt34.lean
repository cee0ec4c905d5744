/- Merged: PoH. -/
import Derived.Test.YtbfogkcnfnjcaaaGreatTt28
import Derived.Test.YtbfogkcnfnjcaaaGreatTt30
set_option linter.unusedSimpArgs false
namespace Go.Proofs.YtbfogkcnfnjcaaaGreat.Po
open Go.Proofs Go.RowKit
open Go.Proofs.YtbfogkcnfnjcaaaGreat.Utf
open Go.Proofs.YtbfogkcnfnjcaaaGreat.Sc
open Go.Proofs.YtbfogkcnfnjcaaaGreat.Re
open Go.Proofs.YtbfogkcnfnjcaaaGreat.Tr
open Go.Proofs.YtbfogkcnfnjcaaaGreat.Nu

structure Gs (f : V → Option V) (l acc acc' : List V) (k : Nat) : Prop where
  ex : ∃ g0, acc' = acc ++ g0 ∧ gathF f l = (gathF f (l.drop k)).map fun r => g0 ++ r
  sz : acc'.length + cntL (l.drop k) ≤ 1000000000000
end Go.Proofs.YtbfogkcnfnjcaaaGreat.Po
