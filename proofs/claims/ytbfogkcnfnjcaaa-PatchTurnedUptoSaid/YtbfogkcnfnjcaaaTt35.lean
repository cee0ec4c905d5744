/- Merged: PoH. -/
import Derived.Test.YtbfogkcnfnjcaaaTt29
import Derived.Test.YtbfogkcnfnjcaaaTt31
set_option linter.unusedSimpArgs false
namespace Go.Proofs.Ytbfogkcnfnjcaaa.Po
open Go.Proofs Go.RowKit
open Go.Proofs.Ytbfogkcnfnjcaaa.Utf
open Go.Proofs.Ytbfogkcnfnjcaaa.Sc
open Go.Proofs.Ytbfogkcnfnjcaaa.Re
open Go.Proofs.Ytbfogkcnfnjcaaa.Tr
open Go.Proofs.Ytbfogkcnfnjcaaa.Nu

structure Gs (f : V → Option V) (l acc acc' : List V) (k : Nat) : Prop where
  ex : ∃ g0, acc' = acc ++ g0 ∧ gathF f l = (gathF f (l.drop k)).map fun r => g0 ++ r
  sz : acc'.length + cntL (l.drop k) ≤ 1000000000000
end Go.Proofs.Ytbfogkcnfnjcaaa.Po
