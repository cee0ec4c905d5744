/- Merged: TsA. -/
import Derived.Test.YtbfogkcnfnjcaaaTt27
import Derived.Test.YtbfogkcnfnjcaaaTt20
import Derived.Test.YtbfogkcnfnjcaaaTt23
import Derived.Test.YtbfogkcnfnjcaaaTt14
import Derived.Test.YtbfogkcnfnjcaaaTt29
import Derived.Test.YtbfogkcnfnjcaaaTt12
import Derived.Test.YtbfogkcnfnjcaaaTt11
import Derived.BigQuiet
import Derived.IntWalk
import Derived.Deep.RegionHeld3
import Derived.Test.YtbfogkcnfnjcaaaTt21
import Derived.Test.YtbfogkcnfnjcaaaTt6
namespace Go.Proofs.Ytbfogkcnfnjcaaa.Tr
open Go.Proofs Go.RowKit Go.Lib
open Go.Proofs.Ytbfogkcnfnjcaaa.Utf
open Go.Proofs.Ytbfogkcnfnjcaaa.Sc
open Go.Proofs.Ytbfogkcnfnjcaaa.Re
open Go.Proofs.Ytbfogkcnfnjcaaa.Em (allV allL lenV lenL own_l own_m)

theorem cnt_pos (v : V) : 1 ≤ cnt v := by rw [cnt_eq]; omega
end Go.Proofs.Ytbfogkcnfnjcaaa.Tr
