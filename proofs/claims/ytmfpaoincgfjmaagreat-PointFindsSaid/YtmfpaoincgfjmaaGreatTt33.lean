/- Merged: TsA. -/
import Derived.Test.YtmfpaoincgfjmaaGreatTt28
import Derived.Test.YtmfpaoincgfjmaaGreatTt20
import Derived.Test.YtmfpaoincgfjmaaGreatTt24
import Derived.Test.YtmfpaoincgfjmaaGreatTt13
import Derived.Test.YtmfpaoincgfjmaaGreatTt31
import Derived.Test.YtmfpaoincgfjmaaGreatTt16
import Derived.BigQuiet
import Derived.Deep.RegionHeld3
import Derived.Test.YtmfpaoincgfjmaaGreatTt21
import Derived.Test.YtmfpaoincgfjmaaGreatTt6
namespace Go.Proofs.YtmfpaoincgfjmaaGreat.Tr
open Go.Proofs Go.RowKit Go.Lib
open Go.Proofs.YtmfpaoincgfjmaaGreat.Utf
open Go.Proofs.YtmfpaoincgfjmaaGreat.Sc
open Go.Proofs.YtmfpaoincgfjmaaGreat.Re
open Go.Proofs.YtmfpaoincgfjmaaGreat.Em (allV allL lenV lenL own_l own_m)

theorem cnt_pos (v : V) : 1 ≤ cnt v := by rw [cnt_eq]; omega
end Go.Proofs.YtmfpaoincgfjmaaGreat.Tr
