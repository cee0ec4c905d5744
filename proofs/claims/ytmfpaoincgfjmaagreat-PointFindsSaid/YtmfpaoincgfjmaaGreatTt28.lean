/- Merged: TrW. -/
import Derived.Test.YtmfpaoincgfjmaaGreatTt26
import Derived.Laws.CopyOwn
import Derived.Laws.CopyRow
import Derived.Laws.MakeOwn
import Derived.Test.YtmfpaoincgfjmaaGreatTt24
namespace Go.Proofs.YtmfpaoincgfjmaaGreat.Tr
open Go.Proofs Go.RowKit Go.Lib
open Go.Proofs.YtmfpaoincgfjmaaGreat.Utf
open Go.Proofs.YtmfpaoincgfjmaaGreat.Sc
open Go.Proofs.YtmfpaoincgfjmaaGreat.Re

def kept (pd : List (M6 × V)) (nm : List UInt8) (k : Nat) : List (M6 × V) := (pd.take k).filter fun p => p.1.nm ≠ nm
end Go.Proofs.YtmfpaoincgfjmaaGreat.Tr
