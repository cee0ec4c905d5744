/- Merged: PoBk. -/
import Derived.Test.YtmfpaoincgfjmaaTt24
import Derived.Test.YtmfpaoincgfjmaaTt15
import Derived.Test.YtmfpaoincgfjmaaTt21
namespace Go.Proofs.Ytmfpaoincgfjmaa.Po
open Go.Proofs.Ytmfpaoincgfjmaa.Utf
open Go.Proofs.Ytmfpaoincgfjmaa.Sc
open Go.Proofs.Ytmfpaoincgfjmaa.Re
open Go.Proofs.Ytmfpaoincgfjmaa.Tr
open Go.Proofs.Ytmfpaoincgfjmaa.Nu
open Go.Proofs.Ytmfpaoincgfjmaa.Em

theorem putL_len8 (i : Nat) : (putL i).length ≤ 21 := (putL_len i).2
end Go.Proofs.Ytmfpaoincgfjmaa.Po
