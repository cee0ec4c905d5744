/- Merged: FoC. -/
import Derived.Test.YtjbaogoapobhbaaDoorTt11
import Derived.Test.YtjbaogoapobhbaaDoorTt15
import Derived.Lib.QuietBelow
import Derived.BigQuiet
namespace Go.Proofs.YtjbaogoapobhbaaDoor.Fo
open Go.Proofs Go.RowKit
open Go.Proofs.YtjbaogoapobhbaaDoor.Utf
open Go.Proofs.YtjbaogoapobhbaaDoor.Sc
open Go.Proofs.YtjbaogoapobhbaaDoor.Po

def okT (xs : List (List UInt8)) (t : List UInt8) : Bool := xs.any fun x => hasL (low x) (low t)
end Go.Proofs.YtjbaogoapobhbaaDoor.Fo
