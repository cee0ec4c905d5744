/- Merged: FoB. -/
import Derived.Test.YtjbaogoapobhbaaDoorTt3
import Derived.Test.YtjbaogoapobhbaaDoorTt10
import Derived.Deep.AppendLies
namespace Go.Proofs.YtjbaogoapobhbaaDoor.Fo
open Go.Proofs Go.RowKit
open Go.Proofs.YtjbaogoapobhbaaDoor.Utf
open Go.Proofs.YtjbaogoapobhbaaDoor.Sc
open Go.Proofs.YtjbaogoapobhbaaDoor.Po

section
variable {l : List UInt8} {f j k : Nat} {ps : List (List UInt8)}
end
def GivesTs (ps : List (List UInt8)) (w : World) (e : Ending) (w' : World) : Prop :=
  ∃ v, e = .returned v ∧ w'.ownsRow w.heap.size 9 1 v ps.length (strC ps) ∧ Below w.heap.size w w'

end Go.Proofs.YtjbaogoapobhbaaDoor.Fo
