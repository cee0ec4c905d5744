/- Merged: FoC. -/
import Derived.Test.YtjbaogoapobhbaaDoorTt12
import Derived.Test.YtjbaogoapobhbaaDoorTt16
import Derived.Lib.QuietBelow
import Derived.BigQuiet
namespace Go.Proofs.YtjbaogoapobhbaaDoor.Fo
open Go.Proofs Go.RowKit
open Go.Proofs.YtjbaogoapobhbaaDoor.Utf
open Go.Proofs.YtjbaogoapobhbaaDoor.Sc
open Go.Proofs.YtjbaogoapobhbaaDoor.Po

def okT (xs : List (List UInt8)) (t : List UInt8) : Bool := xs.any fun x => hasL (low x) (low t)
theorem rd_form {w : World} {v : Value} {xs : List (List UInt8)} (h : Rd w w.heap.size v (strC xs)) : ∃ A c, v = .slice A xs.length c := by
  obtain ⟨A, c, rfl, -⟩ := h
  exact ⟨A, c, by rw [strC_len]⟩
end Go.Proofs.YtjbaogoapobhbaaDoor.Fo
