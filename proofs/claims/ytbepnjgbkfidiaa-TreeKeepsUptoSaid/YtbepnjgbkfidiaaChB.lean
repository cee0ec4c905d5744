import Derived.Test.YtbepnjgbkfidiaaChA
import Derived.Test.YtbepnjgbkfidiaaChPl
import Derived.Test.YtbepnjgbkfidiaaUtfE
/- Contract of package chars' Read. -/
namespace Go.Proofs.Ytbepnjgbkfidiaa.Ch
open Go.RowKit
open Go.Proofs.Ytbepnjgbkfidiaa.Utf

/-- What a call hands back: a text and two numbers; what was there stays. -/
def GivesRead (r : List UInt8 × Int × Int) (w : World) (e : Ending) (w' : World) : Prop :=
  e = .returned (.tuple #[.string (strOf r.1), .int .i64 r.2.1, .int .i64 r.2.2]) ∧ Below w.heap.size w w'

theorem ret3 {a a' : ByteArray} {b b' c c' : Int} (h1 : a = a') (h2 : b = b') (h3 : c = c') : Ending.returned (.tuple #[.string a, .int .i64 b, .int .i64 c]) = .returned (.tuple #[.string a', .int .i64 b', .int .i64 c']) := by rw [h1, h2, h3]

/-- what a loop over a quote has at its head: no half is kept; or one, which stands 6 bytes ahead -/
def HeadAt (L : List UInt8) (k : Nat) (ps : List Int) (u : Int) : Prop :=
  (u = 0 ∧ RdAt L k ps) ∨ (isUp u = true ∧ ∃ j, k = j + 6 ∧ k ≤ L.length ∧ RdAt L j ps ∧ uniL (L.drop j) = (u, 6, 0))

end Go.Proofs.Ytbepnjgbkfidiaa.Ch
