import Derived.Test.YtoflogckoepioaaDoorUtfE
import Derived.Test.YtoflogckoepioaaDoorUtfD
/- Contract: Points of the document's answer. -/
namespace Go.Proofs.YtoflogckoepioaaDoor.Utf
open Go.RowKit

theorem rOne_at (s : ByteArray) (k : Nat) (p n : Int) (w : World) (hs : s.size ≤ maxLen) (hk : k < s.size) (h : Hid (oneL (s.data.toList.drop k) = (p, n))) :
    Calls Tryd.prog 26 #[.string s, .int .i64 k] w (Gives (.tuple #[.int .i64 p, .int .i64 n]) w) := by
  have := rOne_any s k w hs
  rw [oneS_in s k hk, h.out] at this
  exact this

end Go.Proofs.YtoflogckoepioaaDoor.Utf
