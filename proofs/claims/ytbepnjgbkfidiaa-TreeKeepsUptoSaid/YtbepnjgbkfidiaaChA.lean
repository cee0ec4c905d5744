import Derived.Test.YtbepnjgbkfidiaaUtfA
import Derived.Test.YtbepnjgbkfidiaaChPl
import Derived.IntWalk
import Derived.Laws.Shifts
/- Contracts of package chars' small calls: digit, isUpper, isLower, both, fourAt, escapeAt. -/
namespace Go.Proofs.Ytbepnjgbkfidiaa.Ch
open Go.RowKit
open Go.Proofs.Ytbepnjgbkfidiaa.Utf

theorem i32_or4 (x y : Int) (h0 : 0 ≤ x) (h1 : x ≤ 4095) (h2 : 0 ≤ y) (h3 : y < 16) : bits .or .i32 (x * 16) y = x * 16 + y :=
  bits_join .i32 31 (by decide) wraps_i32 4 (x * 16) y (by omega) (by omega) (by omega) h2 h3 (by omega)

def fourR (l : List UInt8) : Int × Int × Int := if 0 ≤ unitL l then (unitL l, 6, 0) else (0, 0, 20)
theorem fourR_no {l : List UInt8} (h : unitL l = -1) : fourR l = (0, 0, 20) := by rw [fourR, if_neg (by omega)]
theorem fourR_yes {l : List UInt8} (n : Int) (h : unitL l = n) (h0 : 0 ≤ n) : fourR l = (n, 6, 0) := by rw [fourR, if_pos (by omega), h]

theorem one_nat (s : ByteArray) (q : Nat) (w : World) (hs : s.size ≤ maxLen) (hq : q < s.size) :
    Calls Try.prog 65 #[.string s, .int .i64 q] w fun e w' => e = .returned (.tuple #[.int .i32 (oneL (s.data.toList.drop q)).1, .int .i64 (oneL (s.data.toList.drop q)).2]) ∧ w = w' := by
  have := one_any s q w hs
  rw [oneS_in s q hq] at this
  exact this

end Go.Proofs.Ytbepnjgbkfidiaa.Ch
