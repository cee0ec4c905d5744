import Derived.Test.YtbepnjgbkfidiaaScA
/- Contract of package scan's step. Written by tools/genScD.py. -/
namespace Go.Proofs.Ytbepnjgbkfidiaa.Sc
open Go.RowKit
open Go.Proofs.Ytbepnjgbkfidiaa.Utf

theorem getD_is {s : ByteArray} {k : Nat} {v : UInt8} (hk : k < s.size) (h : (s[k].toNat : Int) = (v.toNat : Int)) : s.data.toList.getD k 0 = v := by
  have := byt_get s k hk
  unfold byt at this
  rw [h] at this
  have h2 : (s.data.toList.getD k 0).toNat = v.toNat := by omega
  exact UInt8.toNat_inj.1 h2

end Go.Proofs.Ytbepnjgbkfidiaa.Sc
