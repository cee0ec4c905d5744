/- Merged: WoB. -/
import Derived.Test.YthfladbanghkiaaProg
import Derived.Test.YthfladbanghkiaaTt0
import Derived.Lib.Bytealg
import Derived.WalkKit
import Derived.Deep.QuietTactic
import Derived.BigQuiet
import Derived.WalkLawsBesides
import Derived.WalkSpells
import Derived.Lib.Hide
import Derived.IntWalk
import Derived.Shelf.Abstract
import Derived.Deep.LoopGhost
namespace Go.Proofs.Ythfladbanghkiaa.Wo
open Go.Proofs Go.RowKit
open Go.Proofs.Ythfladbanghkiaa.Utf
open Go.Proofs.Ythfladbanghkiaa.Nu

theorem ext_drop (s : ByteArray) (n : Nat) : s.extract n s.size = strOf (s.data.toList.drop n) := by
  apply ByteArray.ext
  rw [ByteArray.data_extract]
  apply Array.toList_inj.1
  simp only [Array.toList_extract, List.extract, strOf]
  exact List.take_of_length_le (by rw [List.length_drop, len_data]; exact Nat.le_refl _)

end Go.Proofs.Ythfladbanghkiaa.Wo
