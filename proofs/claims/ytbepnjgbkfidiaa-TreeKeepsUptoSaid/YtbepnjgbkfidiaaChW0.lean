import Derived.Test.YtbepnjgbkfidiaaChB
import Derived.Test.YtbepnjgbkfidiaaChC
/- Contract: the awake of layer 2's law. -/
namespace Go.Proofs.Ytbepnjgbkfidiaa.Ch
open Go.RowKit
open Go.Proofs.Ytbepnjgbkfidiaa.Utf

theorem Quote_fit (s : ByteArray) (w : World) (hs : 6 * s.size + 16 ≤ 140737488355328) :
    Calls Try.prog 62 #[.string s] w (GivesQuote (quoteR s.data.toList) w) :=
  Quote_any s w (by omega) fun _ => by
    have := qbL_le s.data.toList
    rw [len_data] at this
    omega

theorem aw1 : quoteR [97, 34, 10] = ([34, 97, 92, 34, 92, 110, 34], true) := by decide +kernel
theorem aw2 : readS [120, 34, 92, 117, 48, 48, 101, 57, 34, 121] 1 = ([195, 169], 9, 0) := by decide +kernel
theorem aw3 : readS [34, 92, 117, 100, 56, 51, 100, 92, 117, 100, 101, 48, 48, 34] 0 = ([240, 159, 152, 128], 14, 0) := by decide +kernel
theorem aw4 : readS [34, 92, 117, 100, 56, 51, 100, 34] 0 = ([], 1, 20) := by decide +kernel

theorem quote_closed (l : List UInt8) (r : List UInt8 × Bool) (w : World) (hl : 6 * l.length + 16 ≤ 140737488355328) (h : quoteR l = r) :
    Calls Try.prog 62 #[.string ⟨l.toArray⟩] w (GivesQuote r w) := by
  have := Quote_fit ⟨l.toArray⟩ w hl
  rw [show (ByteArray.mk l.toArray).data.toList = l from rfl, h] at this
  exact this

end Go.Proofs.Ytbepnjgbkfidiaa.Ch
