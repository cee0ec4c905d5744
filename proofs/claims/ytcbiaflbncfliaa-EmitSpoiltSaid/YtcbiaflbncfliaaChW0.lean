import Derived.Test.YtcbiaflbncfliaaChB
import Derived.Test.YtcbiaflbncfliaaChC
/- Contract: the awake of layer 2's law. -/
namespace Go.Proofs.Ytcbiaflbncfliaa.Ch
open Go.RowKit
open Go.Proofs.Ytcbiaflbncfliaa.Utf

/-- Read, of a text that is no longer than may be -/
theorem Read_fit (s : ByteArray) (a : Int) (w : World) (hs : s.size + 16 ≤ 140737488355328) :
    Calls Try.prog 47 #[.string s, .int .i64 a] w (GivesRead (readS s.data.toList a) w) :=
  Read_any s a w (by unfold maxLen; omega) fun q _ _ _ => by
    have := (readL_facts (s.data.toList.drop (q + 1))).1
    rw [List.length_drop, len_data] at this
    omega
theorem Quote_fit (s : ByteArray) (w : World) (hs : 6 * s.size + 16 ≤ 140737488355328) :
    Calls Try.prog 45 #[.string s] w (GivesQuote (quoteR s.data.toList) w) :=
  Quote_any s w (by omega) fun _ => by
    have := qbL_le s.data.toList
    rw [len_data] at this
    omega

theorem aw1 : quoteR [97, 34, 10] = ([34, 97, 92, 34, 92, 110, 34], true) := by decide +kernel
theorem aw2 : readS [120, 34, 92, 117, 48, 48, 101, 57, 34, 121] 1 = ([195, 169], 9, 0) := by decide +kernel
theorem aw3 : readS [34, 92, 117, 100, 56, 51, 100, 92, 117, 100, 101, 48, 48, 34] 0 = ([240, 159, 152, 128], 14, 0) := by decide +kernel
theorem aw4 : readS [34, 92, 117, 100, 56, 51, 100, 34] 0 = ([], 1, 20) := by decide +kernel

theorem read_closed (l : List UInt8) (a : Int) (r : List UInt8 × Int × Int) (w : World) (hl : l.length + 16 ≤ 140737488355328) (h : readS l a = r) :
    Calls Try.prog 47 #[.string ⟨l.toArray⟩, .int .i64 a] w (GivesRead r w) := by
  have := Read_fit ⟨l.toArray⟩ a w hl
  rw [show (ByteArray.mk l.toArray).data.toList = l from rfl, h] at this
  exact this
theorem quote_closed (l : List UInt8) (r : List UInt8 × Bool) (w : World) (hl : 6 * l.length + 16 ≤ 140737488355328) (h : quoteR l = r) :
    Calls Try.prog 45 #[.string ⟨l.toArray⟩] w (GivesQuote r w) := by
  have := Quote_fit ⟨l.toArray⟩ w hl
  rw [show (ByteArray.mk l.toArray).data.toList = l from rfl, h] at this
  exact this

end Go.Proofs.Ytcbiaflbncfliaa.Ch
