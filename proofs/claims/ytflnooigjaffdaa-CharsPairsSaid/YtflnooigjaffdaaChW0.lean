import Derived.Test.YtflnooigjaffdaaChB
import Derived.Test.YtflnooigjaffdaaChD
/- Contract: the awake of layer 2's law. -/
namespace Go.Proofs.Ytflnooigjaffdaa.Ch
open Go.RowKit
open Go.Proofs.Ytflnooigjaffdaa.Utf

/-- Read, of a text that is no longer than may be -/
theorem Read_fit (s : ByteArray) (a : Int) (w : World) (hs : s.size + 16 ≤ 140737488355328) :
    Calls Try.prog 10 #[.string s, .int .i64 a] w (GivesRead (readS s.data.toList a) w) :=
  Read_any s a w (by unfold maxLen; omega) fun q _ _ _ => by
    have := (readL_facts (s.data.toList.drop (q + 1))).1
    rw [List.length_drop, len_data] at this
    omega
theorem Quote_fit (s : ByteArray) (w : World) (hs : 6 * s.size + 16 ≤ 140737488355328) :
    Calls Try.prog 7 #[.string s] w (GivesQuote (quoteR s.data.toList) w) :=
  Quote_any s w (by omega) fun _ => by
    have := qbL_le s.data.toList
    rw [len_data] at this
    omega

theorem aw1 : quoteR [97, 34, 10] = ([34, 97, 92, 34, 92, 110, 34], true) := by decide +kernel
theorem aw2 : readS [120, 34, 92, 117, 48, 48, 101, 57, 34, 121] 1 = ([195, 169], 9, 0) := by decide +kernel
theorem aw3 : readS [34, 92, 117, 100, 56, 51, 100, 92, 117, 100, 101, 48, 48, 34] 0 = ([240, 159, 152, 128], 14, 0) := by decide +kernel
theorem aw4 : readS [34, 92, 117, 100, 56, 51, 100, 34] 0 = ([], 1, 20) := by decide +kernel

theorem read_closed (l : List UInt8) (a : Int) (r : List UInt8 × Int × Int) (w : World) (hl : l.length + 16 ≤ 140737488355328) (h : readS l a = r) :
    Calls Try.prog 10 #[.string ⟨l.toArray⟩, .int .i64 a] w (GivesRead r w) := by
  have := Read_fit ⟨l.toArray⟩ a w hl
  rw [show (ByteArray.mk l.toArray).data.toList = l from rfl, h] at this
  exact this
theorem quote_closed (l : List UInt8) (r : List UInt8 × Bool) (w : World) (hl : 6 * l.length + 16 ≤ 140737488355328) (h : quoteR l = r) :
    Calls Try.prog 7 #[.string ⟨l.toArray⟩] w (GivesQuote r w) := by
  have := Quote_fit ⟨l.toArray⟩ w hl
  rw [show (ByteArray.mk l.toArray).data.toList = l from rfl, h] at this
  exact this

set_option maxHeartbeats 1000000 in
theorem awake_any (w : World) : Calls Try.prog 9 #[] w (Gives (.bool true) w) := by
  have he1 := strOf_list [34, 97, 92, 34, 92, 110, 34]
  have he2 := strOf_list [195, 169]
  have he3 := strOf_list [240, 159, 152, 128]
  have he4 := strOf_list []
  go_enter Try.func9, Try.ntmps9
  go_wp2_with fail
  refine (quote_closed [97, 34, 10] _ _ (by decide) aw1).mono ?_
  rintro e w1 ⟨rfl, hb1⟩
  go_wp2_with fail
  refine (read_closed [120, 34, 92, 117, 48, 48, 101, 57, 34, 121] 1 _ _ (by decide) aw2).mono ?_
  rintro e w2 ⟨rfl, hb2⟩
  go_wp2_with fail
  refine (read_closed [34, 92, 117, 100, 56, 51, 100, 92, 117, 100, 101, 48, 48, 34] 0 _ _ (by decide) aw3).mono ?_
  rintro e w3 ⟨rfl, hb3⟩
  go_wp2_with fail
  refine (read_closed [34, 92, 117, 100, 56, 51, 100, 34] 0 _ _ (by decide) aw4).mono ?_
  rintro e w4 ⟨rfl, hb4⟩
  go_wp2_with fail
  go_ret
  have s1 := hb1.size
  have s2 := hb2.size
  have s3 := hb3.size
  exact ⟨rfl, hb1.trans ((hb2.mono s1).trans ((hb3.mono (by omega)).trans (hb4.mono (by omega))))⟩
end Go.Proofs.Ytflnooigjaffdaa.Ch
