import Derived.Test.YtoflogckoepioaaDoorNuC
import Derived.Test.YtoflogckoepioaaDoorNuE
/- Contracts: All; the document's All and Read at any place; the awake of layer 3's law. -/
namespace Go.Proofs.YtoflogckoepioaaDoor.Nu
open Go.RowKit
open Go.Proofs.YtoflogckoepioaaDoor.Utf

theorem rRead_at (s : ByteArray) (p : Nat) (w : World) (hs : s.size ≤ 9223372036854775807) (hp : p < s.size) :
    Calls Tryd.prog 17 #[.string s, .int .i64 p] w fun e w' =>
      e = .returned (.tuple #[.int .i64 (rdN s.data.toList p).1, .int .i64 (rdN s.data.toList p).2.1, .int .i64 (rdN s.data.toList p).2.2]) ∧ w = w' := by
  by_cases h : (s[p].toNat : Int) = 45
  · exact rRead_minus s p w hs hp h
  · exact rRead_plain s p w hs hp h

set_option maxRecDepth 100000 in
set_option maxHeartbeats 400000 in
theorem rRead_any (s : ByteArray) (a : Int) (w : World) (hs : s.size ≤ 9223372036854775807) :
    Calls Tryd.prog 17 #[.string s, .int .i64 a] w fun e w' =>
      e = .returned (.tuple #[.int .i64 (rdS s.data.toList a).1, .int .i64 (rdS s.data.toList a).2.1, .int .i64 (rdS s.data.toList a).2.2]) ∧ w = w' := by
  by_cases h0 : a < 0
  · rw [rdS, if_pos (.inl h0)]
    have hd : decide (a < 0) = true := decide_eq_true h0
    go_enter Tryd.func17, Tryd.ntmps17
    go_wp2_with fail
    go_ret3
    exact ⟨rfl, rfl⟩
  · by_cases h1 : (s.size : Int) ≤ a
    · rw [rdS, if_pos (.inr h1)]
      have hd : decide (a < 0) = false := decide_eq_false h0
      have hd1 : decide ((s.size : Int) ≤ a) = true := decide_eq_true h1
      go_enter Tryd.func17, Tryd.ntmps17
      go_wp2_with fail
      go_ret3
      exact ⟨rfl, rfl⟩
    · rw [rdS, if_neg (by rw [len_data]; omega)]
      obtain ⟨q, rfl⟩ := Int.eq_ofNat_of_zero_le (Int.not_lt.mp h0)
      exact rRead_at s q w hs (by omega)

/-- What a call hands back: a number and a bool; what was there stays. -/
def GivesIB (r : Int × Bool) (w : World) (e : Ending) (w' : World) : Prop :=
  e = .returned (.tuple #[.int .i64 r.1, .bool r.2]) ∧ Below w.heap.size w w'
theorem retIB {a a' : Int} {b b' : Bool} {r : Int × Bool} (hr : (a', b') = r) (h1 : a = a') (h2 : b = b') : Ending.returned (.tuple #[.int .i64 a, .bool b]) = .returned (.tuple #[.int .i64 r.1, .bool r.2]) := by rw [← hr, h1, h2]

theorem aw1 : rdS [120, 45, 49, 50, 44] 1 = (-12, 4, 0) := by decide +kernel
theorem aw2 : rdS [48, 49] 0 = (0, 0, 30) := by decide +kernel
theorem aw3 : rdS [57, 48, 48, 55, 49, 57, 57, 50, 53, 52, 55, 52, 48, 57, 57, 50] 0 = (0, 0, 30) := by decide +kernel
theorem aw4 : allS [57, 48, 48, 55, 49, 57, 57, 50, 53, 52, 55, 52, 48, 57, 57, 49] = (9007199254740991, true) := by decide +kernel
theorem aw5 : putL (-9223372036854775808) = [45, 57, 50, 50, 51, 51, 55, 50, 48, 51, 54, 56, 53, 52, 55, 55, 53, 56, 48, 56] := by decide +kernel

theorem read_closed (l : List UInt8) (a : Int) (r : Int × Int × Int) (w : World) (hl : l.length ≤ 9223372036854775807) (h : rdS l a = r) :
    Calls Tryd.prog 46 #[.string ⟨l.toArray⟩, .int .i64 a] w fun e w' => e = .returned (.tuple #[.int .i64 r.1, .int .i64 r.2.1, .int .i64 r.2.2]) ∧ w = w' := by
  have := Read_any ⟨l.toArray⟩ a w hl
  rw [show (ByteArray.mk l.toArray).data.toList = l from rfl, h] at this
  exact this
end Go.Proofs.YtoflogckoepioaaDoor.Nu
