import Derived.Test.YtflnooigjaffdaaUtfB
import Derived.Test.YtflnooigjaffdaaUtfPl3
import Derived.Laws.BytesString
/- Contracts: package utf's Put, Bad; the law's awake. -/
namespace Go.Proofs.Ytflnooigjaffdaa.Utf
open Go.RowKit

def strOf (l : List UInt8) : ByteArray := ⟨l.toArray⟩
theorem strOf_data (l : List UInt8) : (strOf l).data.toList = l := rfl
theorem strOf_list (l : List UInt8) : (strOf l).toList = l := by rw [ByteArray.toList_eq]; rfl
theorem strOf_size (l : List UInt8) : (strOf l).size = l.length := rfl

/-- What a call hands back: a value; what was there stays. -/
def Gives (v : Value) (w : World) (e : Ending) (w' : World) : Prop := e = .returned v ∧ Below w.heap.size w w'

set_option maxHeartbeats 400000 in
theorem Put_any (n : Int) (w : World) : Calls Try.prog 18 #[.int .i32 n] w (Gives (.string (strOf (enc n))) w) := by
  go_enter Try.func18, Try.ntmps18
  go_wp2_with fail
  refine (lay_any _ [] n w.heap.size w (World.ownsRow_nil _ _ _ _) (Nat.le_refl _) (by decide)).mono ?_
  rintro e w1 ⟨v1, rfl, hown1, hb1⟩
  rw [List.nil_append] at hown1
  have hc := (Rd.of_own hown1).conv (P := Try.prog) Try.underlying33 Try.underlying5 Try.underlying9
  go_wp2
  go_ret
  exact ⟨rfl, hb1⟩

theorem one_at (s : ByteArray) (k : Nat) (p n : Int) (w : World) (hs : s.size ≤ maxLen) (hk : k < s.size) (h : Hid (oneL (s.data.toList.drop k) = (p, n))) :
    Calls Try.prog 22 #[.string s, .int .i64 k] w fun e w' => e = .returned (.tuple #[.int .i32 p, .int .i64 n]) ∧ w = w' := by
  have := one_any s k w hs
  rw [oneS_in s k hk, h.out] at this
  exact this

/-- what is read at a place, with its bounds -/
theorem one_bounds {l : List UInt8} {p n : Int} (h : oneL l = (p, n)) : 0 ≤ p ∧ p ≤ 1114111 ∧ 0 ≤ n ∧ n ≤ 4 ∧ n ≤ l.length := by
  rcases oneL_n l with h1 | ⟨h1, h2, h3, h4⟩
  · rw [h] at h1
    have a := congrArg Prod.fst h1
    have b := congrArg Prod.snd h1
    simp at a b
    omega
  · rw [h] at h1 h2 h3 h4
    have a := isPt_lo h1
    have b := isPt_hi h1
    simp at a b h2 h3 h4
    omega

set_option maxHeartbeats 400000 in
theorem Bad_any (s : ByteArray) (w : World) (hs : s.size ≤ maxLen) : Calls Try.prog 13 #[.string s] w fun e w' => e = .returned (.int .i64 (ptsL s.data.toList).2) ∧ w = w' := by
  have hs' := hs
  have HS := Lib.hid hs; clear hs
  unfold maxLen at hs'
  go_enter Try.func13, Try.ntmps13
  go_wp2
  go_loop [3, 4, 5] (fun a _ _ => ∃ k : Nat, k ≤ s.size ∧ a = .int .i64 k ∧ (ptsL s.data.toList).2 = k + (ptsL (s.data.toList.drop k)).2) (fun a _ _ => s.size - (intOf a).toNat)
  case atStart => exact ⟨0, by omega, rfl, by simp⟩
  case round =>
    obtain ⟨k, hk, rfl, he⟩ := hrel
    have HE := Lib.hid he; clear he
    by_cases hlt : k < s.size
    · rcases hO : oneL (s.data.toList.drop k) with ⟨p, n⟩
      obtain ⟨b1, b2, b3, b4, b5⟩ := one_bounds hO
      rw [List.length_drop, len_data] at b5
      have HO := Lib.hid hO; clear hO
      by_cases hn : n = 0
      · subst hn
        go_wp2_with (go_at_call 22; refine (one_at _ _ _ _ _ HS.out hlt HO).mono ?_; rintro e w' ⟨rfl, rfl⟩)
        go_ret
        exact ⟨by rw [HE.out, ptsL_stop (by rw [HO.out])]; rfl, rfl⟩
      · have hnb : (n == 0) = false := by simpa using hn
        obtain ⟨m, rfl⟩ := Int.eq_ofNat_of_zero_le b3
        have hne : Hid (¬ ((m : Int) = 0)) := hn
        clear hn
        go_wp2_with (go_at_call 22; refine (one_at _ _ _ _ _ HS.out hlt HO).mono ?_; rintro e w' ⟨rfl, rfl⟩)
        go_round
        case rel => exact ⟨k + m, by omega, by go_num, by rw [HE.out, ptsL_go (by rw [HO.out]; exact hne.out), HO.out, List.drop_drop]; simp; omega⟩
        case measure => have := hne.out; simp [intOf]; omega
    · have hd : decide (k < s.size) = false := by simpa using hlt
      obtain rfl : k = s.size := by omega
      go_wp2
      go_ret
      exact ⟨by rw [HE.out, List.drop_of_length_le (by rw [len_data]; exact Nat.le_refl _)]; rfl, rfl⟩
end Go.Proofs.Ytflnooigjaffdaa.Utf
