import Derived.Test.YthokaeaefmajjaaDoorUtfB
import Derived.Test.YthokaeaefmajjaaDoorUtfPl3
import Derived.Laws.BytesString
/- Contracts: package utf's Put, Bad; the law's awake. -/
namespace Go.Proofs.YthokaeaefmajjaaDoor.Utf
open Go.RowKit

set_option maxHeartbeats 400000 in
theorem Put_any (n : Int) (w : World) : Calls Tryd.prog 36 #[.int .i32 n] w (Gives (.string (strOf (enc n))) w) := by
  go_enter Tryd.func36, Tryd.ntmps36
  go_wp2_with fail
  refine (lay_any _ [] n w.heap.size w (World.ownsRow_nil _ _ _ _) (Nat.le_refl _) (by decide)).mono ?_
  rintro e w1 ⟨v1, rfl, hown1, hb1⟩
  rw [List.nil_append] at hown1
  have hc := (Rd.of_own hown1).conv (P := Tryd.prog) Tryd.underlying52 Tryd.underlying5 Tryd.underlying9
  go_wp2
  go_ret
  exact ⟨rfl, hb1⟩

theorem one_at (s : ByteArray) (k : Nat) (p n : Int) (w : World) (hs : s.size ≤ maxLen) (hk : k < s.size) (h : Hid (oneL (s.data.toList.drop k) = (p, n))) :
    Calls Tryd.prog 43 #[.string s, .int .i64 k] w fun e w' => e = .returned (.tuple #[.int .i32 p, .int .i64 n]) ∧ w = w' := by
  have := one_any s k w hs
  rw [oneS_in s k hk, h.out] at this
  exact this

/-- what is read at a place, with its bounds -/
theorem one_bounds {l : List UInt8} {p n : Int} (h : oneL l = (p, n)) : 0 ≤ p ∧ p ≤ 1114111 ∧ 0 ≤ n ∧ n ≤ 4 ∧ n ≤ l.length := by
  rcases oneL_n l with h1 | ⟨h1, h2, h3, h4⟩
  · rw [h] at h1
    have a := congrArg Prod.fst h1
    have b := congrArg Prod.snd h1
    simp at a b
    omega
  · rw [h] at h1 h2 h3 h4
    have a := isPt_lo h1
    have b := isPt_hi h1
    simp at a b h2 h3 h4
    omega

end Go.Proofs.YthokaeaefmajjaaDoor.Utf
