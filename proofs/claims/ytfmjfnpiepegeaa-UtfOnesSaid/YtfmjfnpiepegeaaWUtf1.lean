import Derived.Test.YtfmjfnpiepegeaaUtfD
/- The walks of the laws UtfOnes and UtfPuts. -/
namespace Go.Proofs.Ytfmjfnpiepegeaa.Utf
open Go.RowKit

theorem oneS_bounds {l : List UInt8} {at_ p n : Int} (h : oneS l at_ = (p, n)) : 0 ≤ p ∧ p ≤ 1114111 ∧ 0 ≤ n ∧ n ≤ 4 := by
  unfold oneS at h
  split at h
  · have a := congrArg Prod.fst h
    have b := congrArg Prod.snd h
    simp at a b
    omega
  · have := one_bounds h
    omega

set_option maxHeartbeats 400000 in
theorem ones_walk (s : ByteArray) (a : Int) (w : World) (hs : s.size ≤ maxLen) (_ha : (Lit.int .i64 a).wf = true) :
    Calls Try.prog 3 #[.string s, .int .i64 a] w fun e w' => e = .returned (.bool true) ∧ Below w.heap.size w w' := by
  have HS := Lib.hid hs; clear hs
  have c1 := one_any s a
  have c2 := rOne_any s a
  rcases hO : oneS s.data.toList a with ⟨p, n⟩
  rw [hO] at c1 c2
  obtain ⟨b1, b2, b3, b4⟩ := oneS_bounds hO
  clear hO
  have C1 := Lib.hid c1; clear c1
  have C2 := Lib.hid c2; clear c2
  go_enter Try.func3, Try.ntmps3
  go_wp2_with fail
  refine (C1.out w HS.out).mono ?_
  rintro e w' ⟨rfl, rfl⟩
  go_wp2_with fail
  refine (C2.out w HS.out).mono ?_
  rintro e w1 ⟨rfl, hb1⟩
  go_wp2_with fail
  refine (awake_any w1).mono ?_
  rintro e w2 ⟨rfl, hb2⟩
  go_wp2_with fail
  go_ret
  exact ⟨rfl, hb1.trans (hb2.mono hb1.size)⟩
end Go.Proofs.Ytfmjfnpiepegeaa.Utf
