import Derived.Test.YticjamdifpkhmaaNuF
/- The walks of the laws NumsPuts, NumsReads, NumsAlls. -/
namespace Go.Proofs.Yticjamdifpkhmaa.Nu
open Go.RowKit
open Go.Proofs.Yticjamdifpkhmaa.Utf

set_option maxHeartbeats 400000 in
theorem puts_walk (n : Int) (w : World) (hn : (Lit.int .i64 n).wf = true) :
    Calls Try.prog 3 #[.int .i64 n] w fun e w' => e = .returned (.bool true) ∧ Below w.heap.size w w' := by
  have hb : -9223372036854775808 ≤ n ∧ n ≤ 9223372036854775807 := by
    have := bounds_i64 hn
    omega
  have c1 := fun wx => Put_any n wx hb.1 hb.2
  have c2 := fun wx => rPut_any 20 n wx (by omega) (by omega) (by omega) hb.1 hb.2
  generalize strOf (putL n) = P at *
  have C1 := Lib.hid c1; clear c1
  have C2 := Lib.hid c2; clear c2
  go_enter Try.func3, Try.ntmps3
  go_wp2_with fail
  refine (awake_any w).mono ?_
  rintro e w1 ⟨rfl, hb1⟩
  go_wp2_with fail
  refine (C1.out _).mono ?_
  rintro e w2 ⟨rfl, hb2⟩
  go_wp2_with fail
  refine (C2.out _).mono ?_
  rintro e w3 ⟨rfl, hb3⟩
  go_wp2_with fail
  go_ret
  have s1 := hb1.size
  have s2 := hb2.size
  exact ⟨rfl, hb1.trans ((hb2.mono s1).trans (hb3.mono (by omega)))⟩

set_option maxHeartbeats 400000 in
theorem reads_walk (s : ByteArray) (a : Int) (w : World) (hs : s.size ≤ maxLen) (_ha : (Lit.int .i64 a).wf = true) :
    Calls Try.prog 4 #[.string s, .int .i64 a] w fun e w' => e = .returned (.bool true) ∧ Below w.heap.size w w' := by
  have hs' : s.size ≤ 9223372036854775807 := by unfold maxLen at hs; omega
  have c1 := fun wx => Read_any s a wx hs'
  have c2 := fun wx => rRead_any s a wx hs'
  have hw := rdS_why s.data.toList a
  rcases hO : rdS s.data.toList a with ⟨n, p, y⟩
  rw [hO] at c1 c2 hw
  have hy : y = 0 ∨ y = 30 := by rcases hw with h | h; exact .inl h; exact .inr h.1
  clear hO hw
  have C1 := Lib.hid c1; clear c1
  have C2 := Lib.hid c2; clear c2
  rcases hy with rfl | rfl
  all_goals
    go_enter Try.func4, Try.ntmps4
    go_wp2_with fail
    refine (C1.out _).mono ?_
    rintro e w' ⟨rfl, rfl⟩
    go_wp2_with fail
    refine (C2.out _).mono ?_
    rintro e w' ⟨rfl, rfl⟩
    go_wp2_with fail
    refine (awake_any w).mono ?_
    rintro e w1 ⟨rfl, hb1⟩
    go_wp2_with fail
    go_ret
    exact ⟨rfl, hb1⟩

set_option maxHeartbeats 400000 in
theorem alls_walk (s : ByteArray) (w : World) (hs : s.size ≤ maxLen) :
    Calls Try.prog 5 #[.string s] w fun e w' => e = .returned (.bool true) ∧ Below w.heap.size w w' := by
  have hs' : s.size ≤ 9223372036854775807 := by unfold maxLen at hs; omega
  have c1 := fun wx => All_any s wx hs'
  have c2 := fun wx => rAll_any s wx hs'
  rw [allS_eq] at c1
  rcases hO : allR s.data.toList with ⟨n, b⟩
  rw [hO] at c1 c2
  clear hO
  have C1 := Lib.hid c1; clear c1
  have C2 := Lib.hid c2; clear c2
  go_enter Try.func5, Try.ntmps5
  go_wp2_with fail
  refine (C1.out _).mono ?_
  rintro e w1 ⟨rfl, hb1⟩
  go_wp2_with fail
  refine (C2.out _).mono ?_
  rintro e w' ⟨rfl, rfl⟩
  go_wp2_with fail
  refine (awake_any _).mono ?_
  rintro e w2 ⟨rfl, hb2⟩
  go_wp2_with fail
  go_ret
  exact ⟨rfl, hb1.trans (hb2.mono hb1.size)⟩
end Go.Proofs.Yticjamdifpkhmaa.Nu
