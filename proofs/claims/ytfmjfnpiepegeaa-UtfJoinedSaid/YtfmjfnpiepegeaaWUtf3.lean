import Derived.Test.YtfmjfnpiepegeaaUtfF
import Derived.SizedLaws
/- The walks of the laws UtfJoins and UtfJoined. -/
namespace Go.Proofs.Ytfmjfnpiepegeaa.Utf
open Go.RowKit

theorem bytes4 : Try.prog.bytesOf 21 = 4 := by kernel_rfl

set_option maxHeartbeats 400000 in
theorem joins_walk (v : Value) (xs : List Int) (w : World) (hv : Rd w w.heap.size v (xs.map (Value.int .i32))) (hw : ∀ n ∈ xs, (Lit.int .i32 n).wf = true) (hb : xs.length * Try.prog.bytesOf 21 ≤ reachBytes) :
    Calls Try.prog 6 #[v] w fun e w' => e = .returned (.bool true) ∧ Below w.heap.size w w' := by
  have hr : 4 * xs.length ≤ 140737488355328 := by rw [bytes4] at hb; unfold reachBytes at hb; omega
  clear hb
  have HW := Lib.hid hw; clear hw
  go_enter Try.func6, Try.ntmps6
  go_wp2_with fail
  refine (Join_any v xs w hv hr).mono ?_
  rintro e w1 ⟨rfl, hb1⟩
  have hv1 := (hv.below hb1).more hb1.size
  go_wp2_with fail
  refine (rJoin_any v xs w1 hv1 HW.out hr).mono ?_
  rintro e w2 ⟨rfl, hb2⟩
  go_wp2_with fail
  refine (awake_any w2).mono ?_
  rintro e w3 ⟨rfl, hb3⟩
  go_wp2_with fail
  go_ret
  exact ⟨rfl, hb1.trans ((hb2.mono hb1.size).trans (hb3.mono (Nat.le_trans hb1.size hb2.size)))⟩

/-- right bytes behind right ones -/
theorem pts_joined (l r : List UInt8) (h : (ptsL l).2 = l.length) : (ptsL (l ++ r)).2 = l.length + (ptsL r).2 := by
  have e : encL (ptsL l).1 = l := by rw [encL_ptsL, h, List.take_length]
  have := ptsL_encL (ptsL l).1 (ptsL_all l) r
  rw [e] at this
  rw [this]

set_option maxHeartbeats 400000 in
theorem joined_walk (s t : ByteArray) (w : World) (hs : s.size ≤ reachBytes) (ht : t.size ≤ reachBytes) :
    Calls Try.prog 8 #[.string s, .string t] w fun e w' => e = .returned (.bool true) ∧ Below w.heap.size w w' := by
  unfold reachBytes at hs ht
  have hs' : s.size ≤ maxLen := by unfold maxLen; omega
  have ht' : t.size ≤ maxLen := by unfold maxLen; omega
  have hst : (s ++ t).size ≤ maxLen := by rw [ByteArray.size_append]; unfold maxLen; omega
  have HS := Lib.hid hs'; clear hs'
  have HT := Lib.hid ht'; clear ht'
  have HST := Lib.hid hst; clear hst
  have hl := ptsL_le s.data.toList
  rw [len_data] at hl
  have hl2 := ptsL_le t.data.toList
  rw [len_data] at hl2
  have c1 := Bad_any s
  have c2 := Bad_any t
  have c3 := Bad_any (s ++ t)
  have h3 : (ptsL s.data.toList).2 = s.size → (ptsL (s ++ t).data.toList).2 = s.size + (ptsL t.data.toList).2 := by
    intro h
    have e : (s ++ t).data.toList = s.data.toList ++ t.data.toList := by simp
    rw [e]
    exact pts_joined _ _ h
  generalize (ptsL s.data.toList).2 = m at *
  generalize (ptsL t.data.toList).2 = k at *
  generalize (ptsL (s ++ t).data.toList).2 = j at *
  have C1 := Lib.hid c1; clear c1
  have C2 := Lib.hid c2; clear c2
  have C3 := Lib.hid c3; clear c3
  by_cases h : m = s.size
  · obtain rfl := h3 h
    subst h
    clear h3
    go_enter Try.func8, Try.ntmps8
    go_wp2_with fail
    refine (C1.out w HS.out).mono ?_
    rintro e w' ⟨rfl, rfl⟩
    go_wp2_with fail
    refine (C3.out w HST.out).mono ?_
    rintro e w' ⟨rfl, rfl⟩
    go_wp2_with fail
    refine (C2.out w HT.out).mono ?_
    rintro e w' ⟨rfl, rfl⟩
    go_wp2_with fail
    refine (awake_any w).mono ?_
    rintro e w1 ⟨rfl, hb1⟩
    go_wp2_with fail
    go_ret
    exact ⟨rfl, hb1⟩
  · have hne : ((m : Int) != (s.size : Int)) = true := by rw [bne_iff_ne]; omega
    have hne2 : ((m : Int) == (s.size : Int)) = false := by rw [beq_eq_false_iff_ne]; omega
    clear h h3
    go_enter Try.func8, Try.ntmps8
    go_wp2_with fail
    refine (C1.out w HS.out).mono ?_
    rintro e w' ⟨rfl, rfl⟩
    go_wp2_with fail
    refine (awake_any w).mono ?_
    rintro e w1 ⟨rfl, hb1⟩
    go_wp2_with fail
    go_ret
    exact ⟨rfl, hb1⟩
end Go.Proofs.Ytfmjfnpiepegeaa.Utf
