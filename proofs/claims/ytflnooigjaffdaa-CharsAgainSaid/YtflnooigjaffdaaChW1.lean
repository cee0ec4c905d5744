import Derived.Test.YtflnooigjaffdaaChW0
import Derived.Test.YtflnooigjaffdaaChPl6
import Derived.Test.YtflnooigjaffdaaUtfG
/- The walks of the laws CharsBack, CharsAgain, CharsBegins. -/
namespace Go.Proofs.Ytflnooigjaffdaa.Ch
open Go.RowKit
open Go.Proofs.Ytflnooigjaffdaa.Utf

set_option maxHeartbeats 400000 in
theorem rBad_any (s : ByteArray) (w : World) (hs : s.size < 17592186044416) : Calls Try.prog 8 #[.string s] w (Gives (.int .i64 (ptsL s.data.toList).2) w) := by
  have c := rPoints_any s w hs
  go_enter Try.func8, Try.ntmps8
  go_wp2_with fail
  refine c.mono ?_
  rintro e w1 ⟨v1, rfl, hown1, hb1⟩
  go_wp2_with fail
  go_ret
  exact ⟨rfl, hb1⟩

theorem strOf_self (s : ByteArray) : strOf s.data.toList = s := rfl

theorem read_back (H s T : ByteArray) (Q : ByteArray) (w : World) (h : (ptsL s.data.toList).2 = s.data.toList.length) (hQ : Q = strOf (34 :: (qbL s.data.toList ++ [34]))) (hz : (H ++ Q ++ T).size + 16 ≤ 140737488355328) :
    Calls Try.prog 10 #[.string (H ++ Q ++ T), .int .i64 H.size] w fun e w' => e = .returned (.tuple #[.string s, .int .i64 ((H.size : Int) + Q.size), .int .i64 0]) ∧ Below w.heap.size w w' := by
  have c := Read_fit (H ++ Q ++ T) H.size w hz
  have e : (H ++ Q ++ T).data.toList = H.data.toList ++ (34 :: (qbL s.data.toList ++ [34])) ++ T.data.toList := by subst hQ; simp [strOf]
  have b := back_plain H.data.toList T.data.toList s.data.toList h
  rw [len_data] at b
  rw [e, b] at c
  have hz2 : Q.size = (34 :: (qbL s.data.toList ++ [34])).length := by rw [hQ]; rfl
  rw [hz2]
  exact c

set_option maxHeartbeats 2000000 in
theorem back_walk (H s T : ByteArray) (w : World) (hH : H.size ≤ 1048576) (hs : s.size ≤ 1048576) (hT : T.size ≤ 1048576) :
    Calls Try.prog 3 #[.string H, .string s, .string T] w fun e w' => e = .returned (.bool true) ∧ Below w.heap.size w w' := by
  have c1 := Quote_fit s w (by omega)
  have c2 := fun w => rBad_any s w (by omega)
  have hle := ptsL_le s.data.toList
  rw [len_data] at hle
  by_cases hb : (ptsL s.data.toList).2 < s.size
  · have hq := quoteR_no (l := s.data.toList) (by rw [len_data]; exact hb)
    rw [hq] at c1
    clear hq
    generalize (ptsL s.data.toList).2 = m at *
    have he4 := strOf_list []
    have hne : ((m : Int) == (s.size : Int)) = false := by rw [beq_eq_false_iff_ne]; omega
    have C1 := Lib.hid c1; clear c1
    have C2 := Lib.hid c2; clear c2
    go_enter Try.func3, Try.ntmps3
    go_wp2_with fail
    refine C1.out.mono ?_
    rintro e w1 ⟨rfl, hb1⟩
    go_wp2_with fail
    refine (C2.out w1).mono ?_
    rintro e w2 ⟨rfl, hb2⟩
    go_wp2_with fail
    refine (awake_any w2).mono ?_
    rintro e w3 ⟨rfl, hb3⟩
    go_wp2_with fail
    go_ret
    have s1 := hb1.size
    have s2 := hb2.size
    exact ⟨rfl, hb1.trans ((hb2.mono s1).trans (hb3.mono (by omega)))⟩
  · have hq := quoteR_yes (l := s.data.toList) (by rw [len_data]; exact hb)
    rw [hq] at c1
    clear hq
    have hm : (ptsL s.data.toList).2 = s.data.toList.length := by rw [len_data]; omega
    have hql := qbL_le s.data.toList
    rw [len_data] at hql
    obtain ⟨Q, hQ⟩ : ∃ Q, Q = strOf (34 :: (qbL s.data.toList ++ [34])) := ⟨_, rfl⟩
    have hQs : Q.size ≤ 6 * 1048576 + 2 := by rw [hQ, strOf_size]; simp; omega
    have hz : (H ++ Q ++ T).size + 16 ≤ 140737488355328 := by rw [ByteArray.size_append, ByteArray.size_append]; omega
    have c3 := fun w => read_back H s T Q w hm hQ hz
    have e2 : (strOf (34 :: (qbL s.data.toList ++ [34])) : ByteArray) = Q := hQ.symm
    unfold GivesQuote at c1
    simp only [e2] at c1
    rw [len_data] at hm
    clear hQ e2
    have hmm : (ptsL s.data.toList).2 = s.size := hm
    rw [hmm] at c2
    have C1 := Lib.hid c1; clear c1
    have C2 := Lib.hid c2; clear c2
    have C3 := Lib.hid c3; clear c3
    clear hm hmm hb hle hz
    go_enter Try.func3, Try.ntmps3
    go_wp2_with fail
    refine C1.out.mono ?_
    rintro e w1 ⟨rfl, hb1⟩
    go_wp2_with fail
    refine (C2.out w1).mono ?_
    rintro e w2 ⟨rfl, hb2⟩
    go_wp2_with fail
    refine (awake_any w2).mono ?_
    rintro e w3 ⟨rfl, hb3⟩
    go_wp2_with fail
    refine (C3.out w3).mono ?_
    rintro e w4 ⟨rfl, hb4⟩
    go_wp2_with fail
    go_ret
    have s1 := hb1.size
    have s2 := hb2.size
    have s3 := hb3.size
    exact ⟨rfl, hb1.trans ((hb2.mono s1).trans ((hb3.mono (by omega)).trans (hb4.mono (by omega))))⟩

theorem qbL_ge (l : List UInt8) : l.length ≤ (qbL l).length := by
  induction l with
  | nil => simp [qbL]
  | cons a l ih =>
    have : 1 ≤ (qb a).length := by
      unfold qb qbZ
      rw [toB_len]
      split
      · have := escZ_le (a.toNat : Int); omega
      · simp
    simp [qbL] at ih ⊢
    omega
theorem again_read (t : List UInt8) (h : (ptsL t).2 = t.length) : readS (34 :: (qbL t ++ [34])) 0 = (t, (((34 :: (qbL t ++ [34])).length : Nat) : Int), 0) := by
  have := back_plain [] [] t h
  simpa using this

set_option maxHeartbeats 2000000 in
theorem again_walk (s : ByteArray) (a : Int) (w : World) (hs : s.size ≤ reachBytes) (_ha : (Lit.int .i64 a).wf = true) :
    Calls Try.prog 4 #[.string s, .int .i64 a] w fun e w' => e = .returned (.bool true) ∧ Below w.heap.size w w' := by
  unfold reachBytes at hs
  have c1 := Read_fit s a w (by omega)
  have hag := again_plain s.data.toList a
  have hbd := bad_plain s.data.toList a
  generalize readS s.data.toList a = r at c1 hag hbd
  obtain ⟨t, n, e⟩ := r
  unfold GivesRead at c1
  simp only at c1
  have he4 := strOf_list []
  by_cases he : e = 0
  · subst he
    obtain ⟨g1, g2, g3, g4, g5, g6, q, rfl, _, _⟩ := hag t n rfl
    clear hag hbd
    have hge := qbL_ge t
    rw [len_data] at g5
    have hln : (qbL t).length + 32 ≤ 140737488355328 := by omega
    have c2 := fun w => Quote_any (strOf t) w (by rw [strOf_size]; omega) (fun _ => by rw [strOf_data]; omega)
    have hq := quoteR_yes (l := t) (by omega)
    simp only [strOf_data] at c2
    rw [hq] at c2
    have c3 := fun w => Read_fit (strOf (34 :: (qbL t ++ [34]))) 0 w (by rw [strOf_size]; simp; omega)
    simp only [strOf_data] at c3
    rw [again_read t g1] at c3
    unfold GivesQuote at c2
    unfold GivesRead at c3
    simp only at c2 c3
    obtain ⟨k, rfl⟩ : ∃ k : Nat, n = (k : Int) + 1 := ⟨(n - 1).toNat, by omega⟩
    have hk : k < s.size := by omega
    have hg6 : ((s[k].toNat : Int) == 34) = true := by
      rw [beq_iff_eq, ← byt_get s k hk, ← g6]; congr 1
    have hlt : decide ((q : Int) < (k : Int) + 1) = true := decide_eq_true g3
    have hle : decide ((k : Int) + 1 ≤ (s.size : Int)) = true := decide_eq_true g5
    have C1 := Lib.hid c1; clear c1
    have C2 := Lib.hid c2; clear c2
    have C3 := Lib.hid c3; clear c3
    clear g1 g2 g6 hge hln hq
    go_enter Try.func4, Try.ntmps4
    go_wp2_with fail
    refine C1.out.mono ?_
    rintro r w1 ⟨rfl, hb1⟩
    go_wp2_with fail
    refine (awake_any w1).mono ?_
    rintro r w2 ⟨rfl, hb2⟩
    go_wp2_with fail
    refine (C2.out w2).mono ?_
    rintro r w3 ⟨rfl, hb3⟩
    go_wp2_with fail
    refine (C3.out w3).mono ?_
    rintro r w4 ⟨rfl, hb4⟩
    go_wp2_with fail
    go_ret
    have s1 := hb1.size
    have s2 := hb2.size
    have s3 := hb3.size
    exact ⟨rfl, hb1.trans ((hb2.mono s1).trans ((hb3.mono (by omega)).trans (hb4.mono (by omega))))⟩
  · obtain ⟨rfl, h2⟩ := hbd t n e rfl he
    clear hag hbd
    have hne : (e != 0) = true := by rw [bne_iff_ne]; exact he
    have C1 := Lib.hid c1; clear c1
    rcases h2 with rfl | rfl
    all_goals
      go_enter Try.func4, Try.ntmps4
      go_wp2_with fail
      refine C1.out.mono ?_
      rintro r w1 ⟨rfl, hb1⟩
      go_wp2_with fail
      refine (awake_any w1).mono ?_
      rintro r w2 ⟨rfl, hb2⟩
      go_wp2_with fail
      go_ret
      exact ⟨rfl, hb1.trans (hb2.mono hb1.size)⟩

set_option maxHeartbeats 2000000 in
theorem begins_walk (s : ByteArray) (a : Int) (T : ByteArray) (w : World) (hs : s.size ≤ reachBytes) (_ha : (Lit.int .i64 a).wf = true) (hT : T.size ≤ reachBytes) :
    Calls Try.prog 6 #[.string s, .int .i64 a, .string T] w fun e w' => e = .returned (.bool true) ∧ Below w.heap.size w w' := by
  unfold reachBytes at hs hT
  have c1 := Read_fit s a w (by omega)
  have hag := again_plain s.data.toList a
  have hbg := begins_plain s.data.toList T.data.toList a
  generalize readS s.data.toList a = r at c1 hag hbg
  obtain ⟨t, n, e⟩ := r
  unfold GivesRead at c1
  simp only at c1
  by_cases he : e = 0
  · subst he
    obtain ⟨g1, g2, g3, g4, g5, g6, q, rfl, _, _⟩ := hag t n rfl
    obtain ⟨b1, b2⟩ := hbg t n rfl
    clear hag hbg g1 g2 g6
    rw [len_data] at g5
    obtain ⟨k, rfl⟩ : ∃ k : Nat, n = (k : Int) + 1 := ⟨(n - 1).toNat, by omega⟩
    have hk : k < s.size := by omega
    have ek : ((k : Int) + 1).toNat = k + 1 := by omega
    rw [ek] at b1 b2
    have ex : (s.extract 0 (k + 1) ++ T).data.toList = s.data.toList.take (k + 1) ++ T.data.toList := by simp [ByteArray.data_extract]
    have c2 := fun w => Read_any (s.extract 0 (k + 1) ++ T) q w (by rw [ByteArray.size_append, ByteArray.size_extract]; unfold maxLen; omega) (fun q' h _ _ => by
      rw [ex]
      have := b2 q' h
      rw [len_data] at this
      omega)
    rw [ex, b1] at c2
    unfold GivesRead at c2
    simp only at c2
    have f1 : (0 : Int) ≤ (k : Int) + 1 := by omega
    have f2 : (k : Int) + 1 ≤ (s.size : Int) := g5
    have f4 : ((k : Int) + 1).toNat = k + 1 := ek
    have C1 := Lib.hid c1; clear c1
    have C2 := Lib.hid c2; clear c2
    clear b1 b2 ex ek
    go_enter Try.func6, Try.ntmps6
    go_wp2_with fail
    refine C1.out.mono ?_
    rintro r w1 ⟨rfl, hb1⟩
    go_wp2_with fail
    refine (awake_any w1).mono ?_
    rintro r w2 ⟨rfl, hb2⟩
    go_wp2_with fail
    refine (C2.out w2).mono ?_
    rintro r w3 ⟨rfl, hb3⟩
    go_wp2_with fail
    go_ret
    have s1 := hb1.size
    have s2 := hb2.size
    exact ⟨rfl, hb1.trans ((hb2.mono s1).trans (hb3.mono (by omega)))⟩
  · clear hag hbg
    have hne : (e != 0) = true := by rw [bne_iff_ne]; exact he
    have C1 := Lib.hid c1; clear c1
    go_enter Try.func6, Try.ntmps6
    go_wp2_with fail
    refine C1.out.mono ?_
    rintro r w1 ⟨rfl, hb1⟩
    go_wp2_with fail
    refine (awake_any w1).mono ?_
    rintro r w2 ⟨rfl, hb2⟩
    go_wp2_with fail
    refine (awake_any w2).mono ?_
    rintro r w3 ⟨rfl, hb3⟩
    go_wp2_with fail
    go_ret
    have s1 := hb1.size
    have s2 := hb2.size
    exact ⟨rfl, hb1.trans ((hb2.mono s1).trans (hb3.mono (by omega)))⟩
end Go.Proofs.Ytflnooigjaffdaa.Ch
