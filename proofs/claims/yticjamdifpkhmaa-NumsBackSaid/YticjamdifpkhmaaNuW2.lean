import Derived.Test.YticjamdifpkhmaaNuF
/- The walk of the law NumsBack. -/
namespace Go.Proofs.Yticjamdifpkhmaa.Nu
open Go.RowKit
open Go.Proofs.Yticjamdifpkhmaa.Utf

/-- the first byte of a tail that ends no number -/
def stopT (b : Int) : Prop := (48 ≤ b ∧ b ≤ 57) ∨ b = 46 ∨ b = 101 ∨ b = 69
theorem data_app (a b : ByteArray) : (a ++ b).data.toList = a.data.toList ++ b.data.toList := by simp

set_option maxHeartbeats 2000000 in
theorem back_small (n : Int) (t : ByteArray) (w : World) (hb : -9223372036854775808 ≤ n ∧ n ≤ 9223372036854775807) (ht : t.size ≤ 140737488351232) (hn : ¬ maxN < n.natAbs) :
    Calls Try.prog 6 #[.int .i64 n, .string t] w fun e w' => e = .returned (.bool true) ∧ Below w.heap.size w w' := by
  have hm : maxN = 9007199254740991 := rfl
  rw [hm] at hn
  have c1 := fun wx => Put_any n wx hb.1 hb.2
  have hlen := putL_len n
  have c2 := fun wx => All_any (strOf (putL n)) wx (by rw [strOf_size]; omega)
  have hall := all_put n (by omega)
  rw [hm, if_neg hn] at hall
  rw [strOf_data, hall] at c2
  have c3 := fun wx => Read_any (strOf (putL n) ++ t) 0 wx (by rw [ByteArray.size_append, strOf_size]; omega)
  rw [data_app, strOf_data] at c3
  have hrd := rd_put n (by omega) t.data.toList
  have hsz : (strOf (putL n)).size = (putL n).length := rfl
  rw [hm] at hrd
  generalize rdS (putL n ++ t.data.toList) 0 = R at *
  rw [← hsz] at hrd hlen
  generalize strOf (putL n) = P at *
  clear hsz hall hm
  have C1 := Lib.hid c1; clear c1
  have C2 := Lib.hid c2; clear c2
  have k1 : decide (-9007199254740991 ≤ n) = true := decide_eq_true (by omega)
  have k2 : decide (n ≤ 9007199254740991) = true := decide_eq_true (by omega)
  by_cases h0 : t.size = 0
  · have hr := hrd (by rw [byt_out (by rw [len_data]; omega)]; rfl)
    rw [if_neg (by rw [byt_out (k := 0) (by rw [len_data]; omega)]; omega)] at hr
    subst hr
    have C3 := Lib.hid c3; clear c3
    clear hrd hn
    have he : t.toList = [] := by
      rw [ByteArray.toList_eq]
      exact List.eq_nil_of_length_eq_zero (by rw [len_data]; exact h0)
    have hie : t.toList.isEmpty = true := by rw [he]; rfl
    go_enter Try.func6, Try.ntmps6
    go_wp2_with fail
    refine (C1.out _).mono ?_
    rintro e w1 ⟨rfl, hb1⟩
    go_wp2_with fail
    refine (C2.out _).mono ?_
    rintro e w2 ⟨rfl, hb2⟩
    go_wp2_with fail
    refine (awake_any _).mono ?_
    rintro e w3 ⟨rfl, hb3⟩
    go_wp2_with fail
    refine (C3.out _).mono ?_
    rintro e w' ⟨rfl, rfl⟩
    go_wp2_with fail
    go_ret
    have s1 := hb1.size
    have s2 := hb2.size
    exact ⟨rfl, hb1.trans ((hb2.mono s1).trans (hb3.mono (by omega)))⟩
  · have ht0 : 0 < t.size := by omega
    have hne : ¬ t.toList = [] := by
      rw [ByteArray.toList_eq]
      intro h
      have := congrArg List.length h
      rw [len_data] at this
      exact h0 this
    have hie : t.toList.isEmpty = false := by simpa using hne
    have g := byt_get t 0 ht0
    have g0 := byt_lo t.data.toList 0
    have g1 := byt_hi t.data.toList 0
    by_cases hst : stopT (byt t.data.toList 0)
    · clear hrd c3
      rw [g] at hst
      rw [g] at g0 g1
      clear g hn
      unfold stopT at hst
      rcases hst with ⟨h1, h2⟩ | h | h | h
      · have x1 : decide ((48 : Int) ≤ (t[0].toNat : Int)) = true := decide_eq_true h1
        have x2 : decide ((t[0].toNat : Int) ≤ (57 : Int)) = true := decide_eq_true h2
        go_enter Try.func6, Try.ntmps6
        go_wp2_with fail
        refine (C1.out _).mono ?_
        rintro e w1 ⟨rfl, hb1⟩
        go_wp2_with fail
        refine (C2.out _).mono ?_
        rintro e w2 ⟨rfl, hb2⟩
        go_wp2_with fail
        refine (awake_any _).mono ?_
        rintro e w3 ⟨rfl, hb3⟩
        go_wp2_with fail
        go_ret
        have s1 := hb1.size
        have s2 := hb2.size
        exact ⟨rfl, hb1.trans ((hb2.mono s1).trans (hb3.mono (by omega)))⟩
      · have x1 : decide ((48 : Int) ≤ (t[0].toNat : Int)) = false := decide_eq_false (by omega)
        have x46 : ((t[0].toNat : Int) == 46) = true := by simp; omega
        clear h
        go_enter Try.func6, Try.ntmps6
        go_wp2_with fail
        refine (C1.out _).mono ?_
        rintro e w1 ⟨rfl, hb1⟩
        go_wp2_with fail
        refine (C2.out _).mono ?_
        rintro e w2 ⟨rfl, hb2⟩
        go_wp2_with fail
        refine (awake_any _).mono ?_
        rintro e w3 ⟨rfl, hb3⟩
        go_wp2_with fail
        go_ret
        have s1 := hb1.size
        have s2 := hb2.size
        exact ⟨rfl, hb1.trans ((hb2.mono s1).trans (hb3.mono (by omega)))⟩
      · have x1 : decide ((48 : Int) ≤ (t[0].toNat : Int)) = true := decide_eq_true (by omega)
        have x2 : decide ((t[0].toNat : Int) ≤ (57 : Int)) = false := decide_eq_false (by omega)
        have x46 : ((t[0].toNat : Int) == 46) = false := by simp; omega
        have x101 : ((t[0].toNat : Int) == 101) = true := by simp; omega
        clear h
        go_enter Try.func6, Try.ntmps6
        go_wp2_with fail
        refine (C1.out _).mono ?_
        rintro e w1 ⟨rfl, hb1⟩
        go_wp2_with fail
        refine (C2.out _).mono ?_
        rintro e w2 ⟨rfl, hb2⟩
        go_wp2_with fail
        refine (awake_any _).mono ?_
        rintro e w3 ⟨rfl, hb3⟩
        go_wp2_with fail
        go_ret
        have s1 := hb1.size
        have s2 := hb2.size
        exact ⟨rfl, hb1.trans ((hb2.mono s1).trans (hb3.mono (by omega)))⟩
      · have x1 : decide ((48 : Int) ≤ (t[0].toNat : Int)) = true := decide_eq_true (by omega)
        have x2 : decide ((t[0].toNat : Int) ≤ (57 : Int)) = false := decide_eq_false (by omega)
        have x46 : ((t[0].toNat : Int) == 46) = false := by simp; omega
        have x101 : ((t[0].toNat : Int) == 101) = false := by simp; omega
        have x69 : ((t[0].toNat : Int) == 69) = true := by simp; omega
        clear h
        go_enter Try.func6, Try.ntmps6
        go_wp2_with fail
        refine (C1.out _).mono ?_
        rintro e w1 ⟨rfl, hb1⟩
        go_wp2_with fail
        refine (C2.out _).mono ?_
        rintro e w2 ⟨rfl, hb2⟩
        go_wp2_with fail
        refine (awake_any _).mono ?_
        rintro e w3 ⟨rfl, hb3⟩
        go_wp2_with fail
        go_ret
        have s1 := hb1.size
        have s2 := hb2.size
        exact ⟨rfl, hb1.trans ((hb2.mono s1).trans (hb3.mono (by omega)))⟩
    · have hst' : ¬ ((48 ≤ byt t.data.toList 0 ∧ byt t.data.toList 0 ≤ 57) ∨ byt t.data.toList 0 = 46 ∨ byt t.data.toList 0 = 101 ∨ byt t.data.toList 0 = 69) := hst
      have hr := hrd (isD_no fun h => hst' (.inl h))
      rw [if_neg (by omega)] at hr
      subst hr
      have C3 := Lib.hid c3; clear c3
      rw [g] at hst' g0 g1
      clear hrd g hst hn
      have x46 : ((t[0].toNat : Int) == 46) = false := by simp; omega
      have x101 : ((t[0].toNat : Int) == 101) = false := by simp; omega
      have x69 : ((t[0].toNat : Int) == 69) = false := by simp; omega
      by_cases h48 : (48 : Int) ≤ (t[0].toNat : Int)
      · have x1 : decide ((48 : Int) ≤ (t[0].toNat : Int)) = true := decide_eq_true h48
        have x2 : decide ((t[0].toNat : Int) ≤ (57 : Int)) = false := decide_eq_false (by omega)
        clear hst' h48
        go_enter Try.func6, Try.ntmps6
        go_wp2_with fail
        refine (C1.out _).mono ?_
        rintro e w1 ⟨rfl, hb1⟩
        go_wp2_with fail
        refine (C2.out _).mono ?_
        rintro e w2 ⟨rfl, hb2⟩
        go_wp2_with fail
        refine (awake_any _).mono ?_
        rintro e w3 ⟨rfl, hb3⟩
        go_wp2_with fail
        refine (C3.out _).mono ?_
        rintro e w' ⟨rfl, rfl⟩
        go_wp2_with fail
        go_ret
        have s1 := hb1.size
        have s2 := hb2.size
        exact ⟨rfl, hb1.trans ((hb2.mono s1).trans (hb3.mono (by omega)))⟩
      · have x1 : decide ((48 : Int) ≤ (t[0].toNat : Int)) = false := decide_eq_false h48
        clear hst' h48
        go_enter Try.func6, Try.ntmps6
        go_wp2_with fail
        refine (C1.out _).mono ?_
        rintro e w1 ⟨rfl, hb1⟩
        go_wp2_with fail
        refine (C2.out _).mono ?_
        rintro e w2 ⟨rfl, hb2⟩
        go_wp2_with fail
        refine (awake_any _).mono ?_
        rintro e w3 ⟨rfl, hb3⟩
        go_wp2_with fail
        refine (C3.out _).mono ?_
        rintro e w' ⟨rfl, rfl⟩
        go_wp2_with fail
        go_ret
        have s1 := hb1.size
        have s2 := hb2.size
        exact ⟨rfl, hb1.trans ((hb2.mono s1).trans (hb3.mono (by omega)))⟩

set_option maxHeartbeats 2000000 in
theorem back_great (n : Int) (t : ByteArray) (w : World) (hb : -9223372036854775808 ≤ n ∧ n ≤ 9223372036854775807) (ht : t.size ≤ 140737488351232) (hn : maxN < n.natAbs) :
    Calls Try.prog 6 #[.int .i64 n, .string t] w fun e w' => e = .returned (.bool true) ∧ Below w.heap.size w w' := by
  have hm : maxN = 9007199254740991 := rfl
  rw [hm] at hn
  have c1 := fun wx => Put_any n wx hb.1 hb.2
  have hlen := putL_len n
  have c2 := fun wx => All_any (strOf (putL n)) wx (by rw [strOf_size]; omega)
  have hall := all_put n (by omega)
  rw [hm, if_pos hn] at hall
  rw [strOf_data, hall] at c2
  have c3 := fun wx => Read_any (strOf (putL n) ++ t) 0 wx (by rw [ByteArray.size_append, strOf_size]; omega)
  rw [data_app, strOf_data] at c3
  have hrd := rd_put n (by omega) t.data.toList
  have hsz : (strOf (putL n)).size = (putL n).length := rfl
  rw [hm] at hrd
  generalize rdS (putL n ++ t.data.toList) 0 = R at *
  rw [← hsz] at hrd hlen
  generalize strOf (putL n) = P at *
  clear hsz hall hm
  have C1 := Lib.hid c1; clear c1
  have C2 := Lib.hid c2; clear c2
  have k1 : (decide (-9007199254740991 ≤ n) && decide (n ≤ 9007199254740991)) = false := by
    by_cases h : -9007199254740991 ≤ n
    · rw [decide_eq_true h, decide_eq_false (by omega)]; rfl
    · rw [decide_eq_false h]; rfl
  have k2 : -9007199254740991 ≤ n → decide (n ≤ 9007199254740991) = false := fun h => decide_eq_false (by omega)
  by_cases h0 : t.size = 0
  · have hr := hrd (by rw [byt_out (by rw [len_data]; omega)]; rfl)
    rw [if_pos (by rw [byt_out (k := 0) (by rw [len_data]; omega)]; omega)] at hr
    subst hr
    have C3 := Lib.hid c3; clear c3
    clear hrd hn
    have he : t.toList = [] := by
      rw [ByteArray.toList_eq]
      exact List.eq_nil_of_length_eq_zero (by rw [len_data]; exact h0)
    have hie : t.toList.isEmpty = true := by rw [he]; rfl
    by_cases hlo : -9007199254740991 ≤ n
    · have k3 : decide (-9007199254740991 ≤ n) = true := decide_eq_true hlo
      have k4 : decide (n ≤ 9007199254740991) = false := k2 hlo
      clear k1 k2
      go_enter Try.func6, Try.ntmps6
      go_wp2_with fail
      refine (C1.out _).mono ?_
      rintro e w1 ⟨rfl, hb1⟩
      go_wp2_with fail
      refine (C2.out _).mono ?_
      rintro e w2 ⟨rfl, hb2⟩
      go_wp2_with fail
      refine (awake_any _).mono ?_
      rintro e w3 ⟨rfl, hb3⟩
      go_wp2_with fail
      refine (C3.out _).mono ?_
      rintro e w' ⟨rfl, rfl⟩
      go_wp2_with fail
      go_ret
      have s1 := hb1.size
      have s2 := hb2.size
      exact ⟨rfl, hb1.trans ((hb2.mono s1).trans (hb3.mono (by omega)))⟩
    · have k3 : decide (-9007199254740991 ≤ n) = false := decide_eq_false hlo
      clear k1 k2
      go_enter Try.func6, Try.ntmps6
      go_wp2_with fail
      refine (C1.out _).mono ?_
      rintro e w1 ⟨rfl, hb1⟩
      go_wp2_with fail
      refine (C2.out _).mono ?_
      rintro e w2 ⟨rfl, hb2⟩
      go_wp2_with fail
      refine (awake_any _).mono ?_
      rintro e w3 ⟨rfl, hb3⟩
      go_wp2_with fail
      refine (C3.out _).mono ?_
      rintro e w' ⟨rfl, rfl⟩
      go_wp2_with fail
      go_ret
      have s1 := hb1.size
      have s2 := hb2.size
      exact ⟨rfl, hb1.trans ((hb2.mono s1).trans (hb3.mono (by omega)))⟩
  · have ht0 : 0 < t.size := by omega
    have hne : ¬ t.toList = [] := by
      rw [ByteArray.toList_eq]
      intro h
      have := congrArg List.length h
      rw [len_data] at this
      exact h0 this
    have hie : t.toList.isEmpty = false := by simpa using hne
    have g := byt_get t 0 ht0
    have g0 := byt_lo t.data.toList 0
    have g1 := byt_hi t.data.toList 0
    by_cases hlo : -9007199254740991 ≤ n
    · have k3 : decide (-9007199254740991 ≤ n) = true := decide_eq_true hlo
      have k4 : decide (n ≤ 9007199254740991) = false := k2 hlo
      clear k1 k2
      by_cases hst : stopT (byt t.data.toList 0)
      · clear hrd c3
        rw [g] at hst
        rw [g] at g0 g1
        clear g hn
        unfold stopT at hst
        rcases hst with ⟨h1, h2⟩ | h | h | h
        · have x1 : decide ((48 : Int) ≤ (t[0].toNat : Int)) = true := decide_eq_true h1
          have x2 : decide ((t[0].toNat : Int) ≤ (57 : Int)) = true := decide_eq_true h2
          go_enter Try.func6, Try.ntmps6
          go_wp2_with fail
          refine (C1.out _).mono ?_
          rintro e w1 ⟨rfl, hb1⟩
          go_wp2_with fail
          refine (C2.out _).mono ?_
          rintro e w2 ⟨rfl, hb2⟩
          go_wp2_with fail
          refine (awake_any _).mono ?_
          rintro e w3 ⟨rfl, hb3⟩
          go_wp2_with fail
          go_ret
          have s1 := hb1.size
          have s2 := hb2.size
          exact ⟨rfl, hb1.trans ((hb2.mono s1).trans (hb3.mono (by omega)))⟩
        · have x1 : decide ((48 : Int) ≤ (t[0].toNat : Int)) = false := decide_eq_false (by omega)
          have x46 : ((t[0].toNat : Int) == 46) = true := by simp; omega
          clear h
          go_enter Try.func6, Try.ntmps6
          go_wp2_with fail
          refine (C1.out _).mono ?_
          rintro e w1 ⟨rfl, hb1⟩
          go_wp2_with fail
          refine (C2.out _).mono ?_
          rintro e w2 ⟨rfl, hb2⟩
          go_wp2_with fail
          refine (awake_any _).mono ?_
          rintro e w3 ⟨rfl, hb3⟩
          go_wp2_with fail
          go_ret
          have s1 := hb1.size
          have s2 := hb2.size
          exact ⟨rfl, hb1.trans ((hb2.mono s1).trans (hb3.mono (by omega)))⟩
        · have x1 : decide ((48 : Int) ≤ (t[0].toNat : Int)) = true := decide_eq_true (by omega)
          have x2 : decide ((t[0].toNat : Int) ≤ (57 : Int)) = false := decide_eq_false (by omega)
          have x46 : ((t[0].toNat : Int) == 46) = false := by simp; omega
          have x101 : ((t[0].toNat : Int) == 101) = true := by simp; omega
          clear h
          go_enter Try.func6, Try.ntmps6
          go_wp2_with fail
          refine (C1.out _).mono ?_
          rintro e w1 ⟨rfl, hb1⟩
          go_wp2_with fail
          refine (C2.out _).mono ?_
          rintro e w2 ⟨rfl, hb2⟩
          go_wp2_with fail
          refine (awake_any _).mono ?_
          rintro e w3 ⟨rfl, hb3⟩
          go_wp2_with fail
          go_ret
          have s1 := hb1.size
          have s2 := hb2.size
          exact ⟨rfl, hb1.trans ((hb2.mono s1).trans (hb3.mono (by omega)))⟩
        · have x1 : decide ((48 : Int) ≤ (t[0].toNat : Int)) = true := decide_eq_true (by omega)
          have x2 : decide ((t[0].toNat : Int) ≤ (57 : Int)) = false := decide_eq_false (by omega)
          have x46 : ((t[0].toNat : Int) == 46) = false := by simp; omega
          have x101 : ((t[0].toNat : Int) == 101) = false := by simp; omega
          have x69 : ((t[0].toNat : Int) == 69) = true := by simp; omega
          clear h
          go_enter Try.func6, Try.ntmps6
          go_wp2_with fail
          refine (C1.out _).mono ?_
          rintro e w1 ⟨rfl, hb1⟩
          go_wp2_with fail
          refine (C2.out _).mono ?_
          rintro e w2 ⟨rfl, hb2⟩
          go_wp2_with fail
          refine (awake_any _).mono ?_
          rintro e w3 ⟨rfl, hb3⟩
          go_wp2_with fail
          go_ret
          have s1 := hb1.size
          have s2 := hb2.size
          exact ⟨rfl, hb1.trans ((hb2.mono s1).trans (hb3.mono (by omega)))⟩
      · have hst' : ¬ ((48 ≤ byt t.data.toList 0 ∧ byt t.data.toList 0 ≤ 57) ∨ byt t.data.toList 0 = 46 ∨ byt t.data.toList 0 = 101 ∨ byt t.data.toList 0 = 69) := hst
        have hr := hrd (isD_no fun h => hst' (.inl h))
        rw [if_pos (by omega)] at hr
        subst hr
        have C3 := Lib.hid c3; clear c3
        rw [g] at hst' g0 g1
        clear hrd g hst hn
        have x46 : ((t[0].toNat : Int) == 46) = false := by simp; omega
        have x101 : ((t[0].toNat : Int) == 101) = false := by simp; omega
        have x69 : ((t[0].toNat : Int) == 69) = false := by simp; omega
        by_cases h48 : (48 : Int) ≤ (t[0].toNat : Int)
        · have x1 : decide ((48 : Int) ≤ (t[0].toNat : Int)) = true := decide_eq_true h48
          have x2 : decide ((t[0].toNat : Int) ≤ (57 : Int)) = false := decide_eq_false (by omega)
          clear hst' h48
          go_enter Try.func6, Try.ntmps6
          go_wp2_with fail
          refine (C1.out _).mono ?_
          rintro e w1 ⟨rfl, hb1⟩
          go_wp2_with fail
          refine (C2.out _).mono ?_
          rintro e w2 ⟨rfl, hb2⟩
          go_wp2_with fail
          refine (awake_any _).mono ?_
          rintro e w3 ⟨rfl, hb3⟩
          go_wp2_with fail
          refine (C3.out _).mono ?_
          rintro e w' ⟨rfl, rfl⟩
          go_wp2_with fail
          go_ret
          have s1 := hb1.size
          have s2 := hb2.size
          exact ⟨rfl, hb1.trans ((hb2.mono s1).trans (hb3.mono (by omega)))⟩
        · have x1 : decide ((48 : Int) ≤ (t[0].toNat : Int)) = false := decide_eq_false h48
          clear hst' h48
          go_enter Try.func6, Try.ntmps6
          go_wp2_with fail
          refine (C1.out _).mono ?_
          rintro e w1 ⟨rfl, hb1⟩
          go_wp2_with fail
          refine (C2.out _).mono ?_
          rintro e w2 ⟨rfl, hb2⟩
          go_wp2_with fail
          refine (awake_any _).mono ?_
          rintro e w3 ⟨rfl, hb3⟩
          go_wp2_with fail
          refine (C3.out _).mono ?_
          rintro e w' ⟨rfl, rfl⟩
          go_wp2_with fail
          go_ret
          have s1 := hb1.size
          have s2 := hb2.size
          exact ⟨rfl, hb1.trans ((hb2.mono s1).trans (hb3.mono (by omega)))⟩
    · have k3 : decide (-9007199254740991 ≤ n) = false := decide_eq_false hlo
      clear k1 k2
      by_cases hst : stopT (byt t.data.toList 0)
      · clear hrd c3
        rw [g] at hst
        rw [g] at g0 g1
        clear g hn
        unfold stopT at hst
        rcases hst with ⟨h1, h2⟩ | h | h | h
        · have x1 : decide ((48 : Int) ≤ (t[0].toNat : Int)) = true := decide_eq_true h1
          have x2 : decide ((t[0].toNat : Int) ≤ (57 : Int)) = true := decide_eq_true h2
          go_enter Try.func6, Try.ntmps6
          go_wp2_with fail
          refine (C1.out _).mono ?_
          rintro e w1 ⟨rfl, hb1⟩
          go_wp2_with fail
          refine (C2.out _).mono ?_
          rintro e w2 ⟨rfl, hb2⟩
          go_wp2_with fail
          refine (awake_any _).mono ?_
          rintro e w3 ⟨rfl, hb3⟩
          go_wp2_with fail
          go_ret
          have s1 := hb1.size
          have s2 := hb2.size
          exact ⟨rfl, hb1.trans ((hb2.mono s1).trans (hb3.mono (by omega)))⟩
        · have x1 : decide ((48 : Int) ≤ (t[0].toNat : Int)) = false := decide_eq_false (by omega)
          have x46 : ((t[0].toNat : Int) == 46) = true := by simp; omega
          clear h
          go_enter Try.func6, Try.ntmps6
          go_wp2_with fail
          refine (C1.out _).mono ?_
          rintro e w1 ⟨rfl, hb1⟩
          go_wp2_with fail
          refine (C2.out _).mono ?_
          rintro e w2 ⟨rfl, hb2⟩
          go_wp2_with fail
          refine (awake_any _).mono ?_
          rintro e w3 ⟨rfl, hb3⟩
          go_wp2_with fail
          go_ret
          have s1 := hb1.size
          have s2 := hb2.size
          exact ⟨rfl, hb1.trans ((hb2.mono s1).trans (hb3.mono (by omega)))⟩
        · have x1 : decide ((48 : Int) ≤ (t[0].toNat : Int)) = true := decide_eq_true (by omega)
          have x2 : decide ((t[0].toNat : Int) ≤ (57 : Int)) = false := decide_eq_false (by omega)
          have x46 : ((t[0].toNat : Int) == 46) = false := by simp; omega
          have x101 : ((t[0].toNat : Int) == 101) = true := by simp; omega
          clear h
          go_enter Try.func6, Try.ntmps6
          go_wp2_with fail
          refine (C1.out _).mono ?_
          rintro e w1 ⟨rfl, hb1⟩
          go_wp2_with fail
          refine (C2.out _).mono ?_
          rintro e w2 ⟨rfl, hb2⟩
          go_wp2_with fail
          refine (awake_any _).mono ?_
          rintro e w3 ⟨rfl, hb3⟩
          go_wp2_with fail
          go_ret
          have s1 := hb1.size
          have s2 := hb2.size
          exact ⟨rfl, hb1.trans ((hb2.mono s1).trans (hb3.mono (by omega)))⟩
        · have x1 : decide ((48 : Int) ≤ (t[0].toNat : Int)) = true := decide_eq_true (by omega)
          have x2 : decide ((t[0].toNat : Int) ≤ (57 : Int)) = false := decide_eq_false (by omega)
          have x46 : ((t[0].toNat : Int) == 46) = false := by simp; omega
          have x101 : ((t[0].toNat : Int) == 101) = false := by simp; omega
          have x69 : ((t[0].toNat : Int) == 69) = true := by simp; omega
          clear h
          go_enter Try.func6, Try.ntmps6
          go_wp2_with fail
          refine (C1.out _).mono ?_
          rintro e w1 ⟨rfl, hb1⟩
          go_wp2_with fail
          refine (C2.out _).mono ?_
          rintro e w2 ⟨rfl, hb2⟩
          go_wp2_with fail
          refine (awake_any _).mono ?_
          rintro e w3 ⟨rfl, hb3⟩
          go_wp2_with fail
          go_ret
          have s1 := hb1.size
          have s2 := hb2.size
          exact ⟨rfl, hb1.trans ((hb2.mono s1).trans (hb3.mono (by omega)))⟩
      · have hst' : ¬ ((48 ≤ byt t.data.toList 0 ∧ byt t.data.toList 0 ≤ 57) ∨ byt t.data.toList 0 = 46 ∨ byt t.data.toList 0 = 101 ∨ byt t.data.toList 0 = 69) := hst
        have hr := hrd (isD_no fun h => hst' (.inl h))
        rw [if_pos (by omega)] at hr
        subst hr
        have C3 := Lib.hid c3; clear c3
        rw [g] at hst' g0 g1
        clear hrd g hst hn
        have x46 : ((t[0].toNat : Int) == 46) = false := by simp; omega
        have x101 : ((t[0].toNat : Int) == 101) = false := by simp; omega
        have x69 : ((t[0].toNat : Int) == 69) = false := by simp; omega
        by_cases h48 : (48 : Int) ≤ (t[0].toNat : Int)
        · have x1 : decide ((48 : Int) ≤ (t[0].toNat : Int)) = true := decide_eq_true h48
          have x2 : decide ((t[0].toNat : Int) ≤ (57 : Int)) = false := decide_eq_false (by omega)
          clear hst' h48
          go_enter Try.func6, Try.ntmps6
          go_wp2_with fail
          refine (C1.out _).mono ?_
          rintro e w1 ⟨rfl, hb1⟩
          go_wp2_with fail
          refine (C2.out _).mono ?_
          rintro e w2 ⟨rfl, hb2⟩
          go_wp2_with fail
          refine (awake_any _).mono ?_
          rintro e w3 ⟨rfl, hb3⟩
          go_wp2_with fail
          refine (C3.out _).mono ?_
          rintro e w' ⟨rfl, rfl⟩
          go_wp2_with fail
          go_ret
          have s1 := hb1.size
          have s2 := hb2.size
          exact ⟨rfl, hb1.trans ((hb2.mono s1).trans (hb3.mono (by omega)))⟩
        · have x1 : decide ((48 : Int) ≤ (t[0].toNat : Int)) = false := decide_eq_false h48
          clear hst' h48
          go_enter Try.func6, Try.ntmps6
          go_wp2_with fail
          refine (C1.out _).mono ?_
          rintro e w1 ⟨rfl, hb1⟩
          go_wp2_with fail
          refine (C2.out _).mono ?_
          rintro e w2 ⟨rfl, hb2⟩
          go_wp2_with fail
          refine (awake_any _).mono ?_
          rintro e w3 ⟨rfl, hb3⟩
          go_wp2_with fail
          refine (C3.out _).mono ?_
          rintro e w' ⟨rfl, rfl⟩
          go_wp2_with fail
          go_ret
          have s1 := hb1.size
          have s2 := hb2.size
          exact ⟨rfl, hb1.trans ((hb2.mono s1).trans (hb3.mono (by omega)))⟩

theorem back_walk (n : Int) (t : ByteArray) (w : World) (hn : (Lit.int .i64 n).wf = true) (ht : t.size ≤ reachBytes) :
    Calls Try.prog 6 #[.int .i64 n, .string t] w fun e w' => e = .returned (.bool true) ∧ Below w.heap.size w w' := by
  have hb := bounds_i64 hn
  have ht' : t.size ≤ 140737488351232 := ht
  by_cases h : maxN < n.natAbs
  · exact back_great n t w hb ht' h
  · exact back_small n t w hb ht' h
end Go.Proofs.Yticjamdifpkhmaa.Nu
