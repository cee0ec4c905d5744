import Derived.Test.YticjamdifpkhmaaNuF
/- The walk of the law NumsGrows. -/
namespace Go.Proofs.Yticjamdifpkhmaa.Nu
open Go.RowKit
open Go.Proofs.Yticjamdifpkhmaa.Utf

theorem data_one (a : ByteArray) (b : UInt8) : (a ++ strOf [b]).data.toList = a.data.toList ++ [b] := by simp [strOf]

/-- what All tells of a number with a digit more -/
theorem all_grow {l : List UInt8} {n : Int} (h : allS l = (n, true)) (d : Nat) (hd : d < 10) :
    allS (l ++ [dg d]) = if n = 0 then (0, false) else if 0 < n then (if 9007199254740991 < n * 10 + d then (0, false) else (n * 10 + d, true)) else (if 9007199254740991 < -(n * 10 - d) then (0, false) else (n * 10 - d, true)) := by
  have hm : maxN = 9007199254740991 := rfl
  have h2 := all_yes (l := l) (by rw [h])
  rw [h] at h2
  obtain ⟨h3, h4⟩ := h2
  simp only at h3 h4
  rw [← h3]
  by_cases h0 : n = 0
  · subst h0
    rw [if_pos rfl]
    exact all_no (grow_0 d hd)
  · rw [if_neg h0]
    by_cases hp : 0 < n
    · rw [if_pos hp, grow_pos n d (by omega) hp hd, all_put _ (by omega)]
      by_cases hc : maxN < (n * 10 + d).natAbs
      · rw [if_pos hc, if_pos (by omega)]
      · rw [if_neg hc, if_neg (by omega)]
    · rw [if_neg hp, grow_neg n d (by omega) (by omega) hd, all_put _ (by omega)]
      by_cases hc : maxN < (n * 10 - d).natAbs
      · rw [if_pos hc, if_pos (by omega)]
      · rw [if_neg hc, if_neg (by omega)]

set_option maxHeartbeats 1000000 in
theorem grows_yes (s : ByteArray) (d n m : Int) (is : Bool) (D : UInt8) (w : World) (hs' : s.size ≤ 140737488351232) (hd2 : 0 ≤ d ∧ d ≤ 255) (hn : n.natAbs ≤ 9007199254740991)
    (C1 : Hid (∀ wx : World, Calls Try.prog 13 #[.string s] wx (GivesIB (n, true) wx)))
    (C2 : Hid (∀ wx : World, Calls Try.prog 13 #[.string (s ++ strOf [D])] wx (GivesIB (m, is) wx)))
    (hc : ∀ wx : World, (convert 35 9 (.slice (some ⟨wx.heap.size, 0, none⟩) 1 1)).run Try.prog (wx.alloc (.cells #[.int .u8 (48 + d % 10)] 5)) = .ok (.string (strOf [D])) (wx.alloc (.cells #[.int .u8 (48 + d % 10)] 5)))
    (hg : (m, is) = if n = 0 then (0, false) else if 0 < n then (if 9007199254740991 < n * 10 + d % 10 then (0, false) else (n * 10 + d % 10, true)) else (if 9007199254740991 < -(n * 10 - d % 10) then (0, false) else (n * 10 - d % 10, true))) :
    Calls Try.prog 7 #[.string s, .int .u8 d] w fun e w' => e = .returned (.bool true) ∧ Below w.heap.size w w' := by
  have e0 : 0 ≤ d % 10 ∧ d % 10 ≤ 9 := by omega
  have e1 : (48 + d % 10) % 256 = 48 + d % 10 := by omega
  have hss : (strOf [D]).size = 1 := rfl
  have hsum : ¬ 9223372036854775807 < s.size + 1 := by omega
  by_cases h0 : n = 0
  · rw [if_pos h0] at hg
    obtain ⟨rfl, rfl⟩ := Prod.mk.inj hg
    subst h0
    clear hg hn
    go_enter Try.func7, Try.ntmps7
    go_wp2_with fail
    refine (C1.out _).mono ?_
    rintro e w1 ⟨rfl, hb1⟩
    go_wp2_with fail
    refine (awake_any _).mono ?_
    rintro e w2 ⟨rfl, hb2⟩
    go_wp2_with fail
    refine (C2.out _).mono ?_
    rintro e w3 ⟨rfl, hb3⟩
    go_wp2_with fail
    go_ret
    have s1 := hb1.size
    have s2 := hb2.size
    exact ⟨rfl, hb1.trans ((hb2.mono s1).trans (((Below.refl _ w2).alloc (by omega) _).trans (hb3.mono (by simp; omega))))⟩
  · have hn0 : (n == 0) = false := by simpa using h0
    rw [if_neg h0] at hg
    by_cases hp : 0 < n
    · have hq : 0 < n := hp
      rw [if_pos hp] at hg
      have hsg : decide (n < 0) = false := decide_eq_false (by omega)
      by_cases ha : 900719925474099 < n
      · have y1 : decide (900719925474099 < n) = true := decide_eq_true (by omega)
        have y2 : decide (n < -900719925474099) = false := decide_eq_false (by omega)
        rw [if_pos (by omega)] at hg
        obtain ⟨rfl, rfl⟩ := Prod.mk.inj hg
        clear hg ha
        go_enter Try.func7, Try.ntmps7
        go_wp2_with fail
        refine (C1.out _).mono ?_
        rintro e w1 ⟨rfl, hb1⟩
        go_wp2_with fail
        refine (awake_any _).mono ?_
        rintro e w2 ⟨rfl, hb2⟩
        go_wp2_with fail
        refine (C2.out _).mono ?_
        rintro e w3 ⟨rfl, hb3⟩
        go_wp2_with fail
        go_ret
        have s1 := hb1.size
        have s2 := hb2.size
        exact ⟨rfl, hb1.trans ((hb2.mono s1).trans (((Below.refl _ w2).alloc (by omega) _).trans (hb3.mono (by simp; omega))))⟩
      · by_cases he : n = 900719925474099
        · by_cases h1 : 1 < d % 10
          · have y1 : decide (900719925474099 < n) = false := decide_eq_false (by omega)
            have y2 : decide (n < -900719925474099) = false := decide_eq_false (by omega)
            have y3 : (n == 900719925474099) = true := by simp; omega
            have y4 : (n == -900719925474099) = false := by simp; omega
            have y5 : decide (1 < d % 10) = true := decide_eq_true (by omega)
            rw [if_pos (by omega)] at hg
            obtain ⟨rfl, rfl⟩ := Prod.mk.inj hg
            clear hg h1
            go_enter Try.func7, Try.ntmps7
            go_wp2_with fail
            refine (C1.out _).mono ?_
            rintro e w1 ⟨rfl, hb1⟩
            go_wp2_with fail
            refine (awake_any _).mono ?_
            rintro e w2 ⟨rfl, hb2⟩
            go_wp2_with fail
            refine (C2.out _).mono ?_
            rintro e w3 ⟨rfl, hb3⟩
            go_wp2_with fail
            go_ret
            have s1 := hb1.size
            have s2 := hb2.size
            exact ⟨rfl, hb1.trans ((hb2.mono s1).trans (((Below.refl _ w2).alloc (by omega) _).trans (hb3.mono (by simp; omega))))⟩
          · have y1 : decide (900719925474099 < n) = false := decide_eq_false (by omega)
            have y2 : decide (n < -900719925474099) = false := decide_eq_false (by omega)
            have y3 : (n == 900719925474099) = true := by simp; omega
            have y4 : (n == -900719925474099) = false := by simp; omega
            have y5 : decide (1 < d % 10) = false := decide_eq_false (by omega)
            rw [if_neg (by omega)] at hg
            obtain ⟨rfl, rfl⟩ := Prod.mk.inj hg
            have z1 : -9223372036854775808 ≤ n * 10 + d % 10 ∧ n * 10 + d % 10 ≤ 9223372036854775807 := by omega
            clear hg h1
            go_enter Try.func7, Try.ntmps7
            go_wp2_with fail
            refine (C1.out _).mono ?_
            rintro e w1 ⟨rfl, hb1⟩
            go_wp2_with fail
            refine (awake_any _).mono ?_
            rintro e w2 ⟨rfl, hb2⟩
            go_wp2_with fail
            refine (C2.out _).mono ?_
            rintro e w3 ⟨rfl, hb3⟩
            go_wp2_with fail
            go_ret
            have s1 := hb1.size
            have s2 := hb2.size
            exact ⟨rfl, hb1.trans ((hb2.mono s1).trans (((Below.refl _ w2).alloc (by omega) _).trans (hb3.mono (by simp; omega))))⟩
        · have y1 : decide (900719925474099 < n) = false := decide_eq_false (by omega)
          have y2 : decide (n < -900719925474099) = false := decide_eq_false (by omega)
          have y3 : (n == 900719925474099) = false := by simp; omega
          have y4 : (n == -900719925474099) = false := by simp; omega
          rw [if_neg (by omega)] at hg
          obtain ⟨rfl, rfl⟩ := Prod.mk.inj hg
          have z1 : -9223372036854775808 ≤ n * 10 + d % 10 ∧ n * 10 + d % 10 ≤ 9223372036854775807 := by omega
          clear hg he
          go_enter Try.func7, Try.ntmps7
          go_wp2_with fail
          refine (C1.out _).mono ?_
          rintro e w1 ⟨rfl, hb1⟩
          go_wp2_with fail
          refine (awake_any _).mono ?_
          rintro e w2 ⟨rfl, hb2⟩
          go_wp2_with fail
          refine (C2.out _).mono ?_
          rintro e w3 ⟨rfl, hb3⟩
          go_wp2_with fail
          go_ret
          have s1 := hb1.size
          have s2 := hb2.size
          exact ⟨rfl, hb1.trans ((hb2.mono s1).trans (((Below.refl _ w2).alloc (by omega) _).trans (hb3.mono (by simp; omega))))⟩
    · have hq : n < 0 := by omega
      rw [if_neg hp] at hg
      have hsg : decide (n < 0) = true := decide_eq_true (by omega)
      by_cases ha : n < -900719925474099
      · have y1 : decide (n < -900719925474099) = true := decide_eq_true (by omega)
        have y2 : decide (900719925474099 < n) = false := decide_eq_false (by omega)
        rw [if_pos (by omega)] at hg
        obtain ⟨rfl, rfl⟩ := Prod.mk.inj hg
        clear hg ha
        go_enter Try.func7, Try.ntmps7
        go_wp2_with fail
        refine (C1.out _).mono ?_
        rintro e w1 ⟨rfl, hb1⟩
        go_wp2_with fail
        refine (awake_any _).mono ?_
        rintro e w2 ⟨rfl, hb2⟩
        go_wp2_with fail
        refine (C2.out _).mono ?_
        rintro e w3 ⟨rfl, hb3⟩
        go_wp2_with fail
        go_ret
        have s1 := hb1.size
        have s2 := hb2.size
        exact ⟨rfl, hb1.trans ((hb2.mono s1).trans (((Below.refl _ w2).alloc (by omega) _).trans (hb3.mono (by simp; omega))))⟩
      · by_cases he : n = -900719925474099
        · by_cases h1 : 1 < d % 10
          · have y1 : decide (n < -900719925474099) = false := decide_eq_false (by omega)
            have y2 : decide (900719925474099 < n) = false := decide_eq_false (by omega)
            have y3 : (n == -900719925474099) = true := by simp; omega
            have y4 : (n == 900719925474099) = false := by simp; omega
            have y5 : decide (1 < d % 10) = true := decide_eq_true (by omega)
            rw [if_pos (by omega)] at hg
            obtain ⟨rfl, rfl⟩ := Prod.mk.inj hg
            clear hg h1
            go_enter Try.func7, Try.ntmps7
            go_wp2_with fail
            refine (C1.out _).mono ?_
            rintro e w1 ⟨rfl, hb1⟩
            go_wp2_with fail
            refine (awake_any _).mono ?_
            rintro e w2 ⟨rfl, hb2⟩
            go_wp2_with fail
            refine (C2.out _).mono ?_
            rintro e w3 ⟨rfl, hb3⟩
            go_wp2_with fail
            go_ret
            have s1 := hb1.size
            have s2 := hb2.size
            exact ⟨rfl, hb1.trans ((hb2.mono s1).trans (((Below.refl _ w2).alloc (by omega) _).trans (hb3.mono (by simp; omega))))⟩
          · have y1 : decide (n < -900719925474099) = false := decide_eq_false (by omega)
            have y2 : decide (900719925474099 < n) = false := decide_eq_false (by omega)
            have y3 : (n == -900719925474099) = true := by simp; omega
            have y4 : (n == 900719925474099) = false := by simp; omega
            have y5 : decide (1 < d % 10) = false := decide_eq_false (by omega)
            rw [if_neg (by omega)] at hg
            obtain ⟨rfl, rfl⟩ := Prod.mk.inj hg
            have z1 : -9223372036854775808 ≤ n * 10 - d % 10 ∧ n * 10 - d % 10 ≤ 9223372036854775807 := by omega
            clear hg h1
            go_enter Try.func7, Try.ntmps7
            go_wp2_with fail
            refine (C1.out _).mono ?_
            rintro e w1 ⟨rfl, hb1⟩
            go_wp2_with fail
            refine (awake_any _).mono ?_
            rintro e w2 ⟨rfl, hb2⟩
            go_wp2_with fail
            refine (C2.out _).mono ?_
            rintro e w3 ⟨rfl, hb3⟩
            go_wp2_with fail
            go_ret
            have s1 := hb1.size
            have s2 := hb2.size
            exact ⟨rfl, hb1.trans ((hb2.mono s1).trans (((Below.refl _ w2).alloc (by omega) _).trans (hb3.mono (by simp; omega))))⟩
        · have y1 : decide (n < -900719925474099) = false := decide_eq_false (by omega)
          have y2 : decide (900719925474099 < n) = false := decide_eq_false (by omega)
          have y3 : (n == -900719925474099) = false := by simp; omega
          have y4 : (n == 900719925474099) = false := by simp; omega
          rw [if_neg (by omega)] at hg
          obtain ⟨rfl, rfl⟩ := Prod.mk.inj hg
          have z1 : -9223372036854775808 ≤ n * 10 - d % 10 ∧ n * 10 - d % 10 ≤ 9223372036854775807 := by omega
          clear hg he
          go_enter Try.func7, Try.ntmps7
          go_wp2_with fail
          refine (C1.out _).mono ?_
          rintro e w1 ⟨rfl, hb1⟩
          go_wp2_with fail
          refine (awake_any _).mono ?_
          rintro e w2 ⟨rfl, hb2⟩
          go_wp2_with fail
          refine (C2.out _).mono ?_
          rintro e w3 ⟨rfl, hb3⟩
          go_wp2_with fail
          go_ret
          have s1 := hb1.size
          have s2 := hb2.size
          exact ⟨rfl, hb1.trans ((hb2.mono s1).trans (((Below.refl _ w2).alloc (by omega) _).trans (hb3.mono (by simp; omega))))⟩

set_option maxHeartbeats 1000000 in
theorem grows_walk (s : ByteArray) (d : Int) (w : World) (hs : s.size ≤ reachBytes) (hd : (Lit.int .u8 d).wf = true) :
    Calls Try.prog 7 #[.string s, .int .u8 d] w fun e w' => e = .returned (.bool true) ∧ Below w.heap.size w w' := by
  have hd2 := bounds_u8 hd
  have hs' : s.size ≤ 140737488351232 := hs
  have c1 := fun wx => All_any s wx (by omega)
  rcases hO : allS s.data.toList with ⟨n, b⟩
  rw [hO] at c1
  have C1 := Lib.hid c1; clear c1
  cases b
  · clear hO
    go_enter Try.func7, Try.ntmps7
    go_wp2_with fail
    refine (C1.out _).mono ?_
    rintro e w1 ⟨rfl, hb1⟩
    go_wp2_with fail
    refine (awake_any _).mono ?_
    rintro e w2 ⟨rfl, hb2⟩
    go_wp2_with fail
    refine (awake_any _).mono ?_
    rintro e w3 ⟨rfl, hb3⟩
    go_wp2_with fail
    go_ret
    have s1 := hb1.size
    have s2 := hb2.size
    exact ⟨rfl, hb1.trans ((hb2.mono s1).trans (hb3.mono (by omega)))⟩
  · have hg := all_grow hO (d % 10).toNat (by omega)
    have h4 := (all_yes (l := s.data.toList) (by rw [hO])).2
    rw [hO] at h4
    have hn : n.natAbs ≤ 9007199254740991 := h4
    clear hO h4
    have c2 := fun wx => All_any (s ++ strOf [dg (d % 10).toNat]) wx (by rw [ByteArray.size_append, strOf_size]; simp; omega)
    rw [data_one] at c2
    have hc := fun wx => conv_1 wx (dg (d % 10).toNat) (48 + d % 10) (by rw [dg_nat]; omega)
    generalize allS (s.data.toList ++ [dg (d % 10).toNat]) = R at *
    rw [show (((d % 10).toNat : Nat) : Int) = d % 10 by omega] at hg
    exact grows_yes s d n R.1 R.2 _ w hs' hd2 hn C1 c2 hc hg
end Go.Proofs.Yticjamdifpkhmaa.Nu
