import Derived.Test.YtflnooigjaffdaaChW2
import Derived.Deep.RegionWith
import Derived.Deep.DeepCutAuto
/- The walk of the law CharsPairs. -/
namespace Go.Proofs.Ytflnooigjaffdaa.Ch
open Go.RowKit
open Go.Proofs.Ytflnooigjaffdaa.Utf

theorem unitB_len (n : Int) (k : Nat) (hk : k ≤ 4) : (toB (unitB n k)).length = 2 + k := by
  rw [toB_len, unitB, List.length_append, List.length_take]
  simp [hexDs]
  omega
theorem unitL_unitB (n : Int) (h0 : 0 ≤ n) (h1 : n ≤ 65535) (r : List UInt8) : unitL (toB (unitB n 4) ++ r) = n := by
  have a := hexU_bd (d := n / 4096 % 16) (by omega) (by omega)
  have b := hexU_bd (d := n / 256 % 16) (by omega) (by omega)
  have c := hexU_bd (d := n / 16 % 16) (by omega) (by omega)
  have d := hexU_bd (d := n % 16) (by omega) (by omega)
  have := unitL_toB (hexU (n / 4096 % 16)) (hexU (n / 256 % 16)) (hexU (n / 16 % 16)) (hexU (n % 16)) (n / 4096 % 16) (n / 256 % 16) (n / 16 % 16) (n % 16) r
    (digV_hexU (by omega) (by omega)) (digV_hexU (by omega) (by omega)) (digV_hexU (by omega) (by omega)) (digV_hexU (by omega) (by omega)) (by omega) (by omega) (by omega) (by omega) (by omega)
  show unitL (toB [92, 117, hexU (n / 4096 % 16), hexU (n / 256 % 16), hexU (n / 16 % 16), hexU (n % 16)] ++ r) = n
  rw [this]
  omega
theorem drop_unitB (n : Int) (r : List UInt8) : (toB (unitB n 4) ++ r).drop 6 = r := List.drop_left' (unitB_len n 4 (by omega))
theorem esc_unitB (n : Int) (h0 : 0 ≤ n) (h1 : n ≤ 65535) (r : List UInt8) (hp : isPt n = false) (hn : isUp n = false ∨ isLo (unitL r) = false) : stepL (toB (unitB n 4) ++ r) = (0, 0, 20) := by
  have hu := unitL_unitB n h0 h1 r
  obtain ⟨g1, g2, _⟩ := unitL_yes (l := toB (unitB n 4) ++ r) (by omega)
  have e : escL (toB (unitB n 4) ++ r) = (0, 0) := by
    rw [escL_unit (by omega), hu, if_neg (by rw [hp]; simp), drop_unitB, if_neg]
    intro x
    rcases hn with hn | hn
    · rw [x.1] at hn; simp at hn
    · rw [x.2] at hn; simp at hn
  rw [stepL_esc (by omega) g2, e]
  rfl
theorem esc_unitB2 (n : Int) (h0 : 0 ≤ n) (h1 : n ≤ 65535) (r : List UInt8) (hu' : isUp n = true) (hl : isLo (unitL r) = true) : stepL (toB (unitB n 4) ++ r) = (bothV n (unitL r), 12, 0) := by
  have hu := unitL_unitB n h0 h1 r
  obtain ⟨g1, g2, _⟩ := unitL_yes (l := toB (unitB n 4) ++ r) (by omega)
  have e : escL (toB (unitB n 4) ++ r) = (bothV n (unitL r), 12) := by
    rw [escL_unit (by omega), hu, if_neg (by rw [isPt_up hu']; simp), drop_unitB, if_pos ⟨hu', hl⟩]
  rw [stepL_esc (by omega) g2, e]
  rfl

/-- the text of two numbers, escaped -/
def pairB (a b : Int) : List UInt8 := toB (unitB a 4) ++ (toB (unitB b 4) ++ [34])
theorem pair_in (a b : Int) : readS (34 :: pairB a b) 0 = if (readL (pairB a b)).2.2 = 0 then (encL (readL (pairB a b)).1, (0 : Int) + 1 + (readL (pairB a b)).2.1 + 1, 0) else ([], (0 : Int) + 1 + (readL (pairB a b)).2.1, (readL (pairB a b)).2.2) :=
  readS_in (l := 34 :: pairB a b) (q := 0) (by simp) rfl
theorem pair_both (a b : Int) (a0 : 0 ≤ a) (a1 : a ≤ 65535) (b0 : 0 ≤ b) (b1 : b ≤ 65535) (hu : isUp a = true) (hl : isLo b = true) : readS (34 :: pairB a b) 0 = (enc (bothV a b), 14, 0) := by
  have e : readL (pairB a b) = ([bothV a b], 12, 0) := by
    have h2 := unitL_unitB b b0 b1 [34]
    have hs := esc_unitB2 a a0 a1 (toB (unitB b 4) ++ [34]) hu (by rw [h2]; exact hl)
    rw [h2] at hs
    have hd : (pairB a b).drop 12 = [34] := by
      have : (12 : Nat) = 6 + 6 := rfl
      rw [this, ← List.drop_drop, pairB, drop_unitB, drop_unitB]
    unfold pairB at hd ⊢
    rw [readL_go (by rw [hs]; simp), hs]
    simp only [show ((12 : Int)).toNat = 12 from rfl]
    rw [hd, readL_close]
    rfl
  rw [pair_in, e]
  simp [encL]
theorem pair_first (a b : Int) (a0 : 0 ≤ a) (a1 : a ≤ 65535) (b0 : 0 ≤ b) (b1 : b ≤ 65535) (hp : isPt a = false) (hn : isUp a = false ∨ isLo b = false) : readS (34 :: pairB a b) 0 = ([], 1, 20) := by
  have e : readL (pairB a b) = ([], 0, 20) := by
    have h2 := unitL_unitB b b0 b1 [34]
    have hs := esc_unitB a a0 a1 (toB (unitB b 4) ++ [34]) hp (by rw [h2]; exact hn)
    unfold pairB
    rw [readL_stop (by rw [hs]), hs]
  rw [pair_in, e]
  simp
theorem pair_second (a b : Int) (a0 : 0 ≤ a) (a1 : a ≤ 65535) (b0 : 0 ≤ b) (b1 : b ≤ 65535) (hp : isPt a = true) (hn : isPt b = false) : readS (34 :: pairB a b) 0 = ([], 7, 20) := by
  have e : readL (pairB a b) = ([a], 6, 20) := by
    have hs := stepL_unit (unitL_unitB a a0 a1 (toB (unitB b 4) ++ [34])) hp
    have h34 : unitL [34] = -1 := unitL_low (by decide)
    have hs2 := esc_unitB b b0 b1 [34] hn (.inr (by rw [h34]; rfl))
    unfold pairB
    rw [readL_go (by rw [hs]; simp), hs]
    simp only [show ((6 : Int)).toNat = 6 from rfl]
    rw [drop_unitB, readL_stop (by rw [hs2]), hs2]
    rfl
  rw [pair_in, e]
  simp
theorem pair_two (a b : Int) (a0 : 0 ≤ a) (a1 : a ≤ 65535) (b0 : 0 ≤ b) (b1 : b ≤ 65535) (hp : isPt a = true) (hn : isPt b = true) : readS (34 :: pairB a b) 0 = (enc a ++ enc b, 14, 0) := by
  have e : readL (pairB a b) = ([a, b], 12, 0) := by
    have hs := stepL_unit (unitL_unitB a a0 a1 (toB (unitB b 4) ++ [34])) hp
    have hs2 := stepL_unit (unitL_unitB b b0 b1 [34]) hn
    unfold pairB
    rw [readL_go (by rw [hs]; simp), hs]
    simp only [show ((6 : Int)).toNat = 6 from rfl]
    rw [drop_unitB, readL_go (by rw [hs2]; simp), hs2]
    simp only [show ((6 : Int)).toNat = 6 from rfl]
    rw [drop_unitB, readL_close]
    rfl
  rw [pair_in, e]
  simp [encL]

theorem pair_read (a b : Int) (r : List UInt8 × Int × Int) (w : World) (h : readS (34 :: pairB a b) 0 = r) :
    Calls Try.prog 10 #[.string (⟨#[34]⟩ ++ strOf (toB (unitB a 4)) ++ strOf (toB (unitB b 4)) ++ ⟨#[34]⟩), .int .i64 0] w (GivesRead r w) := by
  have ha := unitB_len a 4 (by omega)
  have hb := unitB_len b 4 (by omega)
  have e : (⟨#[34]⟩ ++ strOf (toB (unitB a 4)) ++ strOf (toB (unitB b 4)) ++ ⟨#[34]⟩ : ByteArray).data.toList = 34 :: pairB a b := by simp [strOf, pairB]
  have c := Read_fit (⟨#[34]⟩ ++ strOf (toB (unitB a 4)) ++ strOf (toB (unitB b 4)) ++ ⟨#[34]⟩) 0 w (by
    rw [← len_data, e, List.length_cons, pairB, List.length_append, List.length_append, ha, hb]; decide)
  rw [e, h] at c
  exact c

set_option maxRecDepth 100000 in
set_option maxHeartbeats 4000000 in
theorem pairs_first (a b : Int) (w : World) (a0 : 0 ≤ a) (a1 : a ≤ 65535) (b0 : 0 ≤ b) (b1 : b ≤ 65535) (x0 : 55296 ≤ a) (x1 : a ≤ 57343) (hn : isUp a = false ∨ isLo b = false) :
    Calls Try.prog 5 #[.int .u16 a, .int .u16 b] w fun e w' => e = .returned (.bool true) ∧ Below w.heap.size w w' := by
  have c1 := fun w => pair_read a b _ w (pair_first a b a0 a1 b0 b1 (by simp [isPt]; omega) hn)
  have hn' : ¬ (a ≤ 56319 ∧ 56320 ≤ b ∧ b ≤ 57343) := by
    intro x
    simp [isUp, isLo] at hn
    omega
  have HN := Lib.hid hn'; clear hn hn'
  have C1 := Lib.hid c1; clear c1
  have C2 := Lib.hid (fun w => unit_any a w a0 a1)
  have C3 := Lib.hid (fun w => unit_any b w b0 b1)
  go_enter Try.func5, Try.ntmps5
  go_wp2_with fail
  refine (C2.out w).mono ?_
  rintro e w1 ⟨rfl, hb1⟩
  go_wp2_with fail
  refine (C3.out w1).mono ?_
  rintro e w2 ⟨rfl, hb2⟩
  go_wp2_with fail
  refine (C1.out w2).mono ?_
  rintro e w3 ⟨rfl, hb3⟩
  go_wp2_with fail
  refine (awake_any w3).mono ?_
  rintro e w4 ⟨rfl, hb4⟩
  have s1 := hb1.size
  have s2 := hb2.size
  have s3 := hb3.size
  have B4 : Below w.heap.size w w4 := hb1.trans ((hb2.mono s1).trans ((hb3.mono (by omega)).trans (hb4.mono (by omega))))
  clear hb1 hb2 hb3 hb4 s1 s2 s3
  go_wp2_with fail
  all_goals first | (exfalso; have := HN.out; omega) | (go_ret; exact ⟨rfl, B4⟩)


set_option maxRecDepth 100000 in
set_option maxHeartbeats 4000000 in
theorem pairs_second (a b : Int) (w : World) (a0 : 0 ≤ a) (a1 : a ≤ 65535) (b0 : 0 ≤ b) (b1 : b ≤ 65535) (x : a < 55296 ∨ 57343 < a) (y0 : 55296 ≤ b) (y1 : b ≤ 57343) :
    Calls Try.prog 5 #[.int .u16 a, .int .u16 b] w fun e w' => e = .returned (.bool true) ∧ Below w.heap.size w w' := by
  have c1 := fun w => pair_read a b _ w (pair_second a b a0 a1 b0 b1 (by simp [isPt]; omega) (by simp [isPt]; omega))
  have HX := Lib.hid x; clear x
  have C1 := Lib.hid c1; clear c1
  have C2 := Lib.hid (fun w => unit_any a w a0 a1)
  have C3 := Lib.hid (fun w => unit_any b w b0 b1)
  go_enter Try.func5, Try.ntmps5
  go_wp2_with fail
  refine (C2.out w).mono ?_
  rintro e w1 ⟨rfl, hb1⟩
  go_wp2_with fail
  refine (C3.out w1).mono ?_
  rintro e w2 ⟨rfl, hb2⟩
  go_wp2_with fail
  refine (C1.out w2).mono ?_
  rintro e w3 ⟨rfl, hb3⟩
  go_wp2_with fail
  refine (awake_any w3).mono ?_
  rintro e w4 ⟨rfl, hb4⟩
  have s1 := hb1.size
  have s2 := hb2.size
  have s3 := hb3.size
  have B4 : Below w.heap.size w w4 := hb1.trans ((hb2.mono s1).trans ((hb3.mono (by omega)).trans (hb4.mono (by omega))))
  clear hb1 hb2 hb3 hb4 s1 s2 s3
  go_wp2_with fail
  all_goals first | (exfalso; have := HX.out; omega) | (go_ret; exact ⟨rfl, B4⟩)


set_option maxRecDepth 100000 in
set_option maxHeartbeats 4000000 in
theorem pairs_both (a b : Int) (w : World) (a0 : 0 ≤ a) (a1 : a ≤ 65535) (b0 : 0 ≤ b) (b1 : b ≤ 65535) (x0 : 55296 ≤ a) (x1 : a ≤ 56319) (y0 : 56320 ≤ b) (y1 : b ≤ 57343) :
    Calls Try.prog 5 #[.int .u16 a, .int .u16 b] w fun e w' => e = .returned (.bool true) ∧ Below w.heap.size w w' := by
  have hv : bothV a b = 65536 + (a - 55296) * 1024 + b - 56320 := by unfold bothV; omega
  have c1 := fun w => pair_read a b _ w (pair_both a b a0 a1 b0 b1 (by simp [isUp]; omega) (by simp [isLo]; omega))
  rw [hv] at c1
  clear hv
  have C1 := Lib.hid c1; clear c1
  have C2 := Lib.hid (fun w => unit_any a w a0 a1)
  have C3 := Lib.hid (fun w => unit_any b w b0 b1)
  go_enter Try.func5, Try.ntmps5
  go_wp2_with fail
  refine (C2.out w).mono ?_
  rintro e w1 ⟨rfl, hb1⟩
  go_wp2_with fail
  refine (C3.out w1).mono ?_
  rintro e w2 ⟨rfl, hb2⟩
  go_wp2_with fail
  refine (C1.out w2).mono ?_
  rintro e w3 ⟨rfl, hb3⟩
  go_wp2_with fail
  refine (awake_any w3).mono ?_
  rintro e w4 ⟨rfl, hb4⟩
  have s1 := hb1.size
  have s2 := hb2.size
  have s3 := hb3.size
  have B4 : Below w.heap.size w w4 := hb1.trans ((hb2.mono s1).trans ((hb3.mono (by omega)).trans (hb4.mono (by omega))))
  clear hb1 hb2 hb3 hb4 s1 s2 s3
  go_wp2_with fail
  refine (Bytes_any _ _).mono ?_
  rintro e w5 ⟨v5, rfl, hown5, hb5⟩
  have hc := (Rd.of_own hown5).conv (P := Try.prog) Try.underlying33 Try.underlying5 Try.underlying9
  have hs2 : strOf (enc (65536 + (a - 55296) * 1024 + b - 56320)) = ⟨(enc (65536 + (a - 55296) * 1024 + b - 56320)).toArray⟩ := rfl
  rw [← hs2] at hc
  clear hs2
  go_wp2_with fail
  go_ret
  exact ⟨rfl, B4.trans (hb5.mono B4.size)⟩


end Go.Proofs.Ytflnooigjaffdaa.Ch
