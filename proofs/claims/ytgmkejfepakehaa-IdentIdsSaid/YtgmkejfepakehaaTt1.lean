/- Merged: NuA NuD. -/
import Derived.Test.YtgmkejfepakehaaTt0
import Derived.Deep.QuietTactic
import Derived.BigQuiet
import Derived.WalkLawsBesides
import Derived.WalkSpells
import Derived.IntWalk
namespace Go.Proofs.Ytgmkejfepakehaa.Nu
open Go.RowKit
open Go.Proofs.Ytgmkejfepakehaa.Utf

set_option maxRecDepth 100000 in
set_option maxHeartbeats 1000000 in
theorem isDigit_any (b : Int) (w : World) : Calls Try.prog 36 #[.int .u8 b] w fun e w' => e = .returned (.bool (isD b)) ∧ w = w' := by
  go_enter Try.func36, Try.ntmps36
  go_wp2
  all_goals
    go_ret
    exact ⟨ret_bool (by rw [Bool.eq_iff_iff]; simp [isD]; omega), rfl⟩
set_option maxRecDepth 100000 in
set_option maxHeartbeats 1000000 in
theorem digit_any (r : Int) (w : World) (h0 : -9 ≤ r) (h1 : r ≤ 9) : Calls Try.prog 30 #[.int .i64 r] w fun e w' => e = .returned (.int .u8 (48 + r.natAbs : Nat)) ∧ w = w' := by
  by_cases hr : r < 0
  · have hd : decide (r < 0) = true := decide_eq_true hr
    go_enter Try.func30, Try.ntmps30
    go_wp2
    go_ret
    exact ⟨ret_int (by omega), rfl⟩
  · have hd : decide (r < 0) = false := decide_eq_false hr
    go_enter Try.func30, Try.ntmps30
    go_wp2
    go_ret
    exact ⟨ret_int (by omega), rfl⟩

def wholeL (l : List UInt8) (f e : Nat) : Bool := !decide (f = e ∨ (1 < e - f ∧ byt l f = 48) ∨ (byt l e = 46 ∨ byt l e = 101 ∨ byt l e = 69))
theorem wholeL_no {l : List UInt8} {f e : Nat} (h : f = e ∨ (1 < e - f ∧ byt l f = 48) ∨ (byt l e = 46 ∨ byt l e = 101 ∨ byt l e = 69)) : wholeL l f e = false := by rw [wholeL, decide_eq_true h]; rfl
theorem wholeL_yes {l : List UInt8} {f e : Nat} (h : ¬ (f = e ∨ (1 < e - f ∧ byt l f = 48) ∨ (byt l e = 46 ∨ byt l e = 101 ∨ byt l e = 69))) : wholeL l f e = true := by rw [wholeL, decide_eq_false h]; rfl

set_option maxRecDepth 100000 in
set_option maxHeartbeats 1000000 in
theorem areWhole_any (s : ByteArray) (f e : Nat) (w : World) (hs : s.size ≤ 9223372036854775807) (hfe : f ≤ e) (he : e ≤ s.size) :
    Calls Try.prog 34 #[.string s, .int .i64 f, .int .i64 e] w fun r w' => r = .returned (.bool (wholeL s.data.toList f e)) ∧ w = w' := by
  by_cases h0 : f = e
  · rw [wholeL_no (.inl h0)]
    subst h0
    go_enter Try.func34, Try.ntmps34
    go_wp2
    go_ret
    exact ⟨rfl, rfl⟩
  · have hf : f < s.size := by omega
    have h0b : decide ((f : Int) = (e : Int)) = false := decide_eq_false (by omega)
    have h0c : decide (f = e) = false := decide_eq_false (by omega)
    have g := byt_get s f hf
    have hx : IntKind.i64.wrap ((e : Int) - (f : Int)) = (e : Int) - (f : Int) := IntWalk.i64_in _ (by omega)
    by_cases hA : byt s.data.toList f = 48
    · have hAb : decide ((s[f].toNat : Int) = 48) = true := decide_eq_true (by omega)
      have hAc : (s[f].toNat : Int) = 48 := by omega
      by_cases hB : 1 < e - f
      · rw [wholeL_no (.inr (.inl ⟨hB, hA⟩))]
        have hBb : decide (1 < (e : Int) - (f : Int)) = true := decide_eq_true (by omega)
        clear g hA
        go_enter Try.func34, Try.ntmps34
        go_wp2
        go_ret
        exact ⟨rfl, rfl⟩
      · have hBb : decide (1 < (e : Int) - (f : Int)) = false := decide_eq_false (by omega)
        by_cases h1 : e = s.size
        · rw [wholeL_yes (by rw [byt_out (k := e) (by rw [len_data]; omega)]; omega)]
          have h1b : decide ((e : Int) = (s.size : Int)) = true := decide_eq_true (by omega)
          have h1c : decide (e = s.size) = true := decide_eq_true (by omega)
          clear g hA
          subst h1
          go_enter Try.func34, Try.ntmps34
          go_wp2
          go_ret
          exact ⟨rfl, rfl⟩
        · have h1b : decide ((e : Int) = (s.size : Int)) = false := decide_eq_false (by omega)
          have h1c : decide (e = s.size) = false := decide_eq_false (by omega)
          have g2 := byt_get s e (by omega)
          unfold wholeL
          rw [g2]
          clear g hA
          go_enter Try.func34, Try.ntmps34
          go_wp2
          all_goals
            go_ret
            exact ⟨ret_bool (by simp only [beq_iff_eq, beq_eq_false_iff_ne, ne_eq] at *; simp; omega), rfl⟩
    · have hAb : decide ((s[f].toNat : Int) = 48) = false := decide_eq_false (by omega)
      have hAc : ¬ (s[f].toNat : Int) = 48 := by omega
      by_cases h1 : e = s.size
      · rw [wholeL_yes (by rw [byt_out (k := e) (by rw [len_data]; omega)]; omega)]
        have h1b : decide ((e : Int) = (s.size : Int)) = true := decide_eq_true (by omega)
        have h1c : decide (e = s.size) = true := decide_eq_true (by omega)
        clear g hA
        subst h1
        go_enter Try.func34, Try.ntmps34
        go_wp2
        go_ret
        exact ⟨rfl, rfl⟩
      · have h1b : decide ((e : Int) = (s.size : Int)) = false := decide_eq_false (by omega)
        have h1c : decide (e = s.size) = false := decide_eq_false (by omega)
        have g2 := byt_get s e (by omega)
        unfold wholeL
        rw [g2, g]
        clear g hA
        go_enter Try.func34, Try.ntmps34
        go_wp2
        all_goals
          go_ret
          exact ⟨ret_bool (by simp only [beq_iff_eq, beq_eq_false_iff_ne, ne_eq] at *; simp; omega), rfl⟩
end Go.Proofs.Ytgmkejfepakehaa.Nu
namespace Go.Proofs.Ytgmkejfepakehaa.Nu
open Go.RowKit
open Go.Proofs.Ytgmkejfepakehaa.Utf

def satN (m : Nat) : Nat := if m ≤ 9007199254740992 then m else 9007199254740992
theorem satN_le (m : Nat) : satN m ≤ 9007199254740992 := by unfold satN; split <;> omega
theorem satN_step (m d : Nat) : satN (m * 10 + d) = if satN m * 10 + d ≤ 9007199254740992 then satN m * 10 + d else 9007199254740992 := by
  unfold satN
  by_cases h : m ≤ 9007199254740992
  · rw [if_pos h]
  · rw [if_neg h, if_neg (by omega), if_neg (by omega)]
theorem satN_full (m : Nat) : satN m = 9007199254740992 ↔ 9007199254740991 < m := by unfold satN; split <;> omega
theorem satN_id {m : Nat} (h : ¬ 9007199254740991 < m) : satN m = m := by unfold satN; rw [if_pos (by omega)]

set_option maxRecDepth 100000 in
set_option maxHeartbeats 1000000 in
theorem count_any (s : ByteArray) (p : Nat) (w : World) (hs : s.size ≤ 9223372036854775807) (hp : p ≤ s.size) :
    Calls Try.prog 33 #[.string s, .int .i64 p] w fun e w' =>
      e = .returned (.tuple #[.int .i64 (satN (accD s.data.toList p (runL s.data.toList p)) : Nat), .int .i64 (p + runL s.data.toList p : Nat)]) ∧ w = w' := by
  go_enter Try.func33, Try.ntmps33
  go_wp2
  go_loop [1, 6] (fun a n => ∃ k : Nat, digsK s.data.toList p k = true ∧ p + k ≤ s.size ∧ a = .int .i64 (p + k : Nat) ∧ n = .int .i64 (satN (accD s.data.toList p k) : Nat)) (fun a _ => s.size - (intOf a).toNat)
  case atStart => exact ⟨0, rfl, by omega, rfl, rfl⟩
  case round =>
    obtain ⟨k, hd, hk, rfl, rfl⟩ := hrel
    have HD := Lib.hid hd; clear hd
    have a1 := satN_le (accD s.data.toList p k)
    have a2 := satN_step (accD s.data.toList p k)
    have A2 := Lib.hid a2; clear a2
    by_cases hlt : p + k < s.size
    · have hlb : decide ((p + k : Nat) < s.size) = true := decide_eq_true hlt
      have g := byt_get s (p + k) hlt
      have G := Lib.hid g
      by_cases hb : isD (byt s.data.toList (p + k)) = true
      · have hb2 := isD_yes hb
        rw [g] at hb hb2
        clear g
        have e1 : ((s[p + k].toNat : Int) - 48) % 256 = (s[p + k].toNat : Int) - 48 := by omega
        go_wp2_with (go_at_call 36; refine (isDigit_any _ _).mono ?_; rintro e w' ⟨rfl, rfl⟩)
        go_round
        case rel => exact ⟨k + 1, by rw [digsK, HD.out, G.out]; simpa using hb, by omega, by go_num, by rw [accD, A2.out, G.out]; congr 1; split <;> split <;> omega⟩
        case measure => simp [intOf]; omega
      · have hb' : isD (s[p + k].toNat : Int) = false := by rw [← g]; simpa using hb
        clear g hb
        go_wp2_with (go_at_call 36; refine (isDigit_any _ _).mono ?_; rintro e w' ⟨rfl, rfl⟩)
        go_ret2
        exact ⟨by rw [runL_eq HD.out (by rw [G.out]; exact hb')]; rfl, rfl⟩
    · have hlb : decide ((p + k : Nat) < s.size) = false := decide_eq_false hlt
      have hz : isD (byt s.data.toList (p + k)) = false := by rw [byt_out (by rw [len_data]; omega)]; rfl
      have HZ := Lib.hid hz; clear hz
      go_wp2_with (go_at_call 36; refine (isDigit_any _ _).mono ?_; rintro e w' ⟨rfl, rfl⟩)
      go_ret2
      exact ⟨by rw [runL_eq HD.out HZ.out]; rfl, rfl⟩

theorem rdN_eq (l : List UInt8) (p : Nat) : rdN l p = if satN (accD l (fstN l p) (runL l (fstN l p))) = 9007199254740992 ∨ wholeL l (fstN l p) (fstN l p + runL l (fstN l p)) = false then (0, (p : Int), 30)
    else ((if byt l p = 45 then -(accD l (fstN l p) (runL l (fstN l p)) : Int) else (accD l (fstN l p) (runL l (fstN l p)) : Int)), ((fstN l p + runL l (fstN l p) : Nat) : Int), 0) := by
  have hm : maxN = 9007199254740991 := rfl
  unfold rdN
  generalize fstN l p = f
  generalize runL l f = r
  have : badN l f r ↔ (satN (accD l f r) = 9007199254740992 ∨ wholeL l f (f + r) = false) := by
    rw [satN_full]
    unfold badN wholeL
    rw [Bool.not_eq_false', decide_eq_true_eq, Nat.add_sub_cancel_left]
    omega
  by_cases h : badN l f r
  · rw [if_pos h, if_pos (this.1 h)]
  · rw [if_neg h, if_neg (fun h2 => h (this.2 h2))]

theorem count_int (s : ByteArray) (p : Nat) (w : World) (hs : s.size ≤ 9223372036854775807) (hp : p ≤ s.size) (z : Int) (hz : z = (p : Int)) :
    Calls Try.prog 33 #[.string s, .int .i64 z] w fun e w' =>
      e = .returned (.tuple #[.int .i64 (satN (accD s.data.toList p (runL s.data.toList p)) : Nat), .int .i64 (p + runL s.data.toList p : Nat)]) ∧ w = w' := by
  subst hz; exact count_any s p w hs hp
theorem areWhole_int (s : ByteArray) (f e : Nat) (w : World) (hs : s.size ≤ 9223372036854775807) (hfe : f ≤ e) (he : e ≤ s.size) (y z : Int) (hy : y = (f : Int)) (hz : z = (e : Int)) :
    Calls Try.prog 34 #[.string s, .int .i64 y, .int .i64 z] w fun r w' => r = .returned (.bool (wholeL s.data.toList f e)) ∧ w = w' := by
  subst hy hz; exact areWhole_any s f e w hs hfe he

theorem retI3 {j k m : IntKind} {a a' b b' c c' : Int} (h1 : a = a') (h2 : b = b') (h3 : c = c') : Ending.returned (.tuple #[.int j a, .int k b, .int m c]) = .returned (.tuple #[.int j a', .int k b', .int m c']) := by rw [h1, h2, h3]
set_option maxRecDepth 100000 in
set_option maxHeartbeats 1000000 in
theorem Read_at (s : ByteArray) (p : Nat) (w : World) (hs : s.size ≤ 9223372036854775807) (hp : p < s.size) :
    Calls Try.prog 31 #[.string s, .int .i64 p] w fun e w' =>
      e = .returned (.tuple #[.int .i64 (rdN s.data.toList p).1, .int .i64 (rdN s.data.toList p).2.1, .int .i64 (rdN s.data.toList p).2.2]) ∧ w = w' := by
  rw [rdN_eq]
  have hfst := fst_le s.data.toList p hp
  rw [len_data] at hfst
  have hrl := runL_le s.data.toList (fstN s.data.toList p) hfst.2
  rw [len_data] at hrl
  have hsn := satN_le (accD s.data.toList (fstN s.data.toList p) (runL s.data.toList (fstN s.data.toList p)))
  have hid : ¬ satN (accD s.data.toList (fstN s.data.toList p) (runL s.data.toList (fstN s.data.toList p))) = 9007199254740992 → satN (accD s.data.toList (fstN s.data.toList p) (runL s.data.toList (fstN s.data.toList p))) = accD s.data.toList (fstN s.data.toList p) (runL s.data.toList (fstN s.data.toList p)) := by
    intro h; rw [satN_full] at h; exact satN_id h
  have hf : fstN s.data.toList p = if (s[p].toNat : Int) = 45 then p + 1 else p := by rw [fstN, byt_get s p hp]
  rw [byt_get s p hp]
  have cc := fun z hz => count_int s (fstN s.data.toList p) w hs hfst.2 z hz
  have cw := fun y z hy hz => areWhole_int s (fstN s.data.toList p) (fstN s.data.toList p + runL s.data.toList (fstN s.data.toList p)) w hs (by omega) hrl y z hy hz
  generalize accD s.data.toList (fstN s.data.toList p) (runL s.data.toList (fstN s.data.toList p)) = v at *
  generalize runL s.data.toList (fstN s.data.toList p) = r at *
  generalize fstN s.data.toList p = f at *
  generalize wholeL s.data.toList f (f + r) = b at *
  generalize hV : satN v = V at *
  clear hV
  have CC := Lib.hid cc; clear cc
  have CW := Lib.hid cw; clear cw
  by_cases h45 : (s[p].toNat : Int) = 45
  · rw [if_pos h45] at hf
    have t1 : ((s[p].toNat : Int) == 45) = true := by simpa using h45
    have t2 : decide ((p : Int) < (p : Int) + 1) = true := decide_eq_true (by omega)
    rw [if_pos h45]
    have H45 := Lib.hid h45; clear h45
    by_cases hV : V = 9007199254740992
    · subst hV
      rw [if_pos (.inl rfl)]
      clear hid
      go_enter Try.func31, Try.ntmps31
      go_wp2_with fail
      refine (CC.out _ (by omega)).mono ?_
      rintro e w' ⟨rfl, rfl⟩
      go_wp2_with fail
      go_ret3
      exact ⟨rfl, rfl⟩
    · have e1 := hid hV
      subst e1
      clear hid
      have t3 : (((V : Nat) : Int) == 9007199254740992) = false := by simp; omega
      cases b
      · rw [if_pos (.inr rfl)]
        go_enter Try.func31, Try.ntmps31
        go_wp2_with fail
        refine (CC.out _ (by omega)).mono ?_
        rintro e w' ⟨rfl, rfl⟩
        go_wp2_with fail
        refine (CW.out _ _ (by omega) (by omega)).mono ?_
        rintro e w' ⟨rfl, rfl⟩
        go_wp2_with fail
        go_ret3
        exact ⟨rfl, rfl⟩
      · rw [if_neg (by rintro (h | h); exact hV h; cases h)]
        go_enter Try.func31, Try.ntmps31
        go_wp2_with fail
        refine (CC.out _ (by omega)).mono ?_
        rintro e w' ⟨rfl, rfl⟩
        go_wp2_with fail
        refine (CW.out _ _ (by omega) (by omega)).mono ?_
        rintro e w' ⟨rfl, rfl⟩
        go_wp2_with fail
        go_ret3
        exact ⟨retI3 rfl (by rw [hf]; simp) rfl, rfl⟩
  · rw [if_neg h45] at hf
    have t1 : ((s[p].toNat : Int) == 45) = false := by simpa using h45
    have t2 : decide ((p : Int) < (p : Int)) = false := decide_eq_false (by omega)
    rw [if_neg h45]
    have H45 := Lib.hid h45; clear h45
    by_cases hV : V = 9007199254740992
    · subst hV
      rw [if_pos (.inl rfl)]
      clear hid
      go_enter Try.func31, Try.ntmps31
      go_wp2_with fail
      refine (CC.out _ (by omega)).mono ?_
      rintro e w' ⟨rfl, rfl⟩
      go_wp2_with fail
      go_ret3
      exact ⟨rfl, rfl⟩
    · have e1 := hid hV
      subst e1
      clear hid
      have t3 : (((V : Nat) : Int) == 9007199254740992) = false := by simp; omega
      cases b
      · rw [if_pos (.inr rfl)]
        go_enter Try.func31, Try.ntmps31
        go_wp2_with fail
        refine (CC.out _ (by omega)).mono ?_
        rintro e w' ⟨rfl, rfl⟩
        go_wp2_with fail
        refine (CW.out _ _ (by omega) (by omega)).mono ?_
        rintro e w' ⟨rfl, rfl⟩
        go_wp2_with fail
        go_ret3
        exact ⟨rfl, rfl⟩
      · rw [if_neg (by rintro (h | h); exact hV h; cases h)]
        go_enter Try.func31, Try.ntmps31
        go_wp2_with fail
        refine (CC.out _ (by omega)).mono ?_
        rintro e w' ⟨rfl, rfl⟩
        go_wp2_with fail
        refine (CW.out _ _ (by omega) (by omega)).mono ?_
        rintro e w' ⟨rfl, rfl⟩
        go_wp2_with fail
        go_ret3
        exact ⟨retI3 rfl (by rw [hf]; simp) rfl, rfl⟩

set_option maxRecDepth 100000 in
set_option maxHeartbeats 400000 in
theorem Read_any (s : ByteArray) (a : Int) (w : World) (hs : s.size ≤ 9223372036854775807) :
    Calls Try.prog 31 #[.string s, .int .i64 a] w fun e w' =>
      e = .returned (.tuple #[.int .i64 (rdS s.data.toList a).1, .int .i64 (rdS s.data.toList a).2.1, .int .i64 (rdS s.data.toList a).2.2]) ∧ w = w' := by
  by_cases h0 : a < 0
  · rw [rdS, if_pos (.inl h0)]
    have hd : decide (a < 0) = true := decide_eq_true h0
    go_enter Try.func31, Try.ntmps31
    go_wp2_with fail
    go_ret3
    exact ⟨rfl, rfl⟩
  · by_cases h1 : (s.size : Int) ≤ a
    · rw [rdS, if_pos (.inr h1)]
      have hd : decide (a < 0) = false := decide_eq_false h0
      have hd1 : decide ((s.size : Int) ≤ a) = true := decide_eq_true h1
      go_enter Try.func31, Try.ntmps31
      go_wp2_with fail
      go_ret3
      exact ⟨rfl, rfl⟩
    · rw [rdS, if_neg (by rw [len_data]; omega)]
      obtain ⟨q, rfl⟩ := Int.eq_ofNat_of_zero_le (Int.not_lt.mp h0)
      exact Read_at s q w hs (by omega)
end Go.Proofs.Ytgmkejfepakehaa.Nu
namespace Go.Proofs.Ytgmkejfepakehaa.Nu
open Go.RowKit
open Go.Proofs.Ytgmkejfepakehaa.Utf

def cellsP (j : Nat) (ds : List UInt8) : Array Value := (List.replicate j (Value.int .u8 0) ++ Lib.byteCells ds).toArray
theorem cellsP_size (j : Nat) (ds : List UInt8) : (cellsP j ds).size = j + ds.length := by simp [cellsP, Lib.byteCells]
theorem cellsP_set (m : Nat) (ds : List UInt8) (b : UInt8) (z : Int) (hz : z = b.toNat) : (cellsP (m + 1) ds).setIfInBounds m (.int .u8 z) = cellsP m (b :: ds) := by
  subst hz
  unfold cellsP
  have h1 : List.replicate (m + 1) (Value.int .u8 0) = List.replicate m (Value.int .u8 0) ++ [Value.int .u8 0] := by rw [List.replicate_succ']
  rw [h1, List.append_assoc, List.setIfInBounds_toArray, List.set_append_right _ _ (by simp)]
  simp [Lib.byteCells]
theorem cellsP_get (j : Nat) (ds : List UInt8) (i : Nat) (u : Value) (h : (Lib.byteCells ds)[i]? = some u) : (cellsP j ds)[j + i]? = some u := by
  unfold cellsP
  rw [List.getElem?_toArray, List.getElem?_append_right (by simp)]
  simpa using h

def PutI (n : Int) (j : Nat) (rest : Int) (ds : List UInt8) : Prop :=
  1 ≤ j ∧ ds.length + j = 20 ∧ rest.natAbs < 10 ^ (j - 1) ∧ -9223372036854775808 ≤ rest ∧ rest ≤ 9223372036854775807 ∧ ((j = 20 ∧ rest = n) ∨ (j < 20 ∧ digN n.natAbs = digZ rest.natAbs ++ ds))
theorem PutI_0 {n : Int} (h0 : -9223372036854775808 ≤ n) (h1 : n ≤ 9223372036854775807) : PutI n 20 n [] := ⟨by omega, rfl, by omega, h0, h1, .inl ⟨rfl, rfl⟩⟩
theorem PutI_two {n : Int} {j : Nat} {rest : Int} {ds : List UInt8} (h : PutI n j rest ds) (hr : rest ≠ 0 ∨ j = 20) : ∃ m, j = m + 1 ∧ 1 ≤ m := by
  obtain ⟨h1, h2, h3, _, _, _⟩ := h
  refine ⟨j - 1, by omega, ?_⟩
  rcases Nat.eq_zero_or_pos (j - 1) with h0 | h0
  · rw [h0] at h3
    simp at h3
    omega
  · exact h0
theorem natAbs_div10 (r : Int) : (r.tdiv 10).natAbs = r.natAbs / 10 := by rw [Int.natAbs_tdiv]; rfl
theorem natAbs_mod10 (r : Int) : (r.tmod 10).natAbs = r.natAbs % 10 := by rw [Int.natAbs_tmod]; rfl
theorem PutI_next {n : Int} {m : Nat} {rest : Int} {ds : List UInt8} (h : PutI n (m + 1) rest ds) (hr : rest ≠ 0 ∨ m + 1 = 20) (hm : 1 ≤ m) : PutI n m (rest.tdiv 10) (dg rest.natAbs :: ds) := by
  obtain ⟨h1, h2, h3, h4, h5, h6⟩ := h
  have hd := natAbs_div10 rest
  have h20 : (10 : Nat) ^ m ≤ 10 ^ 19 := Nat.pow_le_pow_right (by omega) (by omega)
  rw [Nat.add_sub_cancel] at h3
  have hm' : 10 ^ m = 10 ^ (m - 1) * 10 := by rw [← Nat.pow_succ]; congr 1; omega
  refine ⟨hm, by rw [List.length_cons]; omega, by rw [hd]; omega, by omega, by omega, .inr ⟨by omega, ?_⟩⟩
  rw [hd]
  have hz := digN_Z (m := rest.natAbs) (by omega)
  rcases h6 with ⟨_, rfl⟩ | ⟨h7, h8⟩
  · obtain rfl : ds = [] := List.eq_nil_of_length_eq_zero (by omega)
    exact hz
  · have h0 : rest.natAbs ≠ 0 := by omega
    rw [h8, digZ_pos h0, hz, List.append_assoc]
    rfl
theorem PutI_end {n : Int} {j : Nat} {ds : List UInt8} (h : PutI n j 0 ds) (hj : j ≠ 20) : digN n.natAbs = ds := by
  obtain ⟨_, _, _, _, _, h6⟩ := h
  rcases h6 with ⟨h7, _⟩ | ⟨_, h8⟩
  · exact absurd h7 hj
  · rw [h8]; simp [digZ]

theorem Rd_cellsP (w : World) (T : TypeId) (j : Nat) (ds : List UInt8) (k : Nat) (hk : k = ds.length) (z : Nat) (hz : z = j) : Rd (w.alloc (.cells (cellsP j ds) T)) (w.heap.size + 1) (.slice (some ⟨w.heap.size, z, none⟩) k k) (Lib.byteCells ds) := by
  subst hk hz
  refine ⟨_, _, by rw [Lib.byteCells_length], fun _ => ⟨_, rfl, by show w.heap.size < _; omega, fun i u hu => ?_⟩⟩
  have hp : (⟨w.heap.size, z, none⟩ : Addr).add i = ⟨w.heap.size, z + i, none⟩ := by unfold Addr.add; split <;> simp_all
  rw [hp]
  unfold World.cell?
  rw [heap_alloc_new]
  exact cellsP_get z ds i u hu

theorem slice_20 (w : World) (B j : Nat) (hj : j < 20) (z : Int) (hz : z = (j : Int)) : (Instr.sliceAt 50 (.pointer (some ⟨B, 0, none⟩)) (some (.int .i64 z)) none none).run Try.prog w = .ok (.slice (some ⟨B, j, none⟩) (20 - j) (20 - j)) w := by
  subst hz
  have hl : Try.prog.arrayLen 50 = 20 := by kernel_rfl
  have he : Try.prog.elem 50 = 5 := by kernel_rfl
  have hu : Try.prog.underlying 50 = some (.array (Try.prog.arrayLen 50) (Try.prog.elem 50)) := by rw [hl, he]; kernel_rfl
  rw [run_sliceAt_array_l w 50 _ hu .i64 (j : Int) (by omega) (by rw [hl]; omega), he, hl]
  have hs : (sizeOf 5).run Try.prog w = .ok 1 w := by simp [go_sem]
  rw [hs]
  have hne : ¬ 20 = j := by omega
  simp [Result.andThen, slicedAt, hne, Addr.add]
  intro h; exact h.symm

set_option maxRecDepth 100000 in
set_option maxHeartbeats 1000000 in
theorem Put_any (n : Int) (w : World) (hn0 : -9223372036854775808 ≤ n) (hn1 : n ≤ 9223372036854775807) :
    Calls Try.prog 26 #[.int .i64 n] w (Gives (.string (strOf (putL n))) w) := by
  go_enter Try.func26, Try.ntmps26
  go_wp2_with fail
  go_loopw [4, 5] (fun i r wr => ∃ (j : Nat) (rest : Int) (ds : List UInt8), PutI n j rest ds ∧ i = .int .i64 j ∧ r = .int .i64 rest ∧ wr = w.alloc (.cells (cellsP j ds) 50)) (fun i _ _ => (intOf i).toNat)
  case atStart => exact ⟨20, n, [], PutI_0 hn0 hn1, rfl, rfl, rfl⟩
  case round =>
    obtain ⟨j, rest, ds, hI, rfl, rfl, rfl⟩ := hrel
    have hb1 : -9223372036854775808 ≤ rest := hI.2.2.2.1
    have hb2 : rest ≤ 9223372036854775807 := hI.2.2.2.2.1
    have hj1 : 1 ≤ j := hI.1
    have hj2 : ds.length + j = 20 := hI.2.1
    by_cases hr : rest ≠ 0 ∨ j = 20
    · obtain ⟨m, rfl, hm⟩ := PutI_two hI hr
      have hnext := PutI_next hI hr hm
      have HN := Lib.hid hnext; clear hnext hI
      have hcond : ((rest != 0) = true) ∨ ((rest != 0) = false ∧ (((m + 1 : Nat) : Int) == 20) = true) := by
        rcases hr with h | h
        · exact .inl (by simpa using h)
        · by_cases h0 : rest = 0
          · exact .inr ⟨by simpa using h0, by simp; omega⟩
          · exact .inl (by simpa using h0)
      clear hr
      have hsz : (cellsP (m + 1) ds).size = 20 := by rw [cellsP_size]; omega
      have hset := cellsP_set m ds (dg rest.natAbs) (48 + (rest.natAbs : Int) % 10) (by rw [dg_nat]; simp)
      have HSET := Lib.hid hset; clear hset
      have hmod := natAbs_mod10 rest
      have hdg : -9 ≤ rest.tmod 10 ∧ rest.tmod 10 ≤ 9 := by omega
      have HMOD := Lib.hid hmod; clear hmod
      have hcell : ∃ v, (w.alloc (.cells (cellsP (m + 1) ds) 50)).cell? ⟨w.heap.size, m, none⟩ = some v := by
        unfold World.cell?
        rw [heap_alloc_new]
        exact ⟨(cellsP (m + 1) ds)[m]'(by omega), Array.getElem?_eq_getElem _⟩
      obtain ⟨cv, hcell⟩ := hcell
      rcases hcond with h | ⟨h, h'⟩
      · go_wp2_with fail
        refine (digit_any _ _ hdg.1 hdg.2).mono ?_
        rintro e w' ⟨rfl, rfl⟩
        go_wp2_with fail
        go_roundw
        case rel => exact ⟨m, rest.tdiv 10, _, HN.out, rfl, rfl, by rw [HSET.out]⟩
        case measure => simp [intOf]
      · go_wp2_with fail
        refine (digit_any _ _ hdg.1 hdg.2).mono ?_
        rintro e w' ⟨rfl, rfl⟩
        go_wp2_with fail
        go_roundw
        case rel => exact ⟨m, rest.tdiv 10, _, HN.out, rfl, rfl, by rw [HSET.out]⟩
        case measure => simp [intOf]
    · obtain rfl : rest = 0 := by omega
      have hj : j ≠ 20 := by omega
      have he := PutI_end hI hj
      clear hI hr
      have hjb : ((j : Int) == 20) = false := by simp; omega
      by_cases hneg : n < 0
      · have hnb : decide (n < 0) = true := decide_eq_true hneg
        obtain ⟨m, rfl⟩ : ∃ m, j = m + 1 := ⟨j - 1, by omega⟩
        have hput : putL n = 45 :: ds := by rw [putL, if_pos hneg, he]
        have HP := Lib.hid hput; clear hput
        have HE := Lib.hid he; clear he
        have hsz : (cellsP (m + 1) ds).size = 20 := by rw [cellsP_size]; omega
        have hset := cellsP_set m ds 45 45 rfl
        have HSET := Lib.hid hset; clear hset
        have hcell : ∃ v, (w.alloc (.cells (cellsP (m + 1) ds) 50)).cell? ⟨w.heap.size, m, none⟩ = some v := by
          unfold World.cell?
          rw [heap_alloc_new]
          exact ⟨(cellsP (m + 1) ds)[m]'(by omega), Array.getElem?_eq_getElem _⟩
        obtain ⟨cv, hcell⟩ := hcell
        have hjb2 : ((m : Int) + 1 == 20) = false := by simpa using hjb
        have hsl := fun wx => slice_20 wx w.heap.size m (by omega) m rfl
        have hc := (Rd_cellsP w 50 m (45 :: ds) (20 - m) (by rw [List.length_cons]; omega) m rfl).conv (P := Try.prog) Try.underlying37 Try.underlying5 Try.underlying9
        rw [← HSET.out] at hc
        go_wp2_with fail
        go_ret
        exact ⟨by rw [HP.out]; rfl, (Below.refl _ _).alloc (Nat.le_refl _) _⟩
      · have hnb : decide (n < 0) = false := decide_eq_false hneg
        have hput : putL n = ds := by rw [putL, if_neg hneg, he]
        have HP := Lib.hid hput; clear hput
        have HE := Lib.hid he; clear he
        have hsz : (cellsP j ds).size = 20 := by rw [cellsP_size]; omega
        have hsl := fun wx => slice_20 wx w.heap.size j (by omega) j rfl
        have hc := (Rd_cellsP w 50 j ds (20 - j) (by omega) j rfl).conv (P := Try.prog) Try.underlying37 Try.underlying5 Try.underlying9
        go_wp2_with fail
        go_ret
        exact ⟨by rw [HP.out]; rfl, (Below.refl _ _).alloc (Nat.le_refl _) _⟩
end Go.Proofs.Ytgmkejfepakehaa.Nu
