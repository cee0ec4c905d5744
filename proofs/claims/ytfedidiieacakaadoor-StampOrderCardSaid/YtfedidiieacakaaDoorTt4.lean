/- Merged: StA StS StD StB. -/
import Derived.Test.YtfedidiieacakaaDoorTt2
import Derived.Deep.DeepCutAuto
import Derived.Deep.RegionWith
import Derived.Laws.Concat
import Derived.Test.YtfedidiieacakaaDoorTt1
import Derived.Lib.ConvBytes
import Derived.Lib.Bytealg
namespace Go.Proofs.YtfedidiieacakaaDoor.St
open Go.RowKit
open Go.Proofs.YtfedidiieacakaaDoor.Utf
open Go.Proofs.YtfedidiieacakaaDoor.Nu

theorem tmod_pos {y : Int} (h : 0 ≤ y) (n : Int) : y.tmod n = y % n := Int.tmod_eq_emod_of_nonneg h
theorem tdiv_pos {y : Int} (h : 0 ≤ y) (n : Int) : y.tdiv n = y / n := Int.tdiv_eq_ediv_of_nonneg h

set_option maxRecDepth 100000 in
set_option maxHeartbeats 1000000 in
theorem isLeap_any (y : Int) (w : World) (h0 : 0 ≤ y) : Calls Tryd.prog 32 #[.int .i64 y] w fun e w' => e = .returned (.bool (leap y)) ∧ w = w' := by
  have m4 := tmod_pos h0 4
  have m100 := tmod_pos h0 100
  have m400 := tmod_pos h0 400
  by_cases c4 : y % 4 = 0
  · by_cases c100 : y % 100 = 0
    · by_cases c400 : y % 400 = 0
      · have hl : leap y = true := decide_eq_true (.inr c400)
        rw [hl]
        have t4 : (y % 4 == 0) = true := beq_iff_eq.2 c4
        have t100 : (y % 100 == 0) = true := beq_iff_eq.2 c100
        have t101 : (y % 100 != 0) = false := by simp [c100]
        have t400 : (y % 400 == 0) = true := beq_iff_eq.2 c400
        clear c4 c100 c400 hl
        go_enter Tryd.func32, Tryd.ntmps32
        go_wp2
        go_ret
        exact ⟨rfl, rfl⟩
      · have hl : leap y = false := decide_eq_false (by omega)
        rw [hl]
        have t4 : (y % 4 == 0) = true := beq_iff_eq.2 c4
        have t101 : (y % 100 != 0) = false := by simp [c100]
        have t400 : (y % 400 == 0) = false := beq_eq_false_iff_ne.2 c400
        clear c4 c100 c400 hl
        go_enter Tryd.func32, Tryd.ntmps32
        go_wp2
        go_ret
        exact ⟨rfl, rfl⟩
    · have hl : leap y = true := decide_eq_true (.inl ⟨c4, c100⟩)
      rw [hl]
      have t4 : (y % 4 == 0) = true := beq_iff_eq.2 c4
      have t101 : (y % 100 != 0) = true := by simp [c100]
      clear c4 c100 hl
      go_enter Tryd.func32, Tryd.ntmps32
      go_wp2
      go_ret
      exact ⟨rfl, rfl⟩
  · have hl : leap y = false := decide_eq_false (by omega)
    rw [hl]
    have t4 : (y % 4 == 0) = false := beq_eq_false_iff_ne.2 c4
    have t400 : (y % 400 == 0) = false := beq_eq_false_iff_ne.2 (by omega)
    clear c4 hl
    go_enter Tryd.func32, Tryd.ntmps32
    go_wp2
    go_ret
    exact ⟨rfl, rfl⟩

set_option maxRecDepth 100000 in
set_option maxHeartbeats 1000000 in
theorem daysOf_any (y m : Int) (w : World) (T : Tab w) (h0 : 0 ≤ y) (hm1 : 1 ≤ m) (hm2 : m ≤ 12) : Calls Tryd.prog 22 #[.int .i64 y, .int .i64 m] w fun e w' => e = .returned (.int .i64 (mlen y m)) ∧ w = w' := by
  have hc := T.1 (m - 1).toNat (by omega)
  rw [show (m - 1).toNat = (m - 1).toNat from rfl] at hc
  have hk : (((m - 1).toNat : Nat) : Int) = m - 1 := by omega
  by_cases h2 : m = 2
  · subst h2
    by_cases hl : leap y = true
    · have he : mlen y 2 = 29 := by unfold mlen; rw [if_pos rfl, if_pos hl]
      rw [he]
      have C := Lib.hid (isLeap_any y w h0)
      rw [hl] at C
      clear he hl hc hk
      go_enter Tryd.func22, Tryd.ntmps22
      go_wp2_with fail
      refine C.out.mono ?_
      rintro e w1 ⟨rfl, rfl⟩
      go_wp2_with fail
      go_ret
      exact ⟨rfl, rfl⟩
    · have hm := mdl_is y 2 (by omega) (by omega) (fun h => hl h.2)
      rw [← hm]
      have hl : leap y = false := Bool.eq_false_iff.2 hl
      have C := Lib.hid (isLeap_any y w h0)
      rw [hl] at C
      have hc : w.cell? ⟨1, 1, none⟩ = some (.int .i64 (mdl 1)) := T.1 1 (by omega)
      have e1 : mdl ((2 : Int) - 1).toNat = mdl 1 := rfl
      rw [e1]
      generalize mdl 1 = R at *
      clear hl hk hm
      go_enter Tryd.func22, Tryd.ntmps22
      go_wp2_with fail
      refine C.out.mono ?_
      rintro e w1 ⟨rfl, rfl⟩
      go_wp2_with fail
      go_ret
      exact ⟨rfl, rfl⟩
  · have hm := mdl_is y m hm1 hm2 (fun h => h2 h.1)
    rw [← hm]
    have t2 : (m == 2) = false := beq_eq_false_iff_ne.2 h2
    have x1 : IntKind.i64.wrap (m - 1) = m - 1 := IntWalk.i64_in _ (by omega)
    generalize mdl (m - 1).toNat = R at *
    obtain ⟨k, hk2⟩ : ∃ k : Nat, m = k + 1 := ⟨(m - 1).toNat, by omega⟩
    subst hk2
    rw [show ((k : Int) + 1 - 1).toNat = k by omega] at hc
    have b12 : k < 12 := by omega
    clear hm h2 hk
    go_enter Tryd.func22, Tryd.ntmps22
    go_wp2_with fail
    go_ret
    exact ⟨rfl, rfl⟩

set_option maxRecDepth 100000 in
set_option maxHeartbeats 1000000 in
theorem daysAhead_any (y : Int) (w : World) (h0 : 0 ≤ y) (h1 : y ≤ 10001) : Calls Tryd.prog 23 #[.int .i64 y] w fun e w' => e = .returned (.int .i64 (ahead y)) ∧ w = w' := by
  have m400 := tmod_pos h0 400
  have d400 := tdiv_pos h0 400
  have p0 : 0 ≤ y % 400 := by omega
  have d4 := tdiv_pos (y := y % 400 + 3) (by omega) 4
  have d100 := tdiv_pos (y := y % 400 + 99) (by omega) 100
  have dd := tdiv_pos (y := y % 400 + 399) (by omega) 400
  have hA : ahead y = y / 400 * 146097 + y % 400 * 365 + ((y % 400 + 3) / 4 - (y % 400 + 99) / 100 + (y % 400 + 399) / 400) := rfl
  rw [hA]
  clear hA
  have b1 : 0 ≤ y / 400 ∧ y / 400 ≤ 25 := by omega
  have b2 : y % 400 < 400 := by omega
  have b4 : 0 ≤ (y % 400 + 3) / 4 ∧ (y % 400 + 3) / 4 ≤ 101 := by omega
  have b100 : 0 ≤ (y % 400 + 99) / 100 ∧ (y % 400 + 99) / 100 ≤ 5 := by omega
  have bd : 0 ≤ (y % 400 + 399) / 400 ∧ (y % 400 + 399) / 400 ≤ 2 := by omega
  go_enter Tryd.func23, Tryd.ntmps23
  go_wp2_with fail
  go_ret
  exact ⟨rfl, rfl⟩

end Go.Proofs.YtfedidiieacakaaDoor.St
namespace Go.Proofs.YtfedidiieacakaaDoor.St
open Go.RowKit
open Go.Proofs.YtfedidiieacakaaDoor.Utf
open Go.Proofs.YtfedidiieacakaaDoor.Nu

def pfxL (p l : List UInt8) : Bool := decide (p.length ≤ l.length) && (l.take p.length == p)
def sfxL (p l : List UInt8) : Bool := decide (p.length ≤ l.length) && (l.drop (l.length - p.length) == p)
theorem exT (s : ByteArray) (n : Nat) : (s.extract 0 n).data.toList = s.data.toList.take n := by
  rw [ByteArray.data_extract]; simp
theorem exD (s : ByteArray) (n : Nat) : (s.extract n s.size).data.toList = s.data.toList.drop n := by
  rw [ByteArray.data_extract]; simp only [Array.toList_extract, List.extract]; exact List.take_of_length_le (by rw [List.length_drop, len_data]; exact Nat.le_refl _)
theorem pfx_1 (c : UInt8) (l : List UInt8) : pfxL [c] l = decide (0 < l.length ∧ byt l 0 = (c.toNat : Int)) := by
  unfold pfxL
  cases l with
  | nil => rfl
  | cons a r =>
    have h1 : decide ([c].length ≤ (a :: r).length) = true := decide_eq_true (by simp)
    have h2 : (a :: r).take [c].length = [a] := rfl
    rw [h1, h2, Bool.true_and, Bool.eq_iff_iff, beq_iff_eq, decide_eq_true_eq, byt_cons_0]
    constructor
    · intro h
      obtain rfl := (List.cons.inj h).1
      exact ⟨by simp, rfl⟩
    · rintro ⟨_, h⟩
      rw [UInt8.toNat.inj (show a.toNat = c.toNat by omega)]
theorem sfx_1 (c : UInt8) (l : List UInt8) : sfxL [c] l = decide (0 < l.length ∧ byt l (l.length - 1) = (c.toNat : Int)) := by
  unfold sfxL
  rw [Bool.eq_iff_iff]
  simp only [List.length_cons, List.length_nil, Bool.and_eq_true, decide_eq_true_eq, beq_iff_eq, Nat.zero_add]
  constructor
  · rintro ⟨h1, h2⟩
    refine ⟨by omega, ?_⟩
    have := byt_drop' l (l.length - 1) 0
    rw [h2, byt_cons_0, Nat.add_zero] at this
    exact this.symm
  · rintro ⟨h1, h2⟩
    refine ⟨by omega, ?_⟩
    have hl : (l.drop (l.length - 1)).length = 1 := by rw [List.length_drop]; omega
    have hb := byt_drop' l (l.length - 1) 0
    rw [Nat.add_zero, h2] at hb
    match h : l.drop (l.length - 1), hl with
    | [a], _ =>
      rw [h, byt_cons_0] at hb
      rw [UInt8.toNat.inj (show a.toNat = c.toNat by omega)]

set_option maxRecDepth 100000 in
set_option maxHeartbeats 1000000 in
theorem hasPre_any (s p : ByteArray) (w : World) :
    Calls Tryd.prog 40 #[.string s, .string p] w fun e w' => e = .returned (.bool (pfxL p.data.toList s.data.toList)) ∧ w = w' := by
  unfold pfxL
  rw [len_data, len_data]
  by_cases h : p.size ≤ s.size
  · have t1 : decide ((p.size : Int) ≤ (s.size : Int)) = true := decide_eq_true (by omega)
    have t2 : decide (p.size ≤ s.size) = true := decide_eq_true h
    have k0 : (0 : Int) ≤ (p.size : Int) := by omega
    have k1 : (p.size : Int) ≤ (s.size : Int) := by omega
    go_enter Tryd.func40, Tryd.ntmps40
    go_wp2
    go_ret
    refine ⟨?_, rfl⟩
    rw [t2, Bool.true_and]
    refine ret_bool ?_
    rw [ByteArray.toList_eq, ByteArray.toList_eq, exT]
  · have t1 : decide ((p.size : Int) ≤ (s.size : Int)) = false := decide_eq_false (by omega)
    have t2 : decide (p.size ≤ s.size) = false := decide_eq_false h
    go_enter Tryd.func40, Tryd.ntmps40
    go_wp2
    go_ret
    refine ⟨?_, rfl⟩
    rw [t2, Bool.false_and]
    rfl

set_option maxRecDepth 100000 in
set_option maxHeartbeats 1000000 in
theorem hasSfx_any (s p : ByteArray) (w : World) (hs : s.size ≤ 9223372036854775807) :
    Calls Tryd.prog 41 #[.string s, .string p] w fun e w' => e = .returned (.bool (sfxL p.data.toList s.data.toList)) ∧ w = w' := by
  unfold sfxL
  rw [len_data, len_data]
  by_cases h : p.size ≤ s.size
  · have t1 : decide ((p.size : Int) ≤ (s.size : Int)) = true := decide_eq_true (by omega)
    have t2 : decide (p.size ≤ s.size) = true := decide_eq_true h
    obtain ⟨q, hq⟩ : ∃ q : Nat, (s.size : Int) - (p.size : Int) = q := ⟨s.size - p.size, by omega⟩
    have hq2 : s.size - p.size = q := by omega
    have k0 : (0 : Int) ≤ (q : Int) := by omega
    have k1 : (q : Int) ≤ (s.size : Int) := by omega
    rw [hq2]
    go_enter Tryd.func41, Tryd.ntmps41
    go_wp2
    go_ret
    refine ⟨?_, rfl⟩
    rw [t2, Bool.true_and]
    refine ret_bool ?_
    rw [ByteArray.toList_eq, ByteArray.toList_eq, exD]
  · have t1 : decide ((p.size : Int) ≤ (s.size : Int)) = false := decide_eq_false (by omega)
    have t2 : decide (p.size ≤ s.size) = false := decide_eq_false h
    go_enter Tryd.func41, Tryd.ntmps41
    go_wp2
    go_ret
    refine ⟨?_, rfl⟩
    rw [t2, Bool.false_and]
    rfl

set_option maxRecDepth 100000 in
set_option maxHeartbeats 1000000 in
theorem cutPre0_any (s p : ByteArray) (w : World) :
    Calls Tryd.prog 38 #[.string s, .string p] w fun e w' => e = .returned (.tuple #[.string (if pfxL p.data.toList s.data.toList = true then s.extract p.size s.size else s), .bool (pfxL p.data.toList s.data.toList)]) ∧ w = w' := by
  have HH := Lib.hid (fun (W : World) => hasPre_any s p W)
  have HP := Lib.hid (show pfxL p.data.toList s.data.toList = true → p.size ≤ s.size from fun h => by
    have := (Bool.and_eq_true_iff.1 h).1
    rw [len_data, len_data] at this; exact of_decide_eq_true this)
  generalize pfxL p.data.toList s.data.toList = b at *
  cases b with
  | false =>
    go_enter Tryd.func38, Tryd.ntmps38
    go_wp2_with fail
    refine (HH.out _).mono ?_
    rintro e w1 ⟨rfl, rfl⟩
    go_wp2
    go_ret2
    exact ⟨rfl, rfl⟩
  | true =>
    have h := HP.out rfl
    have k0 : (0 : Int) ≤ (p.size : Int) := by omega
    have k1 : (p.size : Int) ≤ (s.size : Int) := by omega
    clear h
    go_enter Tryd.func38, Tryd.ntmps38
    go_wp2_with fail
    refine (HH.out _).mono ?_
    rintro e w1 ⟨rfl, rfl⟩
    go_wp2
    go_ret2
    exact ⟨rfl, rfl⟩

set_option maxRecDepth 100000 in
set_option maxHeartbeats 1000000 in
theorem cutSfx0_any (s p : ByteArray) (w : World) (hs : s.size ≤ 9223372036854775807) :
    Calls Tryd.prog 39 #[.string s, .string p] w fun e w' => e = .returned (.tuple #[.string (if sfxL p.data.toList s.data.toList = true then s.extract 0 (s.size - p.size) else s), .bool (sfxL p.data.toList s.data.toList)]) ∧ w = w' := by
  have HH := Lib.hid (fun (W : World) => hasSfx_any s p W hs)
  have HP := Lib.hid (show sfxL p.data.toList s.data.toList = true → p.size ≤ s.size from fun h => by
    have := (Bool.and_eq_true_iff.1 h).1
    rw [len_data, len_data] at this; exact of_decide_eq_true this)
  generalize sfxL p.data.toList s.data.toList = b at *
  cases b with
  | false =>
    go_enter Tryd.func39, Tryd.ntmps39
    go_wp2_with fail
    refine (HH.out _).mono ?_
    rintro e w1 ⟨rfl, rfl⟩
    go_wp2
    go_ret2
    exact ⟨rfl, rfl⟩
  | true =>
    have h := HP.out rfl
    obtain ⟨q, hq⟩ : ∃ q : Nat, (s.size : Int) - (p.size : Int) = q := ⟨s.size - p.size, by omega⟩
    have hq2 : s.size - p.size = q := by omega
    have k0 : (0 : Int) ≤ (q : Int) := by omega
    have k1 : (q : Int) ≤ (s.size : Int) := by omega
    rw [hq2]
    clear h hq2
    go_enter Tryd.func39, Tryd.ntmps39
    go_wp2_with fail
    refine (HH.out _).mono ?_
    rintro e w1 ⟨rfl, rfl⟩
    go_wp2
    go_ret2
    exact ⟨rfl, rfl⟩

set_option maxRecDepth 100000 in
set_option maxHeartbeats 1000000 in
theorem cutPre_any (s p : ByteArray) (w : World) :
    Calls Tryd.prog 35 #[.string s, .string p] w fun e w' => e = .returned (.tuple #[.string (if pfxL p.data.toList s.data.toList = true then s.extract p.size s.size else s), .bool (pfxL p.data.toList s.data.toList)]) ∧ w = w' := by
  have HH := Lib.hid (fun (W : World) => cutPre0_any s p W)
  generalize (if pfxL p.data.toList s.data.toList = true then s.extract p.size s.size else s) = X at *
  generalize pfxL p.data.toList s.data.toList = b at *
  go_enter Tryd.func35, Tryd.ntmps35
  go_wp2_with fail
  refine (HH.out _).mono ?_
  rintro e w1 ⟨rfl, rfl⟩
  go_wp2
  go_ret2
  exact ⟨rfl, rfl⟩

set_option maxRecDepth 100000 in
set_option maxHeartbeats 1000000 in
theorem cutSfx_any (s p : ByteArray) (w : World) (hs : s.size ≤ 9223372036854775807) :
    Calls Tryd.prog 36 #[.string s, .string p] w fun e w' => e = .returned (.tuple #[.string (if sfxL p.data.toList s.data.toList = true then s.extract 0 (s.size - p.size) else s), .bool (sfxL p.data.toList s.data.toList)]) ∧ w = w' := by
  have HH := Lib.hid (fun (W : World) => cutSfx0_any s p W hs)
  generalize (if sfxL p.data.toList s.data.toList = true then s.extract 0 (s.size - p.size) else s) = X at *
  generalize sfxL p.data.toList s.data.toList = b at *
  go_enter Tryd.func36, Tryd.ntmps36
  go_wp2_with fail
  refine (HH.out _).mono ?_
  rintro e w1 ⟨rfl, rfl⟩
  go_wp2
  go_ret2
  exact ⟨rfl, rfl⟩

set_option maxRecDepth 100000 in
theorem cmpStr_any (a b : ByteArray) (w : World) : Calls Tryd.prog 34 #[.string a, .string b] w fun e w' => e = .returned (.int .i64 (Lib.compareBytes a.data.toList b.data.toList)) ∧ w' = w := by
  go_enter Tryd.func34, Tryd.ntmps34
  go_wp2
  rw [run_callFunc_extern Tryd.func37 (by kernel_rfl) (by kernel_rfl) (by kernel_rfl) (e := Extern.BytealgCompare.compare) (by kernel_rfl), Lib.run_compareString]
  simp only [Result.andThen]
  rw [Oper.upon_value]
  go_wp2
  go_ret
  exact ⟨rfl, rfl⟩
set_option maxRecDepth 100000 in
theorem sCompare_any (a b : ByteArray) (w : World) : Calls Tryd.prog 28 #[.string a, .string b] w fun e w' => e = .returned (.int .i64 (Lib.compareBytes a.data.toList b.data.toList)) ∧ w = w' := by
  go_enter Tryd.func28, Tryd.ntmps28
  go_wp2_with (go_at_call 34; refine (cmpStr_any _ _ _).mono ?_; rintro e w' ⟨rfl, rfl⟩)
  go_ret
  exact ⟨rfl, rfl⟩
end Go.Proofs.YtfedidiieacakaaDoor.St
namespace Go.Proofs.YtfedidiieacakaaDoor.St
open Go.RowKit
open Go.Proofs.YtfedidiieacakaaDoor.Utf
open Go.Proofs.YtfedidiieacakaaDoor.Nu

set_option maxRecDepth 100000 in
set_option maxHeartbeats 1000000 in
theorem stDig_any (b : Int) (w : World) : Calls Tryd.prog 30 #[.int .u8 b] w fun e w' => e = .returned (.bool (isD b)) ∧ w = w' := by
  go_enter Tryd.func30, Tryd.ntmps30
  go_wp2
  all_goals
    go_ret
    exact ⟨ret_bool (by rw [Bool.eq_iff_iff]; simp [isD]; omega), rfl⟩

theorem bytesWB (w : World) (e : TypeId) (s : ByteArray) : Below w.heap.size w (Lib.bytesWorld w e s) :=
  ⟨rfl, rfl, rfl, by rw [Lib.bytesWorld_size]; omega, fun j hj => Lib.bytesWorld_at_old w e s j hj⟩
theorem convB (w : World) (s : ByteArray) : (convert 9 34 (.string s)).run Tryd.prog w = .ok (.slice (some ⟨w.heap.size, 0, none⟩) s.size (grownCap w s.size 0 5)) (Lib.bytesWorld w 5 s) :=
  Lib.run_convert_string_bytes w _ _ _ s Tryd.underlying9 Tryd.underlying34 Tryd.underlying5
theorem cellB (w : World) (e : TypeId) (s : ByteArray) (j : Nat) (hj : j < s.size) : (Lib.bytesWorld w e s).cell? ⟨w.heap.size, j, none⟩ = some (.int .u8 (byt s.data.toList j)) := by
  rw [Lib.bytesWorld_cell w _ _ j hj]; rfl
theorem acc_9 (l : List UInt8) (p : Nat) : ∀ k, digsK l p k = true → accD l p k < 10 ^ k
  | 0, _ => by rw [accD]; decide
  | k + 1, h => by
    rw [digsK, Bool.and_eq_true] at h
    have := acc_9 l p k h.1
    have := isD_yes h.2
    rw [accD, Nat.pow_succ]
    omega
theorem pow_9 {k : Nat} (h : k ≤ 9) : 10 ^ k ≤ 1000000000 := Nat.pow_le_pow_right (n := 10) (by omega) h

set_option maxRecDepth 100000 in
set_option maxHeartbeats 1000000 in
theorem num_any (s : ByteArray) (w : World) (h9 : s.size ≤ 9) (hd : digsK s.data.toList 0 s.size = true) :
    Calls Tryd.prog 20 #[.string s] w (Gives (.int .i64 (accD s.data.toList 0 s.size : Nat)) w) := by
  have hcv := convB w s
  obtain ⟨W1, hW1⟩ : ∃ W1, W1 = Lib.bytesWorld w 5 s := ⟨_, rfl⟩
  have HB := Lib.hid (show Below w.heap.size w W1 by rw [hW1]; exact bytesWB _ _ _)
  have HC := Lib.hid (show ∀ j, j < s.size → W1.cell? ⟨w.heap.size, j, none⟩ = some (.int .u8 (byt s.data.toList j)) from fun j hj => by rw [hW1]; exact cellB _ _ _ _ hj)
  rw [← hW1] at hcv
  obtain ⟨cp, hcp⟩ : ∃ cp, grownCap w s.size 0 5 = cp := ⟨_, rfl⟩
  rw [hcp] at hcv
  have HD := Lib.hid hd
  have hl : s.data.toList.length = s.size := rfl
  have HL := Lib.hid hl
  clear hW1 hcp hd hl
  go_enter Tryd.func20, Tryd.ntmps20
  go_wp2_with fail
  go_loopw [3, 9] (fun n i wr => ∃ k : Nat, i = .int .i64 k ∧ k ≤ s.size ∧ n = .int .i64 (accD s.data.toList 0 k : Nat) ∧ wr = W1) (fun _ i _ => s.size - (intOf i).toNat)
  case atStart => exact ⟨0, rfl, by omega, rfl, rfl⟩
  case round =>
    obtain ⟨k, rfl, hk, rfl, hwr⟩ := hrel
    obtain rfl : W1 = wr := hwr.symm
    by_cases hlt : k < s.size
    · have t1 : decide ((k : Int) < (s.size : Int)) = true := decide_eq_true (by omega)
      have i0 : (0 : Int) ≤ (k : Int) := by omega
      have i1 : (k : Int) < (s.size : Int) := by omega
      have i2 : ((k : Int)).toNat = k := by omega
      have hc := HC.out k hlt
      have hdk := (digsK_iff _ _ _).1 HD.out
      have hb := isD_yes (hdk k hlt)
      have ha := acc_9 s.data.toList 0 k ((digsK_iff _ _ _).2 fun j hj => hdk j (by omega))
      have hp := pow_9 (k := k) (by omega)
      have HS := Lib.hid (show accD s.data.toList 0 (k + 1) = accD s.data.toList 0 k * 10 + (byt s.data.toList (0 + k) - 48).toNat from rfl)
      rw [Nat.zero_add] at HS hb
      obtain ⟨b, hbb⟩ : ∃ b : Int, byt s.data.toList k = b := ⟨_, rfl⟩
      rw [hbb] at hc HS hb
      obtain ⟨a, haa⟩ : ∃ a : Nat, accD s.data.toList 0 k = a := ⟨_, rfl⟩
      rw [haa] at ha HS ⊢
      have ha2 : (a : Int) ≤ 1000000000 := by omega
      have x1 : IntKind.u8.wrap (b - 48) = b - 48 := IntWalk.u8_in _ (by omega)
      clear hbb haa hdk hp ha
      go_wp2_with fail
      go_roundw
      case rel => exact ⟨k + 1, by go_num, by omega, by rw [HS.out]; go_num, by trivial⟩
      case measure => simp [intOf]; omega
    · obtain rfl : k = s.size := by omega
      have t1 : decide ((s.size : Int) < (s.size : Int)) = false := decide_eq_false (by omega)
      clear hlt hk
      go_wp2_with fail
      go_ret
      exact ⟨rfl, HB.out⟩

end Go.Proofs.YtfedidiieacakaaDoor.St
namespace Go.Proofs.YtfedidiieacakaaDoor.St
open Go.RowKit
open Go.Proofs.YtfedidiieacakaaDoor.Utf
open Go.Proofs.YtfedidiieacakaaDoor.Nu

def dayN (y m d : Int) : Int := if isDay y m d then day0 y m d - 719528 else 0
def GivesD (n : Int) (b : Bool) (w : World) (e : Ending) (w' : World) : Prop := e = .returned (.tuple #[.int .i64 n, .bool b]) ∧ w = w'
theorem dayN_yes {y m d : Int} (h : isDay y m d) : dayN y m d = day0 y m d - 719528 := if_pos h
theorem dayN_no {y m d : Int} (h : ¬ isDay y m d) : dayN y m d = 0 := if_neg h
theorem msum_bd (y : Int) (k : Nat) (h : k ≤ 12) : 0 ≤ msum y k ∧ msum y k ≤ 366 := by
  have a := msum_0 y k
  have b := msum_le y k (12 - k)
  rw [show k + (12 - k) = 12 by omega, msum_year] at b
  have := mlen_bd y 2
  have c : mlen y 2 ≤ 29 := by unfold mlen; rw [if_pos rfl]; split <;> omega
  omega

set_option maxRecDepth 100000 in
set_option maxHeartbeats 1000000 in
theorem Days_any (y m d : Int) (w : World) (T : Tab w) : Calls Tryd.prog 13 #[.int .i64 y, .int .i64 m, .int .i64 d] w (GivesD (dayN y m d) (decide (isDay y m d)) w) := by
  by_cases c1 : y < 0
  · have hd : ¬ isDay y m d := fun h => by have := h.1; omega
    rw [dayN_no hd, decide_eq_false hd]
    have t1 : decide (y < 0) = true := decide_eq_true c1
    clear hd c1
    go_enter Tryd.func13, Tryd.ntmps13
    go_wp2_with fail
    go_ret2
    exact ⟨rfl, rfl⟩
  have t1 : decide (y < 0) = false := decide_eq_false c1
  by_cases c2 : 9999 < y
  · have hd : ¬ isDay y m d := fun h => by have := h.2.1; omega
    rw [dayN_no hd, decide_eq_false hd]
    have t2 : decide (9999 < y) = true := decide_eq_true c2
    clear hd c1 c2
    go_enter Tryd.func13, Tryd.ntmps13
    go_wp2_with fail
    go_ret2
    exact ⟨rfl, rfl⟩
  have t2 : decide (9999 < y) = false := decide_eq_false c2
  by_cases c3 : m < 1
  · have hd : ¬ isDay y m d := fun h => by have := h.2.2.1; omega
    rw [dayN_no hd, decide_eq_false hd]
    have t3 : decide (m < 1) = true := decide_eq_true c3
    clear hd c1 c2 c3
    go_enter Tryd.func13, Tryd.ntmps13
    go_wp2_with fail
    go_ret2
    exact ⟨rfl, rfl⟩
  have t3 : decide (m < 1) = false := decide_eq_false c3
  by_cases c4 : 12 < m
  · have hd : ¬ isDay y m d := fun h => by have := h.2.2.2.1; omega
    rw [dayN_no hd, decide_eq_false hd]
    have t4 : decide (12 < m) = true := decide_eq_true c4
    clear hd c1 c2 c3 c4
    go_enter Tryd.func13, Tryd.ntmps13
    go_wp2_with fail
    go_ret2
    exact ⟨rfl, rfl⟩
  have t4 : decide (12 < m) = false := decide_eq_false c4
  by_cases c5 : d < 1
  · have hd : ¬ isDay y m d := fun h => by have := h.2.2.2.2.1; omega
    rw [dayN_no hd, decide_eq_false hd]
    have t5 : decide (d < 1) = true := decide_eq_true c5
    clear hd c1 c2 c3 c4 c5
    go_enter Tryd.func13, Tryd.ntmps13
    go_wp2_with fail
    go_ret2
    exact ⟨rfl, rfl⟩
  have t5 : decide (d < 1) = false := decide_eq_false c5
  have C := Lib.hid (fun wx (h : Tab wx) => daysOf_any y m wx h (by omega) (by omega) (by omega))
  by_cases c6 : mlen y m < d
  · have hd : ¬ isDay y m d := fun h => by have := h.2.2.2.2.2; omega
    rw [dayN_no hd, decide_eq_false hd]
    have t6 : decide (mlen y m < d) = true := decide_eq_true c6
    generalize mlen y m = L at *
    clear hd c1 c2 c3 c4 c5 c6
    go_enter Tryd.func13, Tryd.ntmps13
    go_wp2_with fail
    refine (C.out _ T).mono ?_
    rintro e w' ⟨rfl, rfl⟩
    go_wp2_with fail
    go_ret2
    exact ⟨rfl, rfl⟩
  have t6 : decide (mlen y m < d) = false := decide_eq_false c6
  have hd : isDay y m d := ⟨by omega, by omega, by omega, by omega, by omega, by omega⟩
  have hm31 := (mlen_bd y m).2
  have hdb : 1 ≤ d ∧ d ≤ 31 := by omega
  have hmb : 1 ≤ m ∧ m ≤ 12 := by omega
  have hA := ahead_bd (y := y) (by omega) (by omega)
  have y0 : 0 ≤ y := by omega
  have CA := Lib.hid (fun wx => daysAhead_any y wx y0 (by omega))
  rw [dayN_yes hd, decide_eq_true hd]
  have HD := Lib.hid (show day0 y m d = ahead y + msum y (m - 1).toNat + d - 1 from rfl)
  obtain ⟨A, hAA⟩ : ∃ A, ahead y = A := ⟨_, rfl⟩
  rw [hAA] at CA hA HD
  obtain ⟨L, hL⟩ : ∃ L, mlen y m = L := ⟨_, rfl⟩
  rw [hL] at C t6
  clear hd c1 c2 c3 c4 c5 c6 hm31 hL hAA
  go_enter Tryd.func13, Tryd.ntmps13
  go_wp2_with fail
  refine (C.out _ T).mono ?_
  rintro e w' ⟨rfl, rfl⟩
  go_wp2_with fail
  refine (CA.out _).mono ?_
  rintro e w' ⟨rfl, rfl⟩
  go_wp2_with fail
  go_loopw [8, 9] (fun s i wr => ∃ k : Nat, i = .int .i64 (k + 1) ∧ (k : Int) + 1 ≤ m ∧ s = .int .i64 (A + d - 1 + msum y k) ∧ wr = w) (fun _ i _ => (m - intOf i).toNat)
  case atStart => exact ⟨0, rfl, by omega, by rw [msum]; go_num, rfl⟩
  case round =>
    obtain ⟨k, rfl, hk, rfl, rfl⟩ := hrel
    have hS := msum_bd y k (by omega)
    by_cases hlt : (k : Int) + 1 < m
    · have t7 : decide ((k : Int) + 1 < m) = true := decide_eq_true hlt
      have CK := Lib.hid (fun wx (h : Tab wx) => daysOf_any y (k + 1) wx h y0 (by omega) (by omega))
      have hL2 := mlen_bd y (k + 1)
      have HN := Lib.hid (show msum y (k + 1) = msum y k + mlen y (k + 1) from rfl)
      obtain ⟨S, hSS⟩ : ∃ S, msum y k = S := ⟨_, rfl⟩
      rw [hSS] at hS HN ⊢
      obtain ⟨L2, hLL⟩ : ∃ L2, mlen y (k + 1) = L2 := ⟨_, rfl⟩
      rw [hLL] at CK HN hL2
      clear hSS hLL
      go_wp2_with fail
      refine (CK.out _ T).mono ?_
      rintro e w' ⟨rfl, rfl⟩
      go_wp2_with fail
      go_roundw
      case rel => exact ⟨k + 1, by go_num, by omega, by rw [HN.out]; go_num, by trivial⟩
      case measure => simp [intOf]; omega
    · have t7 : decide ((k : Int) + 1 < m) = false := decide_eq_false hlt
      have hkm : (m - 1).toNat = k := by omega
      rw [hkm] at HD
      obtain ⟨S, hSS⟩ : ∃ S, msum y k = S := ⟨_, rfl⟩
      rw [hSS] at hS HD ⊢
      clear hSS hkm
      go_wp2_with fail
      go_ret2
      exact ⟨by rw [HD.out]; go_num, by trivial⟩

set_option maxRecDepth 100000 in
set_option maxHeartbeats 1000000 in
theorem dayOf_any (D : Int) (w : World) (T : Tab w) (h0 : 0 ≤ D) (h1 : D < 3652425) : Calls Tryd.prog 25 #[.int .i64 D] w fun e w' =>
    (∃ y m d, e = .returned (.tuple #[.int .i64 y, .int .i64 m, .int .i64 d]) ∧ isDay y m d ∧ day0 y m d = D) ∧ w = w' := by
  have HY := Lib.hid (YrI_0 h0 h1)
  have d1 := tdiv_pos (y := D * 400) (by omega) 146097
  have b1 : 0 ≤ D * 400 / 146097 ∧ D * 400 / 146097 ≤ 10000 := by omega
  obtain ⟨Y, hY⟩ : ∃ Y, D * 400 / 146097 = Y := ⟨_, rfl⟩
  rw [hY] at d1 b1 HY
  clear hY
  go_enter Tryd.func25, Tryd.ntmps25
  go_wp2_with fail
  go_loopw [5] (fun y wr => ∃ z : Int, y = .int .i64 z ∧ YrI D z ∧ wr = w) (fun y _ => (intOf y).toNat)
  case atStart => exact ⟨_, rfl, HY.out, rfl⟩
  case round =>
    obtain ⟨z, rfl, hI, hwr⟩ := hrel
    obtain rfl : w = wr := hwr.symm
    have hz0 : 0 ≤ z := hI.1
    have hz1 : z ≤ 10001 := hI.2.1
    have CA := Lib.hid (fun wx => daysAhead_any z wx hz0 hz1)
    by_cases hg : D < ahead z
    · have t1 : decide (D < ahead z) = true := decide_eq_true hg
      have HN := Lib.hid (YrI_next h0 hI hg)
      have hz2 : 0 ≤ z - 1 := HN.out.1
      obtain ⟨A, hA⟩ : ∃ A, ahead z = A := ⟨_, rfl⟩
      rw [hA] at CA t1
      clear hg hI hA HY
      go_wp2_with fail
      refine (CA.out _).mono ?_
      rintro e w' ⟨rfl, rfl⟩
      go_wp2_with fail
      go_roundw
      case rel => exact ⟨z - 1, by go_num, HN.out, by trivial⟩
      case measure => simp [intOf]; omega
    · have t1 : decide (D < ahead z) = false := decide_eq_false hg
      have hz9 := YrI_end h1 hI (by omega)
      have hlast : D < ahead (z + 1) := hI.2.2
      have hb := ahead_bd (y := z) (by omega) (by omega)
      have HM := Lib.hid (MoI_0 (y := z) (D := D) (by omega))
      have HL := Lib.hid hlast
      have r0 : 0 ≤ D - ahead z ∧ D - ahead z ≤ 3652425 := by omega
      obtain ⟨A, hA⟩ : ∃ A, ahead z = A := ⟨_, rfl⟩
      rw [hA] at CA t1 HM r0 hb
      clear hg hI hlast hA HY
      go_wp2_with fail
      refine (CA.out _).mono ?_
      rintro e w' ⟨rfl, rfl⟩
      go_wp2_with fail
      refine (CA.out _).mono ?_
      rintro e w' ⟨rfl, rfl⟩
      go_wp2_with fail
      go_loopw [0, 6] (fun r i wr => ∃ (k : Nat) (R : Int), i = .int .i64 (k + 1) ∧ r = .int .i64 R ∧ MoI D z k R ∧ R ≤ 3652425 ∧ wr = w) (fun _ i _ => (13 - intOf i).toNat)
      case atStart => exact ⟨0, _, rfl, rfl, HM.out, by omega, by trivial⟩
      case round =>
        obtain ⟨k, R, rfl, rfl, hI, hR, rfl⟩ := hrel
        have hR0 : 0 ≤ R := hI.1
        have hk : k < 12 := hI.2.1
        have CK := Lib.hid (fun wx (h : Tab wx) => daysOf_any z (k + 1) wx h hz0 (by omega) (by omega))
        have hL2 := mlen_bd z (k + 1)
        by_cases hge : mlen z (k + 1) ≤ R
        · have t2 : decide (mlen z (k + 1) ≤ R) = true := decide_eq_true hge
          have HN := Lib.hid (MoI_next HL.out hI hge)
          have hk2 : k + 1 < 12 := HN.out.2.1
          obtain ⟨L2, hLL⟩ : ∃ L2, mlen z (k + 1) = L2 := ⟨_, rfl⟩
          rw [hLL] at CK HN hL2 t2 hge
          clear hLL hI
          go_wp2_with fail
          refine (CK.out _ T).mono ?_
          rintro e w' ⟨rfl, rfl⟩
          go_wp2_with fail
          refine (CK.out _ T).mono ?_
          rintro e w' ⟨rfl, rfl⟩
          go_wp2_with fail
          go_roundw
          case rel => exact ⟨k + 1, R - L2, by go_num, by go_num, HN.out, by omega, by trivial⟩
          case measure => simp [intOf]; omega
        · have t2 : decide (mlen z (k + 1) ≤ R) = false := decide_eq_false hge
          have HE := Lib.hid (MoI_end hz9.1 hz9.2 hI (by omega))
          have hR2 : R ≤ 31 := by omega
          obtain ⟨L2, hLL⟩ : ∃ L2, mlen z (k + 1) = L2 := ⟨_, rfl⟩
          rw [hLL] at CK hL2 t2 hge
          clear hLL hI
          go_wp2_with fail
          refine (CK.out _ T).mono ?_
          rintro e w' ⟨rfl, rfl⟩
          go_wp2_with fail
          go_ret3
          exact ⟨⟨_, _, _, rfl, HE.out⟩, by trivial⟩
end Go.Proofs.YtfedidiieacakaaDoor.St
