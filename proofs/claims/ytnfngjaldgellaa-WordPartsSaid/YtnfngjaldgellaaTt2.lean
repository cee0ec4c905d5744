/- Merged: WoA WoB WoC WoD WoE WoAw WoW4. -/
import Derived.Test.YtnfngjaldgellaaProg
import Derived.Test.YtnfngjaldgellaaTt0
import Derived.Test.YtnfngjaldgellaaTt1
import Derived.WalkKit
import Derived.Deep.QuietTactic
import Derived.BigQuiet
import Derived.WalkLawsBesides
import Derived.WalkSpells
import Derived.Lib.Hide
import Derived.IntWalk
import Derived.Shelf.Abstract
import Derived.Deep.LoopGhost
namespace Go.Proofs.Ytnfngjaldgellaa.Wo
open Go.Proofs Go.RowKit
open Go.Proofs.Ytnfngjaldgellaa.Utf
open Go.Proofs.Ytnfngjaldgellaa.Nu

set_option maxRecDepth 100000 in
set_option maxHeartbeats 1000000 in
theorem isLetter_any (b : Int) (w : World) : Calls Try.prog 23 #[.int .u8 b] w fun e w' => e = .returned (.bool (ltr b)) ∧ w = w' := by
  go_enter Try.func23, Try.ntmps23
  go_wp2
  all_goals
    go_ret
    exact ⟨ret_bool (by rw [Bool.eq_iff_iff]; simp [ltr]; omega), rfl⟩
set_option maxRecDepth 100000 in
set_option maxHeartbeats 1000000 in
theorem rdigit_any (b : Int) (w : World) : Calls Try.prog 27 #[.int .u8 b] w fun e w' => e = .returned (.bool (isD b)) ∧ w = w' := by
  go_enter Try.func27, Try.ntmps27
  go_wp2
  all_goals
    go_ret
    exact ⟨ret_bool (by rw [Bool.eq_iff_iff]; simp [isD]; omega), rfl⟩
set_option maxRecDepth 100000 in
set_option maxHeartbeats 1000000 in
theorem isAlnum_any (b : Int) (w : World) : Calls Try.prog 25 #[.int .u8 b] w fun e w' => e = .returned (.bool (alB b)) ∧ w = w' := by
  unfold alB
  have HC := Lib.hid (isLetter_any b)
  generalize ltr b = x at *
  cases x
  all_goals
    go_enter Try.func25, Try.ntmps25
    go_wp2_with (go_at_call 23; refine (HC.out _).mono ?_; rintro e w' ⟨rfl, rfl⟩)
    all_goals
      go_ret
      exact ⟨ret_bool (by rw [Bool.eq_iff_iff]; simp [isD]; try omega), rfl⟩

set_option maxRecDepth 100000 in
set_option maxHeartbeats 1000000 in
theorem litIdx_any (s : ByteArray) (c : Int) (w : World) : Calls Try.prog 35 #[.string s, .int .u8 c] w fun e w' => e = .returned (.int .i64 (Lib.indexByte s.data.toList c.toNat.toUInt8)) ∧ w = w' := by
  go_enter Try.func35, Try.ntmps35
  go_wp2
  rw [run_callFunc_extern Try.func39 (by kernel_rfl) (by kernel_rfl) (by kernel_rfl) (e := Extern.BytealgIndexByte.indexByte) (by kernel_rfl), Lib.run_indexByteString]
  simp only [Result.andThen]
  rw [Oper.upon_value]
  go_wp2
  go_ret
  exact ⟨rfl, rfl⟩
set_option maxRecDepth 100000 in
set_option maxHeartbeats 1000000 in
theorem idxByte_any (s : ByteArray) (c : Int) (w : World) : Calls Try.prog 33 #[.string s, .int .u8 c] w fun e w' => e = .returned (.int .i64 (Lib.indexByte s.data.toList c.toNat.toUInt8)) ∧ w = w' := by
  go_enter Try.func33, Try.ntmps33
  go_wp2_with (go_at_call 35; refine (litIdx_any _ _ _).mono ?_; rintro e w' ⟨rfl, rfl⟩)
  go_ret
  exact ⟨rfl, rfl⟩
set_option maxRecDepth 100000 in
set_option maxHeartbeats 1000000 in
theorem litIndex_any (s : ByteArray) (c : UInt8) (w : World) : Calls Try.prog 34 #[.string s, .string ⟨#[c]⟩] w fun e w' => e = .returned (.int .i64 (Lib.indexByte s.data.toList c)) ∧ w = w' := by
  have hcc : ((c.toNat : Int)).toNat.toUInt8 = c := by simp
  have HC := Lib.hid (fun W => hcc ▸ litIdx_any s (c.toNat : Int) W)
  clear hcc
  by_cases hs : ([c] == s.toList) = true
  · have he : s.data.toList = [c] := by rw [← ByteArray.toList_eq]; exact (beq_iff_eq.1 hs).symm
    have HE := Lib.hid he
    clear he
    go_enter Try.func34, Try.ntmps34
    go_wp2_with fail
    go_ret
    exact ⟨by rw [HE.out]; simp [Lib.indexByte], rfl⟩
  · have hs' : ([c] == s.toList) = false := by simpa using hs
    clear hs
    go_enter Try.func34, Try.ntmps34
    go_wp2_with (go_at_call 35; refine (HC.out _).mono ?_; rintro e w' ⟨rfl, rfl⟩)
    go_ret
    exact ⟨rfl, rfl⟩
end Go.Proofs.Ytnfngjaldgellaa.Wo
namespace Go.Proofs.Ytnfngjaldgellaa.Wo
open Go.Proofs Go.RowKit
open Go.Proofs.Ytnfngjaldgellaa.Utf
open Go.Proofs.Ytnfngjaldgellaa.Nu

theorem drwN {B : Nat} {a w : World} (h : Below B a w) (n : Nat) : Below B a (w.drewN n) := ⟨h.os, h.tape, h.output, h.size, h.block⟩
theorem ext_take (s : ByteArray) (n : Nat) : s.extract 0 n = strOf (s.data.toList.take n) := by
  apply ByteArray.ext
  rw [ByteArray.data_extract]
  apply Array.toList_inj.1
  simp [strOf]
theorem ext_drop (s : ByteArray) (n : Nat) : s.extract n s.size = strOf (s.data.toList.drop n) := by
  apply ByteArray.ext
  rw [ByteArray.data_extract]
  apply Array.toList_inj.1
  simp only [Array.toList_extract, List.extract, strOf]
  exact List.take_of_length_le (by rw [List.length_drop, len_data]; exact Nat.le_refl _)

set_option maxRecDepth 100000 in
set_option maxHeartbeats 1000000 in
theorem litCut_q (s : ByteArray) (c : UInt8) (w : World) (hs : s.size ≤ 9223372036854775807) : Calls Try.prog 31 #[.string s, .string ⟨#[c]⟩] w fun e w' =>
    e = .returned (.tuple #[.string (strOf (hdP c s.data.toList)), .string (strOf (tlP c s.data.toList)), .bool (decide (c ∈ s.data.toList))]) ∧ ∃ m, w' = w.drewN m := by
  have HC := Lib.hid (fun W => litIndex_any s c W)
  rcases idx_cases c s.data.toList with ⟨h1, h2⟩ | ⟨i, h1, h2, h3, h4, h5⟩
  · rw [h1] at HC
    rw [hd_all h2, tl_all h2, decide_eq_false h2]
    clear h1 h2
    go_enter Try.func31, Try.ntmps31
    go_wp2_with (go_at_call 34; refine (HC.out _).mono ?_; rintro e w' ⟨rfl, rfl⟩)
    go_ret3
    exact ⟨by rfl, 0, rfl⟩
  · rw [h1] at HC
    rw [len_data] at h3
    have HH := Lib.hid (ext_take s i)
    have HT := Lib.hid (ext_drop s (i + 1))
    rw [h4, h5, decide_eq_true h2]
    have k0 : (0 : Int) ≤ (i : Int) := by omega
    have k1 : (i : Int) ≤ (s.size : Int) := by omega
    have k2 : ((i : Int)).toNat = i := by omega
    have k3 : (0 : Int) ≤ (i : Int) + 1 := by omega
    have k4 : (i : Int) + 1 ≤ (s.size : Int) := by omega
    have k5 : ((i : Int) + 1).toNat = i + 1 := by omega
    have t1 : decide ((i : Int) ≥ 0) = true := decide_eq_true k0
    clear h1 h2 h4 h5
    go_enter Try.func31, Try.ntmps31
    go_wp2_with (first | (go_at_call 34; refine (HC.out _).mono ?_; rintro e w' ⟨rfl, rfl⟩) | (go_quiet (fail)))
    go_ret3
    exact ⟨by rw [HH.out, HT.out]; rfl, _, rfl⟩
set_option maxRecDepth 100000 in
set_option maxHeartbeats 1000000 in
theorem Cut_q (s : ByteArray) (c : UInt8) (w : World) (hs : s.size ≤ 9223372036854775807) : Calls Try.prog 20 #[.string s, .string ⟨#[c]⟩] w fun e w' =>
    e = .returned (.tuple #[.string (strOf (hdP c s.data.toList)), .string (strOf (tlP c s.data.toList)), .bool (decide (c ∈ s.data.toList))]) ∧ ∃ m, w' = w.drewN m := by
  have HC := Lib.hid (fun W => litCut_q s c W hs)
  generalize decide (c ∈ s.data.toList) = f at *
  generalize strOf (hdP c s.data.toList) = A at *
  generalize strOf (tlP c s.data.toList) = B at *
  go_enter Try.func20, Try.ntmps20
  go_wp2_with fail
  refine (HC.out _).mono ?_
  rintro e w1 ⟨rfl, m, rfl⟩
  go_wp2_with fail
  go_ret3
  exact ⟨by rfl, m, rfl⟩
theorem Cut_any (s : ByteArray) (c : UInt8) (w : World) (hs : s.size ≤ 9223372036854775807) : Calls Try.prog 20 #[.string s, .string ⟨#[c]⟩] w fun e w' =>
    e = .returned (.tuple #[.string (strOf (hdP c s.data.toList)), .string (strOf (tlP c s.data.toList)), .bool (decide (c ∈ s.data.toList))]) ∧ Below w.heap.size w w' :=
  (Cut_q s c w hs).mono fun e w' ⟨h1, m, h2⟩ => ⟨h1, by rw [h2]; exact drwN (Below.refl _ _) _⟩

theorem nm_bytes {b : Int} (h0 : 0 ≤ b) (h1 : b ≤ 255) : decide (0 ≤ Lib.indexByte [33, 35, 36, 38, 45, 94, 95, 46, 43] b.toNat.toUInt8) = decide (b = 33 ∨ b = 35 ∨ b = 36 ∨ b = 38 ∨ b = 45 ∨ b = 94 ∨ b = 95 ∨ b = 46 ∨ b = 43) := by
  obtain ⟨n, rfl⟩ := Int.eq_ofNat_of_zero_le h0
  have hn : n < 256 := by omega
  rw [idx_mem]
  refine decide_eq_decide.2 ?_
  simp only [Int.toNat_natCast, List.mem_cons, List.not_mem_nil, or_false, ← UInt8.toNat_inj]
  have e : n.toUInt8.toNat = n := by simp [Nat.mod_eq_of_lt hn]
  rw [e]
  simp only [show (33 : UInt8).toNat = 33 from rfl, show (35 : UInt8).toNat = 35 from rfl, show (36 : UInt8).toNat = 36 from rfl, show (38 : UInt8).toNat = 38 from rfl, show (45 : UInt8).toNat = 45 from rfl, show (94 : UInt8).toNat = 94 from rfl, show (95 : UInt8).toNat = 95 from rfl, show (46 : UInt8).toNat = 46 from rfl, show (43 : UInt8).toNat = 43 from rfl]
  omega
theorem sch_bytes {b : Int} (h0 : 0 ≤ b) (h1 : b ≤ 255) : decide (0 ≤ Lib.indexByte [43, 45, 46] b.toNat.toUInt8) = decide (b = 43 ∨ b = 45 ∨ b = 46) := by
  obtain ⟨n, rfl⟩ := Int.eq_ofNat_of_zero_le h0
  have hn : n < 256 := by omega
  rw [idx_mem]
  refine decide_eq_decide.2 ?_
  simp only [Int.toNat_natCast, List.mem_cons, List.not_mem_nil, or_false, ← UInt8.toNat_inj]
  have e : n.toUInt8.toNat = n := by simp [Nat.mod_eq_of_lt hn]
  rw [e]
  simp only [show (45 : UInt8).toNat = 45 from rfl, show (46 : UInt8).toNat = 46 from rfl, show (43 : UInt8).toNat = 43 from rfl]
  omega
theorem uri_bytes {b : Int} (h0 : 0 ≤ b) (h1 : b ≤ 255) : decide (0 ≤ Lib.indexByte [34, 60, 62, 92, 94, 96, 123, 124, 125] b.toNat.toUInt8) = decide (b = 34 ∨ b = 60 ∨ b = 62 ∨ b = 92 ∨ b = 94 ∨ b = 96 ∨ b = 123 ∨ b = 124 ∨ b = 125) := by
  obtain ⟨n, rfl⟩ := Int.eq_ofNat_of_zero_le h0
  have hn : n < 256 := by omega
  rw [idx_mem]
  refine decide_eq_decide.2 ?_
  simp only [Int.toNat_natCast, List.mem_cons, List.not_mem_nil, or_false, ← UInt8.toNat_inj]
  have e : n.toUInt8.toNat = n := by simp [Nat.mod_eq_of_lt hn]
  rw [e]
  simp only [show (34 : UInt8).toNat = 34 from rfl, show (60 : UInt8).toNat = 60 from rfl, show (62 : UInt8).toNat = 62 from rfl, show (92 : UInt8).toNat = 92 from rfl, show (94 : UInt8).toNat = 94 from rfl, show (96 : UInt8).toNat = 96 from rfl, show (123 : UInt8).toNat = 123 from rfl, show (124 : UInt8).toNat = 124 from rfl, show (125 : UInt8).toNat = 125 from rfl]
  omega

set_option maxRecDepth 100000 in
set_option maxHeartbeats 1000000 in
theorem isNameByte_any (b : Int) (w : World) (h0 : 0 ≤ b) (h1 : b ≤ 255) : Calls Try.prog 32 #[.int .u8 b] w fun e w' => e = .returned (.bool (nmB b)) ∧ w = w' := by
  have HC := Lib.hid (isAlnum_any b)
  have HD := Lib.hid (fun W => idxByte_any ⟨#[33, 35, 36, 38, 45, 94, 95, 46, 43]⟩ b W)
  have HB := Lib.hid (show nmB b = (alB b || decide (0 ≤ Lib.indexByte [33, 35, 36, 38, 45, 94, 95, 46, 43] b.toNat.toUInt8)) by rw [nm_bytes h0 h1]; rfl)
  rw [HB.out]
  generalize alB b = x at *
  have HE := Lib.hid (show (⟨#[33, 35, 36, 38, 45, 94, 95, 46, 43]⟩ : ByteArray).data.toList = [33, 35, 36, 38, 45, 94, 95, 46, 43] from rfl)
  rw [HE.out] at HD
  generalize Lib.indexByte [33, 35, 36, 38, 45, 94, 95, 46, 43] b.toNat.toUInt8 = y at *
  cases x
  all_goals
    go_enter Try.func32, Try.ntmps32
    go_wp2_with (first | (go_at_call 25; refine (HC.out _).mono ?_; rintro e w' ⟨rfl, rfl⟩) | (go_at_call 33; refine (HD.out _).mono ?_; rintro e w' ⟨rfl, rfl⟩))
    all_goals
      go_ret
      exact ⟨ret_bool (by simp), rfl⟩
set_option maxRecDepth 100000 in
set_option maxHeartbeats 1000000 in
theorem isSchemeByte_any (b : Int) (w : World) (h0 : 0 ≤ b) (h1 : b ≤ 255) : Calls Try.prog 28 #[.int .u8 b] w fun e w' => e = .returned (.bool (schB b)) ∧ w = w' := by
  have HC := Lib.hid (isAlnum_any b)
  have HD := Lib.hid (fun W => idxByte_any ⟨#[43, 45, 46]⟩ b W)
  have HB := Lib.hid (show schB b = (alB b || decide (0 ≤ Lib.indexByte [43, 45, 46] b.toNat.toUInt8)) by rw [sch_bytes h0 h1]; rfl)
  rw [HB.out]
  generalize alB b = x at *
  have HE := Lib.hid (show (⟨#[43, 45, 46]⟩ : ByteArray).data.toList = [43, 45, 46] from rfl)
  rw [HE.out] at HD
  generalize Lib.indexByte [43, 45, 46] b.toNat.toUInt8 = y at *
  cases x
  all_goals
    go_enter Try.func28, Try.ntmps28
    go_wp2_with (first | (go_at_call 25; refine (HC.out _).mono ?_; rintro e w' ⟨rfl, rfl⟩) | (go_at_call 33; refine (HD.out _).mono ?_; rintro e w' ⟨rfl, rfl⟩))
    all_goals
      go_ret
      exact ⟨ret_bool (by simp), rfl⟩
set_option maxRecDepth 100000 in
set_option maxHeartbeats 1000000 in
theorem isUriByte_any (b : Int) (w : World) (h0 : 0 ≤ b) (h1 : b ≤ 255) : Calls Try.prog 29 #[.int .u8 b] w fun e w' => e = .returned (.bool (uriB b)) ∧ w = w' := by
  have HD := Lib.hid (fun W => idxByte_any ⟨#[34, 60, 62, 92, 94, 96, 123, 124, 125]⟩ b W)
  have HB := Lib.hid (show uriB b = (decide (33 ≤ b ∧ b ≤ 126) && !decide (0 ≤ Lib.indexByte [34, 60, 62, 92, 94, 96, 123, 124, 125] b.toNat.toUInt8)) by rw [uri_bytes h0 h1]; rfl)
  rw [HB.out]
  have HE := Lib.hid (show (⟨#[34, 60, 62, 92, 94, 96, 123, 124, 125]⟩ : ByteArray).data.toList = [34, 60, 62, 92, 94, 96, 123, 124, 125] from rfl)
  rw [HE.out] at HD
  generalize Lib.indexByte [34, 60, 62, 92, 94, 96, 123, 124, 125] b.toNat.toUInt8 = y at *
  go_enter Try.func29, Try.ntmps29
  go_wp2_with (go_at_call 33; refine (HD.out _).mono ?_; rintro e w' ⟨rfl, rfl⟩)
  all_goals
    go_ret
    exact ⟨ret_bool (by rw [Bool.eq_iff_iff]; simp; try omega), rfl⟩
end Go.Proofs.Ytnfngjaldgellaa.Wo
namespace Go.Proofs.Ytnfngjaldgellaa.Wo
open Go.Proofs Go.RowKit
open Go.Proofs.Ytnfngjaldgellaa.Utf
open Go.Proofs.Ytnfngjaldgellaa.Nu

def FnB (n : FuncId) (f : Int → Bool) : Prop :=
  (∀ args w, (callFunc n args).run Try.prog w = .ok (.enter n args) w) ∧ ∀ (b : Int) (w : World), 0 ≤ b → b ≤ 255 → Calls Try.prog n #[.int .u8 b] w fun e w' => e = .returned (.bool (f b)) ∧ w = w'
theorem fn_letter : FnB 23 ltr := ⟨enters_of Try.func23 (by kernel_rfl) rfl, fun b w _ _ => isLetter_any b w⟩
theorem fn_alnum : FnB 25 alB := ⟨enters_of Try.func25 (by kernel_rfl) rfl, fun b w _ _ => isAlnum_any b w⟩
theorem fn_name : FnB 32 nmB := ⟨enters_of Try.func32 (by kernel_rfl) rfl, fun b w h0 h1 => isNameByte_any b w h0 h1⟩
theorem fn_scheme : FnB 28 schB := ⟨enters_of Try.func28 (by kernel_rfl) rfl, fun b w h0 h1 => isSchemeByte_any b w h0 h1⟩
theorem fn_uri : FnB 29 uriB := ⟨enters_of Try.func29 (by kernel_rfl) rfl, fun b w h0 h1 => isUriByte_any b w h0 h1⟩

section
variable {f g : Int → Bool} {l : List UInt8}
theorem hold_f (h0 : 0 < l.length) (h : f (byt l 0) = false) : holdS f g l = false := by
  cases l with
  | nil => rfl
  | cons x r =>
    show (f (x.toNat : Int) && _) = false
    rw [show (x.toNat : Int) = byt (x :: r) 0 from rfl, h]; rfl
theorem hold_g {k : Nat} (h0 : 1 ≤ k) (h1 : k < l.length) (h : g (byt l k) = false) : holdS f g l = false := by
  cases l with
  | nil => rfl
  | cons x r =>
    obtain ⟨j, rfl⟩ : ∃ j, k = j + 1 := ⟨k - 1, by omega⟩
    have hj : j < r.length := by simpa using h1
    rw [byt_in h1] at h
    show (_ && r.all fun y => g (y.toNat : Int)) = false
    rw [List.all_eq_false.2 ⟨r[j], List.getElem_mem hj, by rw [show ((x :: r)[j + 1]) = r[j] from rfl] at h; rw [h]; simp⟩, Bool.and_false]
theorem hold_yes (h0 : 0 < l.length) (h : f (byt l 0) = true) (h2 : ∀ j, 1 ≤ j → j < l.length → g (byt l j) = true) : holdS f g l = true := by
  cases l with
  | nil => exact absurd h0 (by simp)
  | cons x r =>
    show (f (x.toNat : Int) && r.all fun y => g (y.toNat : Int)) = true
    rw [show (x.toNat : Int) = byt (x :: r) 0 from rfl, h, Bool.true_and, List.all_eq_true]
    intro y hy
    obtain ⟨j, hj, rfl⟩ := List.getElem_of_mem hy
    have := h2 (j + 1) (by omega) (by simpa using hj)
    rwa [byt_in (by simpa using hj)] at this
end
theorem str_ne {s : ByteArray} (h : 0 < s.size) : (s.toList == []) = false := by
  rw [beq_eq_false_iff_ne, ByteArray.toList_eq]
  intro e
  have h2 := congrArg List.length e
  rw [len_data] at h2
  have h3 : s.size = 0 := h2
  omega
theorem str_nil {s : ByteArray} (h : s.size = 0) : (s.toList == []) = true := by
  rw [beq_iff_eq, ByteArray.toList_eq]
  exact List.eq_nil_of_length_eq_zero (by rw [len_data]; exact h)

set_option maxRecDepth 100000 in
set_option maxHeartbeats 1000000 in
theorem holds_any {n m : FuncId} {f g : Int → Bool} (hn : FnB n f) (hm : FnB m g) (s : ByteArray) (w : World) (hs : s.size ≤ 9223372036854775807) :
    Calls Try.prog 24 #[.string s, .func (.func n) #[] #[], .func (.func m) #[] #[]] w fun e w' => e = .returned (.bool (holdS f g s.data.toList)) ∧ w = w' := by
  have en := hn.1
  have em := hm.1
  have HN := Lib.hid hn.2
  have HM := Lib.hid hm.2
  clear hn hm
  by_cases h0 : s.size = 0
  · have t0 := str_nil h0
    have HE := Lib.hid (show holdS f g s.data.toList = false by
      rw [List.eq_nil_of_length_eq_zero (l := s.data.toList) (by rw [len_data]; exact h0)]; rfl)
    clear h0
    go_enter Try.func24, Try.ntmps24
    go_wp2_with fail
    go_ret
    exact ⟨by rw [HE.out]; rfl, rfl⟩
  · have hp : 0 < s.size := by omega
    have t0 := str_ne hp
    have k0 : (0 : Int) < (s.size : Int) := by omega
    have HG0 := Lib.hid (byt_get s 0 hp)
    have hc0 := HN.out (s[0].toNat : Int) w (by omega) (by have := s[0].toNat_lt; omega)
    clear h0
    cases hf : f (s[0].toNat : Int) with
    | false =>
      rw [hf] at hc0
      have HE := Lib.hid (hold_f (g := g) (l := s.data.toList) (by rw [len_data]; exact hp) (by rw [HG0.out]; exact hf))
      have HC0 := Lib.hid hc0
      clear hc0 hf
      go_enter Try.func24, Try.ntmps24
      go_wp2_with (go_at_fn n; refine HC0.out.mono ?_; rintro e w' ⟨rfl, rfl⟩)
      go_ret
      exact ⟨by rw [HE.out]; rfl, rfl⟩
    | true =>
      rw [hf] at hc0
      have HF := Lib.hid (show f (byt s.data.toList 0) = true by rw [HG0.out]; exact hf)
      have HC0 := Lib.hid hc0
      clear hc0 hf
      go_enter Try.func24, Try.ntmps24
      go_wp2_with (go_at_fn n; refine HC0.out.mono ?_; rintro e w' ⟨rfl, rfl⟩)
      go_loopw [7] (fun i wr => ∃ k : Nat, i = .int .i64 (k : Int) ∧ 1 ≤ k ∧ k ≤ s.size ∧ Aside (∀ j, 1 ≤ j → j < k → g (byt s.data.toList j) = true) ∧ Aside (w = wr)) (fun i _ => s.size - (intOf i).toNat)
      case atStart => exact ⟨1, rfl, by omega, by omega, (show ∀ _ _ _, _ from fun j h1 h2 => by omega), (show _ = _ from rfl)⟩
      case round =>
        obtain ⟨k, rfl, hk1, hk, hall, hw⟩ := hrel
        have HA := Lib.hid hall.out
        have HW := Lib.hid hw.out
        clear hall hw
        by_cases hlt : k < s.size
        · have t1 : decide ((k : Int) < (s.size : Int)) = true := decide_eq_true (by omega)
          have t2 : decide (k < s.size) = true := decide_eq_true hlt
          have k0' : (0 : Int) ≤ (k : Int) := by omega
          have k1 : (k : Int) < (s.size : Int) := by omega
          have k2 : ((k : Int)).toNat = k := by omega
          have HGk := Lib.hid (byt_get s k hlt)
          have hck := fun W => HM.out (s[k].toNat : Int) W (by omega) (by have := s[k].toNat_lt; omega)
          cases hg : g (s[k].toNat : Int) with
          | false =>
            rw [hg] at hck
            have HE := Lib.hid (hold_g (f := f) (l := s.data.toList) hk1 (by rw [len_data]; exact hlt) (by rw [HGk.out]; exact hg))
            have HCK := Lib.hid hck
            clear hck hg
            go_wp2_with (go_at_fn m; refine (HCK.out _).mono ?_; rintro e w' ⟨rfl, rfl⟩)
            go_ret
            exact ⟨by rw [HE.out]; rfl, HW.out⟩
          | true =>
            rw [hg] at hck
            have HA2 := Lib.hid (show ∀ j, 1 ≤ j → j < k + 1 → g (byt s.data.toList j) = true from fun j h1 h2 => by
              by_cases hjk : j = k
              · subst hjk; rw [HGk.out]; exact hg
              · exact HA.out j h1 (by omega))
            have HCK := Lib.hid hck
            clear hck hg
            go_wp2_with (go_at_fn m; refine (HCK.out _).mono ?_; rintro e w' ⟨rfl, rfl⟩)
            go_roundw
            case rel => exact ⟨k + 1, by go_num, by omega, by omega, HA2.out, HW.out⟩
            case measure => simp [intOf]; omega
        · have t1 : decide ((k : Int) < (s.size : Int)) = false := decide_eq_false (by omega)
          have t2 : decide (k < s.size) = false := decide_eq_false hlt
          have HE := Lib.hid (hold_yes (f := f) (g := g) (l := s.data.toList) (by rw [len_data]; exact hp) HF.out (fun j h1 h2 => HA.out j h1 (by rw [len_data] at h2; omega)))
          go_wp2_with fail
          go_ret
          exact ⟨by rw [HE.out]; rfl, HW.out⟩
end Go.Proofs.Ytnfngjaldgellaa.Wo
namespace Go.Proofs.Ytnfngjaldgellaa.Wo
open Go.Proofs Go.RowKit
open Go.Proofs.Ytnfngjaldgellaa.Utf
open Go.Proofs.Ytnfngjaldgellaa.Nu

def Tl (x : Bool) (w : World) (e : Ending) (w' : World) : Prop := e = .returned (.bool x) ∧ Below w.heap.size w w'

set_option maxRecDepth 100000 in
set_option maxHeartbeats 1000000 in
theorem isName_any (s : ByteArray) (w : World) (hs : s.size ≤ 9223372036854775807) : Calls Try.prog 21 #[.string s] w fun e w' => e = .returned (.bool (nmS s.data.toList)) ∧ w = w' := by
  have HC := Lib.hid (fun W => holds_any fn_alnum fn_name s W hs)
  have HE := Lib.hid (nm_eq s.data.toList)
  rw [← HE.out, len_data]
  generalize holdS alB nmB s.data.toList = x at *
  by_cases h : s.size ≤ 127
  · have t1 : decide ((s.size : Int) ≤ 127) = true := decide_eq_true (by omega)
    have t2 : decide (s.size ≤ 127) = true := decide_eq_true h
    rw [t2]
    go_enter Try.func21, Try.ntmps21
    go_wp2_with (go_at_call 24; refine (HC.out _).mono ?_; rintro e w' ⟨rfl, rfl⟩)
    go_ret
    exact ⟨rfl, rfl⟩
  · have t1 : decide ((s.size : Int) ≤ 127) = false := decide_eq_false (by omega)
    have t2 : decide (s.size ≤ 127) = false := decide_eq_false h
    rw [t2]
    go_enter Try.func21, Try.ntmps21
    go_wp2_with fail
    go_ret
    exact ⟨rfl, rfl⟩

theorem hd_size (c : UInt8) {s : ByteArray} (hs : s.size ≤ 9223372036854775807) : (strOf (hdP c s.data.toList)).size ≤ 9223372036854775807 := by
  have := hd_le c s.data.toList
  rw [len_data] at this
  rw [strOf_size]; omega
theorem tl_size (c : UInt8) {s : ByteArray} (hs : s.size ≤ 9223372036854775807) : (strOf (tlP c s.data.toList)).size ≤ 9223372036854775807 := by
  have := tl_le c s.data.toList
  rw [len_data] at this
  rw [strOf_size]; omega

set_option maxRecDepth 100000 in
set_option maxHeartbeats 1000000 in
theorem Media_q (s : ByteArray) (w : World) (hs : s.size ≤ 9223372036854775807) : Calls Try.prog 9 #[.string s] w fun e w' => e = .returned (.bool (mediaS s.data.toList)) ∧ ∃ m, w' = w.drewN m := by
  have HC := Lib.hid (fun W => Cut_q s 47 W hs)
  have HE := Lib.hid (media_eq s.data.toList)
  have HA := Lib.hid (fun W => isName_any (strOf (hdP 47 s.data.toList)) W (hd_size 47 hs))
  have HB := Lib.hid (fun W => isName_any (strOf (tlP 47 s.data.toList)) W (tl_size 47 hs))
  rw [strOf_data] at HA HB
  rw [← HE.out]
  generalize nmS (hdP 47 s.data.toList) = x at *
  generalize nmS (tlP 47 s.data.toList) = y at *
  generalize strOf (hdP 47 s.data.toList) = A at *
  generalize strOf (tlP 47 s.data.toList) = B at *
  generalize decide (47 ∈ s.data.toList) = f at *
  cases x
  all_goals
    go_enter Try.func9, Try.ntmps9
    go_wp2_with fail
    refine (HC.out _).mono ?_
    rintro e w1 ⟨rfl, m, rfl⟩
    go_wp2_with fail
    refine (HA.out _).mono ?_
    rintro e w2 ⟨rfl, rfl⟩
    go_wp2_with (go_at_call 21; refine (HB.out _).mono ?_; rintro e w' ⟨rfl, rfl⟩)
    go_ret
    exact ⟨rfl, m, rfl⟩

theorem Media_any (s : ByteArray) (w : World) (hs : s.size ≤ 9223372036854775807) : Calls Try.prog 9 #[.string s] w (Tl (mediaS s.data.toList) w) :=
  (Media_q s w hs).mono fun e w' ⟨h1, m, h2⟩ => ⟨h1, by rw [h2]; exact drwN (Below.refl _ _) _⟩

set_option maxRecDepth 100000 in
set_option maxHeartbeats 1000000 in
theorem Uri_any (s : ByteArray) (w : World) (hs : s.size ≤ 9223372036854775807) : Calls Try.prog 13 #[.string s] w (Tl (uriS s.data.toList) w) := by
  have HC := Lib.hid (fun W => Cut_any s 58 W hs)
  have HE := Lib.hid (uri_eq s.data.toList)
  have HA := Lib.hid (fun W => holds_any fn_letter fn_scheme (strOf (hdP 58 s.data.toList)) W (hd_size 58 hs))
  have HB := Lib.hid (fun W => holds_any fn_uri fn_uri (strOf (tlP 58 s.data.toList)) W (tl_size 58 hs))
  rw [strOf_data] at HA HB
  rw [← HE.out]
  generalize holdS ltr schB (hdP 58 s.data.toList) = x at *
  generalize holdS uriB uriB (tlP 58 s.data.toList) = y at *
  generalize strOf (hdP 58 s.data.toList) = A at *
  generalize strOf (tlP 58 s.data.toList) = B at *
  generalize decide (58 ∈ s.data.toList) = f at *
  unfold Tl
  cases x
  all_goals
    go_enter Try.func13, Try.ntmps13
    go_wp2_with fail
    refine (HC.out _).mono ?_
    rintro e w1 ⟨rfl, hb⟩
    have HBE := Lib.hid hb
    clear hb
    go_wp2_with fail
    refine (HA.out _).mono ?_
    rintro e w2 ⟨rfl, rfl⟩
    go_wp2_with (go_at_call 24; refine (HB.out _).mono ?_; rintro e w' ⟨rfl, rfl⟩)
    go_ret
    exact ⟨rfl, HBE.out⟩

theorem strOf_eq0 (l : List UInt8) : ((strOf l).toList != []) = decide (l ≠ []) := by
  rw [strOf_list, Bool.eq_iff_iff, bne_iff_ne, decide_eq_true_eq]
theorem strOf_em (l : List UInt8) : (strOf l).toList.isEmpty = !decide (l ≠ []) := by
  rw [strOf_list]
  cases l <;> rfl
theorem strOf_e0 (l : List UInt8) : decide ((strOf l).toList = []) = !decide (l ≠ []) := by
  rw [strOf_list, Bool.eq_iff_iff, Bool.not_eq_true', decide_eq_true_eq, decide_eq_false_iff_not]
  exact ⟨fun h h2 => h2 h, fun h => Decidable.not_not.1 h⟩
set_option maxRecDepth 100000 in
set_option maxHeartbeats 1000000 in
theorem Other_any (s : ByteArray) (w : World) (hs : s.size ≤ 9223372036854775807) : Calls Try.prog 15 #[.string s] w (Tl (othS s.data.toList) w) := by
  have HC := Lib.hid (fun W => Cut_any s 58 W hs)
  have HE := Lib.hid (oth_eq s.data.toList)
  have t1 := strOf_eq0 (hdP 58 s.data.toList)
  have t2 := strOf_eq0 (tlP 58 s.data.toList)
  have p1 := strOf_e0 (hdP 58 s.data.toList)
  have e1 := Lib.hid (strOf_em (hdP 58 s.data.toList))
  have e2 := Lib.hid (strOf_em (tlP 58 s.data.toList))
  rw [← HE.out]
  generalize decide (hdP 58 s.data.toList ≠ []) = x at *
  generalize decide (tlP 58 s.data.toList ≠ []) = y at *
  generalize strOf (hdP 58 s.data.toList) = A at *
  generalize strOf (tlP 58 s.data.toList) = B at *
  generalize decide (58 ∈ s.data.toList) = f at *
  unfold Tl
  cases x with
  | false =>
    have q1 : A.toList = [] := of_decide_eq_true p1
    clear p1
    go_enter Try.func15, Try.ntmps15
    go_wp2_with fail
    refine (HC.out _).mono ?_
    rintro e w1 ⟨rfl, hb⟩
    have HBE := Lib.hid hb
    clear hb
    go_wp2_with fail
    go_ret
    exact ⟨rfl, HBE.out⟩
  | true =>
    have q1 : ¬ A.toList = [] := of_decide_eq_false p1
    clear p1
    go_enter Try.func15, Try.ntmps15
    go_wp2_with fail
    refine (HC.out _).mono ?_
    rintro e w1 ⟨rfl, hb⟩
    have HBE := Lib.hid hb
    clear hb
    go_wp2_with fail
    go_ret
    exact ⟨ret_bool (by rw [e1.out, e2.out]; simp), HBE.out⟩
end Go.Proofs.Ytnfngjaldgellaa.Wo
namespace Go.Proofs.Ytnfngjaldgellaa.Wo
open Go.Proofs Go.RowKit
open Go.Proofs.Ytnfngjaldgellaa.Utf
open Go.Proofs.Ytnfngjaldgellaa.Nu

def szOf : Value → Nat | .string s => s.size | _ => 0
def one1 : Value → Nat | .bool true => 1 | _ => 0
theorem lan_bad {first : Bool} {l : List UInt8} (h : tgS first (hdP 45 l) = false) : lanS first l = false := by
  by_cases hm : (45 : UInt8) ∈ l
  · rw [lan_cut hm, h]; rfl
  · rw [lan_no hm, ← hd_all hm, h]
theorem lan_good {first : Bool} {l : List UInt8} (h : tgS first (hdP 45 l) = true) :
    (decide ((45 : UInt8) ∈ l) = true ∧ lanS first l = lanS false (tlP 45 l)) ∨ (decide ((45 : UInt8) ∈ l) = false ∧ lanS first l = true) := by
  by_cases hm : (45 : UInt8) ∈ l
  · exact .inl ⟨decide_eq_true hm, by rw [lan_cut hm, h]; rfl⟩
  · exact .inr ⟨decide_eq_false hm, by rw [lan_no hm, ← hd_all hm, h]⟩
theorem tl_less (c : UInt8) (l : List UInt8) : (tlP c l).length + one1 (.bool (decide (c ∈ l))) < l.length + 1 := by
  by_cases hm : c ∈ l
  · have := cut_len hm
    rw [decide_eq_true hm]
    show _ + 1 < _
    omega
  · rw [tl_all hm, decide_eq_false hm]
    show 0 + 0 < _
    omega

set_option maxRecDepth 100000 in
set_option maxHeartbeats 1000000 in
theorem Lang_any (s : ByteArray) (w : World) (hs : s.size ≤ 9223372036854775807) : Calls Try.prog 11 #[.string s] w (Tl (langS s.data.toList) w) := by
  have HLAN := Lib.hid (show langS s.data.toList = lanS true s.data.toList from rfl)
  rw [HLAN.out]
  obtain ⟨L, hL⟩ : ∃ L, s.data.toList = L := ⟨_, rfl⟩
  have HN := Lib.hid (show L.length ≤ 9223372036854775807 by rw [← hL, len_data]; exact hs)
  obtain rfl : s = strOf L := by rw [← hL]; rfl
  clear hL hs HLAN
  rw [strOf_data]
  unfold Tl
  go_enter Try.func11, Try.ntmps11
  go_wp2_with fail
  go_loopw [0, 3, 4, 5] (fun sv lv fv mv wr => ∃ (r : List UInt8) (fst : Bool) (more : Bool), sv = .string (strOf r) ∧ ((fst = true ∧ lv = .int .i64 2 ∧ fv = .func (.func 23) #[] #[]) ∨ (fst = false ∧ lv = .int .i64 1 ∧ fv = .func (.func 25) #[] #[])) ∧ mv = .bool more ∧ r.length ≤ L.length ∧ Aside ((more = true ∧ lanS true L = lanS fst r) ∨ (more = false ∧ lanS true L = true)) ∧ Aside (Below w.heap.size w wr)) (fun sv _ _ mv _ => szOf sv + one1 mv)
  case atStart => exact ⟨L, true, true, rfl, .inl ⟨rfl, rfl, rfl⟩, rfl, Nat.le_refl _, (show _ ∨ _ from .inl ⟨rfl, rfl⟩), (show Below _ _ _ from Below.refl _ _)⟩
  case round =>
    obtain ⟨r, fst, more, rfl, hf, rfl, hr, hst, hbel⟩ := hrel
    have HST := Lib.hid hst.out
    have HBE := Lib.hid hbel.out
    clear hst hbel
    cases more with
    | false =>
      have HE := Lib.hid (show lanS true L = true by
        rcases HST.out with ⟨h, _⟩ | ⟨_, h⟩
        · cases h
        · exact h)
      rcases hf with ⟨rfl, rfl, rfl⟩ | ⟨rfl, rfl, rfl⟩
      all_goals
        go_wp2_with fail
        go_ret
        exact ⟨by rw [HE.out]; rfl, HBE.out⟩
    | true =>
      have HE := Lib.hid (show lanS true L = lanS fst r by
        rcases HST.out with ⟨_, h⟩ | ⟨h, _⟩
        · exact h
        · cases h)
      have hrs : (strOf r).size ≤ 9223372036854775807 := by have := HN.out; rw [strOf_size]; omega
      have HTL := Lib.hid (tl_le 45 r)
      have HLS := Lib.hid (tl_less 45 r)
      have HSZ := Lib.hid (strOf_size r)
      have HC := Lib.hid (fun W => Cut_any (strOf r) 45 W hrs)
      have hts := hd_size 45 hrs
      rw [strOf_data] at HC hts
      have hsz := strOf_size (hdP 45 r)
      rcases hf with ⟨rfl, rfl, rfl⟩ | ⟨rfl, rfl, rfl⟩
      · have HH := Lib.hid (fun W => holds_any fn_letter fn_letter (strOf (hdP 45 r)) W hts)
        have HTG := Lib.hid (show (decide (2 ≤ (hdP 45 r).length) && decide ((hdP 45 r).length ≤ 8) && holdS ltr ltr (hdP 45 r)) = tgS true (hdP 45 r) from tag1_eq _)
        have HBAD := Lib.hid (fun h => HE.out.trans (lan_bad (first := true) (l := r) h))
        have HGO := Lib.hid (fun h => lan_good (first := true) (l := r) h)
        rw [strOf_data] at HH
        clear hts hrs
        obtain ⟨q, hq⟩ : ∃ q, (hdP 45 r).length = q := ⟨_, rfl⟩
        rw [hq] at HTG hsz
        clear hq
        generalize holdS ltr ltr (hdP 45 r) = x at *
        generalize tgS true (hdP 45 r) = y at *
        generalize strOf (hdP 45 r) = A at *
        obtain ⟨B, hB⟩ : ∃ B, strOf (tlP 45 r) = B := ⟨_, rfl⟩
        rw [hB] at HC
        have HB := Lib.hid hB
        clear hB
        generalize decide ((45 : UInt8) ∈ r) = f at *
        obtain rfl : q = A.size := hsz.symm
        clear hsz
        by_cases c1 : A.size < 2
        · have t1 : decide ((A.size : Int) < 2) = true := decide_eq_true (by omega)
          have HY := Lib.hid (HBAD.out (by rw [← HTG.out, decide_eq_false (by omega)]; rfl))
          clear c1
          go_wp2_with fail
          refine (HC.out _).mono ?_
          rintro e w1 ⟨rfl, hb⟩
          have HBE2 := Lib.hid (HBE.out.trans (hb.mono HBE.out.size))
          clear hb
          go_wp2_with fail
          go_ret
          exact ⟨by rw [HY.out]; rfl, HBE2.out⟩
        · have t1 : decide ((A.size : Int) < 2) = false := decide_eq_false (by omega)
          have HG1 := Lib.hid (show decide (2 ≤ A.size) = true from decide_eq_true (by omega))
          clear c1
          by_cases c2 : 8 < A.size
          · have t2 : decide ((8 : Int) < (A.size : Int)) = true := decide_eq_true (by omega)
            have HY := Lib.hid (HBAD.out (by rw [← HTG.out, decide_eq_false (show ¬ A.size ≤ 8 by omega), Bool.and_false]; rfl))
            clear c2
            go_wp2_with fail
            refine (HC.out _).mono ?_
            rintro e w1 ⟨rfl, hb⟩
            have HBE2 := Lib.hid (HBE.out.trans (hb.mono HBE.out.size))
            clear hb
            go_wp2_with fail
            go_ret
            exact ⟨by rw [HY.out]; rfl, HBE2.out⟩
          · have t2 : decide ((8 : Int) < (A.size : Int)) = false := decide_eq_false (by omega)
            have HG2 := Lib.hid (show decide (A.size ≤ 8) = true from decide_eq_true (by omega))
            clear c2
            cases x with
            | false =>
              have HY := Lib.hid (HBAD.out (by rw [← HTG.out, Bool.and_false]))
              go_wp2_with fail
              refine (HC.out _).mono ?_
              rintro e w1 ⟨rfl, hb⟩
              have HBE2 := Lib.hid (HBE.out.trans (hb.mono HBE.out.size))
              clear hb
              go_wp2_with fail
              refine (HH.out _).mono ?_
              rintro e w2 ⟨rfl, rfl⟩
              go_wp2_with fail
              go_ret
              exact ⟨by rw [HY.out]; rfl, HBE2.out⟩
            | true =>
              have HY := Lib.hid (HGO.out (by rw [← HTG.out, HG1.out, HG2.out]; rfl))
              go_wp2_with fail
              refine (HC.out _).mono ?_
              rintro e w1 ⟨rfl, hb⟩
              have HBE2 := Lib.hid (HBE.out.trans (hb.mono HBE.out.size))
              clear hb
              go_wp2_with fail
              refine (HH.out _).mono ?_
              rintro e w2 ⟨rfl, rfl⟩
              go_wp2_with fail
              go_roundw
              case rel => exact ⟨tlP 45 r, false, f, by rw [HB.out], .inr ⟨rfl, rfl, rfl⟩, rfl, by have := HTL.out; omega, (show _ ∨ _ from by rw [HE.out]; exact HY.out), HBE2.out⟩
              case measure =>
                show B.size + one1 (.bool f) < (strOf r).size + 1
                have := HLS.out
                rw [← HB.out, strOf_size, strOf_size]; exact this
      · have HH := Lib.hid (fun W => holds_any fn_alnum fn_alnum (strOf (hdP 45 r)) W hts)
        have HTG := Lib.hid (show (decide (1 ≤ (hdP 45 r).length) && decide ((hdP 45 r).length ≤ 8) && holdS alB alB (hdP 45 r)) = tgS false (hdP 45 r) from tag_eq _)
        have HBAD := Lib.hid (fun h => HE.out.trans (lan_bad (first := false) (l := r) h))
        have HGO := Lib.hid (fun h => lan_good (first := false) (l := r) h)
        rw [strOf_data] at HH
        clear hts hrs
        obtain ⟨q, hq⟩ : ∃ q, (hdP 45 r).length = q := ⟨_, rfl⟩
        rw [hq] at HTG hsz
        clear hq
        generalize holdS alB alB (hdP 45 r) = x at *
        generalize tgS false (hdP 45 r) = y at *
        generalize strOf (hdP 45 r) = A at *
        obtain ⟨B, hB⟩ : ∃ B, strOf (tlP 45 r) = B := ⟨_, rfl⟩
        rw [hB] at HC
        have HB := Lib.hid hB
        clear hB
        generalize decide ((45 : UInt8) ∈ r) = f at *
        obtain rfl : q = A.size := hsz.symm
        clear hsz
        by_cases c1 : A.size < 1
        · have t1 : decide ((A.size : Int) < 1) = true := decide_eq_true (by omega)
          have HY := Lib.hid (HBAD.out (by rw [← HTG.out, decide_eq_false (by omega)]; rfl))
          clear c1
          go_wp2_with fail
          refine (HC.out _).mono ?_
          rintro e w1 ⟨rfl, hb⟩
          have HBE2 := Lib.hid (HBE.out.trans (hb.mono HBE.out.size))
          clear hb
          go_wp2_with fail
          go_ret
          exact ⟨by rw [HY.out]; rfl, HBE2.out⟩
        · have t1 : decide ((A.size : Int) < 1) = false := decide_eq_false (by omega)
          have HG1 := Lib.hid (show decide (1 ≤ A.size) = true from decide_eq_true (by omega))
          clear c1
          by_cases c2 : 8 < A.size
          · have t2 : decide ((8 : Int) < (A.size : Int)) = true := decide_eq_true (by omega)
            have HY := Lib.hid (HBAD.out (by rw [← HTG.out, decide_eq_false (show ¬ A.size ≤ 8 by omega), Bool.and_false]; rfl))
            clear c2
            go_wp2_with fail
            refine (HC.out _).mono ?_
            rintro e w1 ⟨rfl, hb⟩
            have HBE2 := Lib.hid (HBE.out.trans (hb.mono HBE.out.size))
            clear hb
            go_wp2_with fail
            go_ret
            exact ⟨by rw [HY.out]; rfl, HBE2.out⟩
          · have t2 : decide ((8 : Int) < (A.size : Int)) = false := decide_eq_false (by omega)
            have HG2 := Lib.hid (show decide (A.size ≤ 8) = true from decide_eq_true (by omega))
            clear c2
            cases x with
            | false =>
              have HY := Lib.hid (HBAD.out (by rw [← HTG.out, Bool.and_false]))
              go_wp2_with fail
              refine (HC.out _).mono ?_
              rintro e w1 ⟨rfl, hb⟩
              have HBE2 := Lib.hid (HBE.out.trans (hb.mono HBE.out.size))
              clear hb
              go_wp2_with fail
              refine (HH.out _).mono ?_
              rintro e w2 ⟨rfl, rfl⟩
              go_wp2_with fail
              go_ret
              exact ⟨by rw [HY.out]; rfl, HBE2.out⟩
            | true =>
              have HY := Lib.hid (HGO.out (by rw [← HTG.out, HG1.out, HG2.out]; rfl))
              go_wp2_with fail
              refine (HC.out _).mono ?_
              rintro e w1 ⟨rfl, hb⟩
              have HBE2 := Lib.hid (HBE.out.trans (hb.mono HBE.out.size))
              clear hb
              go_wp2_with fail
              refine (HH.out _).mono ?_
              rintro e w2 ⟨rfl, rfl⟩
              go_wp2_with fail
              go_roundw
              case rel => exact ⟨tlP 45 r, false, f, by rw [HB.out], .inr ⟨rfl, rfl, rfl⟩, rfl, by have := HTL.out; omega, (show _ ∨ _ from by rw [HE.out]; exact HY.out), HBE2.out⟩
              case measure =>
                show B.size + one1 (.bool f) < (strOf r).size + 1
                have := HLS.out
                rw [← HB.out, strOf_size, strOf_size]; exact this

set_option maxRecDepth 100000 in
set_option maxHeartbeats 1000000 in
theorem In_any (s t : ByteArray) (w : World) (hs : s.size ≤ 9223372036854775807) : Calls Try.prog 17 #[.string s, .string t] w (Tl (inS s.data.toList t.data.toList) w) := by
  obtain ⟨L, hL⟩ : ∃ L, s.data.toList = L := ⟨_, rfl⟩
  have HN := Lib.hid (show L.length ≤ 9223372036854775807 by rw [← hL, len_data]; exact hs)
  obtain rfl : s = strOf L := by rw [← hL]; rfl
  clear hL hs
  rw [strOf_data]
  unfold Tl
  by_cases h0 : t.data.toList = []
  · have HE := Lib.hid (show inS L t.data.toList = false by rw [h0]; rfl)
    have t0 : (t.toList == []) = true := by rw [ByteArray.toList_eq, h0]; rfl
    have t1 : t.toList = [] := by rw [ByteArray.toList_eq, h0]
    clear h0
    rw [HE.out]
    go_enter Try.func17, Try.ntmps17
    go_wp2_with fail
    go_ret
    exact ⟨rfl, Below.refl _ _⟩
  · have t0 : (t.toList == []) = false := by rw [ByteArray.toList_eq, beq_eq_false_iff_ne]; exact h0
    have t1 : ¬ t.toList = [] := by rw [ByteArray.toList_eq]; exact h0
    have H0 := Lib.hid h0
    clear h0
    obtain ⟨tl, htl⟩ : ∃ tl, t.data.toList = tl := ⟨_, rfl⟩
    rw [htl] at H0 ⊢
    have HTT := Lib.hid (show t.toList = tl by rw [ByteArray.toList_eq]; exact htl)
    clear htl
    go_enter Try.func17, Try.ntmps17
    go_wp2_with fail
    clear t0 t1
    go_loopw [0, 5] (fun sv mv wr => ∃ (r : List UInt8) (more : Bool), sv = .string (strOf r) ∧ mv = .bool more ∧ r.length ≤ L.length ∧ Aside ((more = true ∧ inS L tl = inS r tl) ∨ (more = false ∧ inS L tl = false)) ∧ Aside (Below w.heap.size w wr)) (fun sv mv _ => szOf sv + one1 mv)
    case atStart => exact ⟨L, true, rfl, rfl, Nat.le_refl _, (show _ ∨ _ from .inl ⟨rfl, rfl⟩), (show Below _ _ _ from Below.refl _ _)⟩
    case round =>
      obtain ⟨r, more, rfl, rfl, hr, hst, hbel⟩ := hrel
      have HST := Lib.hid hst.out
      have HBE := Lib.hid hbel.out
      clear hst hbel
      cases more with
      | false =>
        have HE := Lib.hid (show inS L tl = false by
          rcases HST.out with ⟨h, _⟩ | ⟨_, h⟩
          · cases h
          · exact h)
        go_wp2_with fail
        go_ret
        exact ⟨by rw [HE.out]; rfl, HBE.out⟩
      | true =>
        have HE := Lib.hid (show inS L tl = inS r tl by
          rcases HST.out with ⟨_, h⟩ | ⟨h, _⟩
          · exact h
          · cases h)
        have hrs : (strOf r).size ≤ 9223372036854775807 := by have := HN.out; rw [strOf_size]; omega
        have HTL := Lib.hid (tl_le 32 r)
        have HLS := Lib.hid (tl_less 32 r)
        have HC := Lib.hid (fun W => Cut_any (strOf r) 32 W hrs)
        rw [strOf_data] at HC
        by_cases c1 : hdP 32 r = tl
        · have t2 : ((strOf (hdP 32 r)).toList == t.toList) = true := by rw [strOf_list, HTT.out, c1]; simp
          have t3 : (strOf (hdP 32 r)).toList = t.toList := by rw [strOf_list, HTT.out, c1]
          have HY := Lib.hid (show inS L tl = true by
            rw [HE.out]
            by_cases hm : (32 : UInt8) ∈ r
            · rw [in_cut H0.out hm, decide_eq_true c1]; rfl
            · rw [in_no H0.out hm, decide_eq_true c1])
          generalize strOf (hdP 32 r) = A at *
          generalize strOf (tlP 32 r) = B at *
          generalize decide ((32 : UInt8) ∈ r) = f at *
          clear c1 hrs
          go_wp2_with fail
          refine (HC.out _).mono ?_
          rintro e w1 ⟨rfl, hb⟩
          have HBE2 := Lib.hid (HBE.out.trans (hb.mono HBE.out.size))
          clear hb
          go_wp2_with fail
          go_ret
          exact ⟨by rw [HY.out]; rfl, HBE2.out⟩
        · have t2 : ((strOf (hdP 32 r)).toList == t.toList) = false := by rw [strOf_list, HTT.out]; exact beq_eq_false_iff_ne.2 c1
          have t3 : ¬ (strOf (hdP 32 r)).toList = t.toList := by rw [strOf_list, HTT.out]; exact c1
          have HY := Lib.hid (show (decide ((32 : UInt8) ∈ r) = true ∧ inS L tl = inS (tlP 32 r) tl) ∨ (decide ((32 : UInt8) ∈ r) = false ∧ inS L tl = false) by
            rw [HE.out]
            by_cases hm : (32 : UInt8) ∈ r
            · exact .inl ⟨decide_eq_true hm, by rw [in_cut H0.out hm, decide_eq_false c1]; rfl⟩
            · exact .inr ⟨decide_eq_false hm, by rw [in_no H0.out hm, decide_eq_false c1]⟩)
          generalize strOf (hdP 32 r) = A at *
          obtain ⟨B, hB⟩ : ∃ B, strOf (tlP 32 r) = B := ⟨_, rfl⟩
          rw [hB] at HC
          have HB := Lib.hid hB
          clear hB
          generalize decide ((32 : UInt8) ∈ r) = f at *
          clear c1 hrs
          go_wp2_with fail
          refine (HC.out _).mono ?_
          rintro e w1 ⟨rfl, hb⟩
          have HBE2 := Lib.hid (HBE.out.trans (hb.mono HBE.out.size))
          clear hb
          go_wp2_with fail
          go_roundw
          case rel => exact ⟨tlP 32 r, f, by rw [HB.out], rfl, by have := HTL.out; omega, (show _ ∨ _ from HY.out), HBE2.out⟩
          case measure =>
            show B.size + one1 (.bool f) < (strOf r).size + 1
            have := HLS.out
            rw [← HB.out, strOf_size, strOf_size]; exact this
end Go.Proofs.Ytnfngjaldgellaa.Wo
namespace Go.Proofs.Ytnfngjaldgellaa.Wo
open Go.Proofs Go.RowKit
open Go.Proofs.Ytnfngjaldgellaa.Utf
open Go.Proofs.Ytnfngjaldgellaa.Nu

set_option maxRecDepth 100000 in
set_option maxHeartbeats 1000000 in
theorem awake_any12 (w : World) : Calls Try.prog 8 #[] w (Tl true w) := by
  have C1 := Lib.hid (fun wx => Media_any (strOf [105, 109, 97, 103, 101, 47, 115, 118, 103, 43, 120, 109, 108]) wx (by rw [strOf_size]; decide))
  rw [strOf_data, show mediaS [105, 109, 97, 103, 101, 47, 115, 118, 103, 43, 120, 109, 108] = true by decide +kernel] at C1
  have C2 := Lib.hid (fun wx => Media_any (strOf [105, 109, 97, 103, 101, 47]) wx (by rw [strOf_size]; decide))
  rw [strOf_data, show mediaS [105, 109, 97, 103, 101, 47] = false by decide +kernel] at C2
  have C3 := Lib.hid (fun wx => Lang_any (strOf [100, 101, 45, 67, 72]) wx (by rw [strOf_size]; decide))
  rw [strOf_data, show langS [100, 101, 45, 67, 72] = true by decide +kernel] at C3
  have C4 := Lib.hid (fun wx => Lang_any (strOf [101]) wx (by rw [strOf_size]; decide))
  rw [strOf_data, show langS [101] = false by decide +kernel] at C4
  have C5 := Lib.hid (fun wx => Uri_any (strOf [109, 97, 105, 108, 116, 111, 58, 97]) wx (by rw [strOf_size]; decide))
  rw [strOf_data, show uriS [109, 97, 105, 108, 116, 111, 58, 97] = true by decide +kernel] at C5
  have C6 := Lib.hid (fun wx => Uri_any (strOf [97, 58, 98, 32, 99]) wx (by rw [strOf_size]; decide))
  rw [strOf_data, show uriS [97, 58, 98, 32, 99] = false by decide +kernel] at C6
  have C7 := Lib.hid (fun wx => Other_any (strOf [97, 46, 98, 58, 99]) wx (by rw [strOf_size]; decide))
  rw [strOf_data, show othS [97, 46, 98, 58, 99] = true by decide +kernel] at C7
  have C8 := Lib.hid (fun wx => Other_any (strOf [58, 99]) wx (by rw [strOf_size]; decide))
  rw [strOf_data, show othS [58, 99] = false by decide +kernel] at C8
  have C9 := Lib.hid (fun wx => In_any (strOf [97, 32, 98, 99]) (strOf [98, 99]) wx (by rw [strOf_size]; decide))
  rw [strOf_data, strOf_data, show inS [97, 32, 98, 99] [98, 99] = true by decide +kernel] at C9
  have CA := Lib.hid (fun wx => In_any (strOf [97, 32, 98, 99]) (strOf [98]) wx (by rw [strOf_size]; decide))
  rw [strOf_data, strOf_data, show inS [97, 32, 98, 99] [98] = false by decide +kernel] at CA
  unfold Tl
  go_enter Try.func8, Try.ntmps8
  go_wp2_with fail
  refine (C1.out _).mono ?_
  rintro e x1 ⟨rfl, hb1⟩
  have HB1 := Lib.hid hb1
  clear hb1
  go_wp2_with fail
  refine (C2.out _).mono ?_
  rintro e x2 ⟨rfl, hb2⟩
  have HB2 := Lib.hid (HB1.out.trans (hb2.mono HB1.out.size))
  clear hb2
  go_wp2_with fail
  refine (C3.out _).mono ?_
  rintro e x3 ⟨rfl, hb3⟩
  have HB3 := Lib.hid (HB2.out.trans (hb3.mono HB2.out.size))
  clear hb3
  go_wp2_with fail
  refine (C4.out _).mono ?_
  rintro e x4 ⟨rfl, hb4⟩
  have HB4 := Lib.hid (HB3.out.trans (hb4.mono HB3.out.size))
  clear hb4
  go_wp2_with fail
  refine (C5.out _).mono ?_
  rintro e x5 ⟨rfl, hb5⟩
  have HB5 := Lib.hid (HB4.out.trans (hb5.mono HB4.out.size))
  clear hb5
  go_wp2_with fail
  refine (C6.out _).mono ?_
  rintro e x6 ⟨rfl, hb6⟩
  have HB6 := Lib.hid (HB5.out.trans (hb6.mono HB5.out.size))
  clear hb6
  go_wp2_with fail
  refine (C7.out _).mono ?_
  rintro e x7 ⟨rfl, hb7⟩
  have HB7 := Lib.hid (HB6.out.trans (hb7.mono HB6.out.size))
  clear hb7
  go_wp2_with fail
  refine (C8.out _).mono ?_
  rintro e x8 ⟨rfl, hb8⟩
  have HB8 := Lib.hid (HB7.out.trans (hb8.mono HB7.out.size))
  clear hb8
  go_wp2_with fail
  refine (C9.out _).mono ?_
  rintro e x9 ⟨rfl, hb9⟩
  have HB9 := Lib.hid (HB8.out.trans (hb9.mono HB8.out.size))
  clear hb9
  go_wp2_with fail
  refine (CA.out _).mono ?_
  rintro e xa ⟨rfl, hba⟩
  have HBA := Lib.hid (HB9.out.trans (hba.mono HB9.out.size))
  clear hba
  go_wp2_with fail
  go_ret
  exact ⟨rfl, HBA.out⟩
end Go.Proofs.Ytnfngjaldgellaa.Wo
namespace Go.Proofs.Ytnfngjaldgellaa.Wo
open Go.Proofs Go.RowKit
open Go.Proofs.Ytnfngjaldgellaa.Utf
open Go.Proofs.Ytnfngjaldgellaa.Nu

theorem addS (X Y : ByteArray) (h : X.size + Y.size ≤ 9223372036854775807) (w : World) : (Op.stringOp .add X Y).run Try.prog w = .ok (.string (strOf (X.data.toList ++ Y.data.toList))) w := by
  have e1 : X = strOf X.data.toList := rfl
  have e2 : Y = strOf Y.data.toList := rfl
  rw [run_string_add_sum w _ _ h]
  conv => lhs; rw [e1, e2]
  unfold strOf; rw [ByteArray.mk_append_mk]

end Go.Proofs.Ytnfngjaldgellaa.Wo
