import Derived.Test.YthokaeaefmajjaaDoorBase
import Derived.Laws.BitsLemmas
import Derived.Laws.BitsAllLaws
import Derived.Lib.Strings
import Derived.Below
import Derived.Lib.UnsafeStr
/- Plain facts on UTF-8: numbers and lists of bytes; no run of the program in this text. -/
namespace Go.Proofs.YthokaeaefmajjaaDoor.Utf
open Go.RowKit

def isPt (n : Int) : Bool := decide (0 ≤ n ∧ n ≤ 1114111 ∧ (n < 55296 ∨ 57343 < n))

/-- the bits of k bytes behind the first one, put behind those of the first -/
def accN (bits : Int) (l : List UInt8) : Nat → Int
  | 0 => bits
  | k + 1 => accN bits l k * 64 + byt l (k + 1) % 64
/-- are the k bytes behind the first one such as may stand there? -/
def contN (l : List UInt8) : Nat → Bool
  | 0 => true
  | k + 1 => contN l k && decide (byt l (k + 1) / 64 = 2)

theorem accN_lo (bits : Int) (l : List UInt8) (h0 : 0 ≤ bits) (k : Nat) : 0 ≤ accN bits l k := by
  induction k with
  | zero => exact h0
  | succ k ih => have := byt_lo l (k + 1); simp only [accN]; omega
theorem accN_hi3 (bits : Int) (l : List UInt8) (h1 : bits ≤ 31) : accN bits l 0 ≤ 31 ∧ accN bits l 1 ≤ 2047 ∧ accN bits l 2 ≤ 131071 ∧ accN bits l 3 ≤ 8388607 := by
  have a1 := byt_lo l 1
  have a2 := byt_lo l 2
  have a3 := byt_lo l 3
  simp only [accN]
  omega
theorem accN_hi (bits : Int) (l : List UInt8) (h1 : bits ≤ 31) (k : Nat) (hk : k ≤ 3) : accN bits l k ≤ 8388607 := by
  obtain ⟨a, b, c, d⟩ := accN_hi3 bits l h1
  obtain rfl | rfl | rfl | rfl : k = 0 ∨ k = 1 ∨ k = 2 ∨ k = 3 := by omega
  all_goals omega

def behS (l : List UInt8) (bits : Int) (n : Nat) (least : Int) : Int × Int :=
  if l.length < n then (0, 0) else if contN l (n - 1) = false then (0, 0)
  else if accN bits l (n - 1) < least ∨ isPt (accN bits l (n - 1)) = false then (0, 0) else (accN bits l (n - 1), n)

/-- the point whose bytes a text begins with, and how many they are -/
def oneL (l : List UInt8) : Int × Int :=
  if l.length = 0 then (0, 0)
  else if byt l 0 < 128 then (byt l 0, 1)
  else if byt l 0 < 192 then (0, 0)
  else if byt l 0 < 224 then behS l (byt l 0 % 32) 2 128
  else if byt l 0 < 240 then behS l (byt l 0 % 16) 3 2048
  else if byt l 0 < 248 then behS l (byt l 0 % 8) 4 65536
  else (0, 0)
def oneS (l : List UInt8) (at_ : Int) : Int × Int := if at_ < 0 ∨ (l.length : Int) ≤ at_ then (0, 0) else oneL (l.drop at_.toNat)

theorem behS_short (l : List UInt8) (b : Int) (n : Nat) (m : Int) (h : l.length < n) : behS l b n m = (0, 0) := by rw [behS, if_pos h]
theorem contN_mono (l : List UInt8) (k : Nat) (h : contN l k = false) : ∀ n, k ≤ n → contN l n = false := by
  intro n hn
  induction n with
  | zero => obtain rfl : k = 0 := by omega
            exact h
  | succ n ih =>
    by_cases e : k = n + 1
    · subst e; exact h
    · simp [contN, ih (by omega)]
theorem behS_cont (l : List UInt8) (b : Int) (n : Nat) (m : Int) (h : ¬ l.length < n) (k : Nat) (hk : k ≤ n - 1) (h2 : contN l k = false) : behS l b n m = (0, 0) := by
  rw [behS, if_neg h, if_pos (contN_mono l k h2 _ hk)]
theorem behS_low (l : List UInt8) (b : Int) (k : Nat) (m : Int) (h : accN b l k < m ∨ isPt (accN b l k) = false) : behS l b (k + 1) m = (0, 0) := by
  unfold behS
  split
  · rfl
  · split
    · rfl
    · rw [Nat.add_sub_cancel, if_pos h]
theorem behS_ok (l : List UInt8) (b : Int) (k : Nat) (m : Int) (h : ¬ l.length < k + 1) (hc : contN l k = true) (h1 : ¬ accN b l k < m) (h2 : isPt (accN b l k) = true) :
    behS l b (k + 1) m = (accN b l k, ((k + 1 : Nat) : Int)) := by
  unfold behS
  rw [Nat.add_sub_cancel, if_neg h, if_neg (by rw [hc]; decide), if_neg]
  rintro (a | a)
  · exact h1 a
  · rw [h2] at a; cases a
theorem oneS_out (l : List UInt8) (p : Int) (h : p < 0 ∨ (l.length : Int) ≤ p) : oneS l p = (0, 0) := by rw [oneS, if_pos h]
theorem byt_drop (l : List UInt8) (q k : Nat) : byt (l.drop q) k = byt l (q + k) := by unfold byt; simp [List.getD_eq_getElem?_getD]
theorem oneS_in (s : ByteArray) (q : Nat) (h : q < s.size) : oneS s.data.toList q = oneL (s.data.toList.drop q) := by
  have := len_data s
  rw [oneS, if_neg (by omega)]; simp

theorem drop_len0 (l : List UInt8) (q : Nat) (h : q < l.length) : ¬ (l.drop q).length = 0 := by simp; omega
theorem oneL_1 (l : List UInt8) (q : Nat) (c : Int) (h : q < l.length) (g : byt l q = c) (h1 : c < 128) : oneL (l.drop q) = (c, 1) := by
  unfold oneL; rw [if_neg (drop_len0 l q h), byt_drop, Nat.add_zero, g, if_pos h1]
theorem oneL_2 (l : List UInt8) (q : Nat) (c : Int) (h : q < l.length) (g : byt l q = c) (h0 : 128 ≤ c) (h1 : c < 192) : oneL (l.drop q) = (0, 0) := by
  unfold oneL; rw [if_neg (drop_len0 l q h), byt_drop, Nat.add_zero, g, if_neg (by omega), if_pos h1]
theorem oneL_3 (l : List UInt8) (q : Nat) (c : Int) (h : q < l.length) (g : byt l q = c) (h0 : 192 ≤ c) (h1 : c < 224) : oneL (l.drop q) = behS (l.drop q) (c % 32) 2 128 := by
  unfold oneL; rw [if_neg (drop_len0 l q h), byt_drop, Nat.add_zero, g, if_neg (by omega), if_neg (by omega), if_pos h1]
theorem oneL_4 (l : List UInt8) (q : Nat) (c : Int) (h : q < l.length) (g : byt l q = c) (h0 : 224 ≤ c) (h1 : c < 240) : oneL (l.drop q) = behS (l.drop q) (c % 16) 3 2048 := by
  unfold oneL; rw [if_neg (drop_len0 l q h), byt_drop, Nat.add_zero, g, if_neg (by omega), if_neg (by omega), if_neg (by omega), if_pos h1]
theorem oneL_5 (l : List UInt8) (q : Nat) (c : Int) (h : q < l.length) (g : byt l q = c) (h0 : 240 ≤ c) (h1 : c < 248) : oneL (l.drop q) = behS (l.drop q) (c % 8) 4 65536 := by
  unfold oneL; rw [if_neg (drop_len0 l q h), byt_drop, Nat.add_zero, g, if_neg (by omega), if_neg (by omega), if_neg (by omega), if_neg (by omega), if_pos h1]
theorem oneL_6 (l : List UInt8) (q : Nat) (c : Int) (h : q < l.length) (g : byt l q = c) (h0 : 248 ≤ c) : oneL (l.drop q) = (0, 0) := by
  unfold oneL; rw [if_neg (drop_len0 l q h), byt_drop, Nat.add_zero, g, if_neg (by omega), if_neg (by omega), if_neg (by omega), if_neg (by omega), if_neg (by omega)]

theorem and192 (x : Int) (h0 : 0 ≤ x) (h1 : x ≤ 255) : bits .and .u8 x 192 = x / 64 * 64 := by
  have h : ∀ n : Fin 256, bits .and .u8 (n.val : Int) 192 = (n.val : Int) / 64 * 64 := by decide +kernel
  have := h ⟨x.toNat, by omega⟩
  simpa [Int.toNat_of_nonneg h0] using this
theorem and192_ne (x : Int) (h0 : 0 ≤ x) (h1 : x ≤ 255) : (bits .and .u8 x 192 != 128) = !(decide (x / 64 = 2)) := by
  rw [and192 x h0 h1, Bool.eq_iff_iff]; simp; omega
theorem and63i (n : Int) (h0 : 0 ≤ n) (h1 : n ≤ 2147483647) : bits .and .i32 n 63 = n % 64 :=
  bits_mask .i32 31 (by decide) wraps_i32 6 (by decide) n h0 (by omega)

/-- the bytes of a point, as numbers; none: the number is no point -/
def encZ (n : Int) : List Int :=
  if isPt n = false then []
  else if n < 128 then [n]
  else if n < 2048 then [192 + n / 64, 128 + n % 64]
  else if n < 65536 then [224 + n / 4096, 128 + n / 64 % 64, 128 + n % 64]
  else [240 + n / 262144, 128 + n / 4096 % 64, 128 + n / 64 % 64, 128 + n % 64]
def enc (n : Int) : List UInt8 := (encZ n).map fun x => UInt8.ofNat x.toNat

theorem isPt_lo {n : Int} (h : isPt n = true) : 0 ≤ n := by simp [isPt] at h; omega
theorem isPt_hi {n : Int} (h : isPt n = true) : n ≤ 1114111 := by simp [isPt] at h; omega
theorem encZ_byte (n : Int) : ∀ x ∈ encZ n, 0 ≤ x ∧ x < 256 := by
  intro x hx
  unfold encZ at hx
  split at hx
  · simp at hx
  · have h1 := isPt_lo (n := n) (by simpa using ‹¬ isPt n = false›)
    have h2 := isPt_hi (n := n) (by simpa using ‹¬ isPt n = false›)
    split at hx
    · simp at hx; omega
    · split at hx
      · simp at hx; omega
      · split at hx <;> (simp at hx; omega)
theorem byteCells_enc (n : Int) : Lib.byteCells (enc n) = (encZ n).map (Value.int .u8) := by
  simp only [Lib.byteCells, enc, List.map_map]
  apply List.map_congr_left
  intro x hx
  obtain ⟨h0, h1⟩ := encZ_byte n x hx
  simp [Function.comp]
  omega
theorem encZ_no {n : Int} (h : isPt n = false) : encZ n = [] := by simp [encZ, h]
theorem encZ_1 {n : Int} (h : isPt n = true) (h1 : n < 128) : encZ n = [n] := by simp [encZ, h, h1]
theorem encZ_2 {n : Int} (h : isPt n = true) (h0 : 128 ≤ n) (h1 : n < 2048) : encZ n = [192 + n / 64, 128 + n % 64] := by
  simp [encZ, h, h1, show ¬ n < 128 by omega]
theorem encZ_3 {n : Int} (h : isPt n = true) (h0 : 2048 ≤ n) (h1 : n < 65536) : encZ n = [224 + n / 4096, 128 + n / 64 % 64, 128 + n % 64] := by
  simp [encZ, h, h1, show ¬ n < 128 by omega, show ¬ n < 2048 by omega]
theorem encZ_4 {n : Int} (h : isPt n = true) (h0 : 65536 ≤ n) : encZ n = [240 + n / 262144, 128 + n / 4096 % 64, 128 + n / 64 % 64, 128 + n % 64] := by
  simp [encZ, h, show ¬ n < 128 by omega, show ¬ n < 2048 by omega, show ¬ n < 65536 by omega]
theorem encZ_le (n : Int) : (encZ n).length ≤ 4 := by
  unfold encZ
  split
  · simp
  · split
    · simp
    · split
      · simp
      · split <;> simp
theorem enc_le (n : Int) : (enc n).length ≤ 4 := by simpa [enc] using encZ_le n
theorem enc_no {n : Int} (h : isPt n = false) : enc n = [] := by simp [enc, encZ_no h]

end Go.Proofs.YthokaeaefmajjaaDoor.Utf
