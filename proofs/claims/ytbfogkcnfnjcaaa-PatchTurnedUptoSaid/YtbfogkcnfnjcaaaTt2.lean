/- Merged: UtfPl. -/
import Derived.Test.YtbfogkcnfnjcaaaTt1
import Derived.Laws.BitsLemmas
import Derived.Laws.BitsAllLaws
import Derived.Lib.Strings
import Derived.Below
import Derived.Lib.UnsafeStr
namespace Go.Proofs.Ytbfogkcnfnjcaaa.Utf
open Go.RowKit

def isPt (n : Int) : Bool := decide (0 ≤ n ∧ n ≤ 1114111 ∧ (n < 55296 ∨ 57343 < n))

def accN (bits : Int) (l : List UInt8) : Nat → Int
  | 0 => bits
  | k + 1 => accN bits l k * 64 + byt l (k + 1) % 64
def contN (l : List UInt8) : Nat → Bool
  | 0 => true
  | k + 1 => contN l k && decide (byt l (k + 1) / 64 = 2)

theorem accN_lo (bits : Int) (l : List UInt8) (h0 : 0 ≤ bits) (k : Nat) : 0 ≤ accN bits l k := by
  induction k with
  | zero => exact h0
  | succ k ih => have := byt_lo l (k + 1); simp only [accN]; omega
theorem accN_hi3 (bits : Int) (l : List UInt8) (h1 : bits ≤ 31) : accN bits l 0 ≤ 31 ∧ accN bits l 1 ≤ 2047 ∧ accN bits l 2 ≤ 131071 ∧ accN bits l 3 ≤ 8388607 := by
  have a1 := byt_lo l 1
  have a2 := byt_lo l 2
  have a3 := byt_lo l 3
  simp only [accN]
  omega
theorem accN_hi (bits : Int) (l : List UInt8) (h1 : bits ≤ 31) (k : Nat) (hk : k ≤ 3) : accN bits l k ≤ 8388607 := by
  obtain ⟨a, b, c, d⟩ := accN_hi3 bits l h1
  obtain rfl | rfl | rfl | rfl : k = 0 ∨ k = 1 ∨ k = 2 ∨ k = 3 := by omega
  all_goals omega

def behS (l : List UInt8) (bits : Int) (n : Nat) (least : Int) : Int × Int :=
  if l.length < n then (0, 0) else if contN l (n - 1) = false then (0, 0)
  else if accN bits l (n - 1) < least ∨ isPt (accN bits l (n - 1)) = false then (0, 0) else (accN bits l (n - 1), n)

def oneL (l : List UInt8) : Int × Int :=
  if l.length = 0 then (0, 0)
  else if byt l 0 < 128 then (byt l 0, 1)
  else if byt l 0 < 192 then (0, 0)
  else if byt l 0 < 224 then behS l (byt l 0 % 32) 2 128
  else if byt l 0 < 240 then behS l (byt l 0 % 16) 3 2048
  else if byt l 0 < 248 then behS l (byt l 0 % 8) 4 65536
  else (0, 0)
def oneS (l : List UInt8) (at_ : Int) : Int × Int := if at_ < 0 ∨ (l.length : Int) ≤ at_ then (0, 0) else oneL (l.drop at_.toNat)

theorem behS_short (l : List UInt8) (b : Int) (n : Nat) (m : Int) (h : l.length < n) : behS l b n m = (0, 0) := by rw [behS, if_pos h]
theorem contN_mono (l : List UInt8) (k : Nat) (h : contN l k = false) : ∀ n, k ≤ n → contN l n = false := by
  intro n hn
  induction n with
  | zero => obtain rfl : k = 0 := by omega
            exact h
  | succ n ih =>
    by_cases e : k = n + 1
    · subst e; exact h
    · simp [contN, ih (by omega)]
theorem behS_cont (l : List UInt8) (b : Int) (n : Nat) (m : Int) (h : ¬ l.length < n) (k : Nat) (hk : k ≤ n - 1) (h2 : contN l k = false) : behS l b n m = (0, 0) := by
  rw [behS, if_neg h, if_pos (contN_mono l k h2 _ hk)]
theorem behS_low (l : List UInt8) (b : Int) (k : Nat) (m : Int) (h : accN b l k < m ∨ isPt (accN b l k) = false) : behS l b (k + 1) m = (0, 0) := by
  unfold behS
  split
  · rfl
  · split
    · rfl
    · rw [Nat.add_sub_cancel, if_pos h]
theorem behS_ok (l : List UInt8) (b : Int) (k : Nat) (m : Int) (h : ¬ l.length < k + 1) (hc : contN l k = true) (h1 : ¬ accN b l k < m) (h2 : isPt (accN b l k) = true) :
    behS l b (k + 1) m = (accN b l k, ((k + 1 : Nat) : Int)) := by
  unfold behS
  rw [Nat.add_sub_cancel, if_neg h, if_neg (by rw [hc]; decide), if_neg]
  rintro (a | a)
  · exact h1 a
  · rw [h2] at a; cases a
theorem oneS_out (l : List UInt8) (p : Int) (h : p < 0 ∨ (l.length : Int) ≤ p) : oneS l p = (0, 0) := by rw [oneS, if_pos h]
theorem byt_drop (l : List UInt8) (q k : Nat) : byt (l.drop q) k = byt l (q + k) := by unfold byt; simp [List.getD_eq_getElem?_getD]
theorem oneS_in (s : ByteArray) (q : Nat) (h : q < s.size) : oneS s.data.toList q = oneL (s.data.toList.drop q) := by
  have := len_data s
  rw [oneS, if_neg (by omega)]; simp

theorem drop_len0 (l : List UInt8) (q : Nat) (h : q < l.length) : ¬ (l.drop q).length = 0 := by simp; omega
theorem oneL_1 (l : List UInt8) (q : Nat) (c : Int) (h : q < l.length) (g : byt l q = c) (h1 : c < 128) : oneL (l.drop q) = (c, 1) := by
  unfold oneL; rw [if_neg (drop_len0 l q h), byt_drop, Nat.add_zero, g, if_pos h1]
theorem oneL_2 (l : List UInt8) (q : Nat) (c : Int) (h : q < l.length) (g : byt l q = c) (h0 : 128 ≤ c) (h1 : c < 192) : oneL (l.drop q) = (0, 0) := by
  unfold oneL; rw [if_neg (drop_len0 l q h), byt_drop, Nat.add_zero, g, if_neg (by omega), if_pos h1]
theorem oneL_3 (l : List UInt8) (q : Nat) (c : Int) (h : q < l.length) (g : byt l q = c) (h0 : 192 ≤ c) (h1 : c < 224) : oneL (l.drop q) = behS (l.drop q) (c % 32) 2 128 := by
  unfold oneL; rw [if_neg (drop_len0 l q h), byt_drop, Nat.add_zero, g, if_neg (by omega), if_neg (by omega), if_pos h1]
theorem oneL_4 (l : List UInt8) (q : Nat) (c : Int) (h : q < l.length) (g : byt l q = c) (h0 : 224 ≤ c) (h1 : c < 240) : oneL (l.drop q) = behS (l.drop q) (c % 16) 3 2048 := by
  unfold oneL; rw [if_neg (drop_len0 l q h), byt_drop, Nat.add_zero, g, if_neg (by omega), if_neg (by omega), if_neg (by omega), if_pos h1]
theorem oneL_5 (l : List UInt8) (q : Nat) (c : Int) (h : q < l.length) (g : byt l q = c) (h0 : 240 ≤ c) (h1 : c < 248) : oneL (l.drop q) = behS (l.drop q) (c % 8) 4 65536 := by
  unfold oneL; rw [if_neg (drop_len0 l q h), byt_drop, Nat.add_zero, g, if_neg (by omega), if_neg (by omega), if_neg (by omega), if_neg (by omega), if_pos h1]
theorem oneL_6 (l : List UInt8) (q : Nat) (c : Int) (h : q < l.length) (g : byt l q = c) (h0 : 248 ≤ c) : oneL (l.drop q) = (0, 0) := by
  unfold oneL; rw [if_neg (drop_len0 l q h), byt_drop, Nat.add_zero, g, if_neg (by omega), if_neg (by omega), if_neg (by omega), if_neg (by omega), if_neg (by omega)]

theorem and192 (x : Int) (h0 : 0 ≤ x) (h1 : x ≤ 255) : bits .and .u8 x 192 = x / 64 * 64 := by
  have h : ∀ n : Fin 256, bits .and .u8 (n.val : Int) 192 = (n.val : Int) / 64 * 64 := by decide +kernel
  have := h ⟨x.toNat, by omega⟩
  simpa [Int.toNat_of_nonneg h0] using this
theorem and192_ne (x : Int) (h0 : 0 ≤ x) (h1 : x ≤ 255) : (bits .and .u8 x 192 != 128) = !(decide (x / 64 = 2)) := by
  rw [and192 x h0 h1, Bool.eq_iff_iff]; simp; omega
theorem and63i (n : Int) (h0 : 0 ≤ n) (h1 : n ≤ 2147483647) : bits .and .i32 n 63 = n % 64 :=
  bits_mask .i32 31 (by decide) wraps_i32 6 (by decide) n h0 (by omega)

def encZ (n : Int) : List Int :=
  if isPt n = false then []
  else if n < 128 then [n]
  else if n < 2048 then [192 + n / 64, 128 + n % 64]
  else if n < 65536 then [224 + n / 4096, 128 + n / 64 % 64, 128 + n % 64]
  else [240 + n / 262144, 128 + n / 4096 % 64, 128 + n / 64 % 64, 128 + n % 64]
def enc (n : Int) : List UInt8 := (encZ n).map fun x => UInt8.ofNat x.toNat

theorem isPt_lo {n : Int} (h : isPt n = true) : 0 ≤ n := by simp [isPt] at h; omega
theorem isPt_hi {n : Int} (h : isPt n = true) : n ≤ 1114111 := by simp [isPt] at h; omega
theorem encZ_byte (n : Int) : ∀ x ∈ encZ n, 0 ≤ x ∧ x < 256 := by
  intro x hx
  unfold encZ at hx
  split at hx
  · simp at hx
  · have h1 := isPt_lo (n := n) (by simpa using ‹¬ isPt n = false›)
    have h2 := isPt_hi (n := n) (by simpa using ‹¬ isPt n = false›)
    split at hx
    · simp at hx; omega
    · split at hx
      · simp at hx; omega
      · split at hx <;> (simp at hx; omega)
theorem byteCells_enc (n : Int) : Lib.byteCells (enc n) = (encZ n).map (Value.int .u8) := by
  simp only [Lib.byteCells, enc, List.map_map]
  apply List.map_congr_left
  intro x hx
  obtain ⟨h0, h1⟩ := encZ_byte n x hx
  simp [Function.comp]
  omega
theorem encZ_no {n : Int} (h : isPt n = false) : encZ n = [] := by simp [encZ, h]
theorem encZ_1 {n : Int} (h : isPt n = true) (h1 : n < 128) : encZ n = [n] := by simp [encZ, h, h1]
theorem encZ_2 {n : Int} (h : isPt n = true) (h0 : 128 ≤ n) (h1 : n < 2048) : encZ n = [192 + n / 64, 128 + n % 64] := by
  simp [encZ, h, h1, show ¬ n < 128 by omega]
theorem encZ_3 {n : Int} (h : isPt n = true) (h0 : 2048 ≤ n) (h1 : n < 65536) : encZ n = [224 + n / 4096, 128 + n / 64 % 64, 128 + n % 64] := by
  simp [encZ, h, h1, show ¬ n < 128 by omega, show ¬ n < 2048 by omega]
theorem encZ_4 {n : Int} (h : isPt n = true) (h0 : 65536 ≤ n) : encZ n = [240 + n / 262144, 128 + n / 4096 % 64, 128 + n / 64 % 64, 128 + n % 64] := by
  simp [encZ, h, show ¬ n < 128 by omega, show ¬ n < 2048 by omega, show ¬ n < 65536 by omega]
theorem encZ_le (n : Int) : (encZ n).length ≤ 4 := by
  unfold encZ
  split
  · simp
  · split
    · simp
    · split
      · simp
      · split <;> simp
theorem enc_le (n : Int) : (enc n).length ≤ 4 := by simpa [enc] using encZ_le n
theorem enc_no {n : Int} (h : isPt n = false) : enc n = [] := by simp [enc, encZ_no h]

end Go.Proofs.Ytbfogkcnfnjcaaa.Utf
namespace Go.Proofs.Ytbfogkcnfnjcaaa.Utf
open Go.RowKit

theorem enc_len (p : Int) : (enc p).length = (encZ p).length := by simp [enc]
theorem byt_enc (p : Int) (r : List UInt8) (k : Nat) (x : Int) (h : (encZ p)[k]? = some x) : byt (enc p ++ r) k = x := by
  have hk : k < (encZ p).length := by
    rcases Nat.lt_or_ge k (encZ p).length with h1 | h1
    · exact h1
    · rw [List.getElem?_eq_none h1] at h; cases h
  have hx := encZ_byte p x (List.mem_of_getElem? h)
  have : (enc p ++ r)[k]? = some (UInt8.ofNat x.toNat) := by
    rw [List.getElem?_append_left (by rw [enc_len]; exact hk), enc, List.getElem?_map, h]; rfl
  unfold byt
  rw [List.getD_eq_getElem?_getD, this]
  simp
  omega

theorem behS_eq (l : List UInt8) (b : Int) (n : Nat) (m : Int) (p : Int) (hl : n ≤ l.length) (hc : contN l (n - 1) = true) (ha : accN b l (n - 1) = p) (h1 : m ≤ p) (h2 : isPt p = true) : behS l b n m = (p, (n : Int)) := by
  unfold behS
  rw [if_neg (by omega), if_neg (by rw [hc]; decide), ha, if_neg]
  rintro (a | a)
  · omega
  · rw [h2] at a; cases a

theorem oneL_enc (p : Int) (h : isPt p = true) (r : List UInt8) : oneL (enc p ++ r) = (p, ((enc p).length : Int)) := by
  have h0 := isPt_lo h
  have h1 := isPt_hi h
  have hl : (enc p ++ r).length = (enc p).length + r.length := List.length_append
  by_cases c1 : p < 128
  · have e := encZ_1 h c1
    have b0 := byt_enc p r 0 p (by rw [e]; rfl)
    have hn : (enc p).length = 1 := by rw [enc_len, e]; rfl
    unfold oneL
    rw [if_neg (by omega), b0, if_pos c1, hn]; rfl
  · by_cases c2 : p < 2048
    · have e := encZ_2 h (by omega) c2
      have b0 := byt_enc p r 0 _ (by rw [e]; rfl)
      have b1 := byt_enc p r 1 (128 + p % 64) (by rw [e]; rfl)
      have hn : (enc p).length = 2 := by rw [enc_len, e]; rfl
      unfold oneL
      rw [if_neg (by omega), b0, if_neg (by omega), if_neg (by omega), if_pos (by omega), hn]
      refine behS_eq _ _ _ _ p (by omega) ?_ ?_ (by omega) h
      · simp [contN, b1]; omega
      · simp [accN, b1]; omega
    · by_cases c3 : p < 65536
      · have e := encZ_3 h (by omega) c3
        have b0 := byt_enc p r 0 _ (by rw [e]; rfl)
        have b1 := byt_enc p r 1 (128 + p / 64 % 64) (by rw [e]; rfl)
        have b2 := byt_enc p r 2 (128 + p % 64) (by rw [e]; rfl)
        have hn : (enc p).length = 3 := by rw [enc_len, e]; rfl
        unfold oneL
        rw [if_neg (by omega), b0, if_neg (by omega), if_neg (by omega), if_neg (by omega), if_pos (by omega), hn]
        refine behS_eq _ _ _ _ p (by omega) ?_ ?_ (by omega) h
        · simp [contN, b1, b2]; omega
        · simp [accN, b1, b2]; omega
      · have e := encZ_4 h (by omega)
        have b0 := byt_enc p r 0 _ (by rw [e]; rfl)
        have b1 := byt_enc p r 1 (128 + p / 4096 % 64) (by rw [e]; rfl)
        have b2 := byt_enc p r 2 (128 + p / 64 % 64) (by rw [e]; rfl)
        have b3 := byt_enc p r 3 (128 + p % 64) (by rw [e]; rfl)
        have hn : (enc p).length = 4 := by rw [enc_len, e]; rfl
        unfold oneL
        rw [if_neg (by omega), b0, if_neg (by omega), if_neg (by omega), if_neg (by omega), if_neg (by omega), if_pos (by omega), hn]
        refine behS_eq _ _ _ _ p (by omega) ?_ ?_ (by omega) h
        · simp [contN, b1, b2, b3]; omega
        · simp [accN, b1, b2, b3]; omega

theorem two_of (l : List UInt8) (h : 2 ≤ l.length) : ∃ b c r, l = b :: c :: r := by
  cases l with
  | nil => simp at h
  | cons b l =>
    cases l with
    | nil => simp at h
    | cons c r => exact ⟨b, c, r, rfl⟩
theorem three_of (l : List UInt8) (h : 3 ≤ l.length) : ∃ b c d r, l = b :: c :: d :: r := by
  obtain ⟨b, c, r, rfl⟩ := two_of l (by omega)
  cases r with
  | nil => simp at h
  | cons d r => exact ⟨b, c, d, r, rfl⟩
theorem u8_of (x : Int) (a : UInt8) (h : x = (a.toNat : Int)) : UInt8.ofNat x.toNat = a := by subst h; simp

theorem behS_cases (l : List UInt8) (b : Int) (n : Nat) (m : Int) : behS l b n m = (0, 0) ∨ (n ≤ l.length ∧ contN l (n - 1) = true ∧ m ≤ accN b l (n - 1) ∧ isPt (accN b l (n - 1)) = true ∧ behS l b n m = (accN b l (n - 1), (n : Int))) := by
  unfold behS
  split
  · exact .inl rfl
  · split
    · exact .inl rfl
    · split
      · exact .inl rfl
      · rename_i a b c
        refine .inr ⟨by omega, by simpa using b, ?_, ?_, rfl⟩
        · omega
        · cases hq : isPt (accN _ l (n - 1)) with
          | true => rfl
          | false => exact absurd (Or.inr hq) c

def Reads1 (l : List UInt8) (o : Int × Int) : Prop := o = (0, 0) ∨ (isPt o.1 = true ∧ o.2 = ((enc o.1).length : Int) ∧ enc o.1 ++ l.drop (enc o.1).length = l)

theorem oneL_reads (l : List UInt8) : Reads1 l (oneL l) := by
  cases l with
  | nil => exact .inl rfl
  | cons a l =>
    have hb0 : byt (a :: l) 0 = (a.toNat : Int) := rfl
    have ha := a.toNat_lt
    by_cases c1 : a.toNat < 128
    · have e : oneL (a :: l) = ((a.toNat : Int), 1) := by unfold oneL; rw [if_neg (by simp), hb0, if_pos (by omega)]
      have hp : isPt (a.toNat : Int) = true := by simp [isPt]; omega
      have en : enc (a.toNat : Int) = [a] := by rw [enc, encZ_1 hp (by omega)]; simp
      exact .inr (by rw [e]; simp [hp, en])
    · by_cases c2 : a.toNat < 192
      · exact .inl (by unfold oneL; rw [if_neg (by simp), hb0, if_neg (by omega), if_pos (by omega)])
      · by_cases c3 : a.toNat < 224
        · have e : oneL (a :: l) = behS (a :: l) ((a.toNat : Int) % 32) 2 128 := by unfold oneL; rw [if_neg (by simp), hb0, if_neg (by omega), if_neg (by omega), if_pos (by omega)]
          rw [e]
          rcases behS_cases (a :: l) ((a.toNat : Int) % 32) 2 128 with h | ⟨h1, h2, h3, h4, h5⟩
          · exact .inl h
          · rw [h5]
            cases l with
            | nil => simp at h1
            | cons b l =>
              have hb1 : byt (a :: b :: l) 1 = (b.toNat : Int) := rfl
              have hb := b.toNat_lt
              simp only [contN, accN, hb1, Nat.add_one_sub_one, Bool.true_and, decide_eq_true_eq] at h2 h3 h4 ⊢
              have en : enc ((a.toNat : Int) % 32 * 64 + (b.toNat : Int) % 64) = [a, b] := by
                rw [enc, encZ_2 h4 (by omega) (by omega)]
                simp only [List.map_cons, List.map_nil]
                rw [u8_of _ a (by omega), u8_of _ b (by omega)]
              exact .inr (by simp [h4, en])
        · by_cases c4 : a.toNat < 240
          · have e : oneL (a :: l) = behS (a :: l) ((a.toNat : Int) % 16) 3 2048 := by unfold oneL; rw [if_neg (by simp), hb0, if_neg (by omega), if_neg (by omega), if_neg (by omega), if_pos (by omega)]
            rw [e]
            rcases behS_cases (a :: l) ((a.toNat : Int) % 16) 3 2048 with h | ⟨h1, h2, h3, h4, h5⟩
            · exact .inl h
            · rw [h5]
              obtain ⟨b, c, l, rfl⟩ := two_of l (by simp at h1; omega)
              · skip
                have hb1 : byt (a :: b :: c :: l) 1 = (b.toNat : Int) := rfl
                have hb2 : byt (a :: b :: c :: l) 2 = (c.toNat : Int) := rfl
                have hb := b.toNat_lt
                have hc := c.toNat_lt
                simp only [contN, accN, hb1, hb2, Nat.reduceAdd, Nat.add_one_sub_one, Bool.true_and, Bool.and_eq_true, decide_eq_true_eq] at h2 h3 h4 ⊢
                have en : enc (((a.toNat : Int) % 16 * 64 + (b.toNat : Int) % 64) * 64 + (c.toNat : Int) % 64) = [a, b, c] := by
                  rw [enc, encZ_3 h4 (by omega) (by omega)]
                  simp only [List.map_cons, List.map_nil]
                  rw [u8_of _ a (by omega), u8_of _ b (by omega), u8_of _ c (by omega)]
                exact .inr (by simp [h4, en])
          · by_cases c5 : a.toNat < 248
            · have e : oneL (a :: l) = behS (a :: l) ((a.toNat : Int) % 8) 4 65536 := by unfold oneL; rw [if_neg (by simp), hb0, if_neg (by omega), if_neg (by omega), if_neg (by omega), if_neg (by omega), if_pos (by omega)]
              rw [e]
              rcases behS_cases (a :: l) ((a.toNat : Int) % 8) 4 65536 with h | ⟨h1, h2, h3, h4, h5⟩
              · exact .inl h
              · rw [h5]
                obtain ⟨b, c, d, l, rfl⟩ := three_of l (by simp at h1; omega)
                · skip
                  have hb1 : byt (a :: b :: c :: d :: l) 1 = (b.toNat : Int) := rfl
                  have hb2 : byt (a :: b :: c :: d :: l) 2 = (c.toNat : Int) := rfl
                  have hb3 : byt (a :: b :: c :: d :: l) 3 = (d.toNat : Int) := rfl
                  have hb := b.toNat_lt
                  have hc := c.toNat_lt
                  have hd := d.toNat_lt
                  simp only [contN, accN, hb1, hb2, hb3, Nat.reduceAdd, Nat.add_one_sub_one, Bool.true_and, Bool.and_eq_true, decide_eq_true_eq] at h2 h3 h4 ⊢
                  have h6 := isPt_hi h4
                  have en : enc ((((a.toNat : Int) % 8 * 64 + (b.toNat : Int) % 64) * 64 + (c.toNat : Int) % 64) * 64 + (d.toNat : Int) % 64) = [a, b, c, d] := by
                    rw [enc, encZ_4 h4 (by omega)]
                    simp only [List.map_cons, List.map_nil]
                    rw [u8_of _ a (by omega), u8_of _ b (by omega), u8_of _ c (by omega), u8_of _ d (by omega)]
                  exact .inr (by simp [h4, en])
            · exact .inl (by unfold oneL; rw [if_neg (by simp), hb0, if_neg (by omega), if_neg (by omega), if_neg (by omega), if_neg (by omega), if_neg (by omega)])

end Go.Proofs.Ytbfogkcnfnjcaaa.Utf
namespace Go.Proofs.Ytbfogkcnfnjcaaa.Utf
open Go.RowKit

theorem oneL_n (l : List UInt8) : (oneL l = (0, 0)) ∨ (isPt (oneL l).1 = true ∧ 1 ≤ (oneL l).2 ∧ (oneL l).2 ≤ 4 ∧ (oneL l).2 ≤ l.length) := by
  rcases oneL_reads l with h | ⟨h1, h2, h3⟩
  · exact .inl h
  · refine .inr ⟨h1, ?_, ?_, ?_⟩
    · rcases Nat.eq_zero_or_pos (enc (oneL l).1).length with h0 | h0
      · have := List.eq_nil_of_length_eq_zero h0
        rw [enc, List.map_eq_nil_iff] at this
        unfold encZ at this
        rw [h1, if_neg (by decide)] at this
        split at this
        · cases this
        · split at this
          · cases this
          · split at this <;> cases this
      · omega
    · have := enc_le (oneL l).1; omega
    · have := congrArg List.length h3
      simp at this; omega
theorem oneL_pt {l : List UInt8} (h : (oneL l).2 ≠ 0) : isPt (oneL l).1 = true := by
  rcases oneL_n l with h1 | h1
  · rw [h1] at h; simp at h
  · exact h1.1

def ptsF : Nat → List UInt8 → List Int × Nat
  | 0, _ => ([], 0)
  | f + 1, l => if (oneL l).2 = 0 then ([], 0) else ((oneL l).1 :: (ptsF f (l.drop (oneL l).2.toNat)).1, (oneL l).2.toNat + (ptsF f (l.drop (oneL l).2.toNat)).2)
def ptsL (l : List UInt8) : List Int × Nat := ptsF l.length l

theorem ptsF_nil (f : Nat) : ptsF f [] = ([], 0) := by cases f <;> rfl
theorem ptsF_fuel : ∀ (f g : Nat) (l : List UInt8), l.length ≤ f → l.length ≤ g → ptsF f l = ptsF g l := by
  intro f
  induction f with
  | zero =>
    intro g l h _
    rw [List.eq_nil_of_length_eq_zero (show l.length = 0 by omega), ptsF_nil, ptsF_nil]
  | succ f ih =>
    intro g l hf hg
    cases g with
    | zero => rw [List.eq_nil_of_length_eq_zero (show l.length = 0 by omega), ptsF_nil, ptsF_nil]
    | succ g =>
      rcases oneL_n l with h1 | ⟨_, h1, _, h2⟩
      · simp [ptsF, h1]
      · simp only [ptsF]
        rw [ih g (l.drop (oneL l).2.toNat) (by simp; omega) (by simp; omega)]
theorem ptsL_stop {l : List UInt8} (h : (oneL l).2 = 0) : ptsL l = ([], 0) := by
  unfold ptsL
  cases l with
  | nil => rfl
  | cons a l => simp [ptsF, h]
theorem ptsL_go {l : List UInt8} (h : (oneL l).2 ≠ 0) : ptsL l = ((oneL l).1 :: (ptsL (l.drop (oneL l).2.toNat)).1, (oneL l).2.toNat + (ptsL (l.drop (oneL l).2.toNat)).2) := by
  rcases oneL_n l with h1 | ⟨_, h1, _, h2⟩
  · rw [h1] at h; simp at h
  · obtain ⟨k, hk⟩ : ∃ k, l.length = k + 1 := ⟨l.length - 1, by omega⟩
    unfold ptsL
    rw [hk, ptsF, if_neg h, ptsF_fuel k _ _ (by simp; omega) (Nat.le_refl _)]

def encL (l : List Int) : List UInt8 := (l.map enc).flatten
theorem encL_cons (p : Int) (l : List Int) : encL (p :: l) = enc p ++ encL l := by simp [encL]
theorem encL_append (a b : List Int) : encL (a ++ b) = encL a ++ encL b := by simp [encL]
theorem enc_pos {p : Int} (h : isPt p = true) : 1 ≤ (enc p).length := by
  have := oneL_n (enc p ++ [])
  rw [oneL_enc p h []] at this
  rcases this with h1 | h1
  · have := congrArg Prod.snd h1
    have h2 := congrArg Prod.fst h1
    simp at this h2
    subst h2
    have : enc 0 = [] := this
    exact absurd this (by decide)
  · have := h1.2.1
    simp at this
    omega

theorem pts_ind {P : List UInt8 → Prop} (h : ∀ l, (∀ k, 1 ≤ k → k ≤ l.length → P (l.drop k)) → P l) : ∀ l, P l := by
  have : ∀ n, ∀ l : List UInt8, l.length ≤ n → P l := by
    intro n
    induction n with
    | zero => intro l hl; exact h l fun k h1 h2 => by omega
    | succ n ih => intro l hl; exact h l fun k h1 h2 => ih _ (by simp; omega)
  exact fun l => this _ l (Nat.le_refl _)

theorem ptsL_le (l : List UInt8) : (ptsL l).2 ≤ l.length := by
  induction l using pts_ind with
  | h l ih =>
    by_cases h : (oneL l).2 = 0
    · rw [ptsL_stop h]; simp
    · rcases oneL_n l with h1 | ⟨_, h1, _, h2⟩
      · rw [h1] at h; simp at h
      · have := ih (oneL l).2.toNat (by omega) (by omega)
        rw [ptsL_go h]; simp at this ⊢; omega
theorem ptsL_encL (ps : List Int) (h : ∀ p ∈ ps, isPt p = true) (r : List UInt8) : ptsL (encL ps ++ r) = (ps ++ (ptsL r).1, (encL ps).length + (ptsL r).2) := by
  induction ps with
  | nil => simp [encL]
  | cons p ps ih =>
    have hp := h p (by simp)
    have h1 := oneL_enc p hp (encL ps ++ r)
    have h2 := enc_pos hp
    have h3 := ih fun q hq => h q (by simp [hq])
    rw [encL_cons, List.append_assoc]
    have hn : (oneL (enc p ++ (encL ps ++ r))).2 ≠ 0 := by rw [h1]; simp; intro h0; rw [h0] at h2; simp at h2
    rw [ptsL_go hn, h1]
    simp [h3]
    omega
end Go.Proofs.Ytbfogkcnfnjcaaa.Utf
