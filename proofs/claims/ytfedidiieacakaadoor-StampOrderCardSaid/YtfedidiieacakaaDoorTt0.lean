/- Merged: Base NuPl StPl StPl2. -/
import Derived.Test.YtfedidiieacakaaDoorProg
import Derived.Below
import Derived.Laws.OwnMore
import Derived.Laws.BytesArg
import Derived.Deep.Draws
import Derived.Lib.UnsafeStr
import Derived.Lib.Hide
import Derived.WalkKit
import Derived.Laws.AppendOwn
import Derived.Laws.BytesString
import Derived.Lib.Strings
import Derived.OpenShut
namespace Go.Proofs.YtfedidiieacakaaDoor
open Go.RowKit

def Rd (w : World) (B : Nat) (v : Value) (xs : List Value) : Prop :=
  ∃ A c, v = .slice A xs.length c ∧ (0 < xs.length → ∃ ad, A = some ad ∧ ad.block < B ∧ ∀ j u, xs[j]? = some u → w.cell? (ad.add j) = some u)

section
variable {w w' : World} {B B' : Nat} {v : Value} {xs : List Value}

theorem Rd.conv {P : Program} {S E D : TypeId} {l : List UInt8} (h : Rd w B v (Lib.byteCells l)) (hs : P.underlying S = some (.slice E)) (he : P.underlying E = some (.int .u8)) (hd : P.underlying D = some .string) :
    (convert S D v).run P w = .ok (.string ⟨l.toArray⟩) w := by
  obtain ⟨A, c, rfl, hc⟩ := h
  by_cases h0 : 0 < (Lib.byteCells l).length
  · obtain ⟨ad, rfl, _, hx⟩ := hc h0
    have hl : (loadCells ad (Lib.byteCells l).length).run P w = .ok ((l.map fun b => (b.toNat : Int)).map (Value.int .u8)).toArray w := by
      have := run_loadCells_list (P := P) w ad (Lib.byteCells l) hx
      rw [List.map_map]; simpa [Lib.byteCells, Function.comp_def] using this
    rw [run_convert_bytes_string w S D E _ _ c hs he hd, run_bytesToString w _ _ c _ hl, foldl_push_bytes]
    have e : (l.map fun b => (b.toNat : Int)).map (fun n => UInt8.ofNat n.toNat) = l := by
      rw [List.map_map]; conv => rhs; rw [← List.map_id l]
      exact List.map_congr_left fun x _ => by simp
    rw [e]
    simp [ByteArray.empty, ByteArray.emptyWithCapacity]
    rfl
  · have : l = [] := by
      cases l with
      | nil => rfl
      | cons a r => exact absurd (by simp [Lib.byteCells]) h0
    subst this
    cases A with
    | none => exact run_convert_bytes_nil w S E hs he _ c D hd
    | some ad =>
      have hl : (loadCells ad 0).run P w = .ok (([] : List Int).map (Value.int .u8)).toArray w := by
        simpa using run_loadCells_list (P := P) w ad [] (by simp)
      rw [run_convert_bytes_string w S D E _ _ c hs he hd, show (Lib.byteCells []).length = 0 from rfl, run_bytesToString w _ _ c [] hl]
      rfl
end

end Go.Proofs.YtfedidiieacakaaDoor
namespace Go.Proofs.YtfedidiieacakaaDoor
open Go.RowKit
theorem cell_lt {w : World} {a : Addr} {v : Value} (h : w.cell? a = some v) : a.block < w.heap.size := by
  rcases Nat.lt_or_ge a.block w.heap.size with hlt | hge
  · exact hlt
  · simp [World.cell?, Array.getElem?_eq_none hge] at h
end Go.Proofs.YtfedidiieacakaaDoor
namespace Go.Proofs.YtfedidiieacakaaDoor.Utf
open Go.RowKit

def byt (l : List UInt8) (k : Nat) : Int := ((l.getD k 0).toNat : Int)
theorem byt_lo (l : List UInt8) (k : Nat) : 0 ≤ byt l k := by unfold byt; omega
theorem byt_hi (l : List UInt8) (k : Nat) : byt l k ≤ 255 := by unfold byt; have := (l.getD k 0).toNat_lt; omega
theorem len_data (s : ByteArray) : s.data.toList.length = s.size := rfl
theorem byt_get (s : ByteArray) (k : Nat) (h : k < s.size) : byt s.data.toList k = (s[k].toNat : Int) := by
  unfold byt
  rw [List.getD_eq_getElem?_getD, List.getElem?_eq_getElem (by simpa using h)]
  rfl

theorem ret_bool {a b : Bool} (h : a = b) : Ending.returned (.bool a) = .returned (.bool b) := by rw [h]
theorem ret_int {k : IntKind} {a b : Int} (h : a = b) : Ending.returned (.int k a) = .returned (.int k b) := by rw [h]

def strOf (l : List UInt8) : ByteArray := ⟨l.toArray⟩
theorem strOf_data (l : List UInt8) : (strOf l).data.toList = l := rfl
theorem strOf_size (l : List UInt8) : (strOf l).size = l.length := rfl

def Gives (v : Value) (w : World) (e : Ending) (w' : World) : Prop := e = .returned v ∧ Below w.heap.size w w'
end Go.Proofs.YtfedidiieacakaaDoor.Utf
namespace Go.Proofs.YtfedidiieacakaaDoor.Nu
open Go.RowKit
open Go.Proofs.YtfedidiieacakaaDoor.Utf

def dg (m : Nat) : UInt8 := UInt8.ofNat (48 + m % 10)
theorem dg_nat (m : Nat) : (dg m).toNat = 48 + m % 10 := by unfold dg; simp; omega
def digF : Nat → Nat → List UInt8
  | 0, _ => []
  | f + 1, m => if m < 10 then [dg m] else digF f (m / 10) ++ [dg m]
def digN (m : Nat) : List UInt8 := digF 20 m
def digZ (m : Nat) : List UInt8 := if m = 0 then [] else digN m
def putL (n : Int) : List UInt8 := if n < 0 then 45 :: digN n.natAbs else digN n.natAbs

theorem digF_more (f : Nat) : ∀ m, m < 10 ^ f → 0 < f → digF (f + 1) m = digF f m := by
  induction f with
  | zero => intro m _ h; omega
  | succ f ih =>
    intro m hm _
    rw [digF]
    conv => rhs; rw [digF]
    by_cases h10 : m < 10
    · rw [if_pos h10, if_pos h10]
    · rw [if_neg h10, if_neg h10]
      have h1 : m / 10 < 10 ^ f := by
        rw [Nat.pow_succ] at hm
        omega
      have hf : 0 < f := by
        rcases Nat.eq_zero_or_pos f with rfl | h
        · simp at hm; omega
        · exact h
      rw [ih _ h1 hf]
theorem digN_one {m : Nat} (h : m < 10) : digN m = [dg m] := by rw [digN, digF, if_pos h]
theorem digN_step {m : Nat} (h : ¬ m < 10) (hm : m < 10 ^ 20) : digN m = digN (m / 10) ++ [dg m] := by
  rw [digN, digF, if_neg h, digN, digF_more 19 (m / 10) (by omega) (by omega)]
theorem digN_Z {m : Nat} (hm : m < 10 ^ 20) : digN m = digZ (m / 10) ++ [dg m] := by
  by_cases h : m < 10
  · rw [digN_one h, digZ, if_pos (by omega)]; rfl
  · rw [digN_step h hm, digZ, if_neg (by omega)]
theorem digZ_pos {m : Nat} (h : m ≠ 0) : digZ m = digN m := by rw [digZ, if_neg h]

def isD (b : Int) : Bool := decide (48 ≤ b ∧ b ≤ 57)
theorem isD_yes {b : Int} (h : isD b = true) : 48 ≤ b ∧ b ≤ 57 := by simpa [isD] using h
theorem isD_of {b : Int} (h : 48 ≤ b ∧ b ≤ 57) : isD b = true := by simpa [isD] using h
theorem byt_in {l : List UInt8} {k : Nat} (h : k < l.length) : byt l k = (l[k].toNat : Int) := by
  unfold byt; rw [List.getD_eq_getElem?_getD, List.getElem?_eq_getElem h]; rfl
def accD (l : List UInt8) (p : Nat) : Nat → Nat
  | 0 => 0
  | k + 1 => accD l p k * 10 + (byt l (p + k) - 48).toNat
def digsK (l : List UInt8) (p : Nat) : Nat → Bool
  | 0 => true
  | k + 1 => digsK l p k && isD (byt l (p + k))
theorem digsK_iff (l : List UInt8) (p k : Nat) : digsK l p k = true ↔ ∀ j, j < k → isD (byt l (p + j)) = true := by
  induction k with
  | zero => simp [digsK]
  | succ k ih =>
    rw [digsK, Bool.and_eq_true, ih]
    constructor
    · intro ⟨h1, h2⟩ j hj
      rcases Nat.lt_or_ge j k with h | h
      · exact h1 j h
      · obtain rfl : j = k := by omega
        exact h2
    · intro h
      exact ⟨fun j hj => h j (by omega), h k (by omega)⟩
def maxN : Nat := 9007199254740991
def badN (l : List UInt8) (f r : Nat) : Prop := r = 0 ∨ maxN < accD l f r ∨ (1 < r ∧ byt l f = 48) ∨ (byt l (f + r) = 46 ∨ byt l (f + r) = 101 ∨ byt l (f + r) = 69)
instance (l : List UInt8) (f r : Nat) : Decidable (badN l f r) := by unfold badN; infer_instance
end Go.Proofs.YtfedidiieacakaaDoor.Nu
namespace Go.Proofs.YtfedidiieacakaaDoor.Nu
open Go.RowKit
open Go.Proofs.YtfedidiieacakaaDoor.Utf

theorem byt_cons_0 (b : UInt8) (t : List UInt8) : byt (b :: t) 0 = (b.toNat : Int) := rfl
end Go.Proofs.YtfedidiieacakaaDoor.Nu
namespace Go.Proofs.YtfedidiieacakaaDoor.St
open Go.RowKit
open Go.Proofs.YtfedidiieacakaaDoor.Utf
open Go.Proofs.YtfedidiieacakaaDoor.Nu

def leap (y : Int) : Bool := decide (y % 4 = 0 ∧ y % 100 ≠ 0 ∨ y % 400 = 0)
def mlen (y m : Int) : Int := if m = 2 then (if leap y = true then 29 else 28) else if m = 4 ∨ m = 6 ∨ m = 9 ∨ m = 11 then 30 else 31
def isDay (y m d : Int) : Prop := 0 ≤ y ∧ y ≤ 9999 ∧ 1 ≤ m ∧ m ≤ 12 ∧ 1 ≤ d ∧ d ≤ mlen y m
instance (y m d : Int) : Decidable (isDay y m d) := by unfold isDay; infer_instance
theorem mlen_bd (y m : Int) : 28 ≤ mlen y m ∧ mlen y m ≤ 31 := by
  unfold mlen; split <;> split <;> omega
theorem leap_yes {y : Int} (h : leap y = true) : y % 4 = 0 ∧ y % 100 ≠ 0 ∨ y % 400 = 0 := of_decide_eq_true h
theorem leap_no {y : Int} (h : ¬ leap y = true) : ¬ (y % 4 = 0 ∧ y % 100 ≠ 0 ∨ y % 400 = 0) := fun h2 => h (decide_eq_true h2)

def ahead (y : Int) : Int := y / 400 * 146097 + y % 400 * 365 + ((y % 400 + 3) / 4 - (y % 400 + 99) / 100 + (y % 400 + 399) / 400)
theorem ahead_next (y : Int) : ahead (y + 1) = ahead y + 337 + mlen y 2 := by
  unfold ahead mlen
  rw [if_pos rfl]
  split
  · rename_i h
    have h := leap_yes h
    omega
  · rename_i h
    have h := leap_no h
    omega
theorem ahead_0 : ahead 0 = 0 := by decide
theorem ahead_end : ahead 10000 = 3652425 := by decide
theorem ahead_le (y : Int) : ∀ k : Nat, ahead y + 365 * k ≤ ahead (y + k)
  | 0 => by simp
  | k + 1 => by
    have h1 := ahead_le y k
    have h2 := ahead_next (y + k)
    have h3 := mlen_bd (y + k) 2
    rw [show y + ((k + 1 : Nat) : Int) = y + k + 1 by omega]
    omega
theorem ahead_lt {y z : Int} (h : y < z) : ahead (y + 1) ≤ ahead z := by
  have := ahead_le (y + 1) (z - (y + 1)).toNat
  rw [show y + 1 + ((z - (y + 1)).toNat : Int) = z by omega] at this
  omega
theorem ahead_lo (y : Int) : 146097 * y ≤ 400 * ahead y + 800 := by
  unfold ahead
  omega
theorem ahead_bd {y : Int} (h0 : 0 ≤ y) (h1 : y ≤ 10000) : 0 ≤ ahead y ∧ ahead y ≤ 3652425 := by
  have a := ahead_le 0 y.toNat
  have b := ahead_le y (10000 - y).toNat
  rw [show (0 : Int) + (y.toNat : Int) = y by omega, ahead_0] at a
  rw [show y + ((10000 - y).toNat : Int) = 10000 by omega, ahead_end] at b
  omega

def msum (y : Int) : Nat → Int
  | 0 => 0
  | k + 1 => msum y k + mlen y (k + 1)
theorem msum_year (y : Int) : msum y 12 = 337 + mlen y 2 := by
  have h : msum y 12 = 0 + mlen y 1 + mlen y 2 + mlen y 3 + mlen y 4 + mlen y 5 + mlen y 6 + mlen y 7 + mlen y 8 + mlen y 9 + mlen y 10 + mlen y 11 + mlen y 12 := rfl
  have e : ∀ m : Int, m = 1 ∨ m = 3 ∨ m = 5 ∨ m = 7 ∨ m = 8 ∨ m = 10 ∨ m = 12 → mlen y m = 31 := by
    intro m h; unfold mlen; rw [if_neg (by omega), if_neg (by omega)]
  have f : ∀ m : Int, m = 4 ∨ m = 6 ∨ m = 9 ∨ m = 11 → mlen y m = 30 := by
    intro m h; unfold mlen; rw [if_neg (by omega), if_pos (by omega)]
  rw [h, e 1 (by omega), e 3 (by omega), f 4 (by omega), e 5 (by omega), f 6 (by omega), e 7 (by omega), e 8 (by omega), f 9 (by omega), e 10 (by omega), f 11 (by omega), e 12 (by omega)]
  omega
theorem msum_le (y : Int) (j : Nat) : ∀ k : Nat, msum y j + 28 * k ≤ msum y (j + k)
  | 0 => by simp
  | k + 1 => by
    have h1 := msum_le y j k
    have h3 := mlen_bd y ((j + k : Nat) + 1)
    rw [← Nat.add_assoc, msum]
    omega
theorem msum_lt (y : Int) {j k : Nat} (h : j < k) : msum y j + mlen y (j + 1) ≤ msum y k := by
  have := msum_le y (j + 1) (k - (j + 1))
  rw [show j + 1 + (k - (j + 1)) = k by omega, msum] at this
  omega
theorem msum_0 (y : Int) (j : Nat) : 0 ≤ msum y j := by
  have := msum_le y 0 j
  rw [Nat.zero_add, msum] at this
  omega

def day0 (y m d : Int) : Int := ahead y + msum y (m - 1).toNat + d - 1
theorem day0_in {y m d : Int} (h : isDay y m d) : ahead y ≤ day0 y m d ∧ day0 y m d < ahead (y + 1) := by
  obtain ⟨h1, h2, h3, h4, h5, h6⟩ := h
  have a := msum_0 y (m - 1).toNat
  have b := msum_lt y (j := (m - 1).toNat) (k := 12) (by omega)
  rw [show (((m - 1).toNat : Nat) : Int) + 1 = m by omega, msum_year] at b
  have c := ahead_next y
  unfold day0
  omega
theorem day0_bd {y m d : Int} (h : isDay y m d) : 0 ≤ day0 y m d ∧ day0 y m d < 3652425 := by
  have a := day0_in h
  obtain ⟨h1, h2, _⟩ := h
  have b := ahead_bd h1 (by omega)
  have c := ahead_bd (y := y + 1) (by omega) (by omega)
  omega
theorem day0_lt {y m d y' m' d' : Int} (h : isDay y m d) (h' : isDay y' m' d') (hl : y < y' ∨ y = y' ∧ (m < m' ∨ m = m' ∧ d < d')) : day0 y m d < day0 y' m' d' := by
  rcases hl with hl | ⟨rfl, hl | ⟨rfl, hl⟩⟩
  · have a := day0_in h
    have b := day0_in h'
    have c := ahead_lt hl
    omega
  · obtain ⟨h1, h2, h3, h4, h5, h6⟩ := h
    obtain ⟨k1, k2, k3, k4, k5, k6⟩ := h'
    have b := msum_lt y (j := (m - 1).toNat) (k := (m' - 1).toNat) (by omega)
    rw [show (((m - 1).toNat : Nat) : Int) + 1 = m by omega] at b
    unfold day0
    omega
  · unfold day0
    omega
theorem day0_eq {y m d y' m' d' : Int} (h : isDay y m d) (h' : isDay y' m' d') (e : day0 y m d = day0 y' m' d') : y = y' ∧ m = m' ∧ d = d' := by
  have a := day0_lt h h'
  have b := day0_lt h' h
  omega
def YrI (D y : Int) : Prop := 0 ≤ y ∧ y ≤ 10001 ∧ D < ahead (y + 1)
theorem YrI_0 {D : Int} (h0 : 0 ≤ D) (h1 : D < 3652425) : YrI D (D * 400 / 146097 + 1) := by
  have a := ahead_lo (D * 400 / 146097 + 1 + 1)
  unfold YrI
  refine ⟨by omega, by omega, by omega⟩
theorem YrI_next {D y : Int} (h0 : 0 ≤ D) (h : YrI D y) (hg : D < ahead y) : YrI D (y - 1) := by
  obtain ⟨h1, h2, h3⟩ := h
  refine ⟨?_, by omega, by rw [show y - 1 + 1 = y by omega]; exact hg⟩
  rcases Int.lt_or_le 0 y with h | h
  · omega
  · obtain rfl : y = 0 := by omega
    rw [ahead_0] at hg; omega
theorem YrI_end {D y : Int} (h1 : D < 3652425) (h : YrI D y) (hg : ahead y ≤ D) : 0 ≤ y ∧ y ≤ 9999 := by
  refine ⟨h.1, ?_⟩
  rcases Int.lt_or_le y 10000 with h2 | h2
  · omega
  · have := ahead_le 10000 (y - 10000).toNat
    rw [show 10000 + ((y - 10000).toNat : Int) = y by omega, ahead_end] at this
    omega
def MoI (D y : Int) (m : Nat) (r : Int) : Prop := 0 ≤ r ∧ m < 12 ∧ ahead y + msum y m + r = D
theorem MoI_0 {D y : Int} (h : ahead y ≤ D) : MoI D y 0 (D - ahead y) := ⟨by omega, by omega, by rw [msum]; omega⟩
theorem MoI_next {D y : Int} {m : Nat} {r : Int} (hy : D < ahead (y + 1)) (h : MoI D y m r) (hg : mlen y (m + 1) ≤ r) : MoI D y (m + 1) (r - mlen y (m + 1)) := by
  obtain ⟨h1, h2, h3⟩ := h
  have a := ahead_next y
  have b := msum_year y
  refine ⟨by omega, ?_, by rw [msum]; omega⟩
  rcases Nat.lt_or_ge m 11 with h | h
  · omega
  · obtain rfl : m = 11 := by omega
    have c : msum y 12 = msum y 11 + mlen y ((11 : Nat) + 1) := rfl
    omega
theorem MoI_end {D y : Int} {m : Nat} {r : Int} (h0 : 0 ≤ y) (h9 : y ≤ 9999) (h : MoI D y m r) (hg : r < mlen y (m + 1)) : isDay y (m + 1) (r + 1) ∧ day0 y (m + 1) (r + 1) = D := by
  obtain ⟨h1, h2, h3⟩ := h
  refine ⟨⟨h0, h9, by omega, by omega, by omega, by omega⟩, ?_⟩
  unfold day0
  rw [show ((m : Int) + 1 - 1).toNat = m by omega]
  omega
end Go.Proofs.YtfedidiieacakaaDoor.St
namespace Go.Proofs.YtfedidiieacakaaDoor.St
open Go.RowKit
open Go.Proofs.YtfedidiieacakaaDoor.Utf
open Go.Proofs.YtfedidiieacakaaDoor.Nu

def formL : List UInt8 := [48, 48, 48, 48, 45, 48, 48, 45, 48, 48, 84, 48, 48, 58, 48, 48, 58, 48, 48]
def fitB (k : Nat) (b : Int) : Bool := if byt formL k = 48 then isD b else decide (b = byt formL k)
def frm (l : List UInt8) : Bool := decide (19 ≤ l.length) && (List.range 19).all fun k => fitB k (byt l k)
theorem frm_len {l : List UInt8} (h : frm l = true) : 19 ≤ l.length := of_decide_eq_true (Bool.and_eq_true_iff.1 h).1
theorem frm_at {l : List UInt8} (h : frm l = true) (k : Nat) (hk : k < 19) : fitB k (byt l k) = true := List.all_eq_true.1 (Bool.and_eq_true_iff.1 h).2 k (List.mem_range.2 hk)
theorem frm_of {l : List UInt8} (h : 19 ≤ l.length) (hk : ∀ k, k < 19 → fitB k (byt l k) = true) : frm l = true :=
  Bool.and_eq_true_iff.2 ⟨decide_eq_true h, List.all_eq_true.2 fun k hm => hk k (List.mem_range.1 hm)⟩
theorem frm_no {l : List UInt8} {k : Nat} (hk : k < 19) (h : fitB k (byt l k) = false) : frm l = false :=
  Bool.eq_false_iff.2 fun h2 => by rw [frm_at h2 k hk] at h; cases h
theorem frm_short {l : List UInt8} (h : l.length < 19) : frm l = false := Bool.eq_false_iff.2 fun h2 => by have := frm_len h2; omega
def dgp (k : Nat) : Bool := (byt formL k == 48)
theorem frm_dig {l : List UInt8} (h : frm l = true) (k : Nat) (hk : k < 19) (hd : dgp k = true) : isD (byt l k) = true := by
  have := frm_at h k hk
  unfold fitB at this
  rwa [if_pos (by simpa [dgp] using hd)] at this
theorem frm_sep {l : List UInt8} (h : frm l = true) (k : Nat) (hk : k < 19) (hd : dgp k = false) : byt l k = byt formL k := by
  have := frm_at h k hk
  unfold fitB at this
  rw [if_neg (by simpa [dgp] using hd)] at this
  exact of_decide_eq_true this
theorem frm_digs {l : List UInt8} (h : frm l = true) : digsK l 0 4 = true ∧ digsK l 5 2 = true ∧ digsK l 8 2 = true ∧ digsK l 11 2 = true ∧ digsK l 14 2 = true ∧ digsK l 17 2 = true := by
  have d := frm_dig h
  refine ⟨?_, ?_, ?_, ?_, ?_, ?_⟩ <;> simp only [digsK, Nat.add_zero, Nat.zero_add, Bool.true_and, Bool.and_eq_true]
  · exact ⟨⟨⟨d 0 (by omega) rfl, d 1 (by omega) rfl⟩, d 2 (by omega) rfl⟩, d 3 (by omega) rfl⟩
  · exact ⟨d 5 (by omega) rfl, d 6 (by omega) rfl⟩
  · exact ⟨d 8 (by omega) rfl, d 9 (by omega) rfl⟩
  · exact ⟨d 11 (by omega) rfl, d 12 (by omega) rfl⟩
  · exact ⟨d 14 (by omega) rfl, d 15 (by omega) rfl⟩
  · exact ⟨d 17 (by omega) rfl, d 18 (by omega) rfl⟩
theorem frm_iff {l : List UInt8} (hl : 19 ≤ l.length) : frm l = true ↔ (byt l 4 = 45 ∧ byt l 7 = 45 ∧ byt l 10 = 84 ∧ byt l 13 = 58 ∧ byt l 16 = 58) ∧ digsK l 0 4 = true ∧ digsK l 5 2 = true ∧ digsK l 8 2 = true ∧ digsK l 11 2 = true ∧ digsK l 14 2 = true ∧ digsK l 17 2 = true := by
  constructor
  · intro h
    exact ⟨⟨frm_sep h 4 (by omega) rfl, frm_sep h 7 (by omega) rfl, frm_sep h 10 (by omega) rfl, frm_sep h 13 (by omega) rfl, frm_sep h 16 (by omega) rfl⟩, frm_digs h⟩
  · rintro ⟨⟨s4, s7, s10, s13, s16⟩, h0, h5, h8, h11, h14, h17⟩
    simp only [digsK, Nat.add_zero, Nat.zero_add, Bool.true_and, Bool.and_eq_true] at h0 h5 h8 h11 h14 h17
    refine frm_of hl fun k hk => ?_
    have key : k = 0 ∨ k = 1 ∨ k = 2 ∨ k = 3 ∨ k = 4 ∨ k = 5 ∨ k = 6 ∨ k = 7 ∨ k = 8 ∨ k = 9 ∨ k = 10 ∨ k = 11 ∨ k = 12 ∨ k = 13 ∨ k = 14 ∨ k = 15 ∨ k = 16 ∨ k = 17 ∨ k = 18 := by omega
    rcases key with rfl | rfl | rfl | rfl | rfl | rfl | rfl | rfl | rfl | rfl | rfl | rfl | rfl | rfl | rfl | rfl | rfl | rfl | rfl
    · exact h0.1.1.1
    · exact h0.1.1.2
    · exact h0.1.2
    · exact h0.2
    · exact decide_eq_true s4
    · exact h5.1
    · exact h5.2
    · exact decide_eq_true s7
    · exact h8.1
    · exact h8.2
    · exact decide_eq_true s10
    · exact h11.1
    · exact h11.2
    · exact decide_eq_true s13
    · exact h14.1
    · exact h14.2
    · exact decide_eq_true s16
    · exact h17.1
    · exact h17.2

def endP (l : List UInt8) (p : Nat) : Bool := decide ((l.length = p + 1 ∧ byt l p = 90) ∨ (p + 3 ≤ l.length ∧ l.length ≤ p + 11 ∧ byt l p = 46 ∧ byt l (l.length - 1) = 90 ∧ byt l (l.length - 2) ≠ 48 ∧ digsK l (p + 1) (l.length - (p + 2)) = true))
theorem byt_drop' (l : List UInt8) (p k : Nat) : byt (l.drop p) k = byt l (p + k) := by
  unfold byt; rw [List.getD_eq_getElem?_getD, List.getElem?_drop, List.getD_eq_getElem?_getD]
theorem digsK_drop (l : List UInt8) (p q : Nat) : ∀ k, digsK (l.drop p) q k = digsK l (p + q) k
  | 0 => rfl
  | k + 1 => by rw [digsK, digsK, digsK_drop l p q k, byt_drop', Nat.add_assoc]
theorem endP_drop (l : List UInt8) (h : 19 ≤ l.length) : endP (l.drop 19) 0 = endP l 19 := by
  unfold endP
  rw [List.length_drop, byt_drop', byt_drop', byt_drop', digsK_drop]
  refine decide_eq_decide.2 ?_
  by_cases h2 : 22 ≤ l.length
  · rw [show 19 + (l.length - 19 - 1) = l.length - 1 by omega, show 19 + (l.length - 19 - 2) = l.length - 2 by omega, show l.length - 19 - (0 + 2) = l.length - (19 + 2) by omega]
    simp only [Nat.zero_add, Nat.add_zero]
    constructor
    · rintro (⟨h3, h4⟩ | ⟨h3, h4, h5⟩)
      · exact absurd h3 (by omega)
      · exact .inr ⟨by omega, by omega, h5⟩
    · rintro (⟨h3, h4⟩ | ⟨h3, h4, h5⟩)
      · exact absurd h3 (by omega)
      · exact .inr ⟨by omega, by omega, h5⟩
  · constructor
    · rintro (⟨h3, h4⟩ | ⟨h3, h4, h5⟩)
      · exact .inl ⟨by omega, h4⟩
      · exact absurd h3 (by omega)
    · rintro (⟨h3, h4⟩ | ⟨h3, h4, h5⟩)
      · exact .inl ⟨by omega, h4⟩
      · exact absurd h3 (by omega)

def secOk (l : List UInt8) : Prop := frm l = true ∧ endP l 19 = true ∧ isDay (accD l 0 4) (accD l 5 2) (accD l 8 2) ∧ accD l 11 2 ≤ 23 ∧ accD l 14 2 ≤ 59 ∧ accD l 17 2 ≤ 59
instance (l : List UInt8) : Decidable (secOk l) := by unfold secOk; infer_instance
def secV (l : List UInt8) : Int := (day0 (accD l 0 4) (accD l 5 2) (accD l 8 2) - 719528) * 86400 + ((accD l 11 2 : Int) * 60 + accD l 14 2) * 60 + accD l 17 2
def secN (l : List UInt8) : Int := if secOk l then secV l else 0

theorem accD_2 (l : List UInt8) (p : Nat) (h : digsK l p 2 = true) : accD l p 2 ≤ 99 ∧ (accD l p 2 : Int) = (byt l p - 48) * 10 + (byt l (p + 1) - 48) := by
  simp only [digsK, Nat.add_zero, Bool.true_and, Bool.and_eq_true] at h
  have a := isD_yes h.1
  have b := isD_yes h.2
  simp only [accD, Nat.add_zero]
  omega
theorem accD_4 (l : List UInt8) (p : Nat) (h : digsK l p 4 = true) : accD l p 4 ≤ 9999 ∧ (accD l p 4 : Int) = (byt l p - 48) * 1000 + (byt l (p + 1) - 48) * 100 + (byt l (p + 2) - 48) * 10 + (byt l (p + 3) - 48) := by
  simp only [digsK, Nat.add_zero, Bool.true_and, Bool.and_eq_true] at h
  have a := isD_yes h.1.1.1
  have b := isD_yes h.1.1.2
  have c := isD_yes h.1.2
  have d := isD_yes h.2
  simp only [accD, Nat.add_zero]
  omega
def txt19 (y m d h i s : Nat) : List UInt8 :=
  [dg (y / 1000), dg (y / 100), dg (y / 10), dg y, 45, dg (m / 10), dg m, 45, dg (d / 10), dg d, 84, dg (h / 10), dg h, 58, dg (i / 10), dg i, 58, dg (s / 10), dg s]
def txt (y m d r : Int) : List UInt8 := txt19 y.toNat m.toNat d.toNat (r / 3600).toNat (r / 60 % 60).toNat (r % 60).toNat
def MkOf (n : Int) (l : List UInt8) : Prop :=
  (-62167219200 ≤ n ∧ n ≤ 253402300799 ∧ ∃ y m d, isDay y m d ∧ day0 y m d = (n + 62167219200) / 86400 ∧ l = txt y m d ((n + 62167219200) % 86400) ++ [90]) ∨ ((n < -62167219200 ∨ 253402300799 < n) ∧ l = [])
theorem MkOf_eq {n : Int} {l l' : List UInt8} (h : MkOf n l) (h' : MkOf n l') : l = l' := by
  rcases h with ⟨a, b, y, m, d, h1, h2, rfl⟩ | ⟨a, rfl⟩
  · rcases h' with ⟨a', b', y', m', d', h1', h2', rfl⟩ | ⟨a', rfl⟩
    · obtain ⟨rfl, rfl, rfl⟩ := day0_eq h1 h1' (h2.trans h2'.symm)
      rfl
    · omega
  · rcases h' with ⟨a', b', y', m', d', h1', h2', rfl⟩ | ⟨a', rfl⟩
    · omega
    · rfl
theorem dg_isD (n : Nat) : isD ((dg n).toNat : Int) = true := by rw [dg_nat]; exact isD_of (by omega)
theorem txt19_parts (y m d h i s : Nat) (t : List UInt8) (hy : y ≤ 9999) (hm : m ≤ 99) (hd : d ≤ 99) (hh : h ≤ 99) (hi : i ≤ 99) (hs : s ≤ 99) :
    frm (txt19 y m d h i s ++ t) = true ∧ accD (txt19 y m d h i s ++ t) 0 4 = y ∧ accD (txt19 y m d h i s ++ t) 5 2 = m ∧ accD (txt19 y m d h i s ++ t) 8 2 = d ∧ accD (txt19 y m d h i s ++ t) 11 2 = h ∧ accD (txt19 y m d h i s ++ t) 14 2 = i ∧ accD (txt19 y m d h i s ++ t) 17 2 = s := by
  have b0 : byt (txt19 y m d h i s ++ t) 0 = ((dg (y / 1000)).toNat : Int) := rfl
  have b1 : byt (txt19 y m d h i s ++ t) 1 = ((dg (y / 100)).toNat : Int) := rfl
  have b2 : byt (txt19 y m d h i s ++ t) 2 = ((dg (y / 10)).toNat : Int) := rfl
  have b3 : byt (txt19 y m d h i s ++ t) 3 = ((dg y).toNat : Int) := rfl
  have b5 : byt (txt19 y m d h i s ++ t) 5 = ((dg (m / 10)).toNat : Int) := rfl
  have b6 : byt (txt19 y m d h i s ++ t) 6 = ((dg m).toNat : Int) := rfl
  have b8 : byt (txt19 y m d h i s ++ t) 8 = ((dg (d / 10)).toNat : Int) := rfl
  have b9 : byt (txt19 y m d h i s ++ t) 9 = ((dg d).toNat : Int) := rfl
  have b11 : byt (txt19 y m d h i s ++ t) 11 = ((dg (h / 10)).toNat : Int) := rfl
  have b12 : byt (txt19 y m d h i s ++ t) 12 = ((dg h).toNat : Int) := rfl
  have b14 : byt (txt19 y m d h i s ++ t) 14 = ((dg (i / 10)).toNat : Int) := rfl
  have b15 : byt (txt19 y m d h i s ++ t) 15 = ((dg i).toNat : Int) := rfl
  have b17 : byt (txt19 y m d h i s ++ t) 17 = ((dg (s / 10)).toNat : Int) := rfl
  have b18 : byt (txt19 y m d h i s ++ t) 18 = ((dg s).toNat : Int) := rfl
  have c4 : byt (txt19 y m d h i s ++ t) 4 = 45 := rfl
  have c7 : byt (txt19 y m d h i s ++ t) 7 = 45 := rfl
  have c10 : byt (txt19 y m d h i s ++ t) 10 = 84 := rfl
  have c13 : byt (txt19 y m d h i s ++ t) 13 = 58 := rfl
  have c16 : byt (txt19 y m d h i s ++ t) 16 = 58 := rfl
  have hl : 19 ≤ (txt19 y m d h i s ++ t).length := by simp [txt19]
  generalize txt19 y m d h i s ++ t = l at *
  refine ⟨(frm_iff hl).2 ⟨⟨c4, c7, c10, c13, c16⟩, ?_⟩, ?_⟩
  · simp only [digsK, Nat.add_zero, Nat.zero_add, Nat.reduceAdd, Bool.true_and, b0, b1, b2, b3, b5, b6, b8, b9, b11, b12, b14, b15, b17, b18, dg_isD, and_self]
  · simp only [accD, Nat.add_zero, Nat.zero_add, Nat.reduceAdd, b0, b1, b2, b3, b5, b6, b8, b9, b11, b12, b14, b15, b17, b18, dg_nat]
    omega

theorem sec_mk {n : Int} {l : List UInt8} (h : MkOf n l) (h0 : l ≠ []) : secOk l ∧ secV l = n ∧ l.length = 20 := by
  rcases h with ⟨a, b, y, m, d, h1, h2, rfl⟩ | ⟨a, rfl⟩
  · obtain ⟨d1, d2, d3, d4, d5, d6⟩ := id h1
    have dm := mlen_bd y m
    obtain ⟨p0, p1, p2, p3, p4, p5, p6⟩ := txt19_parts y.toNat m.toNat d.toNat ((n + 62167219200) % 86400 / 3600).toNat ((n + 62167219200) % 86400 / 60 % 60).toNat ((n + 62167219200) % 86400 % 60).toNat [90] (by omega) (by omega) (by omega) (by omega) (by omega) (by omega)
    have hl : (txt y m d ((n + 62167219200) % 86400) ++ [90]).length = 20 := rfl
    have h19 : byt (txt y m d ((n + 62167219200) % 86400) ++ [90]) 19 = 90 := rfl
    refine ⟨⟨p0, decide_eq_true (.inl ⟨hl, h19⟩), ?_⟩, ?_, hl⟩
    · unfold txt
      rw [p1, p2, p3, p4, p5, p6]
      exact ⟨by rw [show (y.toNat : Int) = y by omega, show (m.toNat : Int) = m by omega, show (d.toNat : Int) = d by omega]; exact h1, by omega, by omega, by omega⟩
    · unfold secV txt
      rw [p1, p2, p3, p4, p5, p6, show (y.toNat : Int) = y by omega, show (m.toNat : Int) = m by omega, show (d.toNat : Int) = d by omega, h2]
      omega
  · exact absurd rfl h0
end Go.Proofs.YtfedidiieacakaaDoor.St
