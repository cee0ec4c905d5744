/- Merged: Base NuPl StPl StPl2. -/
import Derived.Test.YtfedidiieacakaaDoorProg
import Derived.Below
import Derived.Laws.OwnMore
import Derived.Laws.BytesArg
import Derived.Deep.Draws
import Derived.Lib.UnsafeStr
import Derived.Lib.Hide
import Derived.WalkKit
import Derived.Laws.AppendOwn
import Derived.Laws.BytesString
import Derived.Lib.Strings
import Derived.OpenShut
namespace Go.Proofs.YtfedidiieacakaaDoor
open Go.RowKit

theorem blk_add (a : Addr) (n : Nat) : (a.add n).block = a.block := by unfold Addr.add; split <;> rfl

def Rd (w : World) (B : Nat) (v : Value) (xs : List Value) : Prop :=
  ∃ A c, v = .slice A xs.length c ∧ (0 < xs.length → ∃ ad, A = some ad ∧ ad.block < B ∧ ∀ j u, xs[j]? = some u → w.cell? (ad.add j) = some u)

section
variable {w w' : World} {B B' : Nat} {v : Value} {xs : List Value}

theorem Rd.keep (h : Rd w B v xs) (hk : ∀ p : Addr, p.block < B → w'.cell? p = w.cell? p) : Rd w' B v xs := by
  obtain ⟨A, c, rfl, hc⟩ := h
  refine ⟨A, c, rfl, fun h0 => ?_⟩
  obtain ⟨ad, rfl, hb, hx⟩ := hc h0
  exact ⟨ad, rfl, hb, fun j u hu => (hk _ (by rw [blk_add]; exact hb)).trans (hx j u hu)⟩
theorem Rd.nil_ (w : World) (B : Nat) (c : Nat) : Rd w B (.slice none 0 c) [] := ⟨none, c, rfl, fun h => absurd h (by simp)⟩
theorem Rd.of_own {base E n : Nat} (h : w.ownsRow base E 1 v n xs) : Rd w w.heap.size v xs := by
  obtain ⟨hl, h⟩ := h
  rw [Nat.mul_one] at hl
  rcases h with ⟨rfl, rfl⟩ | ⟨g, cap, cur, rfl, _, hh, hn, _, hcur, htake⟩
  · have : xs = [] := List.eq_nil_of_length_eq_zero hl
    subst this
    exact Rd.nil_ w _ 0
  · refine ⟨some ⟨g, 0, none⟩, cap, by rw [hl], fun _ => ⟨_, rfl, ?_, fun j u hu => ?_⟩⟩
    · show g < w.heap.size
      rcases Nat.lt_or_ge g w.heap.size with hlt | hge
      · exact hlt
      · rw [Array.getElem?_eq_none hge] at hh; cases hh
    · have hp : (⟨g, 0, none⟩ : Addr).add j = ⟨g, j, none⟩ := by unfold Addr.add; split <;> simp_all
      rw [hp, ← htake] at *
      have hcj : cur[j]? = some u := by
        rw [List.getElem?_take] at hu
        split at hu
        · simpa using hu
        · cases hu
      simp [World.cell?, hh, hcj]

theorem Rd.conv {P : Program} {S E D : TypeId} {l : List UInt8} (h : Rd w B v (Lib.byteCells l)) (hs : P.underlying S = some (.slice E)) (he : P.underlying E = some (.int .u8)) (hd : P.underlying D = some .string) :
    (convert S D v).run P w = .ok (.string ⟨l.toArray⟩) w := by
  obtain ⟨A, c, rfl, hc⟩ := h
  by_cases h0 : 0 < (Lib.byteCells l).length
  · obtain ⟨ad, rfl, _, hx⟩ := hc h0
    have hl : (loadCells ad (Lib.byteCells l).length).run P w = .ok ((l.map fun b => (b.toNat : Int)).map (Value.int .u8)).toArray w := by
      have := run_loadCells_list (P := P) w ad (Lib.byteCells l) hx
      rw [List.map_map]; simpa [Lib.byteCells, Function.comp_def] using this
    rw [run_convert_bytes_string w S D E _ _ c hs he hd, run_bytesToString w _ _ c _ hl, foldl_push_bytes]
    have e : (l.map fun b => (b.toNat : Int)).map (fun n => UInt8.ofNat n.toNat) = l := by
      rw [List.map_map]; conv => rhs; rw [← List.map_id l]
      exact List.map_congr_left fun x _ => by simp
    rw [e]
    simp [ByteArray.empty, ByteArray.emptyWithCapacity]
    rfl
  · have : l = [] := by
      cases l with
      | nil => rfl
      | cons a r => exact absurd (by simp [Lib.byteCells]) h0
    subst this
    cases A with
    | none => exact run_convert_bytes_nil w S E hs he _ c D hd
    | some ad =>
      have hl : (loadCells ad 0).run P w = .ok (([] : List Int).map (Value.int .u8)).toArray w := by
        simpa using run_loadCells_list (P := P) w ad [] (by simp)
      rw [run_convert_bytes_string w S D E _ _ c hs he hd, show (Lib.byteCells []).length = 0 from rfl, run_bytesToString w _ _ c [] hl]
      rfl
end

end Go.Proofs.YtfedidiieacakaaDoor
namespace Go.Proofs.YtfedidiieacakaaDoor
open Go.RowKit
theorem cell_lt {w : World} {a : Addr} {v : Value} (h : w.cell? a = some v) : a.block < w.heap.size := by
  rcases Nat.lt_or_ge a.block w.heap.size with hlt | hge
  · exact hlt
  · simp [World.cell?, Array.getElem?_eq_none hge] at h
end Go.Proofs.YtfedidiieacakaaDoor
namespace Go.Proofs.YtfedidiieacakaaDoor.Utf
open Go.RowKit

def byt (l : List UInt8) (k : Nat) : Int := ((l.getD k 0).toNat : Int)
theorem byt_lo (l : List UInt8) (k : Nat) : 0 ≤ byt l k := by unfold byt; omega
theorem byt_hi (l : List UInt8) (k : Nat) : byt l k ≤ 255 := by unfold byt; have := (l.getD k 0).toNat_lt; omega
theorem len_data (s : ByteArray) : s.data.toList.length = s.size := rfl
theorem byt_get (s : ByteArray) (k : Nat) (h : k < s.size) : byt s.data.toList k = (s[k].toNat : Int) := by
  unfold byt
  rw [List.getD_eq_getElem?_getD, List.getElem?_eq_getElem (by simpa using h)]
  rfl

theorem ret_bool {a b : Bool} (h : a = b) : Ending.returned (.bool a) = .returned (.bool b) := by rw [h]
theorem ret_int {k : IntKind} {a b : Int} (h : a = b) : Ending.returned (.int k a) = .returned (.int k b) := by rw [h]

def strOf (l : List UInt8) : ByteArray := ⟨l.toArray⟩
theorem strOf_data (l : List UInt8) : (strOf l).data.toList = l := rfl
theorem strOf_size (l : List UInt8) : (strOf l).size = l.length := rfl

def Gives (v : Value) (w : World) (e : Ending) (w' : World) : Prop := e = .returned v ∧ Below w.heap.size w w'
theorem infoU8 : (Tryd.prog.info? 5).map (fun i => (i.zero, i.size, i.bytes)) = some (some (.int .u8 0), 1, 1) := by kernel_rfl
theorem byteCells_one (l : List UInt8) : ∀ u ∈ Lib.byteCells l, u.oneCell' = true := by
  intro u hu
  simp only [Lib.byteCells, List.mem_map] at hu
  obtain ⟨a, _, rfl⟩ := hu
  rfl
end Go.Proofs.YtfedidiieacakaaDoor.Utf
namespace Go.Proofs.YtfedidiieacakaaDoor.Nu
open Go.RowKit
open Go.Proofs.YtfedidiieacakaaDoor.Utf

def dg (m : Nat) : UInt8 := UInt8.ofNat (48 + m % 10)
theorem dg_nat (m : Nat) : (dg m).toNat = 48 + m % 10 := by unfold dg; simp; omega
def digF : Nat → Nat → List UInt8
  | 0, _ => []
  | f + 1, m => if m < 10 then [dg m] else digF f (m / 10) ++ [dg m]
def digN (m : Nat) : List UInt8 := digF 20 m
def digZ (m : Nat) : List UInt8 := if m = 0 then [] else digN m
def putL (n : Int) : List UInt8 := if n < 0 then 45 :: digN n.natAbs else digN n.natAbs

theorem digF_more (f : Nat) : ∀ m, m < 10 ^ f → 0 < f → digF (f + 1) m = digF f m := by
  induction f with
  | zero => intro m _ h; omega
  | succ f ih =>
    intro m hm _
    rw [digF]
    conv => rhs; rw [digF]
    by_cases h10 : m < 10
    · rw [if_pos h10, if_pos h10]
    · rw [if_neg h10, if_neg h10]
      have h1 : m / 10 < 10 ^ f := by
        rw [Nat.pow_succ] at hm
        omega
      have hf : 0 < f := by
        rcases Nat.eq_zero_or_pos f with rfl | h
        · simp at hm; omega
        · exact h
      rw [ih _ h1 hf]
theorem digN_one {m : Nat} (h : m < 10) : digN m = [dg m] := by rw [digN, digF, if_pos h]
theorem digN_step {m : Nat} (h : ¬ m < 10) (hm : m < 10 ^ 20) : digN m = digN (m / 10) ++ [dg m] := by
  rw [digN, digF, if_neg h, digN, digF_more 19 (m / 10) (by omega) (by omega)]
theorem digN_Z {m : Nat} (hm : m < 10 ^ 20) : digN m = digZ (m / 10) ++ [dg m] := by
  by_cases h : m < 10
  · rw [digN_one h, digZ, if_pos (by omega)]; rfl
  · rw [digN_step h hm, digZ, if_neg (by omega)]
theorem digZ_pos {m : Nat} (h : m ≠ 0) : digZ m = digN m := by rw [digZ, if_neg h]

def isD (b : Int) : Bool := decide (48 ≤ b ∧ b ≤ 57)
theorem isD_yes {b : Int} (h : isD b = true) : 48 ≤ b ∧ b ≤ 57 := by simpa [isD] using h
theorem isD_of {b : Int} (h : 48 ≤ b ∧ b ≤ 57) : isD b = true := by simpa [isD] using h
theorem byt_in {l : List UInt8} {k : Nat} (h : k < l.length) : byt l k = (l[k].toNat : Int) := by
  unfold byt; rw [List.getD_eq_getElem?_getD, List.getElem?_eq_getElem h]; rfl
def accD (l : List UInt8) (p : Nat) : Nat → Nat
  | 0 => 0
  | k + 1 => accD l p k * 10 + (byt l (p + k) - 48).toNat
def digsK (l : List UInt8) (p : Nat) : Nat → Bool
  | 0 => true
  | k + 1 => digsK l p k && isD (byt l (p + k))
theorem digsK_iff (l : List UInt8) (p k : Nat) : digsK l p k = true ↔ ∀ j, j < k → isD (byt l (p + j)) = true := by
  induction k with
  | zero => simp [digsK]
  | succ k ih =>
    rw [digsK, Bool.and_eq_true, ih]
    constructor
    · intro ⟨h1, h2⟩ j hj
      rcases Nat.lt_or_ge j k with h | h
      · exact h1 j h
      · obtain rfl : j = k := by omega
        exact h2
    · intro h
      exact ⟨fun j hj => h j (by omega), h k (by omega)⟩
def maxN : Nat := 9007199254740991
def badN (l : List UInt8) (f r : Nat) : Prop := r = 0 ∨ maxN < accD l f r ∨ (1 < r ∧ byt l f = 48) ∨ (byt l (f + r) = 46 ∨ byt l (f + r) = 101 ∨ byt l (f + r) = 69)
instance (l : List UInt8) (f r : Nat) : Decidable (badN l f r) := by unfold badN; infer_instance
end Go.Proofs.YtfedidiieacakaaDoor.Nu
namespace Go.Proofs.YtfedidiieacakaaDoor.Nu
open Go.RowKit
open Go.Proofs.YtfedidiieacakaaDoor.Utf

theorem byt_app_l (l t : List UInt8) (k : Nat) (h : k < l.length) : byt (l ++ t) k = byt l k := by
  unfold byt; rw [List.getD_eq_getElem?_getD, List.getD_eq_getElem?_getD, List.getElem?_append_left h]
theorem byt_app_r (l t : List UInt8) (k : Nat) : byt (l ++ t) (l.length + k) = byt t k := by
  unfold byt; rw [List.getD_eq_getElem?_getD, List.getD_eq_getElem?_getD, List.getElem?_append_right (by omega), Nat.add_sub_cancel_left]
theorem byt_app_0 (l t : List UInt8) : byt (l ++ t) l.length = byt t 0 := byt_app_r l t 0
theorem byt_cons_0 (b : UInt8) (t : List UInt8) : byt (b :: t) 0 = (b.toNat : Int) := rfl
end Go.Proofs.YtfedidiieacakaaDoor.Nu
namespace Go.Proofs.YtfedidiieacakaaDoor.St
open Go.RowKit
open Go.Proofs.YtfedidiieacakaaDoor.Utf
open Go.Proofs.YtfedidiieacakaaDoor.Nu

def leap (y : Int) : Bool := decide (y % 4 = 0 ∧ y % 100 ≠ 0 ∨ y % 400 = 0)
def mlen (y m : Int) : Int := if m = 2 then (if leap y = true then 29 else 28) else if m = 4 ∨ m = 6 ∨ m = 9 ∨ m = 11 then 30 else 31
def isDay (y m d : Int) : Prop := 0 ≤ y ∧ y ≤ 9999 ∧ 1 ≤ m ∧ m ≤ 12 ∧ 1 ≤ d ∧ d ≤ mlen y m
instance (y m d : Int) : Decidable (isDay y m d) := by unfold isDay; infer_instance
theorem mlen_bd (y m : Int) : 28 ≤ mlen y m ∧ mlen y m ≤ 31 := by
  unfold mlen; split <;> split <;> omega
theorem leap_yes {y : Int} (h : leap y = true) : y % 4 = 0 ∧ y % 100 ≠ 0 ∨ y % 400 = 0 := of_decide_eq_true h
theorem leap_no {y : Int} (h : ¬ leap y = true) : ¬ (y % 4 = 0 ∧ y % 100 ≠ 0 ∨ y % 400 = 0) := fun h2 => h (decide_eq_true h2)

def ahead (y : Int) : Int := y / 400 * 146097 + y % 400 * 365 + ((y % 400 + 3) / 4 - (y % 400 + 99) / 100 + (y % 400 + 399) / 400)
theorem ahead_next (y : Int) : ahead (y + 1) = ahead y + 337 + mlen y 2 := by
  unfold ahead mlen
  rw [if_pos rfl]
  split
  · rename_i h
    have h := leap_yes h
    omega
  · rename_i h
    have h := leap_no h
    omega
theorem ahead_0 : ahead 0 = 0 := by decide
theorem ahead_end : ahead 10000 = 3652425 := by decide
theorem ahead_le (y : Int) : ∀ k : Nat, ahead y + 365 * k ≤ ahead (y + k)
  | 0 => by simp
  | k + 1 => by
    have h1 := ahead_le y k
    have h2 := ahead_next (y + k)
    have h3 := mlen_bd (y + k) 2
    rw [show y + ((k + 1 : Nat) : Int) = y + k + 1 by omega]
    omega
theorem ahead_lt {y z : Int} (h : y < z) : ahead (y + 1) ≤ ahead z := by
  have := ahead_le (y + 1) (z - (y + 1)).toNat
  rw [show y + 1 + ((z - (y + 1)).toNat : Int) = z by omega] at this
  omega
theorem ahead_lo (y : Int) : 146097 * y ≤ 400 * ahead y + 800 := by
  unfold ahead
  omega
theorem ahead_bd {y : Int} (h0 : 0 ≤ y) (h1 : y ≤ 10000) : 0 ≤ ahead y ∧ ahead y ≤ 3652425 := by
  have a := ahead_le 0 y.toNat
  have b := ahead_le y (10000 - y).toNat
  rw [show (0 : Int) + (y.toNat : Int) = y by omega, ahead_0] at a
  rw [show y + ((10000 - y).toNat : Int) = 10000 by omega, ahead_end] at b
  omega

def msum (y : Int) : Nat → Int
  | 0 => 0
  | k + 1 => msum y k + mlen y (k + 1)
theorem msum_year (y : Int) : msum y 12 = 337 + mlen y 2 := by
  have h : msum y 12 = 0 + mlen y 1 + mlen y 2 + mlen y 3 + mlen y 4 + mlen y 5 + mlen y 6 + mlen y 7 + mlen y 8 + mlen y 9 + mlen y 10 + mlen y 11 + mlen y 12 := rfl
  have e : ∀ m : Int, m = 1 ∨ m = 3 ∨ m = 5 ∨ m = 7 ∨ m = 8 ∨ m = 10 ∨ m = 12 → mlen y m = 31 := by
    intro m h; unfold mlen; rw [if_neg (by omega), if_neg (by omega)]
  have f : ∀ m : Int, m = 4 ∨ m = 6 ∨ m = 9 ∨ m = 11 → mlen y m = 30 := by
    intro m h; unfold mlen; rw [if_neg (by omega), if_pos (by omega)]
  rw [h, e 1 (by omega), e 3 (by omega), f 4 (by omega), e 5 (by omega), f 6 (by omega), e 7 (by omega), e 8 (by omega), f 9 (by omega), e 10 (by omega), f 11 (by omega), e 12 (by omega)]
  omega
theorem msum_le (y : Int) (j : Nat) : ∀ k : Nat, msum y j + 28 * k ≤ msum y (j + k)
  | 0 => by simp
  | k + 1 => by
    have h1 := msum_le y j k
    have h3 := mlen_bd y ((j + k : Nat) + 1)
    rw [← Nat.add_assoc, msum]
    omega
theorem msum_lt (y : Int) {j k : Nat} (h : j < k) : msum y j + mlen y (j + 1) ≤ msum y k := by
  have := msum_le y (j + 1) (k - (j + 1))
  rw [show j + 1 + (k - (j + 1)) = k by omega, msum] at this
  omega
theorem msum_0 (y : Int) (j : Nat) : 0 ≤ msum y j := by
  have := msum_le y 0 j
  rw [Nat.zero_add, msum] at this
  omega

def day0 (y m d : Int) : Int := ahead y + msum y (m - 1).toNat + d - 1
theorem day0_in {y m d : Int} (h : isDay y m d) : ahead y ≤ day0 y m d ∧ day0 y m d < ahead (y + 1) := by
  obtain ⟨h1, h2, h3, h4, h5, h6⟩ := h
  have a := msum_0 y (m - 1).toNat
  have b := msum_lt y (j := (m - 1).toNat) (k := 12) (by omega)
  rw [show (((m - 1).toNat : Nat) : Int) + 1 = m by omega, msum_year] at b
  have c := ahead_next y
  unfold day0
  omega
theorem day0_bd {y m d : Int} (h : isDay y m d) : 0 ≤ day0 y m d ∧ day0 y m d < 3652425 := by
  have a := day0_in h
  obtain ⟨h1, h2, _⟩ := h
  have b := ahead_bd h1 (by omega)
  have c := ahead_bd (y := y + 1) (by omega) (by omega)
  omega
theorem day0_lt {y m d y' m' d' : Int} (h : isDay y m d) (h' : isDay y' m' d') (hl : y < y' ∨ y = y' ∧ (m < m' ∨ m = m' ∧ d < d')) : day0 y m d < day0 y' m' d' := by
  rcases hl with hl | ⟨rfl, hl | ⟨rfl, hl⟩⟩
  · have a := day0_in h
    have b := day0_in h'
    have c := ahead_lt hl
    omega
  · obtain ⟨h1, h2, h3, h4, h5, h6⟩ := h
    obtain ⟨k1, k2, k3, k4, k5, k6⟩ := h'
    have b := msum_lt y (j := (m - 1).toNat) (k := (m' - 1).toNat) (by omega)
    rw [show (((m - 1).toNat : Nat) : Int) + 1 = m by omega] at b
    unfold day0
    omega
  · unfold day0
    omega
theorem day0_eq {y m d y' m' d' : Int} (h : isDay y m d) (h' : isDay y' m' d') (e : day0 y m d = day0 y' m' d') : y = y' ∧ m = m' ∧ d = d' := by
  have a := day0_lt h h'
  have b := day0_lt h' h
  omega
def YrI (D y : Int) : Prop := 0 ≤ y ∧ y ≤ 10001 ∧ D < ahead (y + 1)
theorem YrI_0 {D : Int} (h0 : 0 ≤ D) (h1 : D < 3652425) : YrI D (D * 400 / 146097 + 1) := by
  have a := ahead_lo (D * 400 / 146097 + 1 + 1)
  unfold YrI
  refine ⟨by omega, by omega, by omega⟩
theorem YrI_next {D y : Int} (h0 : 0 ≤ D) (h : YrI D y) (hg : D < ahead y) : YrI D (y - 1) := by
  obtain ⟨h1, h2, h3⟩ := h
  refine ⟨?_, by omega, by rw [show y - 1 + 1 = y by omega]; exact hg⟩
  rcases Int.lt_or_le 0 y with h | h
  · omega
  · obtain rfl : y = 0 := by omega
    rw [ahead_0] at hg; omega
theorem YrI_end {D y : Int} (h1 : D < 3652425) (h : YrI D y) (hg : ahead y ≤ D) : 0 ≤ y ∧ y ≤ 9999 := by
  refine ⟨h.1, ?_⟩
  rcases Int.lt_or_le y 10000 with h2 | h2
  · omega
  · have := ahead_le 10000 (y - 10000).toNat
    rw [show 10000 + ((y - 10000).toNat : Int) = y by omega, ahead_end] at this
    omega
def MoI (D y : Int) (m : Nat) (r : Int) : Prop := 0 ≤ r ∧ m < 12 ∧ ahead y + msum y m + r = D
theorem MoI_0 {D y : Int} (h : ahead y ≤ D) : MoI D y 0 (D - ahead y) := ⟨by omega, by omega, by rw [msum]; omega⟩
theorem MoI_next {D y : Int} {m : Nat} {r : Int} (hy : D < ahead (y + 1)) (h : MoI D y m r) (hg : mlen y (m + 1) ≤ r) : MoI D y (m + 1) (r - mlen y (m + 1)) := by
  obtain ⟨h1, h2, h3⟩ := h
  have a := ahead_next y
  have b := msum_year y
  refine ⟨by omega, ?_, by rw [msum]; omega⟩
  rcases Nat.lt_or_ge m 11 with h | h
  · omega
  · obtain rfl : m = 11 := by omega
    have c : msum y 12 = msum y 11 + mlen y ((11 : Nat) + 1) := rfl
    omega
theorem MoI_end {D y : Int} {m : Nat} {r : Int} (h0 : 0 ≤ y) (h9 : y ≤ 9999) (h : MoI D y m r) (hg : r < mlen y (m + 1)) : isDay y (m + 1) (r + 1) ∧ day0 y (m + 1) (r + 1) = D := by
  obtain ⟨h1, h2, h3⟩ := h
  refine ⟨⟨h0, h9, by omega, by omega, by omega, by omega⟩, ?_⟩
  unfold day0
  rw [show ((m : Int) + 1 - 1).toNat = m by omega]
  omega
end Go.Proofs.YtfedidiieacakaaDoor.St
namespace Go.Proofs.YtfedidiieacakaaDoor.St
open Go.RowKit
open Go.Proofs.YtfedidiieacakaaDoor.Utf
open Go.Proofs.YtfedidiieacakaaDoor.Nu

def formL : List UInt8 := [48, 48, 48, 48, 45, 48, 48, 45, 48, 48, 84, 48, 48, 58, 48, 48, 58, 48, 48]
def fitB (k : Nat) (b : Int) : Bool := if byt formL k = 48 then isD b else decide (b = byt formL k)
def frm (l : List UInt8) : Bool := decide (19 ≤ l.length) && (List.range 19).all fun k => fitB k (byt l k)
theorem frm_len {l : List UInt8} (h : frm l = true) : 19 ≤ l.length := of_decide_eq_true (Bool.and_eq_true_iff.1 h).1
theorem frm_at {l : List UInt8} (h : frm l = true) (k : Nat) (hk : k < 19) : fitB k (byt l k) = true := List.all_eq_true.1 (Bool.and_eq_true_iff.1 h).2 k (List.mem_range.2 hk)
theorem frm_of {l : List UInt8} (h : 19 ≤ l.length) (hk : ∀ k, k < 19 → fitB k (byt l k) = true) : frm l = true :=
  Bool.and_eq_true_iff.2 ⟨decide_eq_true h, List.all_eq_true.2 fun k hm => hk k (List.mem_range.1 hm)⟩
theorem frm_no {l : List UInt8} {k : Nat} (hk : k < 19) (h : fitB k (byt l k) = false) : frm l = false :=
  Bool.eq_false_iff.2 fun h2 => by rw [frm_at h2 k hk] at h; cases h
theorem frm_short {l : List UInt8} (h : l.length < 19) : frm l = false := Bool.eq_false_iff.2 fun h2 => by have := frm_len h2; omega
def dgp (k : Nat) : Bool := (byt formL k == 48)
theorem frm_dig {l : List UInt8} (h : frm l = true) (k : Nat) (hk : k < 19) (hd : dgp k = true) : isD (byt l k) = true := by
  have := frm_at h k hk
  unfold fitB at this
  rwa [if_pos (by simpa [dgp] using hd)] at this
theorem frm_sep {l : List UInt8} (h : frm l = true) (k : Nat) (hk : k < 19) (hd : dgp k = false) : byt l k = byt formL k := by
  have := frm_at h k hk
  unfold fitB at this
  rw [if_neg (by simpa [dgp] using hd)] at this
  exact of_decide_eq_true this
theorem frm_digs {l : List UInt8} (h : frm l = true) : digsK l 0 4 = true ∧ digsK l 5 2 = true ∧ digsK l 8 2 = true ∧ digsK l 11 2 = true ∧ digsK l 14 2 = true ∧ digsK l 17 2 = true := by
  have d := frm_dig h
  refine ⟨?_, ?_, ?_, ?_, ?_, ?_⟩ <;> simp only [digsK, Nat.add_zero, Nat.zero_add, Bool.true_and, Bool.and_eq_true]
  · exact ⟨⟨⟨d 0 (by omega) rfl, d 1 (by omega) rfl⟩, d 2 (by omega) rfl⟩, d 3 (by omega) rfl⟩
  · exact ⟨d 5 (by omega) rfl, d 6 (by omega) rfl⟩
  · exact ⟨d 8 (by omega) rfl, d 9 (by omega) rfl⟩
  · exact ⟨d 11 (by omega) rfl, d 12 (by omega) rfl⟩
  · exact ⟨d 14 (by omega) rfl, d 15 (by omega) rfl⟩
  · exact ⟨d 17 (by omega) rfl, d 18 (by omega) rfl⟩
def endP (l : List UInt8) (p : Nat) : Bool := decide ((l.length = p + 1 ∧ byt l p = 90) ∨ (p + 3 ≤ l.length ∧ l.length ≤ p + 11 ∧ byt l p = 46 ∧ byt l (l.length - 1) = 90 ∧ byt l (l.length - 2) ≠ 48 ∧ digsK l (p + 1) (l.length - (p + 2)) = true))
theorem byt_drop' (l : List UInt8) (p k : Nat) : byt (l.drop p) k = byt l (p + k) := by
  unfold byt; rw [List.getD_eq_getElem?_getD, List.getElem?_drop, List.getD_eq_getElem?_getD]
theorem digsK_drop (l : List UInt8) (p q : Nat) : ∀ k, digsK (l.drop p) q k = digsK l (p + q) k
  | 0 => rfl
  | k + 1 => by rw [digsK, digsK, digsK_drop l p q k, byt_drop', Nat.add_assoc]
theorem endP_drop (l : List UInt8) (h : 19 ≤ l.length) : endP (l.drop 19) 0 = endP l 19 := by
  unfold endP
  rw [List.length_drop, byt_drop', byt_drop', byt_drop', digsK_drop]
  refine decide_eq_decide.2 ?_
  by_cases h2 : 22 ≤ l.length
  · rw [show 19 + (l.length - 19 - 1) = l.length - 1 by omega, show 19 + (l.length - 19 - 2) = l.length - 2 by omega, show l.length - 19 - (0 + 2) = l.length - (19 + 2) by omega]
    simp only [Nat.zero_add, Nat.add_zero]
    constructor
    · rintro (⟨h3, h4⟩ | ⟨h3, h4, h5⟩)
      · exact absurd h3 (by omega)
      · exact .inr ⟨by omega, by omega, h5⟩
    · rintro (⟨h3, h4⟩ | ⟨h3, h4, h5⟩)
      · exact absurd h3 (by omega)
      · exact .inr ⟨by omega, by omega, h5⟩
  · constructor
    · rintro (⟨h3, h4⟩ | ⟨h3, h4, h5⟩)
      · exact .inl ⟨by omega, h4⟩
      · exact absurd h3 (by omega)
    · rintro (⟨h3, h4⟩ | ⟨h3, h4, h5⟩)
      · exact .inl ⟨by omega, h4⟩
      · exact absurd h3 (by omega)

def secOk (l : List UInt8) : Prop := frm l = true ∧ endP l 19 = true ∧ isDay (accD l 0 4) (accD l 5 2) (accD l 8 2) ∧ accD l 11 2 ≤ 23 ∧ accD l 14 2 ≤ 59 ∧ accD l 17 2 ≤ 59
instance (l : List UInt8) : Decidable (secOk l) := by unfold secOk; infer_instance
def secV (l : List UInt8) : Int := (day0 (accD l 0 4) (accD l 5 2) (accD l 8 2) - 719528) * 86400 + ((accD l 11 2 : Int) * 60 + accD l 14 2) * 60 + accD l 17 2
def secN (l : List UInt8) : Int := if secOk l then secV l else 0

theorem accD_2 (l : List UInt8) (p : Nat) (h : digsK l p 2 = true) : accD l p 2 ≤ 99 ∧ (accD l p 2 : Int) = (byt l p - 48) * 10 + (byt l (p + 1) - 48) := by
  simp only [digsK, Nat.add_zero, Bool.true_and, Bool.and_eq_true] at h
  have a := isD_yes h.1
  have b := isD_yes h.2
  simp only [accD, Nat.add_zero]
  omega
theorem accD_4 (l : List UInt8) (p : Nat) (h : digsK l p 4 = true) : accD l p 4 ≤ 9999 ∧ (accD l p 4 : Int) = (byt l p - 48) * 1000 + (byt l (p + 1) - 48) * 100 + (byt l (p + 2) - 48) * 10 + (byt l (p + 3) - 48) := by
  simp only [digsK, Nat.add_zero, Bool.true_and, Bool.and_eq_true] at h
  have a := isD_yes h.1.1.1
  have b := isD_yes h.1.1.2
  have c := isD_yes h.1.2
  have d := isD_yes h.2
  simp only [accD, Nat.add_zero]
  omega
theorem secV_bd {l : List UInt8} (h : secOk l) : -62167219200 ≤ secV l ∧ secV l ≤ 253402300799 := by
  have a := day0_bd h.2.2.1
  obtain ⟨_, _, _, h1, h2, h3⟩ := h
  unfold secV
  omega
theorem secV_day {l : List UInt8} (h : secOk l) : (secV l + 62167219200) / 86400 = day0 (accD l 0 4) (accD l 5 2) (accD l 8 2) ∧ (secV l + 62167219200) % 86400 = ((accD l 11 2 : Int) * 60 + accD l 14 2) * 60 + accD l 17 2 := by
  have a := day0_bd h.2.2.1
  obtain ⟨_, _, _, h1, h2, h3⟩ := h
  unfold secV
  omega

def txt19 (y m d h i s : Nat) : List UInt8 :=
  [dg (y / 1000), dg (y / 100), dg (y / 10), dg y, 45, dg (m / 10), dg m, 45, dg (d / 10), dg d, 84, dg (h / 10), dg h, 58, dg (i / 10), dg i, 58, dg (s / 10), dg s]
def txt (y m d r : Int) : List UInt8 := txt19 y.toNat m.toNat d.toNat (r / 3600).toNat (r / 60 % 60).toNat (r % 60).toNat
def MkOf (n : Int) (l : List UInt8) : Prop :=
  (-62167219200 ≤ n ∧ n ≤ 253402300799 ∧ ∃ y m d, isDay y m d ∧ day0 y m d = (n + 62167219200) / 86400 ∧ l = txt y m d ((n + 62167219200) % 86400) ++ [90]) ∨ ((n < -62167219200 ∨ 253402300799 < n) ∧ l = [])
theorem MkOf_eq {n : Int} {l l' : List UInt8} (h : MkOf n l) (h' : MkOf n l') : l = l' := by
  rcases h with ⟨a, b, y, m, d, h1, h2, rfl⟩ | ⟨a, rfl⟩
  · rcases h' with ⟨a', b', y', m', d', h1', h2', rfl⟩ | ⟨a', rfl⟩
    · obtain ⟨rfl, rfl, rfl⟩ := day0_eq h1 h1' (h2.trans h2'.symm)
      rfl
    · omega
  · rcases h' with ⟨a', b', y', m', d', h1', h2', rfl⟩ | ⟨a', rfl⟩
    · omega
    · rfl
theorem dg_isD (n : Nat) : isD ((dg n).toNat : Int) = true := by rw [dg_nat]; exact isD_of (by omega)
theorem dg_of {b : UInt8} {n : Nat} (h1 : isD (b.toNat : Int) = true) (h2 : (n % 10 : Nat) = (b.toNat : Int) - 48) : dg n = b := by
  have := isD_yes h1
  apply UInt8.toNat.inj
  rw [dg_nat]
  omega
theorem txt19_back {l : List UInt8} (h : frm l = true) : txt19 (accD l 0 4) (accD l 5 2) (accD l 8 2) (accD l 11 2) (accD l 14 2) (accD l 17 2) = l.take 19 := by
  have hl := frm_len h
  obtain ⟨s, t, rfl, hs⟩ : ∃ s t, l = s ++ t ∧ s.length = 19 := ⟨l.take 19, l.drop 19, by simp, by simp; omega⟩
  rw [List.take_append_of_le_length (by omega), List.take_of_length_le (by omega)]
  match s, hs with
  | [a0, a1, a2, a3, a4, a5, a6, a7, a8, a9, a10, a11, a12, a13, a14, a15, a16, a17, a18], _ =>
    obtain ⟨y0, y5, y8, y11, y14, y17⟩ := frm_digs h
    have n0 := (accD_4 _ _ y0).2
    have n5 := (accD_2 _ _ y5).2
    have n8 := (accD_2 _ _ y8).2
    have n11 := (accD_2 _ _ y11).2
    have n14 := (accD_2 _ _ y14).2
    have n17 := (accD_2 _ _ y17).2
    have d := frm_dig h
    have d0 : isD (a0.toNat : Int) = true := d 0 (by omega) rfl
    have d1 : isD (a1.toNat : Int) = true := d 1 (by omega) rfl
    have d2 : isD (a2.toNat : Int) = true := d 2 (by omega) rfl
    have d3 : isD (a3.toNat : Int) = true := d 3 (by omega) rfl
    have d5 : isD (a5.toNat : Int) = true := d 5 (by omega) rfl
    have d6 : isD (a6.toNat : Int) = true := d 6 (by omega) rfl
    have d8 : isD (a8.toNat : Int) = true := d 8 (by omega) rfl
    have d9 : isD (a9.toNat : Int) = true := d 9 (by omega) rfl
    have d11 : isD (a11.toNat : Int) = true := d 11 (by omega) rfl
    have d12 : isD (a12.toNat : Int) = true := d 12 (by omega) rfl
    have d14 : isD (a14.toNat : Int) = true := d 14 (by omega) rfl
    have d15 : isD (a15.toNat : Int) = true := d 15 (by omega) rfl
    have d17 : isD (a17.toNat : Int) = true := d 17 (by omega) rfl
    have d18 : isD (a18.toNat : Int) = true := d 18 (by omega) rfl
    have c4 : (a4.toNat : Int) = 45 := frm_sep h 4 (by omega) rfl
    have c7 : (a7.toNat : Int) = 45 := frm_sep h 7 (by omega) rfl
    have c10 : (a10.toNat : Int) = 84 := frm_sep h 10 (by omega) rfl
    have c13 : (a13.toNat : Int) = 58 := frm_sep h 13 (by omega) rfl
    have c16 : (a16.toNat : Int) = 58 := frm_sep h 16 (by omega) rfl
    have x4 : a4 = 45 := UInt8.toNat.inj (by show a4.toNat = 45; omega)
    have x7 : a7 = 45 := UInt8.toNat.inj (by show a7.toNat = 45; omega)
    have x10 : a10 = 84 := UInt8.toNat.inj (by show a10.toNat = 84; omega)
    have x13 : a13 = 58 := UInt8.toNat.inj (by show a13.toNat = 58; omega)
    have x16 : a16 = 58 := UInt8.toNat.inj (by show a16.toNat = 58; omega)
    replace n0 : (accD ([a0, a1, a2, a3, a4, a5, a6, a7, a8, a9, a10, a11, a12, a13, a14, a15, a16, a17, a18] ++ t) 0 4 : Int) = (a0.toNat - 48) * 1000 + (a1.toNat - 48) * 100 + (a2.toNat - 48) * 10 + (a3.toNat - 48) := n0
    replace n5 : (accD ([a0, a1, a2, a3, a4, a5, a6, a7, a8, a9, a10, a11, a12, a13, a14, a15, a16, a17, a18] ++ t) 5 2 : Int) = (a5.toNat - 48) * 10 + (a6.toNat - 48) := n5
    replace n8 : (accD ([a0, a1, a2, a3, a4, a5, a6, a7, a8, a9, a10, a11, a12, a13, a14, a15, a16, a17, a18] ++ t) 8 2 : Int) = (a8.toNat - 48) * 10 + (a9.toNat - 48) := n8
    replace n11 : (accD ([a0, a1, a2, a3, a4, a5, a6, a7, a8, a9, a10, a11, a12, a13, a14, a15, a16, a17, a18] ++ t) 11 2 : Int) = (a11.toNat - 48) * 10 + (a12.toNat - 48) := n11
    replace n14 : (accD ([a0, a1, a2, a3, a4, a5, a6, a7, a8, a9, a10, a11, a12, a13, a14, a15, a16, a17, a18] ++ t) 14 2 : Int) = (a14.toNat - 48) * 10 + (a15.toNat - 48) := n14
    replace n17 : (accD ([a0, a1, a2, a3, a4, a5, a6, a7, a8, a9, a10, a11, a12, a13, a14, a15, a16, a17, a18] ++ t) 17 2 : Int) = (a17.toNat - 48) * 10 + (a18.toNat - 48) := n17
    clear y0 y5 y8 y11 y14 y17 d c4 c7 c10 c13 c16 h hl
    subst x4 x7 x10 x13 x16
    generalize accD ([a0, a1, a2, a3, 45, a5, a6, 45, a8, a9, 84, a11, a12, 58, a14, a15, 58, a17, a18] ++ t) 0 4 = N0 at *
    generalize accD ([a0, a1, a2, a3, 45, a5, a6, 45, a8, a9, 84, a11, a12, 58, a14, a15, 58, a17, a18] ++ t) 5 2 = N5 at *
    generalize accD ([a0, a1, a2, a3, 45, a5, a6, 45, a8, a9, 84, a11, a12, 58, a14, a15, 58, a17, a18] ++ t) 8 2 = N8 at *
    generalize accD ([a0, a1, a2, a3, 45, a5, a6, 45, a8, a9, 84, a11, a12, 58, a14, a15, 58, a17, a18] ++ t) 11 2 = N11 at *
    generalize accD ([a0, a1, a2, a3, 45, a5, a6, 45, a8, a9, 84, a11, a12, 58, a14, a15, 58, a17, a18] ++ t) 14 2 = N14 at *
    generalize accD ([a0, a1, a2, a3, 45, a5, a6, 45, a8, a9, 84, a11, a12, 58, a14, a15, 58, a17, a18] ++ t) 17 2 = N17 at *
    have e0 := isD_yes d0
    have e1 := isD_yes d1
    have e2 := isD_yes d2
    have e3 := isD_yes d3
    have e5 := isD_yes d5
    have e6 := isD_yes d6
    have e8 := isD_yes d8
    have e9 := isD_yes d9
    have e11 := isD_yes d11
    have e12 := isD_yes d12
    have e14 := isD_yes d14
    have e15 := isD_yes d15
    have e17 := isD_yes d17
    have e18 := isD_yes d18
    unfold txt19
    rw [dg_of (n := N0 / 1000) d0 (by omega), dg_of (n := N0 / 100) d1 (by omega), dg_of (n := N0 / 10) d2 (by omega), dg_of (n := N0) d3 (by omega), dg_of (n := N5 / 10) d5 (by omega), dg_of (n := N5) d6 (by omega), dg_of (n := N8 / 10) d8 (by omega), dg_of (n := N8) d9 (by omega),
      dg_of (n := N11 / 10) d11 (by omega), dg_of (n := N11) d12 (by omega), dg_of (n := N14 / 10) d14 (by omega), dg_of (n := N14) d15 (by omega), dg_of (n := N17 / 10) d17 (by omega), dg_of (n := N17) d18 (by omega)]

theorem mk_sec {l : List UInt8} (h : secOk l) : MkOf (secV l) (l.take 19 ++ [90]) := by
  have hb := secV_bd h
  have hd := secV_day h
  refine .inl ⟨hb.1, hb.2, _, _, _, h.2.2.1, hd.1.symm, ?_⟩
  rw [hd.2, ← txt19_back h.1]
  obtain ⟨_, _, _, h1, h2, h3⟩ := h
  unfold txt
  congr 2 <;> omega
end Go.Proofs.YtfedidiieacakaaDoor.St
