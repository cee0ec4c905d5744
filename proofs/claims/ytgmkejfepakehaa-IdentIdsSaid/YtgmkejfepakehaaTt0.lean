/- Merged: Base NuPl IdPl. -/
import Derived.Test.YtgmkejfepakehaaProg
import Derived.Below
import Derived.Laws.OwnMore
import Derived.Laws.BytesArg
import Derived.Deep.Draws
import Derived.Lib.UnsafeStr
import Derived.Lib.Hide
import Derived.WalkKit
import Derived.Laws.AppendOwn
import Derived.Laws.BytesString
import Derived.Lib.Strings
import Derived.OpenShut
namespace Go.Proofs.Ytgmkejfepakehaa
open Go.RowKit

def Rd (w : World) (B : Nat) (v : Value) (xs : List Value) : Prop :=
  ∃ A c, v = .slice A xs.length c ∧ (0 < xs.length → ∃ ad, A = some ad ∧ ad.block < B ∧ ∀ j u, xs[j]? = some u → w.cell? (ad.add j) = some u)

section
variable {w w' : World} {B B' : Nat} {v : Value} {xs : List Value}

theorem Rd.conv {P : Program} {S E D : TypeId} {l : List UInt8} (h : Rd w B v (Lib.byteCells l)) (hs : P.underlying S = some (.slice E)) (he : P.underlying E = some (.int .u8)) (hd : P.underlying D = some .string) :
    (convert S D v).run P w = .ok (.string ⟨l.toArray⟩) w := by
  obtain ⟨A, c, rfl, hc⟩ := h
  by_cases h0 : 0 < (Lib.byteCells l).length
  · obtain ⟨ad, rfl, _, hx⟩ := hc h0
    have hl : (loadCells ad (Lib.byteCells l).length).run P w = .ok ((l.map fun b => (b.toNat : Int)).map (Value.int .u8)).toArray w := by
      have := run_loadCells_list (P := P) w ad (Lib.byteCells l) hx
      rw [List.map_map]; simpa [Lib.byteCells, Function.comp_def] using this
    rw [run_convert_bytes_string w S D E _ _ c hs he hd, run_bytesToString w _ _ c _ hl, foldl_push_bytes]
    have e : (l.map fun b => (b.toNat : Int)).map (fun n => UInt8.ofNat n.toNat) = l := by
      rw [List.map_map]; conv => rhs; rw [← List.map_id l]
      exact List.map_congr_left fun x _ => by simp
    rw [e]
    simp [ByteArray.empty, ByteArray.emptyWithCapacity]
    rfl
  · have : l = [] := by
      cases l with
      | nil => rfl
      | cons a r => exact absurd (by simp [Lib.byteCells]) h0
    subst this
    cases A with
    | none => exact run_convert_bytes_nil w S E hs he _ c D hd
    | some ad =>
      have hl : (loadCells ad 0).run P w = .ok (([] : List Int).map (Value.int .u8)).toArray w := by
        simpa using run_loadCells_list (P := P) w ad [] (by simp)
      rw [run_convert_bytes_string w S D E _ _ c hs he hd, show (Lib.byteCells []).length = 0 from rfl, run_bytesToString w _ _ c [] hl]
      rfl
end

end Go.Proofs.Ytgmkejfepakehaa
namespace Go.Proofs.Ytgmkejfepakehaa
open Go.RowKit
end Go.Proofs.Ytgmkejfepakehaa
namespace Go.Proofs.Ytgmkejfepakehaa.Utf
open Go.RowKit

def byt (l : List UInt8) (k : Nat) : Int := ((l.getD k 0).toNat : Int)
theorem byt_lo (l : List UInt8) (k : Nat) : 0 ≤ byt l k := by unfold byt; omega
theorem byt_hi (l : List UInt8) (k : Nat) : byt l k ≤ 255 := by unfold byt; have := (l.getD k 0).toNat_lt; omega
theorem len_data (s : ByteArray) : s.data.toList.length = s.size := rfl
theorem byt_get (s : ByteArray) (k : Nat) (h : k < s.size) : byt s.data.toList k = (s[k].toNat : Int) := by
  unfold byt
  rw [List.getD_eq_getElem?_getD, List.getElem?_eq_getElem (by simpa using h)]
  rfl

theorem ret_bool {a b : Bool} (h : a = b) : Ending.returned (.bool a) = .returned (.bool b) := by rw [h]
theorem ret_int {k : IntKind} {a b : Int} (h : a = b) : Ending.returned (.int k a) = .returned (.int k b) := by rw [h]

def strOf (l : List UInt8) : ByteArray := ⟨l.toArray⟩
theorem strOf_data (l : List UInt8) : (strOf l).data.toList = l := rfl
theorem strOf_list (l : List UInt8) : (strOf l).toList = l := by rw [ByteArray.toList_eq]; rfl
theorem strOf_size (l : List UInt8) : (strOf l).size = l.length := rfl

def Gives (v : Value) (w : World) (e : Ending) (w' : World) : Prop := e = .returned v ∧ Below w.heap.size w w'
end Go.Proofs.Ytgmkejfepakehaa.Utf
namespace Go.Proofs.Ytgmkejfepakehaa.Nu
open Go.RowKit
open Go.Proofs.Ytgmkejfepakehaa.Utf

def dg (m : Nat) : UInt8 := UInt8.ofNat (48 + m % 10)
theorem dg_nat (m : Nat) : (dg m).toNat = 48 + m % 10 := by unfold dg; simp; omega
def digF : Nat → Nat → List UInt8
  | 0, _ => []
  | f + 1, m => if m < 10 then [dg m] else digF f (m / 10) ++ [dg m]
def digN (m : Nat) : List UInt8 := digF 20 m
def digZ (m : Nat) : List UInt8 := if m = 0 then [] else digN m
def putL (n : Int) : List UInt8 := if n < 0 then 45 :: digN n.natAbs else digN n.natAbs

theorem digF_more (f : Nat) : ∀ m, m < 10 ^ f → 0 < f → digF (f + 1) m = digF f m := by
  induction f with
  | zero => intro m _ h; omega
  | succ f ih =>
    intro m hm _
    rw [digF]
    conv => rhs; rw [digF]
    by_cases h10 : m < 10
    · rw [if_pos h10, if_pos h10]
    · rw [if_neg h10, if_neg h10]
      have h1 : m / 10 < 10 ^ f := by
        rw [Nat.pow_succ] at hm
        omega
      have hf : 0 < f := by
        rcases Nat.eq_zero_or_pos f with rfl | h
        · simp at hm; omega
        · exact h
      rw [ih _ h1 hf]
theorem digN_one {m : Nat} (h : m < 10) : digN m = [dg m] := by rw [digN, digF, if_pos h]
theorem digN_step {m : Nat} (h : ¬ m < 10) (hm : m < 10 ^ 20) : digN m = digN (m / 10) ++ [dg m] := by
  rw [digN, digF, if_neg h, digN, digF_more 19 (m / 10) (by omega) (by omega)]
theorem digN_Z {m : Nat} (hm : m < 10 ^ 20) : digN m = digZ (m / 10) ++ [dg m] := by
  by_cases h : m < 10
  · rw [digN_one h, digZ, if_pos (by omega)]; rfl
  · rw [digN_step h hm, digZ, if_neg (by omega)]
theorem digZ_pos {m : Nat} (h : m ≠ 0) : digZ m = digN m := by rw [digZ, if_neg h]

def isD (b : Int) : Bool := decide (48 ≤ b ∧ b ≤ 57)
theorem isD_yes {b : Int} (h : isD b = true) : 48 ≤ b ∧ b ≤ 57 := by simpa [isD] using h
theorem byt_out {l : List UInt8} {k : Nat} (h : l.length ≤ k) : byt l k = 0 := by
  unfold byt; rw [List.getD_eq_getElem?_getD, List.getElem?_eq_none h]; rfl
theorem byt_in {l : List UInt8} {k : Nat} (h : k < l.length) : byt l k = (l[k].toNat : Int) := by
  unfold byt; rw [List.getD_eq_getElem?_getD, List.getElem?_eq_getElem h]; rfl
theorem isD_in {l : List UInt8} {k : Nat} (h : isD (byt l k) = true) : k < l.length := by
  rcases Nat.lt_or_ge k l.length with h1 | h1
  · exact h1
  · rw [byt_out h1] at h; exact absurd h (by decide)

def accD (l : List UInt8) (p : Nat) : Nat → Nat
  | 0 => 0
  | k + 1 => accD l p k * 10 + (byt l (p + k) - 48).toNat
def digsK (l : List UInt8) (p : Nat) : Nat → Bool
  | 0 => true
  | k + 1 => digsK l p k && isD (byt l (p + k))
theorem digsK_iff (l : List UInt8) (p k : Nat) : digsK l p k = true ↔ ∀ j, j < k → isD (byt l (p + j)) = true := by
  induction k with
  | zero => simp [digsK]
  | succ k ih =>
    rw [digsK, Bool.and_eq_true, ih]
    constructor
    · intro ⟨h1, h2⟩ j hj
      rcases Nat.lt_or_ge j k with h | h
      · exact h1 j h
      · obtain rfl : j = k := by omega
        exact h2
    · intro h
      exact ⟨fun j hj => h j (by omega), h k (by omega)⟩
theorem digsK_in {l : List UInt8} {p k : Nat} (h : digsK l p k = true) (hk : 0 < k) : p + k ≤ l.length := by
  have := isD_in ((digsK_iff l p k).1 h (k - 1) (by omega))
  omega

def runD : List UInt8 → Nat
  | [] => 0
  | b :: r => if isD (b.toNat : Int) = true then runD r + 1 else 0
theorem runD_spec (l : List UInt8) : ∀ p, digsK l p (runD (l.drop p)) = true ∧ isD (byt l (p + runD (l.drop p))) = false := by
  have key : ∀ (m : List UInt8), digsK m 0 (runD m) = true ∧ isD (byt m (runD m)) = false := by
    intro m
    induction m with
    | nil => exact ⟨rfl, by decide⟩
    | cons b r ih =>
      have hb : byt (b :: r) 0 = (b.toNat : Int) := rfl
      have hs : ∀ k, byt (b :: r) (k + 1) = byt r k := fun k => rfl
      rw [runD]
      by_cases h : isD (b.toNat : Int) = true
      · rw [if_pos h, hs]
        refine ⟨?_, ih.2⟩
        rw [digsK_iff]
        intro j hj
        rw [Nat.zero_add]
        cases j with
        | zero => rw [hb]; exact h
        | succ j =>
          rw [hs]
          have := (digsK_iff _ _ _).1 ih.1 j (by omega)
          rwa [Nat.zero_add] at this
      · rw [if_neg h]
        exact ⟨rfl, by rw [hb]; simpa using h⟩
  intro p
  obtain ⟨h1, h2⟩ := key (l.drop p)
  have hd : ∀ k, byt (l.drop p) k = byt l (p + k) := by
    intro k; unfold byt; rw [List.getD_eq_getElem?_getD, List.getElem?_drop, List.getD_eq_getElem?_getD]
  rw [hd] at h2
  refine ⟨?_, h2⟩
  rw [digsK_iff] at h1 ⊢
  intro j hj
  have := h1 j hj
  rwa [hd, Nat.zero_add] at this
def runL (l : List UInt8) (p : Nat) : Nat := runD (l.drop p)
theorem runL_eq {l : List UInt8} {p k : Nat} (h : digsK l p k = true) (hn : isD (byt l (p + k)) = false) : runL l p = k := by
  obtain ⟨h1, h2⟩ := runD_spec l p
  unfold runL
  rcases Nat.lt_trichotomy (runD (l.drop p)) k with h3 | h3 | h3
  · have := (digsK_iff _ _ _).1 h _ h3
    rw [h2] at this
    cases this
  · exact h3
  · have := (digsK_iff _ _ _).1 h1 _ h3
    rw [hn] at this
    cases this
theorem runL_digs (l : List UInt8) (p : Nat) : digsK l p (runL l p) = true := (runD_spec l p).1
theorem runL_le (l : List UInt8) (p : Nat) (h : p ≤ l.length) : p + runL l p ≤ l.length := by
  rcases Nat.eq_zero_or_pos (runL l p) with h0 | h0
  · omega
  · exact digsK_in (runL_digs l p) h0

def maxN : Nat := 9007199254740991
def fstN (l : List UInt8) (p : Nat) : Nat := if byt l p = 45 then p + 1 else p
def badN (l : List UInt8) (f r : Nat) : Prop := r = 0 ∨ maxN < accD l f r ∨ (1 < r ∧ byt l f = 48) ∨ (byt l (f + r) = 46 ∨ byt l (f + r) = 101 ∨ byt l (f + r) = 69)
instance (l : List UInt8) (f r : Nat) : Decidable (badN l f r) := by unfold badN; infer_instance
def rdN (l : List UInt8) (p : Nat) : Int × Int × Int :=
  if badN l (fstN l p) (runL l (fstN l p)) then (0, p, 30)
  else ((if byt l p = 45 then -(accD l (fstN l p) (runL l (fstN l p)) : Int) else (accD l (fstN l p) (runL l (fstN l p)) : Int)), (fstN l p + runL l (fstN l p) : Nat), 0)
def rdS (l : List UInt8) (a : Int) : Int × Int × Int := if a < 0 ∨ (l.length : Int) ≤ a then (0, a, 30) else rdN l a.toNat

theorem fst_le (l : List UInt8) (p : Nat) (h : p < l.length) : p ≤ fstN l p ∧ fstN l p ≤ l.length := by unfold fstN; split <;> omega

theorem rdS_bounds (l : List UInt8) (a : Int) : -(maxN : Int) ≤ (rdS l a).1 ∧ (rdS l a).1 ≤ maxN := by
  have hm : maxN = 9007199254740991 := rfl
  unfold rdS
  split
  · simp [hm]
  · unfold rdN
    split
    · simp [hm]
    · rename_i h1 h2
      have h3 : ¬ maxN < accD l (fstN l a.toNat) (runL l (fstN l a.toNat)) := fun h => h2 (.inr (.inl h))
      show -(maxN : Int) ≤ (if byt l a.toNat = 45 then _ else _) ∧ (if byt l a.toNat = 45 then _ else _) ≤ (maxN : Int)
      split <;> omega
theorem rdS_place (l : List UInt8) (a : Int) : (rdS l a).2.1 = a ∨ (0 ≤ (rdS l a).2.1 ∧ (rdS l a).2.1 ≤ l.length) := by
  unfold rdS
  split
  · exact .inl rfl
  · unfold rdN
    split
    · exact .inl (by show ((a.toNat : Nat) : Int) = a; omega)
    · rename_i h1 h2
      have := fst_le l a.toNat (by omega)
      have := runL_le l (fstN l a.toNat) this.2
      refine .inr ?_
      show 0 ≤ ((_ : Nat) : Int) ∧ ((_ : Nat) : Int) ≤ _
      omega
theorem rdS_why (l : List UInt8) (a : Int) : (rdS l a).2.2 = 0 ∨ (rdS l a).2.2 = 30 ∧ (rdS l a).1 = 0 ∧ (rdS l a).2.1 = a := by
  unfold rdS
  split
  · exact .inr ⟨rfl, rfl, rfl⟩
  · unfold rdN
    split
    · exact .inr ⟨rfl, rfl, by show ((a.toNat : Nat) : Int) = a; omega⟩
    · exact .inl rfl
end Go.Proofs.Ytgmkejfepakehaa.Nu
namespace Go.Proofs.Ytgmkejfepakehaa.Nu
open Go.RowKit
open Go.Proofs.Ytgmkejfepakehaa.Utf

theorem byt_app_l (l t : List UInt8) (k : Nat) (h : k < l.length) : byt (l ++ t) k = byt l k := by
  unfold byt; rw [List.getD_eq_getElem?_getD, List.getD_eq_getElem?_getD, List.getElem?_append_left h]
theorem byt_app_r (l t : List UInt8) (k : Nat) : byt (l ++ t) (l.length + k) = byt t k := by
  unfold byt; rw [List.getD_eq_getElem?_getD, List.getD_eq_getElem?_getD, List.getElem?_append_right (by omega), Nat.add_sub_cancel_left]
theorem byt_app_0 (l t : List UInt8) : byt (l ++ t) l.length = byt t 0 := byt_app_r l t 0
theorem digN_len (m : Nat) : 1 ≤ (digN m).length := by
  unfold digN
  rw [digF]
  by_cases h : m < 10
  · rw [if_pos h]; exact Nat.le_refl _
  · rw [if_neg h, List.length_append]; exact Nat.le_add_left _ _
theorem digF_len (f : Nat) : ∀ m, (digF f m).length ≤ f := by
  induction f with
  | zero => intro m; simp [digF]
  | succ f ih =>
    intro m
    rw [digF]
    split
    · simp
    · have := ih (m / 10); simp; omega
theorem digN_le (m : Nat) : (digN m).length ≤ 20 := digF_len 20 m
theorem putL_len (n : Int) : 1 ≤ (putL n).length ∧ (putL n).length ≤ 21 := by
  have := digN_len n.natAbs
  have := digN_le n.natAbs
  unfold putL
  split
  · rw [List.length_cons]; omega
  · omega

def allS (l : List UInt8) : Int × Bool := if (rdS l 0).2.2 = 0 ∧ putL (rdS l 0).1 = l then ((rdS l 0).1, true) else (0, false)
theorem all_yes {l : List UInt8} (h : (allS l).2 = true) : putL (allS l).1 = l ∧ (allS l).1.natAbs ≤ maxN := by
  have hb := rdS_bounds l 0
  unfold allS at h ⊢
  split at h
  · rename_i h1
    rw [if_pos h1]
    exact ⟨h1.2, by show (rdS l 0).1.natAbs ≤ maxN; omega⟩
  · cases h
end Go.Proofs.Ytgmkejfepakehaa.Nu
namespace Go.Proofs.Ytgmkejfepakehaa.Id
open Go.RowKit
open Go.Proofs.Ytgmkejfepakehaa.Utf
open Go.Proofs.Ytgmkejfepakehaa.Nu

def mayB (b : Int) : Bool := decide (((65 ≤ b ∧ b ≤ 90) ∨ (97 ≤ b ∧ b ≤ 122) ∨ (48 ≤ b ∧ b ≤ 57)) ∨ b = 45 ∨ b = 95)
def isL (l : List UInt8) : Bool := decide (1 ≤ l.length ∧ l.length ≤ 255 ∧ ∀ k, k < l.length → mayB (byt l k) = true)
theorem isL_no {l : List UInt8} {k : Nat} (hk : k < l.length) (h : mayB (byt l k) = false) : isL l = false :=
  decide_eq_false fun h3 => by rw [h3.2.2 k hk] at h; cases h
theorem isL_len {l : List UInt8} (h : l.length = 0 ∨ 255 < l.length) : isL l = false := decide_eq_false fun h3 => by omega
theorem isL_of {l : List UInt8} (h : ∀ k, k < l.length → mayB (byt l k) = true) : isL l = decide (1 ≤ l.length ∧ l.length ≤ 255) := by
  unfold isL; exact decide_eq_decide.2 ⟨fun h3 => ⟨h3.1, h3.2.1⟩, fun h3 => ⟨h3.1, h3.2, h⟩⟩

def d32 (n : Nat) : UInt8 := UInt8.ofNat (if n % 32 < 10 then 48 + n % 32 else 87 + n % 32)
theorem d32_nat (n : Nat) : (d32 n).toNat = if n % 32 < 10 then 48 + n % 32 else 87 + n % 32 := by
  unfold d32; simp; split <;> omega
theorem d32_int (n : Int) (h : 0 ≤ n) : ((d32 n.toNat).toNat : Int) = if n % 32 < 10 then 48 + n % 32 else 87 + n % 32 := by
  rw [d32_nat]; split <;> split <;> omega
def b32 : Nat → Nat → List UInt8
  | 0, _ => []
  | j + 1, n => b32 j (n / 32) ++ [d32 n]
theorem b32_len : ∀ j n, (b32 j n).length = j
  | 0, _ => rfl
  | j + 1, n => by rw [b32, List.length_append, b32_len j]; rfl

def MkI (m : Int) (i : Nat) (n : Int) (ds : List UInt8) : Prop := ds.length + i = 11 ∧ 0 ≤ n ∧ n ≤ 9007199254740991 ∧ b32 11 m.toNat = b32 i n.toNat ++ ds
theorem MkI_0 {m : Int} (h0 : 0 ≤ m) (h1 : m ≤ 9007199254740991) : MkI m 11 m [] := ⟨rfl, h0, h1, by simp⟩
theorem MkI_next {m : Int} {i : Nat} {n : Int} {ds : List UInt8} (h : MkI m (i + 1) n ds) : MkI m i (n / 32) (d32 n.toNat :: ds) := by
  obtain ⟨h1, h2, h3, h4⟩ := h
  refine ⟨by rw [List.length_cons]; omega, by omega, by omega, ?_⟩
  rw [h4, b32, show (n / 32).toNat = n.toNat / 32 by omega, List.append_assoc]; rfl
theorem MkI_end {m : Int} {n : Int} {ds : List UInt8} (h : MkI m 0 n ds) : b32 11 m.toNat = ds := by rw [h.2.2.2, b32]; rfl

def okK (k n : Int) : Prop := (k = 1 ∨ k = 2) ∧ 0 ≤ n ∧ n ≤ 9007199254740991
instance (k n : Int) : Decidable (okK k n) := by unfold okK; infer_instance
def kI (k : Int) : UInt8 := if k = 1 then 67 else 66
def kS (k : Int) : UInt8 := if k = 1 then 99 else 98
def mkL (k n : Int) : List UInt8 := if okK k n then kI k :: b32 11 n.toNat else []
def stL (k n : Int) : List UInt8 := if okK k n then kS k :: putL n else []

def wor (b : Int) : Int := if 48 ≤ b ∧ b ≤ 57 then b - 48 else if 97 ≤ b ∧ b ≤ 118 then b - 87 else 0
def isW (b : Int) : Bool := decide ((48 ≤ b ∧ b ≤ 57) ∨ (97 ≤ b ∧ b ≤ 118))
theorem isW_yes {b : Int} (h : isW b = true) : (48 ≤ b ∧ b ≤ 57) ∨ (97 ≤ b ∧ b ≤ 118) := by simpa [isW] using h
theorem wor_le (b : Int) : 0 ≤ wor b ∧ wor b < 32 := by unfold wor; split <;> (try split) <;> omega
def acc32 (l : List UInt8) (p : Nat) : Nat → Int
  | 0 => 0
  | k + 1 => acc32 l p k * 32 + wor (byt l (p + k))
theorem acc32_le (l : List UInt8) (p : Nat) : ∀ k, 0 ≤ acc32 l p k ∧ acc32 l p k < 32 ^ k
  | 0 => ⟨Int.le_refl _, by show (0 : Int) < 32 ^ 0; decide⟩
  | k + 1 => by
    have := acc32_le l p k
    have := wor_le (byt l (p + k))
    rw [acc32, Int.pow_succ]
    omega
theorem acc32_app (l t : List UInt8) (p k : Nat) (h : p + k ≤ l.length) : acc32 (l ++ t) p k = acc32 l p k := by
  induction k with
  | zero => rfl
  | succ k ih => rw [acc32, acc32, ih (by omega), byt_app_l _ _ _ (by omega)]
theorem d32_wor (n : Nat) : wor ((d32 n).toNat : Int) = (n % 32 : Nat) ∧ isW ((d32 n).toNat : Int) = true := by
  have h := d32_nat n
  rw [h]
  unfold wor isW
  by_cases h10 : n % 32 < 10
  · rw [if_pos h10, if_pos (by omega)]
    exact ⟨by omega, decide_eq_true (by omega)⟩
  · rw [if_neg h10, if_neg (by omega), if_pos (by omega)]
    exact ⟨by omega, decide_eq_true (by omega)⟩
theorem d32_of {b : UInt8} (h : isW (b.toNat : Int) = true) (n : Nat) (hn : (n % 32 : Nat) = wor (b.toNat : Int)) : d32 n = b := by
  apply UInt8.toNat_inj.1
  rw [d32_nat]
  have h1 := isW_yes h
  unfold wor at hn
  split at hn
  · rw [if_pos (by omega)]; omega
  · rw [if_pos (by omega)] at hn
    rw [if_neg (by omega)]; omega
theorem b32_read (xs : List UInt8) : ∀ j n, acc32 (xs ++ b32 j n) xs.length j = ((n % 32 ^ j : Nat) : Int) ∧ ∀ i, i < j → isW (byt (xs ++ b32 j n) (xs.length + i)) = true
  | 0, n => ⟨by simp [acc32, Nat.mod_one], fun i h => by omega⟩
  | j + 1, n => by
    obtain ⟨h1, h2⟩ := b32_read xs j (n / 32)
    have hl : (xs ++ b32 j (n / 32)).length = xs.length + j := by rw [List.length_append, b32_len]
    have e : xs ++ b32 (j + 1) n = (xs ++ b32 j (n / 32)) ++ [d32 n] := by rw [b32, List.append_assoc]
    have hb : byt (xs ++ b32 (j + 1) n) (xs.length + j) = ((d32 n).toNat : Int) := by rw [e, ← hl, byt_app_0]; rfl
    constructor
    · rw [acc32, hb, (d32_wor n).1, e, acc32_app _ _ _ _ (by omega), h1]
      have hm : n % 32 ^ (j + 1) = n / 32 % 32 ^ j * 32 + n % 32 := by
        rw [Nat.pow_succ, Nat.mul_comm, Nat.mod_mul]; omega
      rw [hm]; omega
    · intro i hi
      by_cases h : i = j
      · rw [h, hb]; exact (d32_wor n).2
      · rw [e, byt_app_l _ _ _ (by omega)]; exact h2 i (by omega)
theorem b32_acc (l : List UInt8) (p : Nat) : ∀ k, p + k ≤ l.length → (∀ i, i < k → isW (byt l (p + i)) = true) → b32 k (acc32 l p k).toNat = (l.drop p).take k
  | 0, _, _ => by simp [b32]
  | k + 1, hl, hw => by
    have ih := b32_acc l p k (by omega) fun i hi => hw i (by omega)
    have h1 := (acc32_le l p k).1
    have h2 := wor_le (byt l (p + k))
    have hin : p + k < l.length := by omega
    have hbl := byt_in hin
    have hgl : (l.drop p)[k]? = some l[p + k] := by rw [List.getElem?_drop, List.getElem?_eq_getElem hin]
    have hwk := hw k (by omega)
    have htk : (l.drop p).take (k + 1) = (l.drop p).take k ++ [l[p + k]] := by rw [List.take_add_one, hgl]; rfl
    have e : (acc32 l p (k + 1)).toNat / 32 = (acc32 l p k).toNat := by rw [acc32]; omega
    have e2 : d32 (acc32 l p (k + 1)).toNat = l[p + k] := by
      rw [hbl] at hwk
      refine d32_of hwk _ ?_
      rw [← hbl, acc32]; omega
    rw [b32, e, e2, ih, htk]

def NuOk (l : List UInt8) : Prop := l.length = 12 ∧ (byt l 0 = 67 ∨ byt l 0 = 66) ∧ (∀ j, j < 11 → isW (byt l (1 + j)) = true) ∧ acc32 l 1 11 ≤ 9007199254740991
instance (l : List UInt8) : Decidable (NuOk l) := by unfold NuOk; infer_instance
def nuL (l : List UInt8) : Int × Int × Bool := if NuOk l then (if byt l 0 = 67 then 1 else 2, acc32 l 1 11, true) else (0, 0, false)
theorem kI_nat (k : Int) : ((kI k).toNat : Int) = if k = 1 then 67 else 66 := by unfold kI; split <;> rfl
theorem mkL_ok {k n : Int} (h : okK k n) : NuOk (mkL k n) ∧ nuL (mkL k n) = (k, n, true) := by
  have e : mkL k n = [kI k] ++ b32 11 n.toNat := by rw [mkL, if_pos h]; rfl
  obtain ⟨hk, h0, h1⟩ := h
  obtain ⟨a1, a2⟩ := b32_read [kI k] 11 n.toNat
  rw [← e] at a1 a2
  have hb : byt (mkL k n) 0 = ((kI k).toNat : Int) := by rw [e]; rfl
  rw [kI_nat] at hb
  have a3 : acc32 (mkL k n) 1 11 = n := by
    have : acc32 (mkL k n) 1 11 = _ := a1
    rw [this, Nat.mod_eq_of_lt (by omega)]; omega
  have hN : NuOk (mkL k n) := ⟨by rw [e, List.length_append, b32_len]; rfl, by rw [hb]; rcases hk with rfl | rfl <;> simp, a2, by rw [a3]; exact h1⟩
  refine ⟨hN, ?_⟩
  rw [nuL, if_pos hN, a3, hb]
  rcases hk with rfl | rfl <;> simp
theorem mkL_len (k n : Int) : (mkL k n).length = if okK k n then 12 else 0 := by
  unfold mkL; split
  · rw [List.length_cons, b32_len]
  · rfl
theorem mkL_back {l : List UInt8} (h : NuOk l) : okK (nuL l).1 (nuL l).2.1 ∧ mkL (nuL l).1 (nuL l).2.1 = l := by
  have hN := h
  obtain ⟨h1, h2, h3, h4⟩ := h
  rw [nuL, if_pos hN]
  have hk : okK (if byt l 0 = 67 then 1 else 2) (acc32 l 1 11) := ⟨by split <;> simp, (acc32_le l 1 11).1, h4⟩
  refine ⟨hk, ?_⟩
  show mkL (if byt l 0 = 67 then 1 else 2) (acc32 l 1 11) = l
  rw [mkL, if_pos hk, b32_acc l 1 11 (by omega) h3]
  cases l with
  | nil => cases h1
  | cons b r =>
    have hb : byt (b :: r) 0 = (b.toNat : Int) := rfl
    rw [hb] at h2 ⊢
    have hl : kI (if (b.toNat : Int) = 67 then 1 else 2) = b := by
      apply UInt8.toNat_inj.1
      unfold kI
      rcases h2 with h2 | h2
      · rw [if_pos h2, if_pos rfl]; show 67 = b.toNat; omega
      · rw [if_neg (by omega)]; show 66 = b.toNat; omega
    rw [hl]
    rw [List.length_cons] at h1
    simp [List.take_of_length_le (show r.length ≤ 11 by omega)]

def dwr (b : Int) : Int := (if 97 ≤ b then b - 87 else b - 48).tmod 32
def racc (l : List UInt8) : Nat → Int
  | 0 => 0
  | k + 1 => racc l k * 32 + dwr (byt l (k + 1))
theorem mod32 (x : Int) : -32 < x.tmod 32 ∧ x.tmod 32 < 32 ∧ (0 ≤ x → x.tmod 32 = x % 32) := by
  have h : (x.tmod 32).natAbs = x.natAbs % 32 := by rw [Int.natAbs_tmod]; rfl
  exact ⟨by omega, by omega, fun hx => Int.tmod_eq_emod_of_nonneg hx⟩
theorem dwr_le (b : Int) : -32 < dwr b ∧ dwr b < 32 := by
  have := mod32 (if 97 ≤ b then b - 87 else b - 48)
  unfold dwr; omega
theorem racc_le (l : List UInt8) : ∀ k, -(32 ^ k) < racc l k ∧ racc l k < 32 ^ k
  | 0 => ⟨by show -(32 ^ 0 : Int) < 0; decide, by show (0 : Int) < 32 ^ 0; decide⟩
  | k + 1 => by
    have := racc_le l k
    have := dwr_le (byt l (k + 1))
    rw [racc, Int.pow_succ]
    omega
theorem racc_eq (l : List UInt8) : ∀ k, (∀ j, j < k → isW (byt l (1 + j)) = true) → racc l k = acc32 l 1 k
  | 0, _ => rfl
  | k + 1, h => by
    have h1 := isW_yes (h k (by omega))
    rw [racc, acc32, racc_eq l k fun j hj => h j (by omega), Nat.add_comm k 1]
    have : dwr (byt l (1 + k)) = wor (byt l (1 + k)) := by
      have h2 := (mod32 (if 97 ≤ byt l (1 + k) then byt l (1 + k) - 87 else byt l (1 + k) - 48)).2.2
      unfold dwr wor
      split at h2 <;> split <;> (try split) <;> omega
    rw [this]
def rnL (l : List UInt8) : Int × Int × Bool :=
  if l.length = 12 then (if mkL 1 (racc l 11) = l then (1, racc l 11, true) else if mkL 2 (racc l 11) = l then (2, racc l 11, true) else (0, 0, false)) else (0, 0, false)
theorem mkL_12 (n : Int) (l : List UInt8) (h : l.length = 12) (h1 : mkL 1 n = l) (h2 : mkL 2 n = l) : False := by
  have a := mkL_len 1 n
  have b := mkL_len 2 n
  rw [h1, h] at a
  rw [h2, h] at b
  by_cases ha : okK 1 n
  · by_cases hb : okK 2 n
    · have e1 := (mkL_ok ha).2
      have e2 := (mkL_ok hb).2
      rw [h1] at e1
      rw [h2, e1] at e2
      exact absurd (congrArg Prod.fst e2) (by decide : ¬ (1 : Int) = 2)
    · rw [if_neg hb] at b; cases b
  · rw [if_neg ha] at a; cases a
theorem rnL_eq (l : List UInt8) : rnL l = nuL l := by
  by_cases h : NuOk l
  · have hb := (mkL_back h).2
    have hr := racc_eq l 11 h.2.2.1
    rw [rnL, if_pos h.1, hr]
    rw [nuL, if_pos h] at hb ⊢
    change mkL (if byt l 0 = 67 then 1 else 2) (acc32 l 1 11) = l at hb
    by_cases h67 : byt l 0 = 67
    · rw [if_pos h67] at hb ⊢
      rw [if_pos hb]
    · rw [if_neg h67] at hb ⊢
      rw [if_neg (fun hc => mkL_12 _ _ h.1 hc hb), if_pos hb]
  · rw [nuL, if_neg h, rnL]
    by_cases h12 : l.length = 12
    · have key : ∀ k, mkL k (racc l 11) ≠ l := by
        intro k hk
        by_cases ho : okK k (racc l 11)
        · have := (mkL_ok ho).1; rw [hk] at this; exact h this
        · have := mkL_len k (racc l 11); rw [if_neg ho, hk, h12] at this; cases this
      rw [if_pos h12, if_neg (key 1), if_neg (key 2)]
    · rw [if_neg h12]

def SqOk (k : Int) (l : List UInt8) : Prop := (k = 1 ∨ k = 2) ∧ 0 < l.length ∧ byt l 0 = (if k = 1 then 99 else 98) ∧ (allS (l.drop 1)).2 = true ∧ 0 ≤ (allS (l.drop 1)).1
instance (k : Int) (l : List UInt8) : Decidable (SqOk k l) := by unfold SqOk; infer_instance
def sqL (k : Int) (l : List UInt8) : Int × Int := if SqOk k l then ((allS (l.drop 1)).1, 0) else (0, 100)
end Go.Proofs.Ytgmkejfepakehaa.Id
