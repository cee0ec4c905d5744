/- Merged: Base NuPl IdPl. -/
import Derived.Test.YtgmkejfepakehaaProg
import Derived.Below
import Derived.Laws.OwnMore
import Derived.Laws.BytesArg
import Derived.Deep.Draws
import Derived.Lib.UnsafeStr
import Derived.Lib.Hide
import Derived.WalkKit
import Derived.Laws.AppendOwn
import Derived.Laws.BytesString
import Derived.Lib.Strings
import Derived.OpenShut
namespace Go.Proofs.Ytgmkejfepakehaa
open Go.RowKit

theorem blk_add (a : Addr) (n : Nat) : (a.add n).block = a.block := by unfold Addr.add; split <;> rfl

def Rd (w : World) (B : Nat) (v : Value) (xs : List Value) : Prop :=
  ∃ A c, v = .slice A xs.length c ∧ (0 < xs.length → ∃ ad, A = some ad ∧ ad.block < B ∧ ∀ j u, xs[j]? = some u → w.cell? (ad.add j) = some u)

section
variable {w w' : World} {B B' : Nat} {v : Value} {xs : List Value}

theorem Rd.keep (h : Rd w B v xs) (hk : ∀ p : Addr, p.block < B → w'.cell? p = w.cell? p) : Rd w' B v xs := by
  obtain ⟨A, c, rfl, hc⟩ := h
  refine ⟨A, c, rfl, fun h0 => ?_⟩
  obtain ⟨ad, rfl, hb, hx⟩ := hc h0
  exact ⟨ad, rfl, hb, fun j u hu => (hk _ (by rw [blk_add]; exact hb)).trans (hx j u hu)⟩
theorem Rd.below' (h : Rd w B v xs) (hb : Below B' w w') (hB : B ≤ B') : Rd w' B v xs := h.keep fun _ hp => hb.cell (by omega)
theorem Rd.conv {P : Program} {S E D : TypeId} {l : List UInt8} (h : Rd w B v (Lib.byteCells l)) (hs : P.underlying S = some (.slice E)) (he : P.underlying E = some (.int .u8)) (hd : P.underlying D = some .string) :
    (convert S D v).run P w = .ok (.string ⟨l.toArray⟩) w := by
  obtain ⟨A, c, rfl, hc⟩ := h
  by_cases h0 : 0 < (Lib.byteCells l).length
  · obtain ⟨ad, rfl, _, hx⟩ := hc h0
    have hl : (loadCells ad (Lib.byteCells l).length).run P w = .ok ((l.map fun b => (b.toNat : Int)).map (Value.int .u8)).toArray w := by
      have := run_loadCells_list (P := P) w ad (Lib.byteCells l) hx
      rw [List.map_map]; simpa [Lib.byteCells, Function.comp_def] using this
    rw [run_convert_bytes_string w S D E _ _ c hs he hd, run_bytesToString w _ _ c _ hl, foldl_push_bytes]
    have e : (l.map fun b => (b.toNat : Int)).map (fun n => UInt8.ofNat n.toNat) = l := by
      rw [List.map_map]; conv => rhs; rw [← List.map_id l]
      exact List.map_congr_left fun x _ => by simp
    rw [e]
    simp [ByteArray.empty, ByteArray.emptyWithCapacity]
    rfl
  · have : l = [] := by
      cases l with
      | nil => rfl
      | cons a r => exact absurd (by simp [Lib.byteCells]) h0
    subst this
    cases A with
    | none => exact run_convert_bytes_nil w S E hs he _ c D hd
    | some ad =>
      have hl : (loadCells ad 0).run P w = .ok (([] : List Int).map (Value.int .u8)).toArray w := by
        simpa using run_loadCells_list (P := P) w ad [] (by simp)
      rw [run_convert_bytes_string w S D E _ _ c hs he hd, show (Lib.byteCells []).length = 0 from rfl, run_bytesToString w _ _ c [] hl]
      rfl
end

end Go.Proofs.Ytgmkejfepakehaa
namespace Go.Proofs.Ytgmkejfepakehaa
open Go.RowKit
end Go.Proofs.Ytgmkejfepakehaa
namespace Go.Proofs.Ytgmkejfepakehaa.Utf
open Go.RowKit

def byt (l : List UInt8) (k : Nat) : Int := ((l.getD k 0).toNat : Int)
theorem len_data (s : ByteArray) : s.data.toList.length = s.size := rfl
theorem byt_get (s : ByteArray) (k : Nat) (h : k < s.size) : byt s.data.toList k = (s[k].toNat : Int) := by
  unfold byt
  rw [List.getD_eq_getElem?_getD, List.getElem?_eq_getElem (by simpa using h)]
  rfl

theorem ret_bool {a b : Bool} (h : a = b) : Ending.returned (.bool a) = .returned (.bool b) := by rw [h]
theorem ret_int {k : IntKind} {a b : Int} (h : a = b) : Ending.returned (.int k a) = .returned (.int k b) := by rw [h]

def strOf (l : List UInt8) : ByteArray := ⟨l.toArray⟩
theorem strOf_data (l : List UInt8) : (strOf l).data.toList = l := rfl
theorem strOf_list (l : List UInt8) : (strOf l).toList = l := by rw [ByteArray.toList_eq]; rfl
theorem strOf_size (l : List UInt8) : (strOf l).size = l.length := rfl

def Gives (v : Value) (w : World) (e : Ending) (w' : World) : Prop := e = .returned v ∧ Below w.heap.size w w'
end Go.Proofs.Ytgmkejfepakehaa.Utf
namespace Go.Proofs.Ytgmkejfepakehaa.Nu
open Go.RowKit
open Go.Proofs.Ytgmkejfepakehaa.Utf

def dg (m : Nat) : UInt8 := UInt8.ofNat (48 + m % 10)
theorem dg_nat (m : Nat) : (dg m).toNat = 48 + m % 10 := by unfold dg; simp; omega
def digF : Nat → Nat → List UInt8
  | 0, _ => []
  | f + 1, m => if m < 10 then [dg m] else digF f (m / 10) ++ [dg m]
def digN (m : Nat) : List UInt8 := digF 20 m
def digZ (m : Nat) : List UInt8 := if m = 0 then [] else digN m
def putL (n : Int) : List UInt8 := if n < 0 then 45 :: digN n.natAbs else digN n.natAbs

theorem digF_more (f : Nat) : ∀ m, m < 10 ^ f → 0 < f → digF (f + 1) m = digF f m := by
  induction f with
  | zero => intro m _ h; omega
  | succ f ih =>
    intro m hm _
    rw [digF]
    conv => rhs; rw [digF]
    by_cases h10 : m < 10
    · rw [if_pos h10, if_pos h10]
    · rw [if_neg h10, if_neg h10]
      have h1 : m / 10 < 10 ^ f := by
        rw [Nat.pow_succ] at hm
        omega
      have hf : 0 < f := by
        rcases Nat.eq_zero_or_pos f with rfl | h
        · simp at hm; omega
        · exact h
      rw [ih _ h1 hf]
theorem digN_one {m : Nat} (h : m < 10) : digN m = [dg m] := by rw [digN, digF, if_pos h]
theorem digN_step {m : Nat} (h : ¬ m < 10) (hm : m < 10 ^ 20) : digN m = digN (m / 10) ++ [dg m] := by
  rw [digN, digF, if_neg h, digN, digF_more 19 (m / 10) (by omega) (by omega)]
theorem digN_Z {m : Nat} (hm : m < 10 ^ 20) : digN m = digZ (m / 10) ++ [dg m] := by
  by_cases h : m < 10
  · rw [digN_one h, digZ, if_pos (by omega)]; rfl
  · rw [digN_step h hm, digZ, if_neg (by omega)]
theorem digZ_pos {m : Nat} (h : m ≠ 0) : digZ m = digN m := by rw [digZ, if_neg h]

def isD (b : Int) : Bool := decide (48 ≤ b ∧ b ≤ 57)
theorem isD_yes {b : Int} (h : isD b = true) : 48 ≤ b ∧ b ≤ 57 := by simpa [isD] using h
theorem byt_out {l : List UInt8} {k : Nat} (h : l.length ≤ k) : byt l k = 0 := by
  unfold byt; rw [List.getD_eq_getElem?_getD, List.getElem?_eq_none h]; rfl
theorem byt_in {l : List UInt8} {k : Nat} (h : k < l.length) : byt l k = (l[k].toNat : Int) := by
  unfold byt; rw [List.getD_eq_getElem?_getD, List.getElem?_eq_getElem h]; rfl
theorem isD_in {l : List UInt8} {k : Nat} (h : isD (byt l k) = true) : k < l.length := by
  rcases Nat.lt_or_ge k l.length with h1 | h1
  · exact h1
  · rw [byt_out h1] at h; exact absurd h (by decide)

def accD (l : List UInt8) (p : Nat) : Nat → Nat
  | 0 => 0
  | k + 1 => accD l p k * 10 + (byt l (p + k) - 48).toNat
def digsK (l : List UInt8) (p : Nat) : Nat → Bool
  | 0 => true
  | k + 1 => digsK l p k && isD (byt l (p + k))
theorem digsK_iff (l : List UInt8) (p k : Nat) : digsK l p k = true ↔ ∀ j, j < k → isD (byt l (p + j)) = true := by
  induction k with
  | zero => simp [digsK]
  | succ k ih =>
    rw [digsK, Bool.and_eq_true, ih]
    constructor
    · intro ⟨h1, h2⟩ j hj
      rcases Nat.lt_or_ge j k with h | h
      · exact h1 j h
      · obtain rfl : j = k := by omega
        exact h2
    · intro h
      exact ⟨fun j hj => h j (by omega), h k (by omega)⟩
theorem digsK_in {l : List UInt8} {p k : Nat} (h : digsK l p k = true) (hk : 0 < k) : p + k ≤ l.length := by
  have := isD_in ((digsK_iff l p k).1 h (k - 1) (by omega))
  omega

def runD : List UInt8 → Nat
  | [] => 0
  | b :: r => if isD (b.toNat : Int) = true then runD r + 1 else 0
theorem runD_spec (l : List UInt8) : ∀ p, digsK l p (runD (l.drop p)) = true ∧ isD (byt l (p + runD (l.drop p))) = false := by
  have key : ∀ (m : List UInt8), digsK m 0 (runD m) = true ∧ isD (byt m (runD m)) = false := by
    intro m
    induction m with
    | nil => exact ⟨rfl, by decide⟩
    | cons b r ih =>
      have hb : byt (b :: r) 0 = (b.toNat : Int) := rfl
      have hs : ∀ k, byt (b :: r) (k + 1) = byt r k := fun k => rfl
      rw [runD]
      by_cases h : isD (b.toNat : Int) = true
      · rw [if_pos h, hs]
        refine ⟨?_, ih.2⟩
        rw [digsK_iff]
        intro j hj
        rw [Nat.zero_add]
        cases j with
        | zero => rw [hb]; exact h
        | succ j =>
          rw [hs]
          have := (digsK_iff _ _ _).1 ih.1 j (by omega)
          rwa [Nat.zero_add] at this
      · rw [if_neg h]
        exact ⟨rfl, by rw [hb]; simpa using h⟩
  intro p
  obtain ⟨h1, h2⟩ := key (l.drop p)
  have hd : ∀ k, byt (l.drop p) k = byt l (p + k) := by
    intro k; unfold byt; rw [List.getD_eq_getElem?_getD, List.getElem?_drop, List.getD_eq_getElem?_getD]
  rw [hd] at h2
  refine ⟨?_, h2⟩
  rw [digsK_iff] at h1 ⊢
  intro j hj
  have := h1 j hj
  rwa [hd, Nat.zero_add] at this
def runL (l : List UInt8) (p : Nat) : Nat := runD (l.drop p)
theorem runL_eq {l : List UInt8} {p k : Nat} (h : digsK l p k = true) (hn : isD (byt l (p + k)) = false) : runL l p = k := by
  obtain ⟨h1, h2⟩ := runD_spec l p
  unfold runL
  rcases Nat.lt_trichotomy (runD (l.drop p)) k with h3 | h3 | h3
  · have := (digsK_iff _ _ _).1 h _ h3
    rw [h2] at this
    cases this
  · exact h3
  · have := (digsK_iff _ _ _).1 h1 _ h3
    rw [hn] at this
    cases this
theorem runL_digs (l : List UInt8) (p : Nat) : digsK l p (runL l p) = true := (runD_spec l p).1
theorem runL_le (l : List UInt8) (p : Nat) (h : p ≤ l.length) : p + runL l p ≤ l.length := by
  rcases Nat.eq_zero_or_pos (runL l p) with h0 | h0
  · omega
  · exact digsK_in (runL_digs l p) h0

theorem accD_mono (l : List UInt8) (p : Nat) : ∀ k j, k ≤ j → accD l p k ≤ accD l p j := by
  intro k j h
  induction j with
  | zero => obtain rfl : k = 0 := by omega
            exact Nat.le_refl _
  | succ j ih =>
    rcases Nat.lt_or_ge j k with h1 | h1
    · obtain rfl : k = j + 1 := by omega
      exact Nat.le_refl _
    · have := ih h1
      rw [accD]
      omega
theorem accD_pos {l : List UInt8} {p k : Nat} (hk : 0 < k) (hd : 48 < byt l p) : 0 < accD l p k := by
  have h1 := accD_mono l p 1 k hk
  rw [accD, accD, Nat.add_zero] at h1
  omega

def maxN : Nat := 9007199254740991
def fstN (l : List UInt8) (p : Nat) : Nat := if byt l p = 45 then p + 1 else p
def badN (l : List UInt8) (f r : Nat) : Prop := r = 0 ∨ maxN < accD l f r ∨ (1 < r ∧ byt l f = 48) ∨ (byt l (f + r) = 46 ∨ byt l (f + r) = 101 ∨ byt l (f + r) = 69)
instance (l : List UInt8) (f r : Nat) : Decidable (badN l f r) := by unfold badN; infer_instance
def rdN (l : List UInt8) (p : Nat) : Int × Int × Int :=
  if badN l (fstN l p) (runL l (fstN l p)) then (0, p, 30)
  else ((if byt l p = 45 then -(accD l (fstN l p) (runL l (fstN l p)) : Int) else (accD l (fstN l p) (runL l (fstN l p)) : Int)), (fstN l p + runL l (fstN l p) : Nat), 0)
def rdS (l : List UInt8) (a : Int) : Int × Int × Int := if a < 0 ∨ (l.length : Int) ≤ a then (0, a, 30) else rdN l a.toNat

theorem fst_le (l : List UInt8) (p : Nat) (h : p < l.length) : p ≤ fstN l p ∧ fstN l p ≤ l.length := by unfold fstN; split <;> omega

theorem rdS_bounds (l : List UInt8) (a : Int) : -(maxN : Int) ≤ (rdS l a).1 ∧ (rdS l a).1 ≤ maxN := by
  have hm : maxN = 9007199254740991 := rfl
  unfold rdS
  split
  · simp [hm]
  · unfold rdN
    split
    · simp [hm]
    · rename_i h1 h2
      have h3 : ¬ maxN < accD l (fstN l a.toNat) (runL l (fstN l a.toNat)) := fun h => h2 (.inr (.inl h))
      show -(maxN : Int) ≤ (if byt l a.toNat = 45 then _ else _) ∧ (if byt l a.toNat = 45 then _ else _) ≤ (maxN : Int)
      split <;> omega
theorem rdS_place (l : List UInt8) (a : Int) : (rdS l a).2.1 = a ∨ (0 ≤ (rdS l a).2.1 ∧ (rdS l a).2.1 ≤ l.length) := by
  unfold rdS
  split
  · exact .inl rfl
  · unfold rdN
    split
    · exact .inl (by show ((a.toNat : Nat) : Int) = a; omega)
    · rename_i h1 h2
      have := fst_le l a.toNat (by omega)
      have := runL_le l (fstN l a.toNat) this.2
      refine .inr ?_
      show 0 ≤ ((_ : Nat) : Int) ∧ ((_ : Nat) : Int) ≤ _
      omega
theorem rdS_why (l : List UInt8) (a : Int) : (rdS l a).2.2 = 0 ∨ (rdS l a).2.2 = 30 ∧ (rdS l a).1 = 0 ∧ (rdS l a).2.1 = a := by
  unfold rdS
  split
  · exact .inr ⟨rfl, rfl, rfl⟩
  · unfold rdN
    split
    · exact .inr ⟨rfl, rfl, by show ((a.toNat : Nat) : Int) = a; omega⟩
    · exact .inl rfl
end Go.Proofs.Ytgmkejfepakehaa.Nu
namespace Go.Proofs.Ytgmkejfepakehaa.Nu
open Go.RowKit
open Go.Proofs.Ytgmkejfepakehaa.Utf

theorem byt_app_l (l t : List UInt8) (k : Nat) (h : k < l.length) : byt (l ++ t) k = byt l k := by
  unfold byt; rw [List.getD_eq_getElem?_getD, List.getD_eq_getElem?_getD, List.getElem?_append_left h]
theorem byt_app_r (l t : List UInt8) (k : Nat) : byt (l ++ t) (l.length + k) = byt t k := by
  unfold byt; rw [List.getD_eq_getElem?_getD, List.getD_eq_getElem?_getD, List.getElem?_append_right (by omega), Nat.add_sub_cancel_left]
theorem byt_app_0 (l t : List UInt8) : byt (l ++ t) l.length = byt t 0 := byt_app_r l t 0
theorem byt_cons_0 (b : UInt8) (t : List UInt8) : byt (b :: t) 0 = (b.toNat : Int) := rfl
theorem digN_ind {P : Nat → Prop} (h1 : ∀ m, m < 10 → P m) (h2 : ∀ m, ¬ m < 10 → P (m / 10) → P m) (m : Nat) : P m := by
  induction m using Nat.strongRecOn with
  | ind m ih =>
    by_cases h : m < 10
    · exact h1 m h
    · exact h2 m h (ih (m / 10) (by omega))

theorem digN_read (m : Nat) : m < 10 ^ 20 → ∀ xs t : List UInt8, accD (xs ++ digN m ++ t) xs.length (digN m).length = m ∧ digsK (xs ++ digN m ++ t) xs.length (digN m).length = true := by
  refine digN_ind (P := fun m => m < 10 ^ 20 → ∀ xs t : List UInt8, accD (xs ++ digN m ++ t) xs.length (digN m).length = m ∧ digsK (xs ++ digN m ++ t) xs.length (digN m).length = true) ?_ ?_ m
  · intro m h _ xs t
    rw [digN_one h]
    have hb : byt (xs ++ [dg m] ++ t) (xs.length + 0) = 48 + (m : Int) := by
      rw [List.append_assoc, byt_app_r]
      show ((dg m).toNat : Int) = _
      rw [dg_nat]; omega
    constructor
    · show 0 * 10 + (byt (xs ++ [dg m] ++ t) (xs.length + 0) - 48).toNat = m
      rw [hb]; omega
    · show (true && isD (byt (xs ++ [dg m] ++ t) (xs.length + 0))) = true
      rw [hb]; simp [isD]; omega
  · intro m h ih hm xs t
    rw [digN_step h hm]
    obtain ⟨a, b⟩ := ih (by omega) xs ([dg m] ++ t)
    have he : xs ++ (digN (m / 10) ++ [dg m]) ++ t = xs ++ digN (m / 10) ++ ([dg m] ++ t) := by simp
    have hl : (digN (m / 10) ++ [dg m]).length = (digN (m / 10)).length + 1 := by simp
    have hb : byt (xs ++ digN (m / 10) ++ ([dg m] ++ t)) (xs.length + (digN (m / 10)).length) = 48 + (m % 10 : Nat) := by
      rw [← List.length_append, byt_app_0]
      show ((dg m).toNat : Int) = _
      rw [dg_nat]; omega
    rw [he, hl, accD, digsK, a, b, hb]
    constructor
    · omega
    · simp [isD]; omega
theorem digN_len (m : Nat) : 1 ≤ (digN m).length := by
  unfold digN
  rw [digF]
  by_cases h : m < 10
  · rw [if_pos h]; exact Nat.le_refl _
  · rw [if_neg h, List.length_append]; exact Nat.le_add_left _ _
theorem digF_len (f : Nat) : ∀ m, (digF f m).length ≤ f := by
  induction f with
  | zero => intro m; simp [digF]
  | succ f ih =>
    intro m
    rw [digF]
    split
    · simp
    · have := ih (m / 10); simp; omega
theorem digN_le (m : Nat) : (digN m).length ≤ 20 := digF_len 20 m
theorem digN_hd (m : Nat) : m < 10 ^ 20 → m ≠ 0 → byt (digN m) 0 ≠ 48 := by
  refine digN_ind (P := fun m => m < 10 ^ 20 → m ≠ 0 → byt (digN m) 0 ≠ 48) ?_ ?_ m
  · intro m h _ h0
    rw [digN_one h, byt_cons_0, dg_nat]
    omega
  · intro m h ih hm _
    rw [digN_step h hm, byt_app_l _ _ _ (digN_len _)]
    exact ih (by omega) (by omega)
theorem digN_0 : digN 0 = [48] := by decide +kernel
theorem digN_lo (m : Nat) (hm : m < 10 ^ 20) : 48 ≤ byt (digN m) 0 ∧ byt (digN m) 0 ≤ 57 := by
  have h := (digN_read m hm [] []).2
  rw [digsK_iff] at h
  have := isD_yes (h 0 (digN_len m))
  simpa using this
theorem putL_len (n : Int) : 1 ≤ (putL n).length ∧ (putL n).length ≤ 21 := by
  have := digN_len n.natAbs
  have := digN_le n.natAbs
  unfold putL
  split
  · rw [List.length_cons]; omega
  · omega

theorem run_digN (m : Nat) (hm : m < 10 ^ 20) (xs t : List UInt8) (ht : isD (byt t 0) = false) : runL (xs ++ digN m ++ t) xs.length = (digN m).length ∧ accD (xs ++ digN m ++ t) xs.length (digN m).length = m ∧ byt (xs ++ digN m ++ t) (xs.length + (digN m).length) = byt t 0 := by
  obtain ⟨h1, h2⟩ := digN_read m hm xs t
  have h3 : byt (xs ++ digN m ++ t) (xs.length + (digN m).length) = byt t 0 := by rw [← List.length_append, byt_app_0]
  exact ⟨runL_eq h2 (by rw [h3]; exact ht), h1, h3⟩
theorem badN_digN (m : Nat) (hm : m < 10 ^ 20) (xs t : List UInt8) (ht : isD (byt t 0) = false) :
    badN (xs ++ digN m ++ t) xs.length (digN m).length ↔ (maxN < m ∨ byt t 0 = 46 ∨ byt t 0 = 101 ∨ byt t 0 = 69) := by
  obtain ⟨_, h2, h3⟩ := run_digN m hm xs t ht
  have hl := digN_len m
  have h0 : byt (xs ++ digN m ++ t) xs.length = byt (digN m) 0 := by rw [List.append_assoc, byt_app_0, byt_app_l _ _ _ hl]
  unfold badN
  rw [h2, h3, h0]
  constructor
  · rintro (h | h | h | h)
    · omega
    · exact .inl h
    · rcases Nat.eq_zero_or_pos m with rfl | hp
      · rw [digN_0] at h; simp at h
      · exact absurd h.2 (digN_hd m hm (by omega))
    · exact .inr h
  · rintro (h | h)
    · exact .inr (.inl h)
    · exact .inr (.inr (.inr h))

theorem rd_put (n : Int) (hn : n.natAbs < 10 ^ 20) (t : List UInt8) (ht : isD (byt t 0) = false) :
    rdS (putL n ++ t) 0 = if maxN < n.natAbs ∨ byt t 0 = 46 ∨ byt t 0 = 101 ∨ byt t 0 = 69 then (0, 0, 30) else (n, ((putL n).length : Int), 0) := by
  have hl := putL_len n
  have hlen : ¬ ((0 : Int) < 0 ∨ (((putL n ++ t).length : Nat) : Int) ≤ 0) := by rw [List.length_append]; omega
  rw [rdS, if_neg hlen]
  show rdN (putL n ++ t) 0 = _
  by_cases hneg : n < 0
  · have hp : putL n = [45] ++ digN n.natAbs := by rw [putL, if_pos hneg]; rfl
    rw [hp]
    have h45 : byt ([45] ++ digN n.natAbs ++ t) 0 = 45 := rfl
    have hf : fstN ([45] ++ digN n.natAbs ++ t) 0 = ([45] : List UInt8).length := by rw [fstN, if_pos h45]; rfl
    obtain ⟨h1, h2, _⟩ := run_digN n.natAbs hn [45] t ht
    have hb := badN_digN n.natAbs hn [45] t ht
    unfold rdN
    rw [hf, h1, h2, if_pos h45]
    by_cases hc : maxN < n.natAbs ∨ byt t 0 = 46 ∨ byt t 0 = 101 ∨ byt t 0 = 69
    · rw [if_pos (hb.2 hc), if_pos hc]; rfl
    · rw [if_neg (fun h => hc (hb.1 h)), if_neg hc, List.length_append]
      have : -((n.natAbs : Nat) : Int) = n := by omega
      rw [this]
  · have hp : putL n = [] ++ digN n.natAbs := by rw [putL, if_neg hneg]; rfl
    rw [hp]
    have hlo := digN_lo n.natAbs hn
    have h45 : ¬ byt ([] ++ digN n.natAbs ++ t) 0 = 45 := by
      rw [List.nil_append, byt_app_l _ _ _ (digN_len _)]; omega
    have hf : fstN ([] ++ digN n.natAbs ++ t) 0 = ([] : List UInt8).length := by rw [fstN, if_neg h45]; rfl
    obtain ⟨h1, h2, _⟩ := run_digN n.natAbs hn [] t ht
    have hb := badN_digN n.natAbs hn [] t ht
    unfold rdN
    rw [hf, h1, h2, if_neg h45]
    by_cases hc : maxN < n.natAbs ∨ byt t 0 = 46 ∨ byt t 0 = 101 ∨ byt t 0 = 69
    · rw [if_pos (hb.2 hc), if_pos hc]; rfl
    · rw [if_neg (fun h => hc (hb.1 h)), if_neg hc, List.length_append]
      have : ((n.natAbs : Nat) : Int) = n := by omega
      rw [this]

theorem digN_acc (l : List UInt8) (p : Nat) : ∀ k, 0 < k → digsK l p k = true → (k = 1 ∨ byt l p ≠ 48) → accD l p k < 10 ^ 20 → digN (accD l p k) = (l.drop p).take k := by
  intro k
  induction k with
  | zero => intro h; omega
  | succ k ih =>
    intro _ hd h48 hm
    have hdk : isD (byt l (p + k)) = true := (digsK_iff _ _ _).1 hd k (by omega)
    have hin := isD_in hdk
    obtain ⟨b1, b2⟩ := isD_yes hdk
    have hbl := byt_in hin
    have hgl : (l.drop p)[k]? = some l[p + k] := by rw [List.getElem?_drop, List.getElem?_eq_getElem hin]
    have hdg : dg (accD l p (k + 1)) = l[p + k] := by
      apply UInt8.toNat_inj.1
      rw [dg_nat, accD]
      rw [hbl] at b1 b2 ⊢
      omega
    have htk : (l.drop p).take (k + 1) = (l.drop p).take k ++ [l[p + k]] := by
      rw [List.take_add_one, hgl]; rfl
    rcases Nat.eq_zero_or_pos k with rfl | hk
    · have hs : accD l p 1 < 10 := by
        rw [accD, accD]; omega
      rw [digN_one hs, htk, hdg]
      simp
    · have hdk2 : digsK l p k = true := by rw [digsK, Bool.and_eq_true] at hd; exact hd.1
      have h0 := isD_yes ((digsK_iff _ _ _).1 hd 0 (by omega))
      rw [Nat.add_zero] at h0
      have hp := accD_pos (l := l) (p := p) hk (by omega)
      have e : accD l p (k + 1) / 10 = accD l p k := by rw [accD]; omega
      have h10 : ¬ accD l p (k + 1) < 10 := by rw [accD]; omega
      rw [digN_step h10 hm, e, ih hk hdk2 (.inr (by omega)) (by rw [accD] at hm; omega), hdg, htk]

def allS (l : List UInt8) : Int × Bool := if (rdS l 0).2.2 = 0 ∧ putL (rdS l 0).1 = l then ((rdS l 0).1, true) else (0, false)
def allR (l : List UInt8) : Int × Bool := if (rdS l 0).2.2 ≠ 0 ∨ (rdS l 0).2.1 ≠ l.length ∨ l = [45, 48] then (0, false) else ((rdS l 0).1, true)

theorem putL_no0 (n : Int) (hn : n.natAbs < 10 ^ 20) : putL n ≠ [45, 48] := by
  intro h
  unfold putL at h
  split at h
  · have h1 : digN n.natAbs = [48] := by simpa using h
    have h2 := digN_hd n.natAbs hn (by omega)
    rw [h1] at h2
    exact h2 rfl
  · have h2 := digN_lo n.natAbs hn
    rw [h] at h2
    exact absurd h2.1 (by decide)

theorem rd_all {l : List UInt8} (h0 : (rdS l 0).2.2 = 0) (h1 : (rdS l 0).2.1 = l.length) (h2 : l ≠ [45, 48]) : putL (rdS l 0).1 = l := by
  unfold rdS at h0 h1 ⊢
  split at h0
  · exact absurd h0 (by decide)
  rename_i hr
  rw [if_neg hr] at h1 ⊢
  change (rdN l 0).2.2 = 0 at h0
  change (rdN l 0).2.1 = _ at h1
  show putL (rdN l 0).1 = l
  unfold rdN at h0 h1 ⊢
  split at h0
  · exact absurd h0 (by decide)
  rename_i hb
  rw [if_neg hb] at h1 ⊢
  change ((fstN l 0 + runL l (fstN l 0) : Nat) : Int) = l.length at h1
  have hm : maxN = 9007199254740991 := rfl
  have hle : accD l (fstN l 0) (runL l (fstN l 0)) ≤ maxN := by
    rcases Nat.lt_or_ge maxN (accD l (fstN l 0) (runL l (fstN l 0))) with h | h
    · exact absurd (.inr (.inl h)) hb
    · exact h
  have hr0 : 0 < runL l (fstN l 0) := by
    rcases Nat.eq_zero_or_pos (runL l (fstN l 0)) with h | h
    · exact absurd (.inl h) hb
    · exact h
  have h48 : runL l (fstN l 0) = 1 ∨ byt l (fstN l 0) ≠ 48 := by
    by_cases h : byt l (fstN l 0) = 48
    · by_cases h3 : 1 < runL l (fstN l 0)
      · exact absurd (.inr (.inr (.inl ⟨h3, h⟩))) hb
      · exact .inl (by omega)
    · exact .inr h
  have hacc := digN_acc l (fstN l 0) _ hr0 (runL_digs l _) h48 (by omega)
  rw [List.take_of_length_le (by rw [List.length_drop]; omega)] at hacc
  show putL (if byt l 0 = 45 then _ else _) = l
  by_cases h45 : byt l 0 = 45
  · rw [if_pos h45]
    have hf : fstN l 0 = 1 := by rw [fstN, if_pos h45]
    rw [hf] at hacc hle hr0 h48 ⊢
    have hl : l = 45 :: l.drop 1 := by
      cases l with
      | nil => exact absurd h45 (by decide)
      | cons b r =>
        have : (b.toNat : Int) = 45 := h45
        have : b = 45 := UInt8.toNat_inj.1 (by show b.toNat = 45; omega)
        rw [this]; rfl
    have hv : accD l 1 (runL l 1) ≠ 0 := by
      intro hz
      rw [hz, digN_0] at hacc
      rw [← hacc] at hl
      exact h2 hl
    rw [putL, if_pos (by omega), Int.natAbs_neg, Int.natAbs_natCast, hacc]
    exact hl.symm
  · rw [if_neg h45]
    have hf : fstN l 0 = 0 := by rw [fstN, if_neg h45]
    rw [hf] at hacc ⊢
    rw [putL, if_neg (by omega), Int.natAbs_natCast, hacc, List.drop_zero]

theorem allS_eq (l : List UInt8) : allS l = allR l := by
  have hb := rdS_bounds l 0
  have hm : maxN = 9007199254740991 := rfl
  unfold allS allR
  by_cases h : (rdS l 0).2.2 ≠ 0 ∨ (rdS l 0).2.1 ≠ l.length ∨ l = [45, 48]
  · rw [if_pos h]
    refine if_neg ?_
    rintro ⟨h1, h2⟩
    rcases h with h | h | h
    · exact h h1
    · have h3 := rd_put (rdS l 0).1 (by omega) [] (by decide)
      rw [List.append_nil, h2] at h3
      rw [if_neg (by rw [show byt [] 0 = 0 from rfl]; omega)] at h3
      apply h
      conv => lhs; rw [h3]
    · exact putL_no0 _ (by omega) (h2.trans h)
  · rw [if_neg h]
    have h1 : (rdS l 0).2.2 = 0 := Classical.byContradiction fun h3 => h (.inl h3)
    have h2 : (rdS l 0).2.1 = l.length := Classical.byContradiction fun h3 => h (.inr (.inl h3))
    exact if_pos ⟨h1, rd_all h1 h2 fun h3 => h (.inr (.inr h3))⟩

theorem all_yes {l : List UInt8} (h : (allS l).2 = true) : putL (allS l).1 = l ∧ (allS l).1.natAbs ≤ maxN := by
  have hb := rdS_bounds l 0
  unfold allS at h ⊢
  split at h
  · rename_i h1
    rw [if_pos h1]
    exact ⟨h1.2, by show (rdS l 0).1.natAbs ≤ maxN; omega⟩
  · cases h
end Go.Proofs.Ytgmkejfepakehaa.Nu
namespace Go.Proofs.Ytgmkejfepakehaa.Id
open Go.RowKit
open Go.Proofs.Ytgmkejfepakehaa.Utf
open Go.Proofs.Ytgmkejfepakehaa.Nu

def mayB (b : Int) : Bool := decide (((65 ≤ b ∧ b ≤ 90) ∨ (97 ≤ b ∧ b ≤ 122) ∨ (48 ≤ b ∧ b ≤ 57)) ∨ b = 45 ∨ b = 95)
def isL (l : List UInt8) : Bool := decide (1 ≤ l.length ∧ l.length ≤ 255 ∧ ∀ k, k < l.length → mayB (byt l k) = true)
theorem isL_no {l : List UInt8} {k : Nat} (hk : k < l.length) (h : mayB (byt l k) = false) : isL l = false :=
  decide_eq_false fun h3 => by rw [h3.2.2 k hk] at h; cases h
theorem isL_len {l : List UInt8} (h : l.length = 0 ∨ 255 < l.length) : isL l = false := decide_eq_false fun h3 => by omega
theorem isL_of {l : List UInt8} (h : ∀ k, k < l.length → mayB (byt l k) = true) : isL l = decide (1 ≤ l.length ∧ l.length ≤ 255) := by
  unfold isL; exact decide_eq_decide.2 ⟨fun h3 => ⟨h3.1, h3.2.1⟩, fun h3 => ⟨h3.1, h3.2, h⟩⟩

def d32 (n : Nat) : UInt8 := UInt8.ofNat (if n % 32 < 10 then 48 + n % 32 else 87 + n % 32)
theorem d32_nat (n : Nat) : (d32 n).toNat = if n % 32 < 10 then 48 + n % 32 else 87 + n % 32 := by
  unfold d32; simp; split <;> omega
theorem d32_int (n : Int) (h : 0 ≤ n) : ((d32 n.toNat).toNat : Int) = if n % 32 < 10 then 48 + n % 32 else 87 + n % 32 := by
  rw [d32_nat]; split <;> split <;> omega
def b32 : Nat → Nat → List UInt8
  | 0, _ => []
  | j + 1, n => b32 j (n / 32) ++ [d32 n]
def MkI (m : Int) (i : Nat) (n : Int) (ds : List UInt8) : Prop := ds.length + i = 11 ∧ 0 ≤ n ∧ n ≤ 9007199254740991 ∧ b32 11 m.toNat = b32 i n.toNat ++ ds
theorem MkI_0 {m : Int} (h0 : 0 ≤ m) (h1 : m ≤ 9007199254740991) : MkI m 11 m [] := ⟨rfl, h0, h1, by simp⟩
theorem MkI_next {m : Int} {i : Nat} {n : Int} {ds : List UInt8} (h : MkI m (i + 1) n ds) : MkI m i (n / 32) (d32 n.toNat :: ds) := by
  obtain ⟨h1, h2, h3, h4⟩ := h
  refine ⟨by rw [List.length_cons]; omega, by omega, by omega, ?_⟩
  rw [h4, b32, show (n / 32).toNat = n.toNat / 32 by omega, List.append_assoc]; rfl
theorem MkI_end {m : Int} {n : Int} {ds : List UInt8} (h : MkI m 0 n ds) : b32 11 m.toNat = ds := by rw [h.2.2.2, b32]; rfl

def okK (k n : Int) : Prop := (k = 1 ∨ k = 2) ∧ 0 ≤ n ∧ n ≤ 9007199254740991
instance (k n : Int) : Decidable (okK k n) := by unfold okK; infer_instance
def kI (k : Int) : UInt8 := if k = 1 then 67 else 66
def kS (k : Int) : UInt8 := if k = 1 then 99 else 98
def mkL (k n : Int) : List UInt8 := if okK k n then kI k :: b32 11 n.toNat else []
def stL (k n : Int) : List UInt8 := if okK k n then kS k :: putL n else []

def wor (b : Int) : Int := if 48 ≤ b ∧ b ≤ 57 then b - 48 else if 97 ≤ b ∧ b ≤ 118 then b - 87 else 0
def isW (b : Int) : Bool := decide ((48 ≤ b ∧ b ≤ 57) ∨ (97 ≤ b ∧ b ≤ 118))
def acc32 (l : List UInt8) (p : Nat) : Nat → Int
  | 0 => 0
  | k + 1 => acc32 l p k * 32 + wor (byt l (p + k))
def NuOk (l : List UInt8) : Prop := l.length = 12 ∧ (byt l 0 = 67 ∨ byt l 0 = 66) ∧ (∀ j, j < 11 → isW (byt l (1 + j)) = true) ∧ acc32 l 1 11 ≤ 9007199254740991
instance (l : List UInt8) : Decidable (NuOk l) := by unfold NuOk; infer_instance
theorem kS_nat (k : Int) : ((kS k).toNat : Int) = if k = 1 then 99 else 98 := by unfold kS; split <;> rfl
def SqOk (k : Int) (l : List UInt8) : Prop := (k = 1 ∨ k = 2) ∧ 0 < l.length ∧ byt l 0 = (if k = 1 then 99 else 98) ∧ (allS (l.drop 1)).2 = true ∧ 0 ≤ (allS (l.drop 1)).1
instance (k : Int) (l : List UInt8) : Decidable (SqOk k l) := by unfold SqOk; infer_instance
def sqL (k : Int) (l : List UInt8) : Int × Int := if SqOk k l then ((allS (l.drop 1)).1, 0) else (0, 100)
theorem sq_iff (k : Int) (l : List UInt8) : SqOk k l ↔ ((k = 1 ∨ k = 2) ∧ 0 < l.length) ∧ ((allS (l.drop 1)).2 = true ∧ 0 ≤ (allS (l.drop 1)).1) ∧ stL k (allS (l.drop 1)).1 = l := by
  have key : (k = 1 ∨ k = 2) → 0 < l.length → (allS (l.drop 1)).2 = true → 0 ≤ (allS (l.drop 1)).1 → (byt l 0 = (if k = 1 then 99 else 98) ↔ stL k (allS (l.drop 1)).1 = l) := by
    intro hk hl ha h0
    obtain ⟨h1, h2⟩ := all_yes ha
    have hm : maxN = 9007199254740991 := rfl
    have ho : okK k (allS (l.drop 1)).1 := ⟨hk, h0, by omega⟩
    rw [stL, if_pos ho, h1, ← kS_nat]
    cases l with
    | nil => exact absurd hl (by simp)
    | cons b r =>
      show (b.toNat : Int) = _ ↔ kS k :: r = b :: r
      constructor
      · intro h; rw [show kS k = b from UInt8.toNat_inj.1 (by omega)]
      · intro h; rw [(List.cons.inj h).1]
  unfold SqOk
  constructor
  · intro ⟨a, b, c, d, e⟩; exact ⟨⟨a, b⟩, ⟨d, e⟩, (key a b d e).1 c⟩
  · intro ⟨⟨a, b⟩, ⟨d, e⟩, f⟩; exact ⟨a, b, (key a b d e).2 f, d, e⟩
end Go.Proofs.Ytgmkejfepakehaa.Id
