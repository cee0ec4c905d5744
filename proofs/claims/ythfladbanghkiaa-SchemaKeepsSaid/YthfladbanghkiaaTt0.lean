/- Merged: Base NuPl WoPl. -/
import Derived.Test.YthfladbanghkiaaProg
import Derived.Below
import Derived.Laws.OwnMore
import Derived.Laws.BytesArg
import Derived.Deep.Draws
import Derived.Lib.UnsafeStr
import Derived.Lib.Hide
import Derived.WalkKit
import Derived.Laws.AppendOwn
import Derived.Laws.BytesString
import Derived.Lib.Strings
import Derived.OpenShut
namespace Go.Proofs.Ythfladbanghkiaa
open Go.RowKit

theorem blk_add (a : Addr) (n : Nat) : (a.add n).block = a.block := by unfold Addr.add; split <;> rfl

def Rd (w : World) (B : Nat) (v : Value) (xs : List Value) : Prop :=
  ∃ A c, v = .slice A xs.length c ∧ (0 < xs.length → ∃ ad, A = some ad ∧ ad.block < B ∧ ∀ j u, xs[j]? = some u → w.cell? (ad.add j) = some u)

section
variable {w w' : World} {B B' : Nat} {v : Value} {xs : List Value}

theorem Rd.nil_ (w : World) (B : Nat) (c : Nat) : Rd w B (.slice none 0 c) [] := ⟨none, c, rfl, fun h => absurd h (by simp)⟩
theorem Rd.of_own {base E n : Nat} (h : w.ownsRow base E 1 v n xs) : Rd w w.heap.size v xs := by
  obtain ⟨hl, h⟩ := h
  rw [Nat.mul_one] at hl
  rcases h with ⟨rfl, rfl⟩ | ⟨g, cap, cur, rfl, _, hh, hn, _, hcur, htake⟩
  · have : xs = [] := List.eq_nil_of_length_eq_zero hl
    subst this
    exact Rd.nil_ w _ 0
  · refine ⟨some ⟨g, 0, none⟩, cap, by rw [hl], fun _ => ⟨_, rfl, ?_, fun j u hu => ?_⟩⟩
    · show g < w.heap.size
      rcases Nat.lt_or_ge g w.heap.size with hlt | hge
      · exact hlt
      · rw [Array.getElem?_eq_none hge] at hh; cases hh
    · have hp : (⟨g, 0, none⟩ : Addr).add j = ⟨g, j, none⟩ := by unfold Addr.add; split <;> simp_all
      rw [hp, ← htake] at *
      have hcj : cur[j]? = some u := by
        rw [List.getElem?_take] at hu
        split at hu
        · simpa using hu
        · cases hu
      simp [World.cell?, hh, hcj]

end

def GivesRow (E : TypeId) (xs : List Value) (w : World) (e : Ending) (w' : World) : Prop :=
  ∃ v, e = .returned v ∧ w'.ownsRow w.heap.size E 1 v xs.length xs ∧ Below w.heap.size w w'
end Go.Proofs.Ythfladbanghkiaa
namespace Go.Proofs.Ythfladbanghkiaa
open Go.RowKit
end Go.Proofs.Ythfladbanghkiaa
namespace Go.Proofs.Ythfladbanghkiaa.Utf
open Go.RowKit

def byt (l : List UInt8) (k : Nat) : Int := ((l.getD k 0).toNat : Int)
theorem byt_lo (l : List UInt8) (k : Nat) : 0 ≤ byt l k := by unfold byt; omega
theorem byt_hi (l : List UInt8) (k : Nat) : byt l k ≤ 255 := by unfold byt; have := (l.getD k 0).toNat_lt; omega
theorem len_data (s : ByteArray) : s.data.toList.length = s.size := rfl
theorem byt_get (s : ByteArray) (k : Nat) (h : k < s.size) : byt s.data.toList k = (s[k].toNat : Int) := by
  unfold byt
  rw [List.getD_eq_getElem?_getD, List.getElem?_eq_getElem (by simpa using h)]
  rfl

def strOf (l : List UInt8) : ByteArray := ⟨l.toArray⟩
theorem strOf_data (l : List UInt8) : (strOf l).data.toList = l := rfl
theorem strOf_list (l : List UInt8) : (strOf l).toList = l := by rw [ByteArray.toList_eq]; rfl
theorem strOf_size (l : List UInt8) : (strOf l).size = l.length := rfl

theorem gives_new {w : World} {E : TypeId} {xs : List Value} {cs : Array Value} {k : Nat} (h : cs.toList = xs) (hk : k = xs.length) (hm : xs.length ≤ maxLen) :
    GivesRow E xs w (.returned (.slice (some ⟨w.heap.size, 0, none⟩) k k)) (w.alloc (.cells cs E)) := by
  subst hk
  refine ⟨_, rfl, ⟨by simp, .inr ⟨_, _, cs, rfl, Nat.le_refl _, heap_alloc_new w _, Nat.le_refl _, hm, ?_, ?_⟩⟩, (Below.refl _ _).alloc (Nat.le_refl _) _⟩
  · rw [← h]; simp
  · rw [← h]; exact List.take_of_length_le (by simp)
theorem cells_new (w : World) (E : TypeId) (cs : Array Value) : ∀ j u, cs.toList[j]? = some u → (w.alloc (.cells cs E)).cell? ((⟨w.heap.size, 0, none⟩ : Addr).add j) = some u := by
  intro j u hu
  have hp : (⟨w.heap.size, 0, none⟩ : Addr).add j = ⟨w.heap.size, j, none⟩ := by unfold Addr.add; split <;> simp_all
  rw [hp]
  unfold World.cell?
  rw [heap_alloc_new]
  simpa using hu

theorem own_below {w w' : World} {base E size n : Nat} {v : Value} {xs : List Value} (h : w.ownsRow base E size v n xs) (hb : Below w.heap.size w w') : w'.ownsRow base E size v n xs := by
  have hlt := h.lt
  obtain ⟨hl, h⟩ := h
  refine ⟨hl, ?_⟩
  rcases h with h | ⟨g, cap, cur, rfl, h1, h2, h3⟩
  · exact .inl h
  · exact .inr ⟨g, cap, cur, rfl, h1, (hb.block g (hlt g rfl).2).trans h2, h3⟩
end Go.Proofs.Ythfladbanghkiaa.Utf
namespace Go.Proofs.Ythfladbanghkiaa.Nu
open Go.RowKit
open Go.Proofs.Ythfladbanghkiaa.Utf

theorem byt_in {l : List UInt8} {k : Nat} (h : k < l.length) : byt l k = (l[k].toNat : Int) := by
  unfold byt; rw [List.getD_eq_getElem?_getD, List.getElem?_eq_getElem h]; rfl
def accD (l : List UInt8) (p : Nat) : Nat → Nat
  | 0 => 0
  | k + 1 => accD l p k * 10 + (byt l (p + k) - 48).toNat
def maxN : Nat := 9007199254740991
def badN (l : List UInt8) (f r : Nat) : Prop := r = 0 ∨ maxN < accD l f r ∨ (1 < r ∧ byt l f = 48) ∨ (byt l (f + r) = 46 ∨ byt l (f + r) = 101 ∨ byt l (f + r) = 69)
instance (l : List UInt8) (f r : Nat) : Decidable (badN l f r) := by unfold badN; infer_instance
end Go.Proofs.Ythfladbanghkiaa.Nu
namespace Go.Proofs.Ythfladbanghkiaa.Nu
open Go.RowKit
open Go.Proofs.Ythfladbanghkiaa.Utf

end Go.Proofs.Ythfladbanghkiaa.Nu
namespace Go.Proofs.Ythfladbanghkiaa.Wo
open Go.RowKit
open Go.Proofs.Ythfladbanghkiaa.Utf
open Go.Proofs.Ythfladbanghkiaa.Nu

def spl (c : UInt8) : List UInt8 → List (List UInt8)
  | [] => [[]]
  | x :: r => if x = c then [] :: spl c r else match spl c r with
    | [] => [[x]]
    | p :: t => (x :: p) :: t
theorem spl_ne (c : UInt8) : ∀ l, spl c l ≠ []
  | [] => by simp [spl]
  | x :: r => by
    rw [spl]
    split
    · simp
    · split <;> simp
theorem spl_no {c : UInt8} : ∀ {l : List UInt8}, c ∉ l → spl c l = [l]
  | [], _ => rfl
  | x :: r, h => by
    have h1 : ¬ x = c := fun e => h (by rw [e]; exact List.mem_cons_self)
    rw [spl, if_neg h1, spl_no (fun h2 => h (List.mem_cons_of_mem _ h2))]
theorem spl_app (c : UInt8) : ∀ a b : List UInt8, spl c (a ++ c :: b) = spl c a ++ spl c b
  | [], b => by
    show spl c (c :: b) = [] :: spl c b
    conv => lhs; rw [spl, if_pos rfl]
  | x :: r, b => by
    rw [List.cons_append, spl, spl_app c r b]
    conv => rhs; rw [spl]
    by_cases h : x = c
    · rw [if_pos h, if_pos h]; rfl
    · rw [if_neg h, if_neg h]
      cases hr : spl c r with
      | nil => exact absurd hr (spl_ne c r)
      | cons p t => rfl
def inS (l s : List UInt8) : Bool := decide (s ≠ []) && (spl 32 l).contains s

end Go.Proofs.Ythfladbanghkiaa.Wo
