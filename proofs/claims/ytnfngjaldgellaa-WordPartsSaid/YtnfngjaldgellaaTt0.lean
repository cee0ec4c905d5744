/- Merged: Base NuPl WoPl. -/
import Derived.Test.YtnfngjaldgellaaProg
import Derived.Below
import Derived.Laws.OwnMore
import Derived.Laws.BytesArg
import Derived.Deep.Draws
import Derived.Lib.UnsafeStr
import Derived.Lib.Hide
import Derived.WalkKit
import Derived.Laws.AppendOwn
import Derived.Laws.BytesString
import Derived.Lib.Strings
import Derived.OpenShut
namespace Go.Proofs.Ytnfngjaldgellaa
open Go.RowKit

def Rd (w : World) (B : Nat) (v : Value) (xs : List Value) : Prop :=
  ∃ A c, v = .slice A xs.length c ∧ (0 < xs.length → ∃ ad, A = some ad ∧ ad.block < B ∧ ∀ j u, xs[j]? = some u → w.cell? (ad.add j) = some u)

section
variable {w w' : World} {B B' : Nat} {v : Value} {xs : List Value}

theorem Rd.nil_ (w : World) (B : Nat) (c : Nat) : Rd w B (.slice none 0 c) [] := ⟨none, c, rfl, fun h => absurd h (by simp)⟩
theorem Rd.of_own {base E n : Nat} (h : w.ownsRow base E 1 v n xs) : Rd w w.heap.size v xs := by
  obtain ⟨hl, h⟩ := h
  rw [Nat.mul_one] at hl
  rcases h with ⟨rfl, rfl⟩ | ⟨g, cap, cur, rfl, _, hh, hn, _, hcur, htake⟩
  · have : xs = [] := List.eq_nil_of_length_eq_zero hl
    subst this
    exact Rd.nil_ w _ 0
  · refine ⟨some ⟨g, 0, none⟩, cap, by rw [hl], fun _ => ⟨_, rfl, ?_, fun j u hu => ?_⟩⟩
    · show g < w.heap.size
      rcases Nat.lt_or_ge g w.heap.size with hlt | hge
      · exact hlt
      · rw [Array.getElem?_eq_none hge] at hh; cases hh
    · have hp : (⟨g, 0, none⟩ : Addr).add j = ⟨g, j, none⟩ := by unfold Addr.add; split <;> simp_all
      rw [hp, ← htake] at *
      have hcj : cur[j]? = some u := by
        rw [List.getElem?_take] at hu
        split at hu
        · simpa using hu
        · cases hu
      simp [World.cell?, hh, hcj]

end

end Go.Proofs.Ytnfngjaldgellaa
namespace Go.Proofs.Ytnfngjaldgellaa
open Go.RowKit
end Go.Proofs.Ytnfngjaldgellaa
namespace Go.Proofs.Ytnfngjaldgellaa.Utf
open Go.RowKit

def byt (l : List UInt8) (k : Nat) : Int := ((l.getD k 0).toNat : Int)
theorem len_data (s : ByteArray) : s.data.toList.length = s.size := rfl
theorem byt_get (s : ByteArray) (k : Nat) (h : k < s.size) : byt s.data.toList k = (s[k].toNat : Int) := by
  unfold byt
  rw [List.getD_eq_getElem?_getD, List.getElem?_eq_getElem (by simpa using h)]
  rfl

theorem ret_bool {a b : Bool} (h : a = b) : Ending.returned (.bool a) = .returned (.bool b) := by rw [h]
def strOf (l : List UInt8) : ByteArray := ⟨l.toArray⟩
theorem strOf_data (l : List UInt8) : (strOf l).data.toList = l := rfl
theorem strOf_list (l : List UInt8) : (strOf l).toList = l := by rw [ByteArray.toList_eq]; rfl
theorem strOf_size (l : List UInt8) : (strOf l).size = l.length := rfl

theorem cells_new (w : World) (E : TypeId) (cs : Array Value) : ∀ j u, cs.toList[j]? = some u → (w.alloc (.cells cs E)).cell? ((⟨w.heap.size, 0, none⟩ : Addr).add j) = some u := by
  intro j u hu
  have hp : (⟨w.heap.size, 0, none⟩ : Addr).add j = ⟨w.heap.size, j, none⟩ := by unfold Addr.add; split <;> simp_all
  rw [hp]
  unfold World.cell?
  rw [heap_alloc_new]
  simpa using hu

end Go.Proofs.Ytnfngjaldgellaa.Utf
namespace Go.Proofs.Ytnfngjaldgellaa.Nu
open Go.RowKit
open Go.Proofs.Ytnfngjaldgellaa.Utf

def isD (b : Int) : Bool := decide (48 ≤ b ∧ b ≤ 57)
theorem byt_in {l : List UInt8} {k : Nat} (h : k < l.length) : byt l k = (l[k].toNat : Int) := by
  unfold byt; rw [List.getD_eq_getElem?_getD, List.getElem?_eq_getElem h]; rfl
def accD (l : List UInt8) (p : Nat) : Nat → Nat
  | 0 => 0
  | k + 1 => accD l p k * 10 + (byt l (p + k) - 48).toNat
def maxN : Nat := 9007199254740991
def badN (l : List UInt8) (f r : Nat) : Prop := r = 0 ∨ maxN < accD l f r ∨ (1 < r ∧ byt l f = 48) ∨ (byt l (f + r) = 46 ∨ byt l (f + r) = 101 ∨ byt l (f + r) = 69)
instance (l : List UInt8) (f r : Nat) : Decidable (badN l f r) := by unfold badN; infer_instance
end Go.Proofs.Ytnfngjaldgellaa.Nu
namespace Go.Proofs.Ytnfngjaldgellaa.Nu
open Go.RowKit
open Go.Proofs.Ytnfngjaldgellaa.Utf

theorem byt_cons_0 (b : UInt8) (t : List UInt8) : byt (b :: t) 0 = (b.toNat : Int) := rfl
end Go.Proofs.Ytnfngjaldgellaa.Nu
namespace Go.Proofs.Ytnfngjaldgellaa.Wo
open Go.RowKit
open Go.Proofs.Ytnfngjaldgellaa.Utf
open Go.Proofs.Ytnfngjaldgellaa.Nu

def spl (c : UInt8) : List UInt8 → List (List UInt8)
  | [] => [[]]
  | x :: r => if x = c then [] :: spl c r else match spl c r with
    | [] => [[x]]
    | p :: t => (x :: p) :: t
theorem spl_ne (c : UInt8) : ∀ l, spl c l ≠ []
  | [] => by simp [spl]
  | x :: r => by
    rw [spl]
    split
    · simp
    · split <;> simp
theorem spl_no {c : UInt8} : ∀ {l : List UInt8}, c ∉ l → spl c l = [l]
  | [], _ => rfl
  | x :: r, h => by
    have h1 : ¬ x = c := fun e => h (by rw [e]; exact List.mem_cons_self)
    rw [spl, if_neg h1, spl_no (fun h2 => h (List.mem_cons_of_mem _ h2))]
theorem spl_app (c : UInt8) : ∀ a b : List UInt8, spl c (a ++ c :: b) = spl c a ++ spl c b
  | [], b => by
    show spl c (c :: b) = [] :: spl c b
    conv => lhs; rw [spl, if_pos rfl]
  | x :: r, b => by
    rw [List.cons_append, spl, spl_app c r b]
    conv => rhs; rw [spl]
    by_cases h : x = c
    · rw [if_pos h, if_pos h]; rfl
    · rw [if_neg h, if_neg h]
      cases hr : spl c r with
      | nil => exact absurd hr (spl_ne c r)
      | cons p t => rfl
theorem spl_mem {c : UInt8} : ∀ {l p : List UInt8}, p ∈ spl c l → c ∉ p
  | [], p, h => by
    simp [spl] at h
    subst h; simp
  | x :: r, p, h => by
    rw [spl] at h
    by_cases hx : x = c
    · rw [if_pos hx] at h
      rcases List.mem_cons.1 h with rfl | h
      · simp
      · exact spl_mem h
    · rw [if_neg hx] at h
      cases hr : spl c r with
      | nil => exact absurd hr (spl_ne c r)
      | cons q t =>
        rw [hr] at h
        rcases List.mem_cons.1 h with rfl | h
        · intro hm
          rcases List.mem_cons.1 hm with e | hm
          · exact hx e.symm
          · exact spl_mem (l := r) (by rw [hr]; exact List.mem_cons_self) hm
        · exact spl_mem (l := r) (by rw [hr]; exact List.mem_cons_of_mem _ h)
def ltr (b : Int) : Bool := decide ((65 ≤ b ∧ b ≤ 90) ∨ (97 ≤ b ∧ b ≤ 122))
def nmB (b : Int) : Bool := ltr b || isD b || decide (b = 33 ∨ b = 35 ∨ b = 36 ∨ b = 38 ∨ b = 45 ∨ b = 94 ∨ b = 95 ∨ b = 46 ∨ b = 43)
def nmS (l : List UInt8) : Bool := decide (1 ≤ l.length ∧ l.length ≤ 127) && (ltr (byt l 0) || isD (byt l 0)) && l.all fun x => nmB (x.toNat : Int)
def mediaS (l : List UInt8) : Bool := match spl 47 l with
  | [a, b] => nmS a && nmS b
  | _ => false
def tagS (l : List UInt8) : Bool := decide (1 ≤ l.length ∧ l.length ≤ 8) && l.all fun x => ltr (x.toNat : Int) || isD (x.toNat : Int)
def tag1 (l : List UInt8) : Bool := decide (2 ≤ l.length ∧ l.length ≤ 8) && l.all fun x => ltr (x.toNat : Int)
def langS (l : List UInt8) : Bool := match spl 45 l with
  | [] => true
  | p :: t => tag1 p && t.all tagS
def uriB (b : Int) : Bool := decide (33 ≤ b ∧ b ≤ 126) && !decide (b = 34 ∨ b = 60 ∨ b = 62 ∨ b = 92 ∨ b = 94 ∨ b = 96 ∨ b = 123 ∨ b = 124 ∨ b = 125)
def schB (b : Int) : Bool := ltr b || isD b || decide (b = 43 ∨ b = 45 ∨ b = 46)
def colN (l : List UInt8) : Nat := l.findIdx (· == 58)
def uriS (l : List UInt8) : Bool := decide (1 ≤ colN l ∧ colN l + 1 < l.length) && ltr (byt l 0) && (l.take (colN l)).all (fun x => schB (x.toNat : Int)) && l.all fun x => uriB (x.toNat : Int)
def othS (l : List UInt8) : Bool := decide (1 ≤ colN l ∧ colN l + 1 < l.length)
def inS (l s : List UInt8) : Bool := decide (s ≠ []) && (spl 32 l).contains s

theorem tag_1 {l : List UInt8} (h : tag1 l = true) : tagS l = true := by
  unfold tag1 at h
  unfold tagS
  rw [Bool.and_eq_true, decide_eq_true_eq, List.all_eq_true] at *
  exact ⟨⟨by omega, h.1.2⟩, fun x hx => by rw [h.2 x hx]; rfl⟩
theorem lang_tags {l : List UInt8} (h : langS l = true) : (spl 45 l).all tagS = true := by
  unfold langS at h
  cases hs : spl 45 l with
  | nil => exact absurd hs (spl_ne _ _)
  | cons p t =>
    rw [hs] at h
    rw [Bool.and_eq_true] at h
    rw [List.all_cons, tag_1 h.1, h.2]; rfl
theorem lang_app {b c : List UInt8} (h : langS b = true) : langS (b ++ 45 :: c) = (spl 45 c).all tagS := by
  unfold langS at *
  rw [spl_app]
  cases hs : spl 45 b with
  | nil => exact absurd hs (spl_ne _ _)
  | cons p t =>
    rw [hs] at h
    rw [Bool.and_eq_true] at h
    show (tag1 p && (t ++ spl 45 c).all tagS) = _
    rw [List.all_append, h.1, h.2]; rfl
theorem lang_de (c : List UInt8) : langS ([100, 101] ++ 45 :: c) = (spl 45 c).all tagS := lang_app (b := [100, 101]) (by decide)
theorem media_two {l : List UInt8} (h : mediaS l = true) : ∃ a b, spl 47 l = [a, b] ∧ nmS a = true ∧ nmS b = true ∧ (47 : UInt8) ∉ a ∧ (47 : UInt8) ∉ b := by
  unfold mediaS at h
  split at h
  · rename_i a b hs
    rw [Bool.and_eq_true] at h
    exact ⟨a, b, hs, h.1, h.2, spl_mem (l := l) (by rw [hs]; simp), spl_mem (l := l) (by rw [hs]; simp)⟩
  · cases h
theorem media_of {a b : List UInt8} (ha : nmS a = true) (hb : nmS b = true) (ha' : (47 : UInt8) ∉ a) (hb' : (47 : UInt8) ∉ b) : mediaS (a ++ 47 :: b) = true := by
  unfold mediaS
  rw [spl_app, spl_no ha', spl_no hb']
  show (nmS a && nmS b) = true
  rw [ha, hb]; rfl
end Go.Proofs.Ytnfngjaldgellaa.Wo
