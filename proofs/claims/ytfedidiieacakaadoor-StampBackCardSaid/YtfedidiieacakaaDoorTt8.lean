/- Merged: StK0. -/
import Derived.Test.YtfedidiieacakaaDoorTt7
import Derived.Laws.AppendOwnNone
namespace Go.Proofs.YtfedidiieacakaaDoor.St
open Go.RowKit
open Go.Proofs.YtfedidiieacakaaDoor.Utf
open Go.Proofs.YtfedidiieacakaaDoor.Nu

def b10 : Nat → Nat → List UInt8
  | 0, _ => []
  | j + 1, n => b10 j (n / 10) ++ [dg n]
theorem b10_len : ∀ j n, (b10 j n).length = j
  | 0, _ => rfl
  | j + 1, n => by rw [b10, List.length_append, b10_len j]; rfl
def DgI (k N m n : Nat) (ds : List UInt8) : Prop := ds.length + m = k ∧ n ≤ N ∧ b10 k N = b10 m n ++ ds
theorem DgI_0 (k N : Nat) : DgI k N k N [] := ⟨by simp, Nat.le_refl _, by simp⟩
theorem DgI_next {k N m n : Nat} {ds : List UInt8} (h : DgI k N (m + 1) n ds) : DgI k N m (n / 10) (dg n :: ds) := by
  obtain ⟨h1, h2, h3⟩ := h
  refine ⟨by rw [List.length_cons]; omega, by omega, ?_⟩
  rw [h3, b10, List.append_assoc]; rfl
theorem DgI_end {k N n : Nat} {ds : List UInt8} (h : DgI k N 0 n ds) : b10 k N = ds := by rw [h.2.2, b10]; rfl
theorem own_new {w : World} {B : Nat} {E : TypeId} {cs : Array Value} {k : Nat} (hk : k = cs.size) (hB : B ≤ w.heap.size) (hm : cs.size ≤ maxLen) :
    (w.alloc (.cells cs E)).ownsRow B E 1 (.slice (some ⟨w.heap.size, 0, none⟩) k k) k cs.toList := by
  subst hk
  exact ⟨by simp, .inr ⟨_, _, cs, rfl, hB, heap_alloc_new w _, Nat.le_refl _, hm, by simp, List.take_of_length_le (by simp)⟩⟩

theorem own_forms {w : World} {base size n : Nat} {e : TypeId} {v : Value} {xs : List Value} (h : w.ownsRow base e size v n xs) : (v = .slice none 0 0 ∧ n = 0) ∨ ∃ g cap, v = .slice (some ⟨g, 0, none⟩) n cap := by
  rcases h.2 with h0 | ⟨g, cap, _, hv, _⟩
  · exact .inl h0
  · exact .inr ⟨g, cap, hv⟩
theorem own_news {w : World} {B g n cap : Nat} {E : TypeId} {xs : List Value} (h : w.ownsRow B E 1 (.slice (some ⟨g, 0, none⟩) n cap) n xs) (o : Obj) : ∀ j u, xs[j]? = some u → (w.alloc o).cell? ((⟨g, 0, none⟩ : Addr).add j) = some u := by
  intro j u hu
  obtain ⟨A, c, he, hc⟩ := Rd.of_own h
  obtain ⟨ad, rfl, _, hx⟩ := hc (by
    rcases Nat.eq_zero_or_pos xs.length with h0 | h0
    · rw [List.eq_nil_of_length_eq_zero h0] at hu; simp at hu
    · exact h0)
  injection he with h1 _ _
  injection h1 with h1
  subst h1
  have hold := hx j u hu
  have hlt := cell_lt hold
  exact (World.cell?_of_block (w := w) (Below.heap_alloc w o _ hlt)).trans hold

end Go.Proofs.YtfedidiieacakaaDoor.St
