import Derived.Test.YtbepnjgbkfidiaaRePl
import Derived.Test.YtbepnjgbkfidiaaBase
/- Values of JSON in memory. No run of the program in this text. -/
namespace Go.Proofs.Ytbepnjgbkfidiaa.Re
open Go.RowKit
open Go.Proofs.Ytbepnjgbkfidiaa.Utf
open Go.Proofs.Ytbepnjgbkfidiaa.Sc

mutual
/-- In w the five cells cs read as the value v; what it holds lies in blocks from lo on, below hi. -/
def RdV (w : World) (lo hi : Nat) : V → List Value → Prop
  | .mk k n s l ns ms, cs => ∃ vl vm : Value, cs = [.int .i64 k, .int .i64 n, .string (strOf s), vl, vm] ∧
      (∃ A c, vl = .slice A l.length c ∧ (0 < l.length → ∃ g, A = some ⟨g, 0, none⟩ ∧ lo ≤ g ∧ g < hi ∧ RdL w lo hi g 0 l)) ∧
      (∃ A c, vm = .slice A ms.length c ∧ ns.length = ms.length ∧ (0 < ms.length → ∃ g, A = some ⟨g, 0, none⟩ ∧ lo ≤ g ∧ g < hi ∧ RdM w lo hi g 0 ns ms))
def RdL (w : World) (lo hi : Nat) : Nat → Nat → List V → Prop
  | _, _, [] => True
  | g, i, v :: r => (∃ cs, (∀ j u, cs[j]? = some u → w.cell? ⟨g, i * 5 + j, none⟩ = some u) ∧ RdV w lo hi v cs) ∧ RdL w lo hi g (i + 1) r
def RdM (w : World) (lo hi : Nat) : Nat → Nat → List (List UInt8) → List V → Prop
  | _, _, _, [] => True
  | g, i, ns, v :: r => ∃ nm ns', ns = nm :: ns' ∧ w.cell? ⟨g, i * 6, none⟩ = some (.string (strOf nm)) ∧ (∃ cs, (∀ j u, cs[j]? = some u → w.cell? ⟨g, i * 6 + 1 + j, none⟩ = some u) ∧ RdV w lo hi v cs) ∧ RdM w lo hi g (i + 1) ns' r
end

section
variable {w w' : World} {lo hi lo' hi' : Nat}
mutual
theorem RdV.keep (hk : ∀ p : Addr, lo ≤ p.block → p.block < hi → w'.cell? p = w.cell? p) (h1 : lo' ≤ lo) (h2 : hi ≤ hi') : ∀ (v : V) (cs : List Value), RdV w lo hi v cs → RdV w' lo' hi' v cs
  | .mk k n s l ns ms, cs, h => by
    rw [RdV] at h ⊢
    obtain ⟨vl, vm, rfl, ⟨A, c, rfl, ha⟩, ⟨A2, c2, rfl, hn, hb⟩⟩ := h
    refine ⟨_, _, rfl, ⟨A, c, rfl, fun h0 => ?_⟩, ⟨A2, c2, rfl, hn, fun h0 => ?_⟩⟩
    · obtain ⟨g, e, g1, g2, h⟩ := ha h0
      exact ⟨g, e, by omega, by omega, RdL.keep hk h1 h2 l g 0 g1 g2 h⟩
    · obtain ⟨g, e, g1, g2, h⟩ := hb h0
      exact ⟨g, e, by omega, by omega, RdM.keep hk h1 h2 ms ns g 0 g1 g2 h⟩
theorem RdL.keep (hk : ∀ p : Addr, lo ≤ p.block → p.block < hi → w'.cell? p = w.cell? p) (h1 : lo' ≤ lo) (h2 : hi ≤ hi') : ∀ (l : List V) (g i : Nat), lo ≤ g → g < hi → RdL w lo hi g i l → RdL w' lo' hi' g i l
  | [], g, i, _, _, _ => by rw [RdL]; trivial
  | v :: r, g, i, g1, g2, h => by
    rw [RdL] at h ⊢
    obtain ⟨⟨cs, hc, hv⟩, hr⟩ := h
    exact ⟨⟨cs, fun j u hu => (hk ⟨g, i * 5 + j, none⟩ g1 g2).trans (hc j u hu), RdV.keep hk h1 h2 v cs hv⟩, RdL.keep hk h1 h2 r g (i + 1) g1 g2 hr⟩
theorem RdM.keep (hk : ∀ p : Addr, lo ≤ p.block → p.block < hi → w'.cell? p = w.cell? p) (h1 : lo' ≤ lo) (h2 : hi ≤ hi') : ∀ (ms : List V) (ns : List (List UInt8)) (g i : Nat), lo ≤ g → g < hi → RdM w lo hi g i ns ms → RdM w' lo' hi' g i ns ms
  | [], ns, g, i, _, _, _ => by rw [RdM]; trivial
  | v :: r, ns, g, i, g1, g2, h => by
    rw [RdM] at h ⊢
    obtain ⟨nm, ns', rfl, hm, ⟨cs, hc, hv⟩, hr⟩ := h
    exact ⟨nm, ns', rfl, (hk ⟨g, i * 6, none⟩ g1 g2).trans hm, ⟨cs, fun j u hu => (hk ⟨g, i * 6 + 1 + j, none⟩ g1 g2).trans (hc j u hu), RdV.keep hk h1 h2 v cs hv⟩, RdM.keep hk h1 h2 r ns' g (i + 1) g1 g2 hr⟩
end
theorem RdV.below {B : Nat} {v : V} {cs : List Value} (h : RdV w lo hi v cs) (hb : Below B w w') (hB : hi ≤ B) (hh : hi ≤ hi') : RdV w' lo hi' v cs :=
  RdV.keep (fun p _ hp => hb.cell (by omega)) (Nat.le_refl _) hh v cs h
/-- a value's cells -/
theorem RdV.cells {v : V} {cs : List Value} (h : RdV w lo hi v cs) : ∃ A c A2 c2, cs = [.int .i64 v.k, .int .i64 v.n, .string (strOf v.s), .slice A v.l.length c, .slice A2 v.ms.length c2] ∧ v.ns.length = v.ms.length ∧
    (0 < v.l.length → ∃ g, A = some ⟨g, 0, none⟩ ∧ lo ≤ g ∧ g < hi ∧ RdL w lo hi g 0 v.l) ∧ (0 < v.ms.length → ∃ g, A2 = some ⟨g, 0, none⟩ ∧ lo ≤ g ∧ g < hi ∧ RdM w lo hi g 0 v.ns v.ms) := by
  obtain ⟨k, n, s, l, ns, ms⟩ := v
  rw [RdV] at h
  obtain ⟨vl, vm, rfl, ⟨A, c, rfl, ha⟩, ⟨A2, c2, rfl, hn, hb⟩⟩ := h
  exact ⟨A, c, A2, c2, rfl, hn, ha, hb⟩
theorem RdL.at_ {g : Nat} : ∀ (l : List V) (i : Nat), RdL w lo hi g i l → ∀ k (hk : k < l.length), ∃ cs, (∀ j u, cs[j]? = some u → w.cell? ⟨g, (i + k) * 5 + j, none⟩ = some u) ∧ RdV w lo hi l[k] cs := by
  intro l
  induction l with
  | nil => intro i _ k hk; simp at hk
  | cons v r ih =>
    intro i h k hk
    rw [RdL] at h
    cases k with
    | zero => exact h.1
    | succ k =>
      obtain ⟨cs, h1, h2⟩ := ih (i + 1) h.2 k (by simpa using hk)
      exact ⟨cs, fun j u hu => by rw [show i + (k + 1) = i + 1 + k by omega]; exact h1 j u hu, h2⟩
theorem RdM.at_ {g : Nat} : ∀ (ms : List V) (ns : List (List UInt8)) (i : Nat), RdM w lo hi g i ns ms → ∀ k (hk : k < ms.length) (hn : k < ns.length), w.cell? ⟨g, (i + k) * 6, none⟩ = some (.string (strOf ns[k])) ∧ ∃ cs, (∀ j u, cs[j]? = some u → w.cell? ⟨g, (i + k) * 6 + 1 + j, none⟩ = some u) ∧ RdV w lo hi ms[k] cs := by
  intro ms
  induction ms with
  | nil => intro ns i _ k hk; simp at hk
  | cons v r ih =>
    intro ns i h k hk hn
    rw [RdM] at h
    obtain ⟨nm, ns', rfl, hm, hv, hr⟩ := h
    cases k with
    | zero => exact ⟨hm, hv⟩
    | succ k =>
      obtain ⟨h0, cs, h1, h2⟩ := ih ns' (i + 1) hr k (by simpa using hk) (by simpa using hn)
      refine ⟨by rw [show i + (k + 1) = i + 1 + k by omega]; exact h0, cs, fun j u hu => by rw [show i + (k + 1) = i + 1 + k by omega]; exact h1 j u hu, h2⟩
end
theorem len_cntL (l : List V) : l.length ≤ cntL l := by
  induction l with
  | nil => simp
  | cons v r ih => have := cnt_pos v; rw [cntL, List.length_cons]; omega
theorem cnt_mem {v : V} {l : List V} (h : v ∈ l) : cnt v ≤ cntL l := by
  induction l with
  | nil => cases h
  | cons a r ih =>
    rw [cntL]
    rcases List.mem_cons.1 h with rfl | h
    · omega
    · have := ih h; omega
theorem cnt_eq (v : V) : cnt v = 1 + cntL v.l + cntL v.ms := by cases v; rw [cnt]; rfl
theorem ht_eq (v : V) : ht v = max (htL v.l) (htL v.ms) + 1 := by cases v; rw [ht]; rfl
theorem V.ext' {a b : V} (h1 : a.k = b.k) (h2 : a.n = b.n) (h3 : a.s = b.s) (h4 : a.l = b.l) (h5 : a.ns = b.ns) (h6 : a.ms = b.ms) : a = b := by
  rw [← V.eta a, ← V.eta b, h1, h2, h3, h4, h5, h6]
end Go.Proofs.Ytbepnjgbkfidiaa.Re
