/- Merged: WoF SmA. -/
import Derived.Test.YthfladbanghkiaaTt4
import Derived.Deep.AppendLies
import Derived.Test.YthfladbanghkiaaTt1
namespace Go.Proofs.Ythfladbanghkiaa.Wo
open Go.Proofs Go.RowKit
open Go.Proofs.Ythfladbanghkiaa.Utf
open Go.Proofs.Ythfladbanghkiaa.Nu

def strK (ps : List (List UInt8)) : List Value := ps.map fun p => .string (strOf p)
theorem strK_len (ps : List (List UInt8)) : (strK ps).length = ps.length := by unfold strK; simp
theorem strK_at (ps : List (List UInt8)) (k : Nat) (h : k < ps.length) : (strK ps)[k]? = some (.string (strOf ps[k])) := by
  unfold strK
  rw [List.getElem?_map, List.getElem?_eq_getElem h]; rfl
theorem spl_cnt (c : UInt8) : ∀ l : List UInt8, (spl c l).length ≤ l.length + 1
  | [] => by simp [spl]
  | x :: r => by
    have h := spl_cnt c r
    rw [spl]
    split
    · simp; omega
    · cases hr : spl c r with
      | nil => exact absurd hr (spl_ne c r)
      | cons p t =>
        rw [hr] at h
        simp at h ⊢; omega
theorem own_blk' {w : World} {B E n : Nat} {v : Value} {xs : List Value} (h : w.ownsRow B E 1 v n xs) (h0 : 0 < xs.length) :
    ∃ g c, v = .slice (some ⟨g, 0, none⟩) xs.length c ∧ g < w.heap.size ∧ ∀ j u, xs[j]? = some u → w.cell? ⟨g, j, none⟩ = some u := by
  obtain ⟨A, c, rfl, hx⟩ := Rd.of_own h
  obtain ⟨ad, rfl, hb, hc⟩ := hx h0
  rcases h.2 with ⟨e, _⟩ | ⟨g, cap, cur, e, _⟩
  · cases e
  · injection e with e1 e2 e3
    injection e1 with e1
    subst e1
    refine ⟨g, c, rfl, hb, fun j u hu => ?_⟩
    have := hc j u hu
    have hp : (⟨g, 0, none⟩ : Addr).add j = ⟨g, j, none⟩ := by unfold Addr.add; split <;> simp_all
    rwa [hp] at this

section
variable {c : UInt8} {l : List UInt8} {k f : Nat} {ps : List (List UInt8)}
end
def GivesPs (ps : List (List UInt8)) (w : World) (e : Ending) (w' : World) : Prop :=
  ∃ v, e = .returned v ∧ w'.ownsRow w.heap.size 9 1 v ps.length (strK ps) ∧ Below w.heap.size w w'
end Go.Proofs.Ythfladbanghkiaa.Wo
namespace Go.Proofs.Ythfladbanghkiaa.Sm
open Go.Proofs Go.RowKit
open Go.Proofs.Ythfladbanghkiaa.Utf
open Go.Proofs.Ythfladbanghkiaa.Nu
open Go.Proofs.Ythfladbanghkiaa.Wo

def prC (p : Pr) : List Value := [.string (strOf p.nm), .int .i64 p.fm, .string (strOf p.ar), .bool p.mu, .string (strOf p.df)]
def prV (p : Pr) : Value := .agg #[.string (strOf p.nm), .int .i64 p.fm, .string (strOf p.ar), .bool p.mu, .string (strOf p.df)]
def prsC (ps : List Pr) : List Value := (ps.map prC).flatten
theorem prsC_app (a b : List Pr) : prsC (a ++ b) = prsC a ++ prsC b := by simp [prsC]
theorem prsC_one (t : Pr) : prsC [t] = prC t := by simp [prsC]
theorem prsC_len (ts : List Pr) : (prsC ts).length = ts.length * 5 := by
  induction ts with
  | nil => rfl
  | cons a r ih => rw [show a :: r = [a] ++ r from rfl, prsC_app, List.length_append, ih, prsC_one, prC]; simp; omega
theorem prsC_at (ts : List Pr) : ∀ (i : Nat) (h : i < ts.length) (j : Nat), j < 5 → (prsC ts)[i * 5 + j]? = (prC ts[i])[j]? := by
  induction ts with
  | nil => intro i h; simp at h
  | cons a r ih =>
    intro i h j hj
    have e : prsC (a :: r) = prC a ++ prsC r := by rw [show a :: r = [a] ++ r from rfl, prsC_app, prsC_one]
    rw [e]
    cases i with
    | zero =>
      rw [List.getElem?_append_left (by show 0 * 5 + j < 5; omega), Nat.zero_mul, Nat.zero_add]
      rfl
    | succ k =>
      rw [List.getElem?_append_right (by show 5 ≤ _; omega), show (k + 1) * 5 + j - (prC a).length = k * 5 + j by show (k + 1) * 5 + j - 5 = _; omega]
      exact ih k (by simpa using h) j hj
def RdP (w : World) (B : Nat) (v : Value) (ps : List Pr) : Prop :=
  ∃ A c, v = .slice A ps.length c ∧ (0 < ps.length → ∃ g, A = some ⟨g, 0, none⟩ ∧ g < B ∧ ∀ j u, (prsC ps)[j]? = some u → w.cell? ⟨g, j, none⟩ = some u)
section
variable {w w' : World} {B B' : Nat} {v : Value} {ps : List Pr}
theorem RdP.keep (h : RdP w B v ps) (hk : ∀ p : Addr, p.block < B → w'.cell? p = w.cell? p) : RdP w' B v ps := by
  obtain ⟨A, c, rfl, hc⟩ := h
  refine ⟨A, c, rfl, fun h0 => ?_⟩
  obtain ⟨g, rfl, hb, hx⟩ := hc h0
  exact ⟨g, rfl, hb, fun j u hu => (hk ⟨g, j, none⟩ hb).trans (hx j u hu)⟩
theorem RdP.below (h : RdP w B v ps) (hb : Below B' w w') (hB : B ≤ B') : RdP w' B v ps := h.keep fun _ hp => hb.cell (by omega)
theorem RdP.more (h : RdP w B v ps) (hB : B ≤ B') : RdP w B' v ps := by
  obtain ⟨A, c, rfl, hc⟩ := h
  refine ⟨A, c, rfl, fun h0 => ?_⟩
  obtain ⟨g, rfl, hb, hx⟩ := hc h0
  exact ⟨g, rfl, by omega, hx⟩
theorem RdP.of_own {base E : Nat} (h : w.ownsRow base E 5 v ps.length (prsC ps)) : RdP w w.heap.size v ps := by
  have hlt := h.lt
  have hcell := @World.ownsRow.cells w base E 5 v ps.length (prsC ps) h
  rcases h.2 with ⟨rfl, h0⟩ | ⟨g, cap, cur, rfl, _, _, _⟩
  · exact ⟨none, 0, by rw [h0], fun h => by omega⟩
  · refine ⟨some ⟨g, 0, none⟩, cap, rfl, fun _ => ⟨g, rfl, (hlt g rfl).2, fun j u hu => ?_⟩⟩
    have := hcell rfl j u hu
    rwa [show (⟨g, 0, none⟩ : Addr).add j = ⟨g, j, none⟩ by unfold Addr.add; split <;> simp_all] at this
def P5 (w : World) (g o : Nat) (p : Pr) : Prop :=
  w.cell? ⟨g, o, none⟩ = some (.string (strOf p.nm)) ∧ w.cell? ⟨g, o + 1, none⟩ = some (.int .i64 p.fm) ∧ w.cell? ⟨g, o + 2, none⟩ = some (.string (strOf p.ar)) ∧ w.cell? ⟨g, o + 3, none⟩ = some (.bool p.mu) ∧ w.cell? ⟨g, o + 4, none⟩ = some (.string (strOf p.df))
theorem RdP.at_ (h : RdP w B v ps) (i : Nat) (hi : i < ps.length) : ∃ g c, v = .slice (some ⟨g, 0, none⟩) ps.length c ∧ g < B ∧ P5 w g (i * 5) ps[i] := by
  obtain ⟨A, c, rfl, hc⟩ := h
  obtain ⟨g, rfl, hb, hx⟩ := hc (by omega)
  have a0 := prsC_at ps i hi 0 (by omega)
  exact ⟨g, c, rfl, hb, hx _ _ a0, hx _ _ (prsC_at ps i hi 1 (by omega)), hx _ _ (prsC_at ps i hi 2 (by omega)), hx _ _ (prsC_at ps i hi 3 (by omega)), hx _ _ (prsC_at ps i hi 4 (by omega))⟩
end
def GivesPr (E : TypeId) (ps : List Pr) (w : World) (e : Ending) (w' : World) : Prop :=
  ∃ v, e = .returned v ∧ w'.ownsRow w.heap.size E 5 v ps.length (prsC ps) ∧ Below w.heap.size w w'

theorem rowSt (w : World) (b i : Nat) (cs : Array Value) (t : TypeId) (v : Value) (h : w.heap[b]? = some (.cells cs t (0, 0))) : (w.setCell ⟨b, i, none⟩ v).heap[b]? = some (.cells (cs.setIfInBounds i v) t (0, 0)) := by
  obtain ⟨hlt, hk⟩ := Array.getElem?_eq_some_iff.1 h
  show (w.heap.modify b _)[b]? = _
  rw [Array.getElem?_eq_getElem (by rw [Array.size_modify]; exact hlt), Array.getElem_modify_self, hk]
  rfl
def sP (w : World) (b : Nat) (v0 v1 v2 v3 v4 : Value) : World := ((((w.setCell ⟨b, 0, none⟩ v0).setCell ⟨b, 1, none⟩ v1).setCell ⟨b, 2, none⟩ v2).setCell ⟨b, 3, none⟩ v3).setCell ⟨b, 4, none⟩ v4
section
variable {w : World} {b t : Nat} {u0 u1 u2 u3 u4 : Value}
theorem sP_row (h : w.heap[b]? = some (.cells #[u0, u1, u2, u3, u4] t (0, 0))) (v0 v1 v2 v3 v4 : Value) : (sP w b v0 v1 v2 v3 v4).heap[b]? = some (.cells #[v0, v1, v2, v3, v4] t (0, 0)) :=
  rowSt _ b 4 _ _ v4 (rowSt _ b 3 _ _ v3 (rowSt _ b 2 _ _ v2 (rowSt _ b 1 _ _ v1 (rowSt w b 0 _ _ v0 h))))
theorem sP_below {B : Nat} {a : World} (h : Below B a w) (hb : B ≤ b) (v0 v1 v2 v3 v4 : Value) : Below B a (sP w b v0 v1 v2 v3 v4) :=
  ((((h.setCell (p := ⟨b, 0, none⟩) hb v0).setCell (p := ⟨b, 1, none⟩) hb v1).setCell (p := ⟨b, 2, none⟩) hb v2).setCell (p := ⟨b, 3, none⟩) hb v3).setCell (p := ⟨b, 4, none⟩) hb v4
theorem rowP (h : w.heap[b]? = some (.cells #[u0, u1, u2, u3, u4] t (0, 0))) :
    (w.cell? ⟨b, 0, none⟩ = some u0 ∧ w.cell? ⟨b, 1, none⟩ = some u1 ∧ w.cell? ⟨b, 2, none⟩ = some u2 ∧ w.cell? ⟨b, 3, none⟩ = some u3 ∧ w.cell? ⟨b, 4, none⟩ = some u4) ∧
    (w.frozen? ⟨b, 0, none⟩ = false ∧ w.frozen? ⟨b, 1, none⟩ = false ∧ w.frozen? ⟨b, 2, none⟩ = false ∧ w.frozen? ⟨b, 3, none⟩ = false ∧ w.frozen? ⟨b, 4, none⟩ = false) := by
  refine ⟨⟨?_, ?_, ?_, ?_, ?_⟩, ⟨?_, ?_, ?_, ?_, ?_⟩⟩ <;> simp [World.cell?, World.frozen?, h]
end
section
variable {fn : Func} {s b z : Nat} {tmps : Array Value} {w : World} {fr : Nat × Nat} {v0 v1 v2 v3 v4 : Value}
end
end Go.Proofs.Ythfladbanghkiaa.Sm
