import Derived.Test.YtbepnjgbkfidiaaScD
/- Contract of package scan's Tokens. -/
namespace Go.Proofs.Ytbepnjgbkfidiaa.Sc
open Go.RowKit
open Go.Proofs.Ytbepnjgbkfidiaa.Utf

/-- the place of the scanner that lies in a block -/
def posOf (w : World) (b : Nat) : Nat := match w.cell? ⟨b, 1, none⟩ with
  | some (.int _ k) => k.toNat
  | _ => 0
end Go.Proofs.Ytbepnjgbkfidiaa.Sc
/- A slice that reads as tokens; contracts of the document's answer's White and Same. -/
namespace Go.Proofs.Ytbepnjgbkfidiaa.Sc
open Go.RowKit
open Go.Proofs.Ytbepnjgbkfidiaa.Utf

/-- In w the slice value v reads as the tokens ts, which lie below block B; nil and empty ones too. -/
def RdT (w : World) (B : Nat) (v : Value) (ts : List Tok) : Prop :=
  ∃ A c, v = .slice A ts.length c ∧ (0 < ts.length → ∃ g, A = some ⟨g, 0, none⟩ ∧ g < B ∧ ∀ j u, (toksC ts)[j]? = some u → w.cell? ⟨g, j, none⟩ = some u)
theorem RdT.keep {w w' : World} {B : Nat} {v : Value} {ts : List Tok} (h : RdT w B v ts) (hk : ∀ p : Addr, p.block < B → w'.cell? p = w.cell? p) : RdT w' B v ts := by
  obtain ⟨A, c, rfl, hc⟩ := h
  refine ⟨A, c, rfl, fun h0 => ?_⟩
  obtain ⟨g, rfl, hb, hx⟩ := hc h0
  exact ⟨g, rfl, hb, fun j u hu => (hk ⟨g, j, none⟩ hb).trans (hx j u hu)⟩
theorem RdT.below {w w' : World} {B B' : Nat} {v : Value} {ts : List Tok} (h : RdT w B v ts) (hb : Below B' w w') (hB : B ≤ B') : RdT w' B v ts := h.keep fun _ hp => hb.cell (by omega)
theorem RdT.more {w : World} {B B' : Nat} {v : Value} {ts : List Tok} (h : RdT w B v ts) (hB : B ≤ B') : RdT w B' v ts := by
  obtain ⟨A, c, rfl, hc⟩ := h
  refine ⟨A, c, rfl, fun h0 => ?_⟩
  obtain ⟨g, rfl, hb, hx⟩ := hc h0
  exact ⟨g, rfl, by omega, hx⟩
theorem RdT.of_own {w : World} {base E : Nat} {v : Value} {ts : List Tok} (h : w.ownsRow base E 4 v ts.length (toksC ts)) : RdT w w.heap.size v ts := by
  have hlt := h.lt
  have hcell := @World.ownsRow.cells w base E 4 v ts.length (toksC ts) h
  rcases h.2 with ⟨rfl, h0⟩ | ⟨g, cap, cur, rfl, _, _, _⟩
  · exact ⟨none, 0, by rw [h0], fun h => by omega⟩
  · refine ⟨some ⟨g, 0, none⟩, cap, rfl, fun _ => ⟨g, rfl, (hlt g rfl).2, fun j u hu => ?_⟩⟩
    have := hcell rfl j u hu
    rwa [show (⟨g, 0, none⟩ : Addr).add j = ⟨g, j, none⟩ by unfold Addr.add; split <;> simp_all] at this
theorem toksC_at (ts : List Tok) : ∀ (i : Nat) (h : i < ts.length) (j : Nat), j < 4 → (toksC ts)[i * 4 + j]? = (tokC ts[i])[j]? := by
  induction ts with
  | nil => intro i h; simp at h
  | cons t r ih =>
    intro i h j hj
    have e : toksC (t :: r) = tokC t ++ toksC r := by rw [show t :: r = [t] ++ r from rfl, toksC_app, toksC_one]
    have l : (tokC t).length = 4 := rfl
    rw [e]
    cases i with
    | zero => rw [List.getElem?_append_left (by rw [l]; omega)]; simp
    | succ i =>
      rw [List.getElem?_append_right (by rw [l]; omega), l]
      have := ih i (by simpa using h) j hj
      rw [show (i + 1) * 4 + j - 4 = i * 4 + j by omega, this]
      simp
/-- the cells of a token -/
theorem RdT.at_ {w : World} {B : Nat} {v : Value} {ts : List Tok} (h : RdT w B v ts) (i : Nat) (hi : i < ts.length) : ∃ g c, v = .slice (some ⟨g, 0, none⟩) ts.length c ∧ g < B ∧
    w.cell? ⟨g, i * 4, none⟩ = some (.int .i64 ts[i].1) ∧ w.cell? ⟨g, i * 4 + 1, none⟩ = some (.int .i64 ts[i].2.1) ∧ w.cell? ⟨g, i * 4 + 2, none⟩ = some (.string (strOf ts[i].2.2.1)) ∧ w.cell? ⟨g, i * 4 + 3, none⟩ = some (.int .i64 ts[i].2.2.2) := by
  obtain ⟨A, c, rfl, hc⟩ := h
  obtain ⟨g, rfl, hb, hx⟩ := hc (by omega)
  have a0 := toksC_at ts i hi 0 (by omega)
  exact ⟨g, c, rfl, hb, hx _ _ a0, hx _ _ (toksC_at ts i hi 1 (by omega)), hx _ _ (toksC_at ts i hi 2 (by omega)), hx _ _ (toksC_at ts i hi 3 (by omega))⟩

/-- the tests of a round of Same -/
def GivesB (q : Prop) (w : World) (e : Ending) (w' : World) : Prop := (∃ b, e = .returned (.bool b) ∧ (b = true ↔ q)) ∧ Below w.heap.size w w'

end Go.Proofs.Ytbepnjgbkfidiaa.Sc
/- Contract of the awake of layer 4's law. -/
namespace Go.Proofs.Ytbepnjgbkfidiaa.Sc
open Go.RowKit
open Go.Proofs.Ytbepnjgbkfidiaa.Utf

theorem aw1 : scnS [123, 34, 97, 34, 58, 45, 49, 125] = ([(1, 0, [123], 0), (4, 0, [97], 1), (1, 0, [58], 4), (3, -1, [], 5), (1, 0, [125], 7)], 0, 0) := by decide +kernel
theorem aw2 : scnS [110, 117, 108, 108, 115] = ([], 0, 40) := by decide +kernel
theorem aw3 : scnS [91, 49, 46, 53, 93] = ([], 1, 30) := by decide +kernel
end Go.Proofs.Ytbepnjgbkfidiaa.Sc
