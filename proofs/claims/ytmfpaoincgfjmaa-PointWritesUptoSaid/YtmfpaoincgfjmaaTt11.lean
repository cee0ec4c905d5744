/- Merged: RaOpen. -/
import Derived.Test.YtmfpaoincgfjmaaTt9
import Derived.ChangeArms
namespace Go.Proofs.Ytmfpaoincgfjmaa.Re
open Go.RowKit
open Go.ChangeShapes Go.WideShapes Go.Deep
open Go.Proofs.Ytmfpaoincgfjmaa.Utf
open Go.Proofs.Ytmfpaoincgfjmaa.Sc

set_option linter.unusedSimpArgs false
mutual
/-- how large the numbers, texts and slices of a value are: no more than B bytes each -/
def szA (B : Nat) : V → Prop
  | .mk k n s l ns ms => (Lit.int .i64 k).wf = true ∧ (Lit.int .i64 n).wf = true ∧ s.length ≤ B ∧ l.length * 80 ≤ B ∧ ms.length * 96 ≤ B ∧ (∀ nm ∈ ns, nm.length ≤ B) ∧ szAL B l ∧ szAL B ms
def szAL (B : Nat) : List V → Prop
  | [] => True
  | v :: r => szA B v ∧ szAL B r
end
theorem szAL_mem {B : Nat} {v : V} : ∀ {l : List V}, szAL B l → v ∈ l → szA B v := by
  intro l
  induction l with
  | nil => intro _ h; cases h
  | cons a r ih =>
    intro h hv
    rw [szAL] at h
    rcases List.mem_cons.1 hv with rfl | hv
    · exact h.1
    · exact ih h.2 hv
theorem szAL_of {B : Nat} : ∀ {l : List V}, (∀ v ∈ l, szA B v) → szAL B l := by
  intro l
  induction l with
  | nil => intro _; rw [szAL]; trivial
  | cons a r ih => intro h; rw [szAL]; exact ⟨h a (by simp), ih fun v hv => h v (by simp [hv])⟩
theorem szA_eq (B : Nat) (v : V) : szA B v ↔ ((Lit.int .i64 v.k).wf = true ∧ (Lit.int .i64 v.n).wf = true ∧ v.s.length ≤ B ∧ v.l.length * 80 ≤ B ∧ v.ms.length * 96 ≤ B ∧ (∀ nm ∈ v.ns, nm.length ≤ B) ∧ szAL B v.l ∧ szAL B v.ms) := by
  cases v; rw [szA]; rfl

section
variable {H : Type} {enc : TypeId × Value → H} {w : World} {base : Nat} {sp : Nat → Bool} {hd : Bool}

end
end Go.Proofs.Ytmfpaoincgfjmaa.Re
