/- Merged: SmPl2. -/
import Derived.Test.YthfladbanghkiaaTt1
import GoSem.Op.String
namespace Go.Proofs.Ythfladbanghkiaa.Sm
open Go.RowKit
open Go.Proofs.Ythfladbanghkiaa.Utf
open Go.Proofs.Ythfladbanghkiaa.Nu
open Go.Proofs.Ythfladbanghkiaa.Wo

def rowK (x : Pr) : Prop :=
  (12 ≤ x.fm ∧ x.fm ≤ 15 ∧ propsS x.ar ≠ [] ∧ x.ar ≠ [] ∧ x.df = []) ∨
  (x.fm = 11 ∧ x.ar ≠ [] ∧ x.df = []) ∨ (x.fm = 11 ∧ x.ar ≠ [] ∧ x.df ≠ [] ∧ inS x.ar x.df = true) ∨
  (x.fm = 17 ∧ x.ar ≠ [] ∧ x.df = []) ∨
  (¬ (11 ≤ x.fm ∧ x.fm ≤ 15) ∧ x.fm ≠ 17 ∧ x.ar = [] ∧ x.df = []) ∨
  (x.fm = 3 ∧ x.ar = [] ∧ x.df = [102, 97, 108, 115, 101])
instance (x : Pr) : Decidable (rowK x) := by unfold rowK; infer_instance
end Go.Proofs.Ythfladbanghkiaa.Sm
