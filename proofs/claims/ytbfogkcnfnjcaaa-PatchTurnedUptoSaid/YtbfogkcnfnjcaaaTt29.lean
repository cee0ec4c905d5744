/- Merged: PoF. -/
import Derived.Test.YtbfogkcnfnjcaaaTt25
import Derived.Test.YtbfogkcnfnjcaaaTt23
namespace Go.Proofs.Ytbfogkcnfnjcaaa.Po
open Go.Proofs Go.RowKit
open Go.Proofs.Ytbfogkcnfnjcaaa.Utf
open Go.Proofs.Ytbfogkcnfnjcaaa.Sc
open Go.Proofs.Ytbfogkcnfnjcaaa.Re
open Go.Proofs.Ytbfogkcnfnjcaaa.Tr
open Go.Proofs.Ytbfogkcnfnjcaaa.Nu

theorem lt_of_cell {w : World} {a : Addr} {v : Value} (h : w.cell? a = some v) : a.block < w.heap.size := by
  rcases Nat.lt_or_ge a.block w.heap.size with hlt | hge
  · exact hlt
  · simp [World.cell?, Array.getElem?_eq_none hge] at h
theorem _root_.Go.Proofs.Ytbfogkcnfnjcaaa.Re.RdA.back {w w' : World} {lo hi B : Nat} {v : V} {cs : List Value} (h : RdA w' lo hi v cs) (hb : Below B w w') (hB : hi ≤ B) : RdA w lo hi v cs := RdA.keep (fun _ _ hp => (hb.cell (Nat.lt_of_lt_of_le hp hB)).symm) (Nat.le_refl _) (Nat.le_refl _) _ _ h
theorem add_zero_ (a : Addr) : a.add 0 = a := by unfold Addr.add; simp

end Go.Proofs.Ytbfogkcnfnjcaaa.Po
