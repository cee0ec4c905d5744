/- Merged: SmW1 SmW4. -/
import Derived.Test.YthfladbanghkiaaTt11
import Derived.ArgAppend
import Derived.Deep.RegionHeld3
namespace Go.Proofs.Ythfladbanghkiaa.Sm
open Go.Proofs Go.RowKit
open Go.Proofs.Ythfladbanghkiaa.Utf
open Go.Proofs.Ythfladbanghkiaa.Nu
open Go.Proofs.Ythfladbanghkiaa.Wo

theorem drwP {B : Nat} {a w : World} (h : Below B a w) (n : Nat) : Below B a (w.drewN n) := ⟨h.os, h.tape, h.output, h.size, h.block⟩
theorem props_few (l : List UInt8) : (propsS l).length ≤ 701 := by
  unfold propsS
  split
  · simp
  · rw [lineP, List.length_map]
    have := spl_cnt 59 (tabS l)
    have := tab_len l
    omega
end Go.Proofs.Ythfladbanghkiaa.Sm
namespace Go.Proofs.Ythfladbanghkiaa.Sm
open Go.Proofs Go.RowKit
open Go.Proofs.Ythfladbanghkiaa.Utf
open Go.Proofs.Ythfladbanghkiaa.Nu
open Go.Proofs.Ythfladbanghkiaa.Wo

theorem typ_get (n : Int) (_h0 : 0 ≤ n) (_h1 : n ≤ 255) : ∃ q : Nat, n % 20 = q ∧ q < 20 := ⟨(n % 20).toNat, by omega, by omega⟩

end Go.Proofs.Ythfladbanghkiaa.Sm
