import Derived.Test.YtcbiaflbncfliaaReC
/- Contracts of layer 5's document's answer: value, list, members. Written by tools/genReD.py. -/
namespace Go.Proofs.Ytcbiaflbncfliaa.Re
open Go.RowKit
open Go.Proofs.Ytcbiaflbncfliaa.Utf
open Go.Proofs.Ytcbiaflbncfliaa.Sc

theorem RdV_leaf (w : World) (lo hi : Nat) (k n : Int) (s : List UInt8) : RdV w lo hi (.mk k n s [] [] []) [.int .i64 k, .int .i64 n, .string (strOf s), .slice none 0 0, .slice none 0 0] := by
  rw [RdV]
  exact ⟨_, _, rfl, ⟨none, 0, rfl, fun h => absurd h (by simp)⟩, ⟨none, 0, rfl, rfl, fun h => absurd h (by simp)⟩⟩
section
variable {w w2 : World} {pb b t : Nat} {vL : Value} {E : Int} {i p : Nat} {a y : Int} {u0 u1 u2 u3 u4 : Value}
theorem set5_row (h : w2.heap[b]? = some (.cells #[u0, u1, u2, u3, u4] t (0, 0))) (v0 v1 v2 v3 v4 : Value) :
    (((((w2.setCell ⟨b, 0, none⟩ v0).setCell ⟨b, 1, none⟩ v1).setCell ⟨b, 2, none⟩ v2).setCell ⟨b, 3, none⟩ v3).setCell ⟨b, 4, none⟩ v4).heap[b]? = some (.cells #[v0, v1, v2, v3, v4] t (0, 0)) := by
  have b1 := heap_setCell_same _ b 0 _ _ v0 h
  have b2 := heap_setCell_same _ b 1 _ _ v1 b1
  have b3 := heap_setCell_same _ b 2 _ _ v2 b2
  have b4 := heap_setCell_same _ b 3 _ _ v3 b3
  exact heap_setCell_same _ b 4 _ _ v4 b4
theorem set5_fr (h : w.grownBy w2 (some pb)) (hb : w.heap.size ≤ b) (v0 v1 v2 v3 v4 : Value) :
    w.grownBy (((((w2.setCell ⟨b, 0, none⟩ v0).setCell ⟨b, 1, none⟩ v1).setCell ⟨b, 2, none⟩ v2).setCell ⟨b, 3, none⟩ v3).setCell ⟨b, 4, none⟩ v4) (some pb) :=
  Fr.new (Fr.new (Fr.new (Fr.new (Fr.new h ⟨b, 0, none⟩ hb _) ⟨b, 1, none⟩ hb _) ⟨b, 2, none⟩ hb _) ⟨b, 3, none⟩ hb _) ⟨b, 4, none⟩ hb _
end

end Go.Proofs.Ytcbiaflbncfliaa.Re
