/- Merged: TrF TrG. -/
import Derived.RangeFuncNested
import Derived.RangeFuncBound
import Derived.RangeFuncCalls
import Derived.RangeFuncLeaves
import Derived.Shelf.Abstract
import Derived.WalkKit
import Derived.OwnWalkIn
import Derived.TacticsInMore
import Derived.LoopNIn
import Derived.LoopIn
import Derived.Maps.OwnIn
import Derived.Maps.OwnSet
import Derived.WalkArith
import Derived.Test.YtfdibmcjjclgkaaTt2
namespace Go.Proofs.Ytfdibmcjjclgkaa.Tr
open Go.Proofs Go.RowKit Go.Shelf
open Go.Proofs.Ytfdibmcjjclgkaa.Utf
theorem heapOld {w : World} {k : Nat} {x : Obj} (h : w.heap[k]? = some x) (o : Obj) : (w.alloc o).heap[k]? = some x := (Below.heap_alloc w o k (Array.getElem?_eq_some_iff.1 h).1).trans h
theorem heapNew (w : World) (o : Obj) : (w.alloc o).heap[w.heap.size]? = some o := World.alloc_heap_new w o
attribute [local go_sem] Oper.semAt_some

abbrev N6 := { x : M6 // x.nm.length ≤ 9223372036854775807 }
abbrev Ix := { i : Nat // i < 4611686018427387904 }
def ix (i : Nat) : Ix := ⟨min i 4611686018427387903, by omega⟩
theorem ix_val {i : Nat} (h : i < 4611686018427387904) : (ix i).1 = i := by unfold ix; simp only; omega
def KB (n₀ B : Nat) (W W' : World) : Prop := Below n₀ W W' ∧ W'.heap[B]? = W.heap[B]?
theorem KB.refl (n₀ B : Nat) (W : World) : KB n₀ B W W := ⟨Below.refl _ _, rfl⟩
theorem KB.trans {n₀ B : Nat} {W W1 W2 : World} (h : KB n₀ B W W1) (k : KB n₀ B W1 W2) : KB n₀ B W W2 := ⟨h.1.trans k.1, k.2.trans h.2⟩
theorem cell_of_blk {W W' : World} {p : Addr} (h : W'.heap[p.block]? = W.heap[p.block]?) : W'.cell? p = W.cell? p := by unfold World.cell?; rw [h]

end Go.Proofs.Ytfdibmcjjclgkaa.Tr
namespace Go.Proofs.Ytfdibmcjjclgkaa.Tr
open Go.Proofs Go.RowKit Go.Shelf
open Go.Maps (Keyed string_keyed IsMap isMap_empty atKey_put_same atKey_put_other has_put_same has_put_other)
open Go.Proofs.Ytfdibmcjjclgkaa.Utf
attribute [local go_sem] Oper.semAt_some

def pK (n : List UInt8) : Lit := .string n
theorem foldl_map (l : List (Ix × N6)) : ∀ D : DataW Unit, IsMap D → IsMap (l.foldl (fun D x => D.put (pK x.2.1.nm) (.lit (.int .i64 x.1.1))) D) := by
  induction l with
  | nil => intro D h; exact h
  | cons a r ih => intro D h; exact ih _ (h.put _ _)
end Go.Proofs.Ytfdibmcjjclgkaa.Tr
