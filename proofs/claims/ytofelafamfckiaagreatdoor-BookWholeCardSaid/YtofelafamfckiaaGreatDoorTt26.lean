/- Merged: TrF. -/
import Derived.RangeFuncNested
import Derived.RangeFuncBound
import Derived.RangeFuncCalls
import Derived.RangeFuncLeaves
import Derived.Shelf.Abstract
import Derived.OwnWalkIn
import Derived.TacticsInMore
import Derived.LoopNIn
import Derived.LoopIn
import Derived.Maps.OwnIn
import Derived.Maps.OwnSet
import Derived.WalkArith
import Derived.Test.YtofelafamfckiaaGreatDoorTt2
namespace Go.Proofs.YtofelafamfckiaaGreatDoor
namespace Tr
open Go.Proofs Go.RowKit Go.Shelf Utf
theorem aG (w:World) (o:Obj):(w.alloc o).heap.size=w.heap.size+1:=by simp
theorem b7 {w:World} {k:Nat} {x:Obj} (h:w.heap[k]? = some x) (o:Obj):(w.alloc o).heap[k]? = some x:=(Below.heap_alloc w o k (Array.getElem?_eq_some_iff.1 h).1).trans h
theorem am (w:World) (o:Obj):(w.alloc o).heap[w.heap.size]? = some o:=World.alloc_heap_new w o
attribute [local go_sem] Oper.semAt_some
def qbJ (W:World) (b o:Nat) (x:M6):Prop:=
 W.cell? ⟨b,o,none⟩=some (.string (ae x.nm))∧W.cell? ⟨b,o+1,none⟩=some (.int .i64 x.k)∧W.cell? ⟨b,o+2,none⟩=some (.int .i64 x.n)∧W.cell? ⟨b,o+3,none⟩=some (.string x.s)∧W.cell? ⟨b,o+4,none⟩=some (.slice x.A x.l x.c)∧W.cell? ⟨b,o+5,none⟩=some (.slice x.A2 x.m x.c2)
theorem qbJ.keep {W W':World} {b o:Nat} {x:M6} (h:qbJ W b o x) (hk:∀ j,W'.cell? ⟨b,j,none⟩=W.cell? ⟨b,j,none⟩):qbJ W' b o x:=by
 unfold qbJ at *;simp only [hk];exact h
abbrev Ix:={ i:Nat // i<4611686018427387904 }
def ix (i:Nat):Ix:=⟨min i 4611686018427387903,by omega⟩
theorem cN {W W':World} {p:Addr} (h:W'.heap[p.block]? = W.heap[p.block]?):W'.cell? p=W.cell? p:=by unfold World.cell?;rw [h]
