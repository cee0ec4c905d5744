/- Merged: StPl3 StT. -/
import Derived.Test.YtfedidiieacakaaDoorTt0
import Derived.Lib.Bytealg
import Derived.Test.YtfedidiieacakaaDoorProg
namespace Go.Proofs.YtfedidiieacakaaDoor.St
open Go.RowKit
open Go.Proofs.YtfedidiieacakaaDoor.Utf
open Go.Proofs.YtfedidiieacakaaDoor.Nu

def partD (l : List UInt8) (i : Nat) : Nat := if 20 + i < l.length - 1 then (byt l (20 + i) - 48).toNat else 0
def accF (f : Nat → Nat) : Nat → Nat
  | 0 => 0
  | k + 1 => accF f k * 10 + f k
def partN (l : List UInt8) : Nat := accF (partD l) 9
def noZ (l : List UInt8) : List UInt8 := l.take (l.length - 1)
def Erl (a b : List UInt8) : Prop := secV a < secV b ∨ (secV a = secV b ∧ partN a < partN b)

instance (a b : List UInt8) : Decidable (Erl a b) := by unfold Erl; infer_instance
def cmpS (a b : List UInt8) : Int := if secOk a then (if secOk b then Lib.compareBytes (noZ a) (noZ b) else 1) else if secOk b then -1 else Lib.compareBytes a b
end Go.Proofs.YtfedidiieacakaaDoor.St
namespace Go.Proofs.YtfedidiieacakaaDoor.St
open Go.RowKit
open Go.Proofs.YtfedidiieacakaaDoor.Utf

def mdl (k : Nat) : Int := [31, 28, 31, 30, 31, 30, 31, 31, 30, 31, 30, 31].getD k 0
def plc (k : Nat) : Int := [0, 4, 5, 7, 8, 10, 11, 13, 14, 16, 17, 19].getD k 0
def Tab (w : World) : Prop := (∀ k, k < 12 → w.cell? ⟨1, k, none⟩ = some (.int .i64 (mdl k))) ∧ ∀ k, k < 12 → w.cell? ⟨0, k, none⟩ = some (.int .i64 (plc k))
theorem Tab.lt {w : World} (h : Tab w) : 1 < w.heap.size ∧ 0 < w.heap.size :=
  ⟨cell_lt (h.1 0 (by omega)), cell_lt (h.2 0 (by omega))⟩
theorem Tab.below {w w' : World} (h : Tab w) (hb : Below w.heap.size w w') : Tab w' :=
  ⟨fun k hk => (hb.cell h.lt.1).trans (h.1 k hk), fun k hk => (hb.cell h.lt.2).trans (h.2 k hk)⟩
theorem mdl_is (y m : Int) (h1 : 1 ≤ m) (h2 : m ≤ 12) (h : ¬ (m = 2 ∧ leap y = true)) : mdl (m - 1).toNat = mlen y m := by
  have key : m = 1 ∨ m = 2 ∨ m = 3 ∨ m = 4 ∨ m = 5 ∨ m = 6 ∨ m = 7 ∨ m = 8 ∨ m = 9 ∨ m = 10 ∨ m = 11 ∨ m = 12 := by omega
  rcases key with rfl | rfl | rfl | rfl | rfl | rfl | rfl | rfl | rfl | rfl | rfl | rfl
  · rfl
  · have : ¬ leap y = true := fun h3 => h ⟨rfl, h3⟩
    unfold mlen; rw [if_pos rfl, if_neg this]; rfl
  all_goals rfl

end Go.Proofs.YtfedidiieacakaaDoor.St
