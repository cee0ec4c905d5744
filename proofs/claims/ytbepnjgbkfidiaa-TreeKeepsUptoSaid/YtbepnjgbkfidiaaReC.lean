import Derived.Test.YtbepnjgbkfidiaaReMem
import Derived.Test.YtbepnjgbkfidiaaScE
import Derived.BigQuiet
import Derived.IntWalk
import Derived.Deep.RegionHeld3
/- Contracts of layer 5's document's answer: token, mark, fail. -/
namespace Go.Proofs.Ytbepnjgbkfidiaa.Re
open Go.RowKit
open Go.Proofs.Ytbepnjgbkfidiaa.Utf
open Go.Proofs.Ytbepnjgbkfidiaa.Sc

def tokV (t : Tok) : Value := .agg #[.int .i64 t.1, .int .i64 t.2.1, .string (strOf t.2.2.1), .int .i64 t.2.2.2]

/-! ### what was there stays, but for one block -/
/-- a value that is handed back out of a variable of its own -/
theorem results5 {fn : Func} {s b : Nat} {tmps : Array Value} {w : World} {fr : Nat × Nat} {v0 v1 v2 v3 v4 : Value} (hf : fn.results = #[.cell s 25]) (ht : tmps.getD s undef = .pointer (some ⟨b, 0, none⟩))
    (h : w.heap[b]? = some (.cells #[v0, v1, v2, v3, v4] 25 fr)) : (results fn tmps).run Try.prog w = .ok (.agg #[v0, v1, v2, v3, v4]) w := by
  have c0 := (cell_of_row _ _ 0 _ _ _ h).trans (rfl : _ = some v0)
  have c1 := (cell_of_row _ _ 1 _ _ _ h).trans (rfl : _ = some v1)
  have c2 := (cell_of_row _ _ 2 _ _ _ h).trans (rfl : _ = some v2)
  have c3 := (cell_of_row _ _ 3 _ _ _ h).trans (rfl : _ = some v3)
  have c4 := (cell_of_row _ _ 4 _ _ _ h).trans (rfl : _ = some v4)
  rw [Array.getD_eq_getD_getElem?] at ht
  simp [results, hf, ht, c0, c1, c2, c3, c4, go_sem]
theorem szAlloc' (w : World) (o : Obj) : (w.alloc o).heap.size = w.heap.size + 1 := by simp
theorem Fr.of {w w' : World} (pb : Nat) (h : Below w.heap.size w w') : w.grownBy w' (some pb) := ⟨h.os, h.tape, h.output, h.size, fun k hk _ => h.block k hk⟩
theorem Fr.trans {w w1 w2 : World} {pb : Nat} (h1 : w.grownBy w1 (some pb)) (h2 : w1.grownBy w2 (some pb)) : w.grownBy w2 (some pb) :=
  ⟨h2.os.trans h1.os, h2.tape.trans h1.tape, h2.output.trans h1.output, Nat.le_trans h1.size h2.size, fun k hk hne => (h2.block k (Nat.lt_of_lt_of_le hk h1.size) hne).trans (h1.block k hk hne)⟩
theorem Fr.set (w : World) (pb j : Nat) (u : Value) : w.grownBy (w.setCell ⟨pb, j, none⟩ u) (some pb) :=
  ⟨rfl, rfl, rfl, by simp, fun k _ hne => heap_setCell_other w ⟨pb, j, none⟩ k u (fun e => hne (by rw [e]))⟩
theorem Fr.new {w w' : World} {pb : Nat} (h : w.grownBy w' (some pb)) (p : Addr) (hp : w.heap.size ≤ p.block) (u : Value) : w.grownBy (w'.setCell p u) (some pb) :=
  ⟨h.os, h.tape, h.output, by simpa using h.size, fun k hk hne => (heap_setCell_other w' p k u (by omega)).trans (h.block k hk hne)⟩
theorem Fr.alloc {w w' : World} {pb : Nat} (h : w.grownBy w' (some pb)) (o : Obj) : w.grownBy (w'.alloc o) (some pb) :=
  ⟨h.os, h.tape, h.output, Nat.le_trans h.size (by simp), fun k hk hne => (heap_alloc_old w' o (Nat.lt_of_lt_of_le hk h.size)).trans (h.block k hk hne)⟩
theorem RdT_fr {w w' : World} {pb : Nat} {vL : Value} {ts : List Tok} (h : RdT w pb vL ts) (hpb : pb ≤ w.heap.size) (hf : w.grownBy w' (some pb)) : RdT w' pb vL ts :=
  h.keep fun q hq => World.cell?_of_block (hf.block q.block (by omega) (fun e => by have := Option.some.inj e; omega))
def zeroV : Value := .agg #[.int .i64 0, .int .i64 0, .string ⟨#[]⟩, .slice none 0 0, .slice none 0 0]

end Go.Proofs.Ytbepnjgbkfidiaa.Re
