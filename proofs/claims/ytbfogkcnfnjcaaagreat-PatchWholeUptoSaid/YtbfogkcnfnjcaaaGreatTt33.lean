/- Merged: TsO. -/
import Derived.Test.YtbfogkcnfnjcaaaGreatTt32
import Derived.Deep.MidRow
namespace Go.Proofs.YtbfogkcnfnjcaaaGreat.Tr
open Go.Proofs Go.RowKit Go.Lib
open Go.Proofs.YtbfogkcnfnjcaaaGreat.Utf
open Go.Proofs.YtbfogkcnfnjcaaaGreat.Sc
open Go.Proofs.YtbfogkcnfnjcaaaGreat.Re

theorem out_step {Wb wp w1 : World} {b N g cap c : Nat} {A : Option Addr} {rows : List (List Value)} {row : List Value} (hN : rows.length = N) (hrow : wp.heap[b]? = some (.cells #[.int .i64 6, .int .i64 0, .string ⟨#[]⟩, .slice none 0 0, .slice A N c] 25 (0, 0)))
    (ho : wp.ownsRow (b + 1) 35 6 (.slice A N c) N rows.flatten) (hb : Below b Wb wp) (hg : wp.grownBy w1 (Value.slice A N c).ownBlock) (how : w1.ownsRow (b + 1) 35 6 (.slice (some ⟨g, 0, none⟩) (N + 1) cap) (N + 1) (rows.flatten ++ row)) :
    w1.heap[b]? = some (.cells #[.int .i64 6, .int .i64 0, .string ⟨#[]⟩, .slice none 0 0, .slice A N c] 25 (0, 0)) ∧ OutAt (w1.setCell ⟨b, 4, none⟩ (.slice (some ⟨g, 0, none⟩) (N + 1) cap)) b (rows ++ [row]) ∧ Below b Wb (w1.setCell ⟨b, 4, none⟩ (.slice (some ⟨g, 0, none⟩) (N + 1) cap)) := by
  subst hN
  have hlt := (Array.getElem?_eq_some_iff.1 hrow).1
  have hne := OutAt.far hrow ho
  have h1 := (hg.block b hlt (fun e => hne e.symm)).trans hrow
  exact ⟨h1, OutAt.push h1 how, (hb.grown hg (by omega) (fun q hq => by have := (ho.lt q hq).1; omega)).setCell (p := ⟨b, 4, none⟩) (Nat.le_refl _) _⟩
end Go.Proofs.YtbfogkcnfnjcaaaGreat.Tr
