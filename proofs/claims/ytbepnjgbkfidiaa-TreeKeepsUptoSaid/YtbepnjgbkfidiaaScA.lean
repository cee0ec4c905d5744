import Derived.Test.YtbepnjgbkfidiaaScPl
import Derived.Test.YtbepnjgbkfidiaaChW0
import Derived.Test.YtbepnjgbkfidiaaNuA
import Derived.Deep.RegionHeld3
import Derived.Deep.AppendLies
import Derived.Deep.RegionLaw
import Derived.BigQuiet
/- Contracts of package scan's small calls: isOfWord, HasPrefix, lay. -/
namespace Go.Proofs.Ytbepnjgbkfidiaa.Sc
open Go.RowKit
open Go.Proofs.Ytbepnjgbkfidiaa.Utf

/-- what is owned stays so while a cell of a block of another type is written -/
theorem own_other {w : World} {base e size n : Nat} {v : Value} {xs : List Value} {b t : Nat} {cs : Array Value} {fr : Nat × Nat} (h : w.ownsRow base e size v n xs) (hb : w.heap[b]? = some (.cells cs t fr)) (ht : t ≠ e) (p : Addr) (hp : p.block = b) (u : Value) :
    (w.setCell p u).ownsRow base e size v n xs := by
  obtain ⟨h1, h2⟩ := h
  refine ⟨h1, ?_⟩
  rcases h2 with h2 | ⟨g, cap, cur, hv, hg, hh, r⟩
  · exact .inl h2
  · refine .inr ⟨g, cap, cur, hv, hg, ?_, r⟩
    rw [heap_setCell_other w p g u ?_, hh]
    rintro rfl
    rw [hp, hb] at hh
    simp at hh
    exact ht hh.2.1
/-- a token's cells -/
def tokC (t : Tok) : List Value := [.int .i64 t.1, .int .i64 t.2.1, .string (strOf t.2.2.1), .int .i64 t.2.2.2]
def toksC (ts : List Tok) : List Value := (ts.map tokC).flatten
theorem toksC_app (a b : List Tok) : toksC (a ++ b) = toksC a ++ toksC b := by simp [toksC]
theorem toksC_one (t : Tok) : toksC [t] = tokC t := by simp [toksC]
theorem toksC_len (ts : List Tok) : (toksC ts).length = ts.length * 4 := by
  induction ts with
  | nil => rfl
  | cons a r ih => rw [show a :: r = [a] ++ r from rfl, toksC_app, List.length_append, ih, toksC_one, tokC]; simp; omega

end Go.Proofs.Ytbepnjgbkfidiaa.Sc
/- Contracts of package scan's text, number, word; of strings' HasPrefix. -/
namespace Go.Proofs.Ytbepnjgbkfidiaa.Sc
open Go.RowKit
open Go.Proofs.Ytbepnjgbkfidiaa.Utf

end Go.Proofs.Ytbepnjgbkfidiaa.Sc
/- Contract of package scan's word. -/
namespace Go.Proofs.Ytbepnjgbkfidiaa.Sc
open Go.RowKit
open Go.Proofs.Ytbepnjgbkfidiaa.Utf

end Go.Proofs.Ytbepnjgbkfidiaa.Sc
