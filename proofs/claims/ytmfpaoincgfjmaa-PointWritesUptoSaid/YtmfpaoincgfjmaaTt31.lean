/- Merged: TrP. -/
import Derived.Test.YtmfpaoincgfjmaaTt27
import Derived.Test.YtmfpaoincgfjmaaTt3
import Derived.Sort.Lot0
import Derived.Sort.WalkB2
import Derived.Sort.WalkB12
import Derived.Deep.LoopGhost
import Derived.BigRegion
import Derived.BigQuiet
import Derived.Test.YtmfpaoincgfjmaaTt15
namespace Go.Proofs.Ytmfpaoincgfjmaa.Tr
open Go.Proofs Go.RowKit Go.Lib Go.Sort
open Go.Proofs.Ytmfpaoincgfjmaa.Utf
open Go.Proofs.Ytmfpaoincgfjmaa.Sc
open Go.Proofs.Ytmfpaoincgfjmaa.Re

structure It (s o0 g : Nat) (lc : List V) (Gs : List (List Nat)) (w : World) : Prop where
  len : Gs.length = lc.length
  at_ : ∀ i (h1 : i < lc.length) (h2 : i < Gs.length), ∃ cs, CellsAt w g (i * s + o0) cs ∧ RdF w lc[i] cs Gs[i]
  nod : (g :: Gs.flatten).Nodup
  lt : ∀ x ∈ g :: Gs.flatten, x < w.heap.size
theorem mem_flat {Gs : List (List Nat)} {i : Nat} (hi : i < Gs.length) {x : Nat} (hx : x ∈ Gs[i]) : x ∈ Gs.flatten := List.mem_flatten.2 ⟨_, List.getElem_mem hi, hx⟩
theorem It.keep {s o0 g : Nat} {lc : List V} {Gs : List (List Nat)} {w w' : World} (h : It s o0 g lc Gs w) (hb : Below w.heap.size w w') : It s o0 g lc Gs w' where
  len := h.len
  at_ := fun i h1 h2 => by
    obtain ⟨c, p1, p2⟩ := h.at_ i h1 h2
    exact ⟨c, p1.keep (hb.block g (h.lt g (by simp))), RdF.keep _ _ _ (fun k hk => hb.block k (h.lt k (List.mem_cons_of_mem _ (mem_flat h2 hk)))) p2⟩
  nod := h.nod
  lt := fun x hx => Nat.lt_of_lt_of_le (h.lt x hx) hb.size
end Go.Proofs.Ytmfpaoincgfjmaa.Tr
