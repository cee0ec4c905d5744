import Derived.Test.YtoflogckoepioaaDoorRfAw
import Derived.Test.YtoflogckoepioaaDoorReB
/- The walk of the law ReadSorts. -/
namespace Go.Proofs.YtoflogckoepioaaDoor.Re
open Go.RowKit
open Go.Proofs.YtoflogckoepioaaDoor.Utf
open Go.Proofs.YtoflogckoepioaaDoor.Sc

mutual
theorem ht_le : ∀ v : V, ht v ≤ cnt v
  | .mk k n s l ns ms => by
    have h1 := htL_le l
    have h2 := htL_le ms
    rw [ht, cnt]
    omega
theorem htL_le : ∀ l : List V, htL l ≤ cntL l
  | [] => by rw [htL, cntL]; omega
  | v :: r => by
    have h1 := ht_le v
    have h2 := htL_le r
    rw [htL, cntL]
    omega
end
/-- What Value hands back, its cells by their shapes. -/
def GivesVal2 (v : V) (a y : Int) (w : World) (e : Ending) (w' : World) : Prop :=
  ∃ A c A2 c2, e = .returned (.tuple #[.agg #[.int .i64 v.k, .int .i64 v.n, .string (strOf v.s), .slice A v.l.length c, .slice A2 v.ms.length c2], .int .i64 a, .int .i64 y]) ∧
    RdV w' w.heap.size w'.heap.size v [.int .i64 v.k, .int .i64 v.n, .string (strOf v.s), .slice A v.l.length c, .slice A2 v.ms.length c2] ∧ Below w.heap.size w w'
theorem Value_any2 (s : ByteArray) (w : World) (hs : s.size ≤ 9223372036854775807) {v : V} {a y : Int} (h : rdV s.data.toList = (v, a, y)) :
    Calls Tryd.prog 5 #[.string s] w (GivesVal2 v a y w) := by
  refine (Value_any s w hs).mono fun e w' hg => ?_
  rw [h] at hg
  obtain ⟨c0, c1, c2, c3, c4, rfl, _, hV, hb⟩ := hg
  obtain ⟨A, c, A2, d, hcs, _⟩ := hV.cells
  simp only [List.cons.injEq, and_true] at hcs
  obtain ⟨rfl, rfl, rfl, rfl, rfl⟩ := hcs
  exact ⟨A, c, A2, d, rfl, hV, hb⟩
theorem RdV.wide {w w' : World} {lo hi B : Nat} {v : V} {cs : List Value} (h : RdV w lo hi v cs) (hb : Below B w w') (h1 : hi ≤ B) (h2 : hi ≤ w'.heap.size) : RdV w' 0 w'.heap.size v cs :=
  RdV.keep (fun p _ hp => hb.cell (by omega)) (Nat.zero_le _) h2 v cs h
theorem V0_read (w : World) (hi : Nat) : RdV w 0 hi V0 [.int .i64 0, .int .i64 0, .string ⟨#[]⟩, .slice none 0 0, .slice none 0 0] := RdV_leaf w 0 hi 0 0 []

end Go.Proofs.YtoflogckoepioaaDoor.Re
