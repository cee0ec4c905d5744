import Derived.Test.YtoflogckoepioaaDoorNuD
import Derived.Deep.DeepCutAuto
import Derived.Deep.RegionWith
import Derived.Laws.Concat
/- Contract of the document's answer Put. -/
namespace Go.Proofs.YtoflogckoepioaaDoor.Nu
open Go.RowKit
open Go.Proofs.YtoflogckoepioaaDoor.Utf

theorem Rd_new (w : World) (T : TypeId) (l : List UInt8) (k : Nat) (hk : k = l.length) : Rd (w.alloc (.cells (Lib.byteCells l).toArray T)) (w.heap.size + 1) (.slice (some ⟨w.heap.size, 0, none⟩) k k) (Lib.byteCells l) := by
  subst hk
  refine ⟨_, _, by rw [Lib.byteCells_length], fun _ => ⟨_, rfl, by show w.heap.size < _; omega, fun i u hu => ?_⟩⟩
  have hp : (⟨w.heap.size, 0, none⟩ : Addr).add i = ⟨w.heap.size, i, none⟩ := by unfold Addr.add; split <;> simp_all
  rw [hp]
  unfold World.cell?
  rw [heap_alloc_new]
  simpa using hu
theorem conv_1 (w : World) (b : UInt8) (z : Int) (hz : z = b.toNat) : (convert 65 9 (.slice (some ⟨w.heap.size, 0, none⟩) 1 1)).run Tryd.prog (w.alloc (.cells #[.int .u8 z] 5)) = .ok (.string (strOf [b])) (w.alloc (.cells #[.int .u8 z] 5)) := by
  subst hz
  exact (Rd_new w 5 [b] 1 rfl).conv (P := Tryd.prog) Tryd.underlying65 Tryd.underlying5 Tryd.underlying9
theorem conv_2 (w : World) (a b : UInt8) (y z : Int) (hy : y = a.toNat) (hz : z = b.toNat) : (convert 65 9 (.slice (some ⟨w.heap.size, 0, none⟩) 2 2)).run Tryd.prog (w.alloc (.cells #[.int .u8 y, .int .u8 z] 5)) = .ok (.string (strOf [a, b])) (w.alloc (.cells #[.int .u8 y, .int .u8 z] 5)) := by
  subst hy hz
  exact (Rd_new w 5 [a, b] 2 rfl).conv (P := Tryd.prog) Tryd.underlying65 Tryd.underlying5 Tryd.underlying9

theorem conv_keep {w w1 : World} {b : UInt8} {z : Int} (hz : z = b.toNat) (hb : Below (w.alloc (.cells #[.int .u8 z] 5)).heap.size (w.alloc (.cells #[.int .u8 z] 5)) w1) :
    (convert 65 9 (.slice (some ⟨w.heap.size, 0, none⟩) 1 1)).run Tryd.prog w1 = .ok (.string (strOf [b])) w1 := by
  subst hz
  exact ((Rd_new w 5 [b] 1 rfl).below' hb (by simp)).conv (P := Tryd.prog) Tryd.underlying65 Tryd.underlying5 Tryd.underlying9

theorem conv_keep_drew {w w1 : World} {b : UInt8} {z : Int} (hz : z = b.toNat) (hb : Below (w.alloc (.cells #[.int .u8 z] 5)).drew.heap.size (w.alloc (.cells #[.int .u8 z] 5)).drew w1) :
    (convert 65 9 (.slice (some ⟨w.heap.size, 0, none⟩) 1 1)).run Tryd.prog w1 = .ok (.string (strOf [b])) w1 := by
  subst hz
  have h : Rd (w.alloc (.cells #[.int .u8 (b.toNat : Int)] 5)).drew (w.heap.size + 1) (.slice (some ⟨w.heap.size, 0, none⟩) 1 1) (Lib.byteCells [b]) := (Rd_new w 5 [b] 1 rfl).keep fun _ _ => rfl
  exact (h.below' hb (by simp)).conv (P := Tryd.prog) Tryd.underlying65 Tryd.underlying5 Tryd.underlying9

theorem conv_1_drew (w : World) (b : UInt8) (z : Int) (hz : z = b.toNat) : (convert 65 9 (.slice (some ⟨w.heap.size, 0, none⟩) 1 1)).run Tryd.prog (w.alloc (.cells #[.int .u8 z] 5)).drew = .ok (.string (strOf [b])) (w.alloc (.cells #[.int .u8 z] 5)).drew := by
  subst hz
  have h : Rd (w.alloc (.cells #[.int .u8 (b.toNat : Int)] 5)).drew (w.heap.size + 1) (.slice (some ⟨w.heap.size, 0, none⟩) 1 1) (Lib.byteCells [b]) := (Rd_new w 5 [b] 1 rfl).keep fun _ _ => rfl
  exact h.conv (P := Tryd.prog) Tryd.underlying65 Tryd.underlying5 Tryd.underlying9

theorem putL_step (n : Int) (h : ¬ n.natAbs < 10) (hn : n.natAbs < 10 ^ 20) : putL n = putL (n.tdiv 10) ++ [dg n.natAbs] := by
  have hd := natAbs_div10 n
  have hm := natAbs_mod10 n
  have he := Int.mul_tdiv_add_tmod n 10
  unfold putL
  rw [hd, digN_step h hn]
  by_cases hneg : n < 0
  · rw [if_pos hneg, if_pos (by omega)]; rfl
  · rw [if_neg hneg, if_neg (by omega)]

end Go.Proofs.YtoflogckoepioaaDoor.Nu
