/- Merged: StTab. -/
import Derived.Test.YtfedidiieacakaaDoorRows
import Derived.Test.YtfedidiieacakaaDoorTt1
import Derived.Lib.LaidTab
import Derived.Stop.LaidErr
import Derived.ChangeSame
namespace Go.Proofs.YtfedidiieacakaaDoor.St
open Go.RowKit Go.ChangeShapes
open Go.Proofs.YtfedidiieacakaaDoor.Utf

theorem gMon : Tryd.prog.globalNamed "cardbox/stamp.monthDays" = some 1 := by kernel_rfl
theorem gMonType : (Tryd.prog.globals[1]?).map (·.type) = some 48 := by kernel_rfl
theorem gPla : Tryd.prog.globalNamed "cardbox/stamp.places" = some 0 := by kernel_rfl
theorem gPlaType : (Tryd.prog.globals[0]?).map (·.type) = some 39 := by kernel_rfl
theorem cells12 : Tryd.prog.cellsOf 48 = 12 := by kernel_rfl
theorem cells62 : Tryd.prog.cellsOf 39 = 12 := by kernel_rfl
theorem cells2 : Tryd.prog.cellsOf 38 = 2 := by kernel_rfl
theorem cells64 : Tryd.prog.cellsOf 2 = 1 := by kernel_rfl
theorem cellsi : Tryd.prog.cellsOf 3 = 1 := by kernel_rfl

theorem place_cells {w : World} {fuel : Nat} {cs : List Value} {p : List MemPlace}
    (h : DataW.trod (fun _ => ()) Tryd.prog w 0 (fun _ => true) false fuel 39 cs = some (Rows.laid_cardbox_stamp_places, p)) : ∀ k, k < 12 → cs[k]? = some (.int .i64 (plc k)) := by
  cases fuel with
  | zero => simp [DataW.trod] at h
  | succ fuel =>
    simp only [DataW.trod, Tryd.underlying39, cells62, cells2] at h
    split at h
    · obtain ⟨xs, hm, hx⟩ := Option.map_eq_some_iff.1 h
      have hxs : xs.map (·.1) = (DataW.agg (H := Unit) [.lit (.int .i64 0), .lit (.int .i64 4)] :: .agg [.lit (.int .i64 5), .lit (.int .i64 7)] :: .agg [.lit (.int .i64 8), .lit (.int .i64 10)] :: .agg [.lit (.int .i64 11), .lit (.int .i64 13)] :: .agg [.lit (.int .i64 14), .lit (.int .i64 16)] :: .agg [.lit (.int .i64 17), .lit (.int .i64 19)] :: []) := by
        have := congrArg Prod.fst hx
        simpa [Rows.laid_cardbox_stamp_places] using this
      have key : ∀ i, i < 6 → ∀ a b : Int, (xs.map (·.1))[i]? = some (DataW.agg (H := Unit) [.lit (.int .i64 a), .lit (.int .i64 b)]) → cs[i * 2]? = some (.int .i64 a) ∧ cs[i * 2 + 1]? = some (.int .i64 b) := by
        intro i hi a b hab
        obtain ⟨y, hy, hf⟩ := Lib.mapM_at hm i i (by simp [hi])
        rw [List.getElem?_map, hy] at hab
        have hya : y.1 = _ := Option.some.inj hab
        obtain ⟨y0, y1, n, rfl, _, h0, h1⟩ := trod_struct2 Tryd.underlying38 hf
        simp only [DataW.agg.injEq, List.cons.injEq, and_true] at hya
        obtain ⟨z0, hc0, hy0, _⟩ := DataW.trod_int Tryd.underlying3 h0
        obtain ⟨z1, hc1, hy1, _⟩ := DataW.trod_int Tryd.underlying3 h1
        rw [hy0] at hya
        rw [hy1] at hya
        simp only [DataW.lit.injEq, Lit.int.injEq, true_and] at hya
        obtain ⟨rfl, rfl⟩ := hya
        have e0 := congrArg (·[0]?) hc0
        have e1 := congrArg (·[0]?) hc1
        simp [List.getElem?_drop, cellsi] at e0 e1
        exact ⟨e0, e1⟩
      have k0 := key 0 (by omega) 0 4 (by rw [hxs]; rfl)
      have k1 := key 1 (by omega) 5 7 (by rw [hxs]; rfl)
      have k2 := key 2 (by omega) 8 10 (by rw [hxs]; rfl)
      have k3 := key 3 (by omega) 11 13 (by rw [hxs]; rfl)
      have k4 := key 4 (by omega) 14 16 (by rw [hxs]; rfl)
      have k5 := key 5 (by omega) 17 19 (by rw [hxs]; rfl)
      intro k hk
      have : k = 0 ∨ k = 1 ∨ k = 2 ∨ k = 3 ∨ k = 4 ∨ k = 5 ∨ k = 6 ∨ k = 7 ∨ k = 8 ∨ k = 9 ∨ k = 10 ∨ k = 11 := by omega
      rcases this with rfl | rfl | rfl | rfl | rfl | rfl | rfl | rfl | rfl | rfl | rfl | rfl
      · exact k0.1
      · exact k0.2
      · exact k1.1
      · exact k1.2
      · exact k2.1
      · exact k2.2
      · exact k3.1
      · exact k3.2
      · exact k4.1
      · exact k4.2
      · exact k5.1
      · exact k5.2
    · cases h
theorem tab_of {W : World} (h : laidMetH Tryd.prog [("cardbox/stamp.places", Rows.laid_cardbox_stamp_places), ("cardbox/stamp.monthDays", Rows.laid_cardbox_stamp_monthDays)] W) : Tab W := by
  have h2 : laidMet Tryd.prog [("cardbox/stamp.places", Rows.laid_cardbox_stamp_places), ("cardbox/stamp.monthDays", Rows.laid_cardbox_stamp_monthDays)] W := h
  have T : Lib.TabIs Tryd.prog W "cardbox/stamp.monthDays" .i64 [31, 28, 31, 30, 31, 30, 31, 31, 30, 31, 30, 31] :=
    Lib.tabIs_of_head (rest := []) gMon gMonType Tryd.underlying48 Tryd.underlying2 cells64 cells12 h2.tail
  refine ⟨fun k hk => T.cell gMon k hk, fun k hk => ?_⟩
  obtain ⟨ps, ⟨g', t', cs, fuel, p, q, hg', ht', hvar, hd, _, _⟩, _⟩ := h2
  obtain rfl := Option.some.inj (gPlaType.symm.trans (by rw [← ht', Option.some.inj (gPla.symm.trans hg')]))
  have hc := place_cells hd k hk
  have := World.var?_cell gPla hvar k
  rw [this]
  simpa using hc
end Go.Proofs.YtfedidiieacakaaDoor.St
