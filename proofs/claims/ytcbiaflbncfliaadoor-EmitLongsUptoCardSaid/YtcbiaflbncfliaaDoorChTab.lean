import Derived.Test.YtcbiaflbncfliaaDoorRows
import Derived.Test.YtcbiaflbncfliaaDoorChR2
import Derived.Test.YtcbiaflbncfliaaDoorBase
import Derived.Lib.LaidTab
/- What the rows' list gives the walks: the table of layer 2's answer. -/
namespace Go.Proofs.YtcbiaflbncfliaaDoor.Ch
open Go.RowKit
theorem gTab : Tryd.prog.globalNamed "cardbox/cardboxref02.points" = some 0 := by kernel_rfl
theorem gTabType : (Tryd.prog.globals[0]?).map (·.type) = some 68 := by kernel_rfl
theorem cells8 : Tryd.prog.cellsOf 68 = 8 := by kernel_rfl
theorem cells1 : Tryd.prog.cellsOf 2 = 1 := by kernel_rfl
theorem tab_of {W : World} (h : laidMetH Tryd.prog [("cardbox/cardboxref02.points", Rows.laid_cardbox_cardboxref02_points)] W) : Tab W := by
  have T : Lib.TabIs Tryd.prog W "cardbox/cardboxref02.points" .i64 [34, 92, 47, 8, 12, 10, 13, 9] :=
    Lib.tabIs_of_head (rest := []) gTab gTabType Tryd.underlying68 Tryd.underlying2 cells1 cells8 h
  refine ⟨cell_lt (T.cell gTab 0 (by decide)), fun k hk => ?_⟩
  rcases tab_cases hk with rfl | rfl | rfl | rfl | rfl | rfl | rfl | rfl
  · exact T.cell gTab 0 (by decide)
  · exact T.cell gTab 1 (by decide)
  · exact T.cell gTab 2 (by decide)
  · exact T.cell gTab 3 (by decide)
  · exact T.cell gTab 4 (by decide)
  · exact T.cell gTab 5 (by decide)
  · exact T.cell gTab 6 (by decide)
  · exact T.cell gTab 7 (by decide)
end Go.Proofs.YtcbiaflbncfliaaDoor.Ch
