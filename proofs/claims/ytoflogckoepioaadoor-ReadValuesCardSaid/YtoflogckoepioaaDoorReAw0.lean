import Derived.Test.YtoflogckoepioaaDoorRePl5
/- What is read of the four texts of awake. No run of the program in this text. -/
namespace Go.Proofs.YtoflogckoepioaaDoor.Re
open Go.Proofs.YtoflogckoepioaaDoor.Utf
open Go.Proofs.YtoflogckoepioaaDoor.Sc
set_option linter.unusedSimpArgs false
theorem rdV_of {l : List UInt8} {ts : List Tok} {r : V × Int × Int} (h : scnS l = (ts, 0, 0)) (h2 : rdT ts (l.length : Int) = r) : rdV l = r := by
  unfold rdV
  rw [h]
  exact h2
theorem as1 : scnS [91, 49, 44, 123, 34, 97, 34, 58, 110, 117, 108, 108, 125, 93] = ([(1, 0, [91], 0), (3, 1, [], 1), (1, 0, [44], 2), (1, 0, [123], 3), (4, 0, [97], 4), (1, 0, [58], 7), (2, 0, [110, 117, 108, 108], 8), (1, 0, [125], 12), (1, 0, [93], 13)], 0, 0) := by decide +kernel
theorem as2 : scnS [91, 49, 44, 93] = ([(1, 0, [91], 0), (3, 1, [], 1), (1, 0, [44], 2), (1, 0, [93], 3)], 0, 0) := by decide +kernel
theorem as3 : scnS [123, 34, 97, 34, 58, 49, 44, 34, 97, 34, 58, 50, 125] = ([(1, 0, [123], 0), (4, 0, [97], 1), (1, 0, [58], 4), (3, 1, [], 5), (1, 0, [44], 6), (4, 0, [97], 7), (1, 0, [58], 10), (3, 2, [], 11), (1, 0, [125], 12)], 0, 0) := by decide +kernel
theorem as4 : scnS [] = ([], 0, 0) := by decide +kernel
theorem aw5_1 : rdV [91, 49, 44, 123, 34, 97, 34, 58, 110, 117, 108, 108, 125, 93] = (lsV [nmV 1, mpV ([[97]], [V.mk 1 0 [] [] [] []])], 0, 0) := rdV_of as1 (by simp [rdT, fuelOf, pV, pL, pM, tk, isM, badV, Rs.map, txV, nmV, wdV, lsV, mpV, wNull, wTrue, V0])
theorem aw5_2 : rdV [91, 49, 44, 93] = (V0, 3, 50) := rdV_of as2 (by simp [rdT, fuelOf, pV, pL, pM, tk, isM, badV, Rs.map, txV, nmV, wdV, lsV, mpV, wNull, wTrue, V0])
theorem aw5_3 : rdV [123, 34, 97, 34, 58, 49, 44, 34, 97, 34, 58, 50, 125] = (V0, 7, 52) := rdV_of as3 (by simp [rdT, fuelOf, pV, pL, pM, tk, isM, badV, Rs.map, txV, nmV, wdV, lsV, mpV, wNull, wTrue, V0])
theorem aw5_4 : rdV [] = (V0, 0, 50) := rdV_of as4 (by simp [rdT, fuelOf, pV, pL, pM, tk, isM, badV, Rs.map, txV, nmV, wdV, lsV, mpV, wNull, wTrue, V0])
end Go.Proofs.YtoflogckoepioaaDoor.Re
