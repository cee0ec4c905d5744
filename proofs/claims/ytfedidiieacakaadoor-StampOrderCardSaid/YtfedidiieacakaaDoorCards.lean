/-
  DERIVED. GIVEN WITH THE SEED: THE CARDS: each row of YtfedidiieacakaaDoorRows.lean that lists a variable, with what it lists TIED to the program's text (the seventh form; the later family's looks); each row that meets fmt, with fmt's text TOLD by the authors' own Lean function (tested against real Go, not proved from fmt's source: count such statements apart). THE CARD IS WHAT COUNTS. Prove the row's statement (the work); the ties are given (YtfedidiieacakaaDoorTie.lean); close each card by the builder's one call (the guide's Derived/Test/ToyasCard.lean, 'card_holds'). Laid BY PROGRAM, IN A SANDBOX (cutbox-door.mjs). By AI agents, Wed Nov 11 2026. No macro, syntax, notation, axiom, sorry.
-/
import Derived.Test.YtfedidiieacakaaDoorRows
import GoSem.ClaimSeven
namespace Go.Proofs.YtfedidiieacakaaDoor
namespace Rows

/-- THE TIED CARD OF 'cardboxlaw11.StampReads'. -/
def stampReadsCard : Claim7 := { stood := { row := stampReadsRow, standIns := [], harness := (true, "6524e9e2c1df12219ec358fb1bcbd969c53f7f80181535688b4123035f984804"), looks := false }, kinds := [], alts := [], laidByText := true, laidKinds := [.data, .data], laidTests := true, laidLooks := .later }
def StampReadsCardSaid : Prop := Claim7.holds Tryd.pinned (.plain (OpenSpec.ofChange stampReadsSpec)) stampReadsCard

/-- THE TIED CARD OF 'cardboxlaw11.StampDays'. -/
def stampDaysCard : Claim7 := { stood := { row := stampDaysRow, standIns := [], harness := (true, "6524e9e2c1df12219ec358fb1bcbd969c53f7f80181535688b4123035f984804"), looks := false }, kinds := [], alts := [], laidByText := true, laidKinds := [.data, .data], laidTests := true, laidLooks := .later }
def StampDaysCardSaid : Prop := Claim7.holds Tryd.pinned (.plain (OpenSpec.ofChange stampDaysSpec)) stampDaysCard

/-- THE TIED CARD OF 'cardboxlaw11.StampMakes'. -/
def stampMakesCard : Claim7 := { stood := { row := stampMakesRow, standIns := [], harness := (true, "6524e9e2c1df12219ec358fb1bcbd969c53f7f80181535688b4123035f984804"), looks := false }, kinds := [], alts := [], laidByText := true, laidKinds := [.data, .data], laidTests := true, laidLooks := .later }
def StampMakesCardSaid : Prop := Claim7.holds Tryd.pinned (.plain (OpenSpec.ofChange stampMakesSpec)) stampMakesCard

/-- THE TIED CARD OF 'cardboxlaw11.StampCompares'. -/
def stampComparesCard : Claim7 := { stood := { row := stampComparesRow, standIns := [], harness := (true, "6524e9e2c1df12219ec358fb1bcbd969c53f7f80181535688b4123035f984804"), looks := false }, kinds := [], alts := [], laidByText := true, laidKinds := [.data, .data], laidTests := true, laidLooks := .later }
def StampComparesCardSaid : Prop := Claim7.holds Tryd.pinned (.plain (OpenSpec.ofChange stampComparesSpec)) stampComparesCard

/-- THE TIED CARD OF 'cardboxlaw11.StampOrder'. -/
def stampOrderCard : Claim7 := { stood := { row := stampOrderRow, standIns := [], harness := (true, "6524e9e2c1df12219ec358fb1bcbd969c53f7f80181535688b4123035f984804"), looks := false }, kinds := [], alts := [], laidByText := true, laidKinds := [.data, .data], laidTests := true, laidLooks := .later }
def StampOrderCardSaid : Prop := Claim7.holds Tryd.pinned (.plain (OpenSpec.ofChange stampOrderSpec)) stampOrderCard

/-- THE TIED CARD OF 'cardboxlaw11.StampBack'. -/
def stampBackCard : Claim7 := { stood := { row := stampBackRow, standIns := [], harness := (true, "6524e9e2c1df12219ec358fb1bcbd969c53f7f80181535688b4123035f984804"), looks := false }, kinds := [], alts := [], laidByText := true, laidKinds := [.data, .data], laidTests := true, laidLooks := .later }
def StampBackCardSaid : Prop := Claim7.holds Tryd.pinned (.plain (OpenSpec.ofChange stampBackSpec)) stampBackCard

/-- THE SECOND FORM's CARD OF 'cardboxlaw11.StampReads'. -/
def stampReadsUptoCard : Claim7 := { stood := { row := stampReadsUptoRow, standIns := [], harness := (true, "6524e9e2c1df12219ec358fb1bcbd969c53f7f80181535688b4123035f984804"), looks := false }, kinds := [], alts := [], laidByText := true, laidKinds := [.data, .data], laidTests := true, laidLooks := .later }
def StampReadsUptoCardSaid : Prop := Claim7.holds Tryd.pinned (.plain (OpenSpec.upto stampReadsSpec)) stampReadsUptoCard

/-- THE SECOND FORM's CARD OF 'cardboxlaw11.StampDays'. -/
def stampDaysUptoCard : Claim7 := { stood := { row := stampDaysUptoRow, standIns := [], harness := (true, "6524e9e2c1df12219ec358fb1bcbd969c53f7f80181535688b4123035f984804"), looks := false }, kinds := [], alts := [], laidByText := true, laidKinds := [.data, .data], laidTests := true, laidLooks := .later }
def StampDaysUptoCardSaid : Prop := Claim7.holds Tryd.pinned (.plain (OpenSpec.upto stampDaysSpec)) stampDaysUptoCard

/-- THE SECOND FORM's CARD OF 'cardboxlaw11.StampMakes'. -/
def stampMakesUptoCard : Claim7 := { stood := { row := stampMakesUptoRow, standIns := [], harness := (true, "6524e9e2c1df12219ec358fb1bcbd969c53f7f80181535688b4123035f984804"), looks := false }, kinds := [], alts := [], laidByText := true, laidKinds := [.data, .data], laidTests := true, laidLooks := .later }
def StampMakesUptoCardSaid : Prop := Claim7.holds Tryd.pinned (.plain (OpenSpec.upto stampMakesSpec)) stampMakesUptoCard

/-- THE SECOND FORM's CARD OF 'cardboxlaw11.StampCompares'. -/
def stampComparesUptoCard : Claim7 := { stood := { row := stampComparesUptoRow, standIns := [], harness := (true, "6524e9e2c1df12219ec358fb1bcbd969c53f7f80181535688b4123035f984804"), looks := false }, kinds := [], alts := [], laidByText := true, laidKinds := [.data, .data], laidTests := true, laidLooks := .later }
def StampComparesUptoCardSaid : Prop := Claim7.holds Tryd.pinned (.plain (OpenSpec.upto stampComparesSpec)) stampComparesUptoCard

/-- THE SECOND FORM's CARD OF 'cardboxlaw11.StampOrder'. -/
def stampOrderUptoCard : Claim7 := { stood := { row := stampOrderUptoRow, standIns := [], harness := (true, "6524e9e2c1df12219ec358fb1bcbd969c53f7f80181535688b4123035f984804"), looks := false }, kinds := [], alts := [], laidByText := true, laidKinds := [.data, .data], laidTests := true, laidLooks := .later }
def StampOrderUptoCardSaid : Prop := Claim7.holds Tryd.pinned (.plain (OpenSpec.upto stampOrderSpec)) stampOrderUptoCard

/-- THE SECOND FORM's CARD OF 'cardboxlaw11.StampBack'. -/
def stampBackUptoCard : Claim7 := { stood := { row := stampBackUptoRow, standIns := [], harness := (true, "6524e9e2c1df12219ec358fb1bcbd969c53f7f80181535688b4123035f984804"), looks := false }, kinds := [], alts := [], laidByText := true, laidKinds := [.data, .data], laidTests := true, laidLooks := .later }
def StampBackUptoCardSaid : Prop := Claim7.holds Tryd.pinned (.plain (OpenSpec.upto stampBackSpec)) stampBackUptoCard
end Rows
end Go.Proofs.YtfedidiieacakaaDoor
