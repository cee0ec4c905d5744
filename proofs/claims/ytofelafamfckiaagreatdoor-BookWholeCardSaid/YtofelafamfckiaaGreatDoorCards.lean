/-
  DERIVED. GIVEN WITH THE SEED: THE CARDS: each row of YtofelafamfckiaaGreatDoorRows.lean that lists a variable, with what it lists TIED to the program's text (the seventh form; the later family's looks); each row that meets fmt, with fmt's text TOLD by the authors' own Lean function (tested against real Go, not proved from fmt's source: count such statements apart). THE CARD IS WHAT COUNTS. Prove the row's statement (the work); the ties are given (YtofelafamfckiaaGreatDoorTie.lean); close each card by the builder's one call (the guide's Derived/Test/ToyasCard.lean, 'card_holds'). Laid BY PROGRAM, IN A SANDBOX (cutbox-door.mjs). By AI agents, Wed Nov 11 2026. No macro, syntax, notation, axiom, sorry.
-/
import Derived.Test.YtofelafamfckiaaGreatDoorRows
import GoSem.ClaimSeven
namespace Go.Proofs.YtofelafamfckiaaGreatDoor
namespace Rows

/-- THE TIED CARD OF 'cardboxlaw15.BookChecks'. -/
def bookChecksCard : Claim7 := { stood := { row := bookChecksRow, standIns := [], harness := (true, "56193a45ee9338cfdf83ba17f69a62773a485f8928588b4b8f39fddacdd62839"), looks := true }, kinds := [], alts := [], laidByText := true, laidKinds := [.data], laidTests := true, laidLooks := .later }
def BookChecksCardSaid : Prop := Claim7.holds Tryz.pinned (.plain (OpenSpec.ofChange bookChecksSpec)) bookChecksCard

/-- THE TIED CARD OF 'cardboxlaw15.BookWhole'. -/
def bookWholeCard : Claim7 := { stood := { row := bookWholeRow, standIns := [], harness := (true, "56193a45ee9338cfdf83ba17f69a62773a485f8928588b4b8f39fddacdd62839"), looks := true }, kinds := [], alts := [], laidByText := true, laidKinds := [.data], laidTests := true, laidLooks := .later }
def BookWholeCardSaid : Prop := Claim7.holds Tryz.pinned (.plain (OpenSpec.ofChange bookWholeSpec)) bookWholeCard

/-- THE TIED CARD OF 'cardboxlaw15.BookEach'. -/
def bookEachCard : Claim7 := { stood := { row := bookEachRow, standIns := [], harness := (true, "56193a45ee9338cfdf83ba17f69a62773a485f8928588b4b8f39fddacdd62839"), looks := true }, kinds := [], alts := [], laidByText := true, laidKinds := [.data], laidTests := true, laidLooks := .later }
def BookEachCardSaid : Prop := Claim7.holds Tryz.pinned (.plain (OpenSpec.ofChange bookEachSpec)) bookEachCard

/-- THE TIED CARD OF 'cardboxlaw15.BookLacks'. -/
def bookLacksCard : Claim7 := { stood := { row := bookLacksRow, standIns := [], harness := (true, "56193a45ee9338cfdf83ba17f69a62773a485f8928588b4b8f39fddacdd62839"), looks := true }, kinds := [], alts := [], laidByText := true, laidKinds := [.data], laidTests := true, laidLooks := .later }
def BookLacksCardSaid : Prop := Claim7.holds Tryz.pinned (.plain (OpenSpec.ofChange bookLacksSpec)) bookLacksCard

/-- THE TIED CARD OF 'cardboxlaw15.BookKeeps'. -/
def bookKeepsCard : Claim7 := { stood := { row := bookKeepsRow, standIns := [], harness := (true, "56193a45ee9338cfdf83ba17f69a62773a485f8928588b4b8f39fddacdd62839"), looks := true }, kinds := [], alts := [], laidByText := true, laidKinds := [.data], laidTests := true, laidLooks := .later }
def BookKeepsCardSaid : Prop := Claim7.holds Tryz.pinned (.plain (OpenSpec.ofChange bookKeepsSpec)) bookKeepsCard

/-- THE SECOND FORM's CARD OF 'cardboxlaw15.BookChecks'. -/
def bookChecksUptoCard : Claim7 := { stood := { row := bookChecksUptoRow, standIns := [], harness := (true, "56193a45ee9338cfdf83ba17f69a62773a485f8928588b4b8f39fddacdd62839"), looks := true }, kinds := [], alts := [], laidByText := true, laidKinds := [.data], laidTests := true, laidLooks := .later }
def BookChecksUptoCardSaid : Prop := Claim7.holds Tryz.pinned (.plain (OpenSpec.upto bookChecksSpec)) bookChecksUptoCard

/-- THE SECOND FORM's CARD OF 'cardboxlaw15.BookWhole'. -/
def bookWholeUptoCard : Claim7 := { stood := { row := bookWholeUptoRow, standIns := [], harness := (true, "56193a45ee9338cfdf83ba17f69a62773a485f8928588b4b8f39fddacdd62839"), looks := true }, kinds := [], alts := [], laidByText := true, laidKinds := [.data], laidTests := true, laidLooks := .later }
def BookWholeUptoCardSaid : Prop := Claim7.holds Tryz.pinned (.plain (OpenSpec.upto bookWholeSpec)) bookWholeUptoCard

/-- THE SECOND FORM's CARD OF 'cardboxlaw15.BookEach'. -/
def bookEachUptoCard : Claim7 := { stood := { row := bookEachUptoRow, standIns := [], harness := (true, "56193a45ee9338cfdf83ba17f69a62773a485f8928588b4b8f39fddacdd62839"), looks := true }, kinds := [], alts := [], laidByText := true, laidKinds := [.data], laidTests := true, laidLooks := .later }
def BookEachUptoCardSaid : Prop := Claim7.holds Tryz.pinned (.plain (OpenSpec.upto bookEachSpec)) bookEachUptoCard

/-- THE SECOND FORM's CARD OF 'cardboxlaw15.BookLacks'. -/
def bookLacksUptoCard : Claim7 := { stood := { row := bookLacksUptoRow, standIns := [], harness := (true, "56193a45ee9338cfdf83ba17f69a62773a485f8928588b4b8f39fddacdd62839"), looks := true }, kinds := [], alts := [], laidByText := true, laidKinds := [.data], laidTests := true, laidLooks := .later }
def BookLacksUptoCardSaid : Prop := Claim7.holds Tryz.pinned (.plain (OpenSpec.upto bookLacksSpec)) bookLacksUptoCard

/-- THE SECOND FORM's CARD OF 'cardboxlaw15.BookKeeps'. -/
def bookKeepsUptoCard : Claim7 := { stood := { row := bookKeepsUptoRow, standIns := [], harness := (true, "56193a45ee9338cfdf83ba17f69a62773a485f8928588b4b8f39fddacdd62839"), looks := true }, kinds := [], alts := [], laidByText := true, laidKinds := [.data], laidTests := true, laidLooks := .later }
def BookKeepsUptoCardSaid : Prop := Claim7.holds Tryz.pinned (.plain (OpenSpec.upto bookKeepsSpec)) bookKeepsUptoCard
end Rows
end Go.Proofs.YtofelafamfckiaaGreatDoor
