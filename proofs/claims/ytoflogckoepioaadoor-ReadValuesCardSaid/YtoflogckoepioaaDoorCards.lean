/-
  DERIVED. GIVEN WITH THE SEED: THE CARDS: each row of YtoflogckoepioaaDoorRows.lean that lists a variable, with what it lists TIED to the program's text (the seventh form; the later family's looks); each row that meets fmt, with fmt's text TOLD by the authors' own Lean function (tested against real Go, not proved from fmt's source: count such statements apart). THE CARD IS WHAT COUNTS. Prove the row's statement (the work); the ties are given (YtoflogckoepioaaDoorTie.lean); close each card by the builder's one call (the guide's Derived/Test/ToyasCard.lean, 'card_holds'). Laid BY PROGRAM, IN A SANDBOX (cutbox-door.mjs). By AI agents, Wed Nov 11 2026. No macro, syntax, notation, axiom, sorry.
-/
import Derived.Test.YtoflogckoepioaaDoorRows
import GoSem.ClaimSeven
namespace Go.Proofs.YtoflogckoepioaaDoor
namespace Rows

/-- THE TIED CARD OF 'cardboxlaw05.ReadValues'. -/
def readValuesCard : Claim7 := { stood := { row := readValuesRow, standIns := [], harness := (true, "133a7a1d21fd5a3228619e9c2025827437b5e70138805585fbcd4b796d84aeda"), looks := true }, kinds := [], alts := [], laidByText := true, laidKinds := [.data], laidTests := true, laidLooks := .later }
def ReadValuesCardSaid : Prop := Claim7.holds Tryd.pinned (.plain (OpenSpec.ofChange readValuesSpec)) readValuesCard

/-- THE TIED CARD OF 'cardboxlaw05.ReadKeeps'. -/
def readKeepsCard : Claim7 := { stood := { row := readKeepsRow, standIns := [], harness := (true, "133a7a1d21fd5a3228619e9c2025827437b5e70138805585fbcd4b796d84aeda"), looks := true }, kinds := [], alts := [], laidByText := true, laidKinds := [.data], laidTests := true, laidLooks := .later }
def ReadKeepsCardSaid : Prop := Claim7.holds Tryd.pinned (.plain (OpenSpec.ofChange readKeepsSpec)) readKeepsCard

/-- THE SECOND FORM's CARD OF 'cardboxlaw05.ReadValues'. -/
def readValuesUptoCard : Claim7 := { stood := { row := readValuesUptoRow, standIns := [], harness := (true, "133a7a1d21fd5a3228619e9c2025827437b5e70138805585fbcd4b796d84aeda"), looks := true }, kinds := [], alts := [], laidByText := true, laidKinds := [.data], laidTests := true, laidLooks := .later }
def ReadValuesUptoCardSaid : Prop := Claim7.holds Tryd.pinned (.plain (OpenSpec.upto readValuesSpec)) readValuesUptoCard

/-- THE SECOND FORM's CARD OF 'cardboxlaw05.ReadKeeps'. -/
def readKeepsUptoCard : Claim7 := { stood := { row := readKeepsUptoRow, standIns := [], harness := (true, "133a7a1d21fd5a3228619e9c2025827437b5e70138805585fbcd4b796d84aeda"), looks := true }, kinds := [], alts := [], laidByText := true, laidKinds := [.data], laidTests := true, laidLooks := .later }
def ReadKeepsUptoCardSaid : Prop := Claim7.holds Tryd.pinned (.plain (OpenSpec.upto readKeepsSpec)) readKeepsUptoCard
end Rows
end Go.Proofs.YtoflogckoepioaaDoor
