/-
  DERIVED. GIVEN WITH THE SEED: THE CARDS: each row of YtnecfkhbncepnaaGreatDoorRows.lean that lists a variable, with what it lists TIED to the program's text (the seventh form; the later family's looks); each row that meets fmt, with fmt's text TOLD by the authors' own Lean function (tested against real Go, not proved from fmt's source: count such statements apart). THE CARD IS WHAT COUNTS. Prove the row's statement (the work); the ties are given (YtnecfkhbncepnaaGreatDoorTie.lean); close each card by the builder's one call (the guide's Derived/Test/ToyasCard.lean, 'card_holds'). Laid BY PROGRAM, IN A SANDBOX (cutbox-door.mjs). By AI agents, Wed Nov 11 2026. No macro, syntax, notation, axiom, sorry.
-/
import Derived.Test.YtnecfkhbncepnaaGreatDoorRows
import GoSem.ClaimSeven
namespace Go.Proofs.YtnecfkhbncepnaaGreatDoor
namespace Rows

/-- THE TIED CARD OF 'cardboxlaw14.CardLacks'. -/
def cardLacksCard : Claim7 := { stood := { row := cardLacksRow, standIns := [], harness := (true, "a61e1ed0a17a93ba0a9d5e2277dcec5721f8ecc83fb9eb4fb1db6908f4e73c57"), looks := true }, kinds := [], alts := [], laidByText := true, laidKinds := [.data, .data], laidTests := true, laidLooks := .later }
def CardLacksCardSaid : Prop := Claim7.holds Tryz.pinned (.plain (OpenSpec.ofChange cardLacksSpec)) cardLacksCard

/-- THE TIED CARD OF 'cardboxlaw14.CardKeeps'. -/
def cardKeepsCard : Claim7 := { stood := { row := cardKeepsRow, standIns := [], harness := (true, "a61e1ed0a17a93ba0a9d5e2277dcec5721f8ecc83fb9eb4fb1db6908f4e73c57"), looks := true }, kinds := [], alts := [], laidByText := true, laidKinds := [.data, .data], laidTests := true, laidLooks := .later }
def CardKeepsCardSaid : Prop := Claim7.holds Tryz.pinned (.plain (OpenSpec.ofChange cardKeepsSpec)) cardKeepsCard

/-- THE SECOND FORM's CARD OF 'cardboxlaw14.CardLacks'. -/
def cardLacksUptoCard : Claim7 := { stood := { row := cardLacksUptoRow, standIns := [], harness := (true, "a61e1ed0a17a93ba0a9d5e2277dcec5721f8ecc83fb9eb4fb1db6908f4e73c57"), looks := true }, kinds := [], alts := [], laidByText := true, laidKinds := [.data, .data], laidTests := true, laidLooks := .later }
def CardLacksUptoCardSaid : Prop := Claim7.holds Tryz.pinned (.plain (OpenSpec.upto cardLacksSpec)) cardLacksUptoCard

/-- THE SECOND FORM's CARD OF 'cardboxlaw14.CardKeeps'. -/
def cardKeepsUptoCard : Claim7 := { stood := { row := cardKeepsUptoRow, standIns := [], harness := (true, "a61e1ed0a17a93ba0a9d5e2277dcec5721f8ecc83fb9eb4fb1db6908f4e73c57"), looks := true }, kinds := [], alts := [], laidByText := true, laidKinds := [.data, .data], laidTests := true, laidLooks := .later }
def CardKeepsUptoCardSaid : Prop := Claim7.holds Tryz.pinned (.plain (OpenSpec.upto cardKeepsSpec)) cardKeepsUptoCard
end Rows
end Go.Proofs.YtnecfkhbncepnaaGreatDoor
