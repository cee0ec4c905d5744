/-
  DERIVED. GIVEN WITH THE SEED: THE CARDS: each row of YtcbiaflbncfliaaDoorRows.lean that lists a variable, with what it lists TIED to the program's text (the seventh form; the later family's looks); each row that meets fmt, with fmt's text TOLD by the authors' own Lean function (tested against real Go, not proved from fmt's source: count such statements apart). THE CARD IS WHAT COUNTS. Prove the row's statement (the work); the ties are given (YtcbiaflbncfliaaDoorTie.lean); close each card by the builder's one call (the guide's Derived/Test/ToyasCard.lean, 'card_holds'). Laid BY PROGRAM, IN A SANDBOX (cutbox-door.mjs). By AI agents, Wed Nov 11 2026. No macro, syntax, notation, axiom, sorry.
-/
import Derived.Test.YtcbiaflbncfliaaDoorRows
import GoSem.ClaimSeven
namespace Go.Proofs.YtcbiaflbncfliaaDoor
namespace Rows

/-- THE TIED CARD OF 'cardboxlaw06.EmitLongs'. -/
def emitLongsCard : Claim7 := { stood := { row := emitLongsRow, standIns := [], harness := (true, "a90748390cd598ad0d5bc93cd2782d35604100febca482ac07d48558324d925b"), looks := false }, kinds := [], alts := [], laidByText := true, laidKinds := [.data], laidTests := true, laidLooks := .later }
def EmitLongsCardSaid : Prop := Claim7.holds Tryd.pinned (.plain (OpenSpec.ofChange emitLongsSpec)) emitLongsCard

/-- THE TIED CARD OF 'cardboxlaw06.EmitKeeps'. -/
def emitKeepsCard : Claim7 := { stood := { row := emitKeepsRow, standIns := [], harness := (true, "a90748390cd598ad0d5bc93cd2782d35604100febca482ac07d48558324d925b"), looks := false }, kinds := [], alts := [], laidByText := true, laidKinds := [.data], laidTests := true, laidLooks := .later }
def EmitKeepsCardSaid : Prop := Claim7.holds Tryd.pinned (.plain (OpenSpec.ofChange emitKeepsSpec)) emitKeepsCard

/-- THE SECOND FORM's CARD OF 'cardboxlaw06.EmitLongs'. -/
def emitLongsUptoCard : Claim7 := { stood := { row := emitLongsUptoRow, standIns := [], harness := (true, "a90748390cd598ad0d5bc93cd2782d35604100febca482ac07d48558324d925b"), looks := false }, kinds := [], alts := [], laidByText := true, laidKinds := [.data], laidTests := true, laidLooks := .later }
def EmitLongsUptoCardSaid : Prop := Claim7.holds Tryd.pinned (.plain (OpenSpec.upto emitLongsSpec)) emitLongsUptoCard

/-- THE SECOND FORM's CARD OF 'cardboxlaw06.EmitKeeps'. -/
def emitKeepsUptoCard : Claim7 := { stood := { row := emitKeepsUptoRow, standIns := [], harness := (true, "a90748390cd598ad0d5bc93cd2782d35604100febca482ac07d48558324d925b"), looks := false }, kinds := [], alts := [], laidByText := true, laidKinds := [.data], laidTests := true, laidLooks := .later }
def EmitKeepsUptoCardSaid : Prop := Claim7.holds Tryd.pinned (.plain (OpenSpec.upto emitKeepsSpec)) emitKeepsUptoCard
end Rows
end Go.Proofs.YtcbiaflbncfliaaDoor
