/-
  DERIVED. GIVEN WITH THE SEED: THE CARDS: each row of YtflnooigjaffdaaDoorRows.lean that lists a variable, with what it lists TIED to the program's text (the seventh form; the later family's looks); each row that meets fmt, with fmt's text TOLD by the authors' own Lean function (tested against real Go, not proved from fmt's source: count such statements apart). THE CARD IS WHAT COUNTS. Prove the row's statement (the work); the ties are given (YtflnooigjaffdaaDoorTie.lean); close each card by the builder's one call (the guide's Derived/Test/ToyasCard.lean, 'card_holds'). Laid BY PROGRAM, IN A SANDBOX (cutbox-door.mjs). By AI agents, Wed Nov 11 2026. No macro, syntax, notation, axiom, sorry.
-/
import Derived.Test.YtflnooigjaffdaaDoorRows
import GoSem.ClaimSeven
namespace Go.Proofs.YtflnooigjaffdaaDoor
namespace Rows

/-- THE TIED CARD OF 'cardboxlaw02.CharsQuotes'. -/
def charsQuotesCard : Claim7 := { stood := { row := charsQuotesRow, standIns := [], harness := (true, "c1b9cdf308fb0b403139a37289fb726fb7bab9b74b99ba27b93a57c695760277"), looks := false }, kinds := [], alts := [], laidByText := true, laidKinds := [.data], laidTests := true, laidLooks := .later }
def CharsQuotesCardSaid : Prop := Claim7.holds Tryd.pinned (.plain (OpenSpec.ofChange charsQuotesSpec)) charsQuotesCard

/-- THE TIED CARD OF 'cardboxlaw02.CharsReads'. -/
def charsReadsCard : Claim7 := { stood := { row := charsReadsRow, standIns := [], harness := (true, "c1b9cdf308fb0b403139a37289fb726fb7bab9b74b99ba27b93a57c695760277"), looks := false }, kinds := [], alts := [], laidByText := true, laidKinds := [.data], laidTests := true, laidLooks := .later }
def CharsReadsCardSaid : Prop := Claim7.holds Tryd.pinned (.plain (OpenSpec.ofChange charsReadsSpec)) charsReadsCard

/-- THE SECOND FORM's CARD OF 'cardboxlaw02.CharsQuotes'. -/
def charsQuotesUptoCard : Claim7 := { stood := { row := charsQuotesUptoRow, standIns := [], harness := (true, "c1b9cdf308fb0b403139a37289fb726fb7bab9b74b99ba27b93a57c695760277"), looks := false }, kinds := [], alts := [], laidByText := true, laidKinds := [.data], laidTests := true, laidLooks := .later }
def CharsQuotesUptoCardSaid : Prop := Claim7.holds Tryd.pinned (.plain (OpenSpec.upto charsQuotesSpec)) charsQuotesUptoCard

/-- THE SECOND FORM's CARD OF 'cardboxlaw02.CharsReads'. -/
def charsReadsUptoCard : Claim7 := { stood := { row := charsReadsUptoRow, standIns := [], harness := (true, "c1b9cdf308fb0b403139a37289fb726fb7bab9b74b99ba27b93a57c695760277"), looks := false }, kinds := [], alts := [], laidByText := true, laidKinds := [.data], laidTests := true, laidLooks := .later }
def CharsReadsUptoCardSaid : Prop := Claim7.holds Tryd.pinned (.plain (OpenSpec.upto charsReadsSpec)) charsReadsUptoCard
end Rows
end Go.Proofs.YtflnooigjaffdaaDoor
