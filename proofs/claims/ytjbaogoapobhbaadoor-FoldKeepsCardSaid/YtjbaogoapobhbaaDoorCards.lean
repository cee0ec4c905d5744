/-
  DERIVED. GIVEN WITH THE SEED: THE CARDS: each row of YtjbaogoapobhbaaDoorRows.lean that lists a variable, with what it lists TIED to the program's text (the seventh form; the later family's looks); each row that meets fmt, with fmt's text TOLD by the authors' own Lean function (tested against real Go, not proved from fmt's source: count such statements apart). THE CARD IS WHAT COUNTS. Prove the row's statement (the work); the ties are given (YtjbaogoapobhbaaDoorTie.lean); close each card by the builder's one call (the guide's Derived/Test/ToyasCard.lean, 'card_holds'). Laid BY PROGRAM, IN A SANDBOX (cutbox-door.mjs). By AI agents, Wed Nov 11 2026. No macro, syntax, notation, axiom, sorry.
-/
import Derived.Test.YtjbaogoapobhbaaDoorRows
import GoSem.ClaimSeven
namespace Go.Proofs.YtjbaogoapobhbaaDoor
namespace Rows

/-- THE TIED CARD OF 'cardboxlaw16.FoldTexts'. -/
def foldTextsCard : Claim7 := { stood := { row := foldTextsRow, standIns := [], harness := (true, "b11e2a9675b9cbd66c1c5b4213a66a00988ad053387f0c9854a6b37076292618"), looks := false }, kinds := [], alts := [], laidByText := true, laidKinds := [.data, .pinned], laidTests := true, laidLooks := .later }
def FoldTextsCardSaid : Prop := Claim7.holds Tryd.pinned (.plain (OpenSpec.ofChange foldTextsSpec)) foldTextsCard

/-- THE TIED CARD OF 'cardboxlaw16.FoldTerms'. -/
def foldTermsCard : Claim7 := { stood := { row := foldTermsRow, standIns := [], harness := (true, "b11e2a9675b9cbd66c1c5b4213a66a00988ad053387f0c9854a6b37076292618"), looks := false }, kinds := [], alts := [], laidByText := true, laidKinds := [.data, .pinned], laidTests := true, laidLooks := .later }
def FoldTermsCardSaid : Prop := Claim7.holds Tryd.pinned (.plain (OpenSpec.ofChange foldTermsSpec)) foldTermsCard

/-- THE TIED CARD OF 'cardboxlaw16.FoldMatches'. -/
def foldMatchesCard : Claim7 := { stood := { row := foldMatchesRow, standIns := [], harness := (true, "b11e2a9675b9cbd66c1c5b4213a66a00988ad053387f0c9854a6b37076292618"), looks := false }, kinds := [], alts := [], laidByText := true, laidKinds := [.data, .pinned], laidTests := true, laidLooks := .later }
def FoldMatchesCardSaid : Prop := Claim7.holds Tryd.pinned (.plain (OpenSpec.ofChange foldMatchesSpec)) foldMatchesCard

/-- THE TIED CARD OF 'cardboxlaw16.FoldJoined'. -/
def foldJoinedCard : Claim7 := { stood := { row := foldJoinedRow, standIns := [], harness := (true, "b11e2a9675b9cbd66c1c5b4213a66a00988ad053387f0c9854a6b37076292618"), looks := false }, kinds := [], alts := [], laidByText := true, laidKinds := [.data, .pinned], laidTests := true, laidLooks := .later }
def FoldJoinedCardSaid : Prop := Claim7.holds Tryd.pinned (.plain (OpenSpec.ofChange foldJoinedSpec)) foldJoinedCard

/-- THE TIED CARD OF 'cardboxlaw16.FoldOrder'. -/
def foldOrderCard : Claim7 := { stood := { row := foldOrderRow, standIns := [], harness := (true, "b11e2a9675b9cbd66c1c5b4213a66a00988ad053387f0c9854a6b37076292618"), looks := false }, kinds := [], alts := [], laidByText := true, laidKinds := [.data, .pinned], laidTests := true, laidLooks := .later }
def FoldOrderCardSaid : Prop := Claim7.holds Tryd.pinned (.plain (OpenSpec.ofChange foldOrderSpec)) foldOrderCard

/-- THE TIED CARD OF 'cardboxlaw16.FoldKeeps'. -/
def foldKeepsCard : Claim7 := { stood := { row := foldKeepsRow, standIns := [], harness := (true, "b11e2a9675b9cbd66c1c5b4213a66a00988ad053387f0c9854a6b37076292618"), looks := false }, kinds := [], alts := [], laidByText := true, laidKinds := [.data, .pinned], laidTests := true, laidLooks := .later }
def FoldKeepsCardSaid : Prop := Claim7.holds Tryd.pinned (.plain (OpenSpec.ofChange foldKeepsSpec)) foldKeepsCard

/-- THE SECOND FORM's CARD OF 'cardboxlaw16.FoldTexts'. -/
def foldTextsUptoCard : Claim7 := { stood := { row := foldTextsUptoRow, standIns := [], harness := (true, "b11e2a9675b9cbd66c1c5b4213a66a00988ad053387f0c9854a6b37076292618"), looks := false }, kinds := [], alts := [], laidByText := true, laidKinds := [.data, .pinned], laidTests := true, laidLooks := .later }
def FoldTextsUptoCardSaid : Prop := Claim7.holds Tryd.pinned (.plain (OpenSpec.upto foldTextsSpec)) foldTextsUptoCard

/-- THE SECOND FORM's CARD OF 'cardboxlaw16.FoldTerms'. -/
def foldTermsUptoCard : Claim7 := { stood := { row := foldTermsUptoRow, standIns := [], harness := (true, "b11e2a9675b9cbd66c1c5b4213a66a00988ad053387f0c9854a6b37076292618"), looks := false }, kinds := [], alts := [], laidByText := true, laidKinds := [.data, .pinned], laidTests := true, laidLooks := .later }
def FoldTermsUptoCardSaid : Prop := Claim7.holds Tryd.pinned (.plain (OpenSpec.upto foldTermsSpec)) foldTermsUptoCard

/-- THE SECOND FORM's CARD OF 'cardboxlaw16.FoldMatches'. -/
def foldMatchesUptoCard : Claim7 := { stood := { row := foldMatchesUptoRow, standIns := [], harness := (true, "b11e2a9675b9cbd66c1c5b4213a66a00988ad053387f0c9854a6b37076292618"), looks := false }, kinds := [], alts := [], laidByText := true, laidKinds := [.data, .pinned], laidTests := true, laidLooks := .later }
def FoldMatchesUptoCardSaid : Prop := Claim7.holds Tryd.pinned (.plain (OpenSpec.upto foldMatchesSpec)) foldMatchesUptoCard

/-- THE SECOND FORM's CARD OF 'cardboxlaw16.FoldJoined'. -/
def foldJoinedUptoCard : Claim7 := { stood := { row := foldJoinedUptoRow, standIns := [], harness := (true, "b11e2a9675b9cbd66c1c5b4213a66a00988ad053387f0c9854a6b37076292618"), looks := false }, kinds := [], alts := [], laidByText := true, laidKinds := [.data, .pinned], laidTests := true, laidLooks := .later }
def FoldJoinedUptoCardSaid : Prop := Claim7.holds Tryd.pinned (.plain (OpenSpec.upto foldJoinedSpec)) foldJoinedUptoCard

/-- THE SECOND FORM's CARD OF 'cardboxlaw16.FoldOrder'. -/
def foldOrderUptoCard : Claim7 := { stood := { row := foldOrderUptoRow, standIns := [], harness := (true, "b11e2a9675b9cbd66c1c5b4213a66a00988ad053387f0c9854a6b37076292618"), looks := false }, kinds := [], alts := [], laidByText := true, laidKinds := [.data, .pinned], laidTests := true, laidLooks := .later }
def FoldOrderUptoCardSaid : Prop := Claim7.holds Tryd.pinned (.plain (OpenSpec.upto foldOrderSpec)) foldOrderUptoCard

/-- THE SECOND FORM's CARD OF 'cardboxlaw16.FoldKeeps'. -/
def foldKeepsUptoCard : Claim7 := { stood := { row := foldKeepsUptoRow, standIns := [], harness := (true, "b11e2a9675b9cbd66c1c5b4213a66a00988ad053387f0c9854a6b37076292618"), looks := false }, kinds := [], alts := [], laidByText := true, laidKinds := [.data, .pinned], laidTests := true, laidLooks := .later }
def FoldKeepsUptoCardSaid : Prop := Claim7.holds Tryd.pinned (.plain (OpenSpec.upto foldKeepsSpec)) foldKeepsUptoCard
end Rows
end Go.Proofs.YtjbaogoapobhbaaDoor
