/-
  NARROWER THAN 'FOR EVERY INPUT', by the rows' own cells (each row's printed sentence says how): CharsQuotes: laid · CharsReads: laid.
  DERIVED. THE GIVEN ROWS OF THIS SEAT. 2 by the template 'for every input the law returns true; each argument reads behind the call as it read before'; 0 by the template 'total and deterministic' (their statements: YtflnooigjaffdaaDoorTotals.lean).
  GIVEN WITH THE SEED: the statements are not yours to turn. If you find one false, say at which input.
  Laid BY PROGRAM, IN A SANDBOX (cutbox-rows.mjs): the forced cells as the released guide's own fill.sh prints them over the translation 58041ee7707802f6… (all of the seat's roots in one cut). By AI agents, Wed Nov 11 2026. No macro, syntax, notation, axiom, sorry.
-/
import Derived.Test.YtflnooigjaffdaaDoorChecked
import GoSem.Claim
import GoSem.ClaimJoined
import GoSem.ClaimMapViews
import Derived.JoinedTies
import Derived.KernelRfl
namespace Go.Proofs.YtflnooigjaffdaaDoor
/- THE CELL 'sum', in the pinned program and in every row, IS THE sha256 OF THE DUMP (.gsa) THAT YtflnooigjaffdaaDoorProg.lean LOADS. Nothing in Lean hashes anything: it is a label: what it is worth is what the hold of that sum in a sandbox is worth. -/
noncomputable def Tryd.pinned : Pinned := { name := "ytflnooigjaffdaadoor", sum := "58041ee7707802f62cb4bd445f194a25f9cd8776f9f9de9361a15243eb7c6fe6", checked := Tryd.checked }
namespace Rows
def none {H : Type} : Left H := { results := [], args := [] }

/- WHAT THE LISTED PACKAGE-LEVEL VARIABLES READ AS WHEN THE CALL BEGINS. Each datum BY PROGRAM (the guide's laid-datum.mjs) off the statement by which the dump's own 'gosem.cut.vars' lays the variable. In a bare row this is a premise. The card (YtflnooigjaffdaaDoorCards.lean) ties it to the program's text. -/
def laid_cardbox_cardboxref02_points {H : Type} : DataW H := .agg [.lit (.int .i64 34), .lit (.int .i64 92), .lit (.int .i64 47), .lit (.int .i64 8), .lit (.int .i64 12), .lit (.int .i64 10), .lit (.int .i64 13), .lit (.int .i64 9)]

/-- 'cardboxlaw02.CharsQuotes': WHATEVER THE INPUT: true; the input reads as it did. -/
def charsQuotesSpec : ChangeSpec := { name := "charsQuotes", fn := fun _ => fun
  | [d] => { results := [.lit (.bool true)], args := [d] }
  | _ => none }
def charsQuotesRow : OpenClaim := { program := "ytflnooigjaffdaadoor", sum := "58041ee7707802f62cb4bd445f194a25f9cd8776f9f9de9361a15243eb7c6fe6", func := "cardbox/cardboxlaw02.CharsQuotes", spec := "charsQuotes", named := ["cardbox/cardboxref02.points"], apart := false, laid := [("cardbox/cardboxref02.points", laid_cardbox_cardboxref02_points)] }
def CharsQuotesSaid : Prop := charsQuotesRow.holds Tryd.pinned (OpenSpec.ofChange charsQuotesSpec)

/-- ITS FALSE NEIGHBOUR: 'it returns false'. Refute it at one input. -/
def charsQuotesWrong : ChangeSpec := { name := "charsQuotes", fn := fun _ => fun
  | [d] => { results := [.lit (.bool false)], args := [d] }
  | _ => none }
def CharsQuotesWrongFalsely : Prop := charsQuotesRow.holds Tryd.pinned (OpenSpec.ofChange charsQuotesWrong)

/-- 'cardboxlaw02.CharsReads': WHATEVER THE INPUT: true; the input reads as it did. -/
def charsReadsSpec : ChangeSpec := { name := "charsReads", fn := fun _ => fun
  | [d1, d2] => { results := [.lit (.bool true)], args := [d1, d2] }
  | _ => none }
def charsReadsRow : OpenClaim := { program := "ytflnooigjaffdaadoor", sum := "58041ee7707802f62cb4bd445f194a25f9cd8776f9f9de9361a15243eb7c6fe6", func := "cardbox/cardboxlaw02.CharsReads", spec := "charsReads", named := ["cardbox/cardboxref02.points"], apart := false, laid := [("cardbox/cardboxref02.points", laid_cardbox_cardboxref02_points)] }
def CharsReadsSaid : Prop := charsReadsRow.holds Tryd.pinned (OpenSpec.ofChange charsReadsSpec)

/-- ITS FALSE NEIGHBOUR: 'it returns false'. Refute it at one input. -/
def charsReadsWrong : ChangeSpec := { name := "charsReads", fn := fun _ => fun
  | [d1, d2] => { results := [.lit (.bool false)], args := [d1, d2] }
  | _ => none }
def CharsReadsWrongFalsely : Prop := charsReadsRow.holds Tryd.pinned (OpenSpec.ofChange charsReadsWrong)

/- THE SECOND FORM. 'bulk': how many values and letters a reading holds, each counted each time it is reached (what is shared counts as often as it is met; a slice's spare places count too). A statement '..UptoSaid' is the law's where the arguments, and the package variables that the reading takes, are together of bulk at most 1048576: NARROWER than '..Said'. Prove '..Said' where nothing that the law and all that it calls make is longer than what came in: it says more and counts as full. Else prove '..UptoSaid'. A law counts once. -/
mutual
def uptoBulk {H : Type} : DataW H → Nat
  | .lit (.string bytes) => bytes.length + 1
  | .lit _ => 1
  | .nil => 1
  | .ptr d => uptoBulk d + 1
  | .slice elems spare => uptoBulkAll elems + uptoBulkAll spare + 1
  | .agg parts => uptoBulkAll parts + 1
  | .iface _ d => uptoBulk d + 1
  | .map entries => uptoBulkEntries entries + 1
  | .held _ => 1
def uptoBulkAll {H : Type} : List (DataW H) → Nat
  | [] => 0
  | d :: r => uptoBulk d + uptoBulkAll r
def uptoBulkEntries {H : Type} : List (Lit × DataW H) → Nat
  | [] => 0
  | x :: r => uptoBulkEntry x + uptoBulkEntries r
def uptoBulkEntry {H : Type} : Lit × DataW H → Nat
  | (.string bytes, d) => bytes.length + uptoBulk d + 1
  | (_, d) => uptoBulk d + 1
 end
def uptoSmall : (H : Type) → List (DataW H) → Bool := fun _ ds => decide (uptoBulkAll ds ≤ 1048576)
def OpenSpec.upto (s : _root_.Go.ChangeSpec) : _root_.Go.OpenSpec := { _root_.Go.OpenSpec.ofChange s with cond := some uptoSmall }

/-- 'cardboxlaw02.CharsQuotes', WHERE WHAT IT READS IS OF BULK AT MOST 1048576: true; the input reads as it did. -/
def charsQuotesUptoRow : OpenClaim := { program := "ytflnooigjaffdaadoor", sum := "58041ee7707802f62cb4bd445f194a25f9cd8776f9f9de9361a15243eb7c6fe6", func := "cardbox/cardboxlaw02.CharsQuotes", spec := "charsQuotes", named := ["cardbox/cardboxref02.points"], apart := false, laid := [("cardbox/cardboxref02.points", laid_cardbox_cardboxref02_points)], narrowed := true }
def CharsQuotesUptoSaid : Prop := charsQuotesUptoRow.holds Tryd.pinned (OpenSpec.upto charsQuotesSpec)

/-- 'cardboxlaw02.CharsReads', WHERE WHAT IT READS IS OF BULK AT MOST 1048576: true; the input reads as it did. -/
def charsReadsUptoRow : OpenClaim := { program := "ytflnooigjaffdaadoor", sum := "58041ee7707802f62cb4bd445f194a25f9cd8776f9f9de9361a15243eb7c6fe6", func := "cardbox/cardboxlaw02.CharsReads", spec := "charsReads", named := ["cardbox/cardboxref02.points"], apart := false, laid := [("cardbox/cardboxref02.points", laid_cardbox_cardboxref02_points)], narrowed := true }
def CharsReadsUptoSaid : Prop := charsReadsUptoRow.holds Tryd.pinned (OpenSpec.upto charsReadsSpec)

end Rows
end Go.Proofs.YtflnooigjaffdaaDoor
