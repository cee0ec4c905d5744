/-
  NARROWER THAN 'FOR EVERY INPUT', by the rows' own cells (each row's printed sentence says how): BookChecks: loops, laid · BookWhole: loops, laid · BookEach: loops, laid · BookLacks: loops, laid · BookKeeps: loops, laid.
  DERIVED. THE GIVEN ROWS OF THIS SEAT. 5 by the template 'for every input the law returns true; each argument reads behind the call as it read before'; 0 by the template 'total and deterministic' (their statements: YtofelafamfckiaaGreatDoorTotals.lean).
  GIVEN WITH THE SEED: the statements are not yours to turn. If you find one false, say at which input.
  Laid BY PROGRAM, IN A SANDBOX (cutbox-rows.mjs): the forced cells as the released guide's own fill.sh prints them over the translation b016bebd7081cba4… (all of the seat's roots in one cut). By AI agents, Wed Nov 11 2026. No macro, syntax, notation, axiom, sorry.
-/
import Derived.Test.YtofelafamfckiaaGreatDoorChecked
import GoSem.Claim
import GoSem.ClaimJoined
import GoSem.ClaimMapViews
import Derived.JoinedTies
import Derived.KernelRfl
namespace Go.Proofs.YtofelafamfckiaaGreatDoor
/- THE CELL 'sum', in the pinned program and in every row, IS THE sha256 OF THE DUMP (.gsa) THAT YtofelafamfckiaaGreatDoorProg.lean LOADS. Nothing in Lean hashes anything: it is a label: what it is worth is what the hold of that sum in a sandbox is worth. -/
noncomputable def Tryz.pinned : Pinned := { name := "ytofelafamfckiaagreatdoor", sum := "b016bebd7081cba40b89b106ba153ae3d1a4ea5b088eb5ea64cba324f505c448", checked := Tryz.checked }
namespace Rows
def none {H : Type} : Left H := { results := [], args := [] }

/- WHAT THE LISTED PACKAGE-LEVEL VARIABLES READ AS WHEN THE CALL BEGINS. Each datum BY PROGRAM (the guide's laid-datum.mjs) off the statement by which the dump's own 'gosem.cut.vars' lays the variable. In a bare row this is a premise. The card (YtofelafamfckiaaGreatDoorCards.lean) ties it to the program's text. -/
def laid_cardbox_book_names {H : Type} : DataW H := .agg [.lit (.string [100, 101, 115, 99, 114, 105, 112, 116, 105, 111, 110]), .lit (.string [105, 115, 83, 117, 98, 115, 99, 114, 105, 98, 101, 100]), .lit (.string [110, 97, 109, 101]), .lit (.string [115, 111, 114, 116, 79, 114, 100, 101, 114])]

/-- 'cardboxlaw15.BookChecks': WHATEVER THE INPUT: true; the input reads as it did. -/
def bookChecksSpec : ChangeSpec := { name := "bookChecks", fn := fun _ => fun
  | [d] => { results := [.lit (.bool true)], args := [d] }
  | _ => none }
def bookChecksRow : OpenClaim := { program := "ytofelafamfckiaagreatdoor", sum := "b016bebd7081cba40b89b106ba153ae3d1a4ea5b088eb5ea64cba324f505c448", func := "cardbox/cardboxlaw15.BookChecks", spec := "bookChecks", unfollowed := true, recurses := true, named := ["cardbox/book.names"], loops := true, apart := false, laid := [("cardbox/book.names", laid_cardbox_book_names)] }
def BookChecksSaid : Prop := bookChecksRow.holds Tryz.pinned (OpenSpec.ofChange bookChecksSpec)

/-- ITS FALSE NEIGHBOUR: 'it returns false'. Refute it at one input. -/
def bookChecksWrong : ChangeSpec := { name := "bookChecks", fn := fun _ => fun
  | [d] => { results := [.lit (.bool false)], args := [d] }
  | _ => none }
def BookChecksWrongFalsely : Prop := bookChecksRow.holds Tryz.pinned (OpenSpec.ofChange bookChecksWrong)

/-- 'cardboxlaw15.BookWhole': WHATEVER THE INPUT: true; the input reads as it did. -/
def bookWholeSpec : ChangeSpec := { name := "bookWhole", fn := fun _ => fun
  | [d] => { results := [.lit (.bool true)], args := [d] }
  | _ => none }
def bookWholeRow : OpenClaim := { program := "ytofelafamfckiaagreatdoor", sum := "b016bebd7081cba40b89b106ba153ae3d1a4ea5b088eb5ea64cba324f505c448", func := "cardbox/cardboxlaw15.BookWhole", spec := "bookWhole", unfollowed := true, recurses := true, named := ["cardbox/book.names"], loops := true, apart := false, laid := [("cardbox/book.names", laid_cardbox_book_names)] }
def BookWholeSaid : Prop := bookWholeRow.holds Tryz.pinned (OpenSpec.ofChange bookWholeSpec)

/-- ITS FALSE NEIGHBOUR: 'it returns false'. Refute it at one input. -/
def bookWholeWrong : ChangeSpec := { name := "bookWhole", fn := fun _ => fun
  | [d] => { results := [.lit (.bool false)], args := [d] }
  | _ => none }
def BookWholeWrongFalsely : Prop := bookWholeRow.holds Tryz.pinned (OpenSpec.ofChange bookWholeWrong)

/-- 'cardboxlaw15.BookEach': WHATEVER THE INPUT: true; the input reads as it did. -/
def bookEachSpec : ChangeSpec := { name := "bookEach", fn := fun _ => fun
  | [d1, d2, d3] => { results := [.lit (.bool true)], args := [d1, d2, d3] }
  | _ => none }
def bookEachRow : OpenClaim := { program := "ytofelafamfckiaagreatdoor", sum := "b016bebd7081cba40b89b106ba153ae3d1a4ea5b088eb5ea64cba324f505c448", func := "cardbox/cardboxlaw15.BookEach", spec := "bookEach", unfollowed := true, recurses := true, named := ["cardbox/book.names"], loops := true, apart := false, laid := [("cardbox/book.names", laid_cardbox_book_names)] }
def BookEachSaid : Prop := bookEachRow.holds Tryz.pinned (OpenSpec.ofChange bookEachSpec)

/-- ITS FALSE NEIGHBOUR: 'it returns false'. Refute it at one input. -/
def bookEachWrong : ChangeSpec := { name := "bookEach", fn := fun _ => fun
  | [d1, d2, d3] => { results := [.lit (.bool false)], args := [d1, d2, d3] }
  | _ => none }
def BookEachWrongFalsely : Prop := bookEachRow.holds Tryz.pinned (OpenSpec.ofChange bookEachWrong)

/-- 'cardboxlaw15.BookLacks': WHATEVER THE INPUT: true; the input reads as it did. -/
def bookLacksSpec : ChangeSpec := { name := "bookLacks", fn := fun _ => fun
  | [d1, d2] => { results := [.lit (.bool true)], args := [d1, d2] }
  | _ => none }
def bookLacksRow : OpenClaim := { program := "ytofelafamfckiaagreatdoor", sum := "b016bebd7081cba40b89b106ba153ae3d1a4ea5b088eb5ea64cba324f505c448", func := "cardbox/cardboxlaw15.BookLacks", spec := "bookLacks", unfollowed := true, recurses := true, named := ["cardbox/book.names"], loops := true, apart := false, laid := [("cardbox/book.names", laid_cardbox_book_names)] }
def BookLacksSaid : Prop := bookLacksRow.holds Tryz.pinned (OpenSpec.ofChange bookLacksSpec)

/-- ITS FALSE NEIGHBOUR: 'it returns false'. Refute it at one input. -/
def bookLacksWrong : ChangeSpec := { name := "bookLacks", fn := fun _ => fun
  | [d1, d2] => { results := [.lit (.bool false)], args := [d1, d2] }
  | _ => none }
def BookLacksWrongFalsely : Prop := bookLacksRow.holds Tryz.pinned (OpenSpec.ofChange bookLacksWrong)

/-- 'cardboxlaw15.BookKeeps': WHATEVER THE INPUT: true; the input reads as it did. -/
def bookKeepsSpec : ChangeSpec := { name := "bookKeeps", fn := fun _ => fun
  | [d] => { results := [.lit (.bool true)], args := [d] }
  | _ => none }
def bookKeepsRow : OpenClaim := { program := "ytofelafamfckiaagreatdoor", sum := "b016bebd7081cba40b89b106ba153ae3d1a4ea5b088eb5ea64cba324f505c448", func := "cardbox/cardboxlaw15.BookKeeps", spec := "bookKeeps", unfollowed := true, recurses := true, named := ["cardbox/book.names"], loops := true, apart := false, laid := [("cardbox/book.names", laid_cardbox_book_names)] }
def BookKeepsSaid : Prop := bookKeepsRow.holds Tryz.pinned (OpenSpec.ofChange bookKeepsSpec)

/-- ITS FALSE NEIGHBOUR: 'it returns false'. Refute it at one input. -/
def bookKeepsWrong : ChangeSpec := { name := "bookKeeps", fn := fun _ => fun
  | [d] => { results := [.lit (.bool false)], args := [d] }
  | _ => none }
def BookKeepsWrongFalsely : Prop := bookKeepsRow.holds Tryz.pinned (OpenSpec.ofChange bookKeepsWrong)

/- THE SECOND FORM. 'bulk': how many values and letters a reading holds, each counted each time it is reached (what is shared counts as often as it is met; a slice's spare places count too). A statement '..UptoSaid' is the law's where the arguments, and the package variables that the reading takes, are together of bulk at most 1048576: NARROWER than '..Said'. Prove '..Said' where nothing that the law and all that it calls make is longer than what came in: it says more and counts as full. Else prove '..UptoSaid'. A law counts once. -/
mutual
def uptoBulk {H : Type} : DataW H → Nat
  | .lit (.string bytes) => bytes.length + 1
  | .lit _ => 1
  | .nil => 1
  | .ptr d => uptoBulk d + 1
  | .slice elems spare => uptoBulkAll elems + uptoBulkAll spare + 1
  | .agg parts => uptoBulkAll parts + 1
  | .iface _ d => uptoBulk d + 1
  | .map entries => uptoBulkEntries entries + 1
  | .held _ => 1
def uptoBulkAll {H : Type} : List (DataW H) → Nat
  | [] => 0
  | d :: r => uptoBulk d + uptoBulkAll r
def uptoBulkEntries {H : Type} : List (Lit × DataW H) → Nat
  | [] => 0
  | x :: r => uptoBulkEntry x + uptoBulkEntries r
def uptoBulkEntry {H : Type} : Lit × DataW H → Nat
  | (.string bytes, d) => bytes.length + uptoBulk d + 1
  | (_, d) => uptoBulk d + 1
 end
def uptoSmall : (H : Type) → List (DataW H) → Bool := fun _ ds => decide (uptoBulkAll ds ≤ 1048576)
def OpenSpec.upto (s : _root_.Go.ChangeSpec) : _root_.Go.OpenSpec := { _root_.Go.OpenSpec.ofChange s with cond := some uptoSmall }

/-- 'cardboxlaw15.BookChecks', WHERE WHAT IT READS IS OF BULK AT MOST 1048576: true; the input reads as it did. -/
def bookChecksUptoRow : OpenClaim := { program := "ytofelafamfckiaagreatdoor", sum := "b016bebd7081cba40b89b106ba153ae3d1a4ea5b088eb5ea64cba324f505c448", func := "cardbox/cardboxlaw15.BookChecks", spec := "bookChecks", unfollowed := true, recurses := true, named := ["cardbox/book.names"], loops := true, apart := false, laid := [("cardbox/book.names", laid_cardbox_book_names)], narrowed := true }
def BookChecksUptoSaid : Prop := bookChecksUptoRow.holds Tryz.pinned (OpenSpec.upto bookChecksSpec)

/-- 'cardboxlaw15.BookWhole', WHERE WHAT IT READS IS OF BULK AT MOST 1048576: true; the input reads as it did. -/
def bookWholeUptoRow : OpenClaim := { program := "ytofelafamfckiaagreatdoor", sum := "b016bebd7081cba40b89b106ba153ae3d1a4ea5b088eb5ea64cba324f505c448", func := "cardbox/cardboxlaw15.BookWhole", spec := "bookWhole", unfollowed := true, recurses := true, named := ["cardbox/book.names"], loops := true, apart := false, laid := [("cardbox/book.names", laid_cardbox_book_names)], narrowed := true }
def BookWholeUptoSaid : Prop := bookWholeUptoRow.holds Tryz.pinned (OpenSpec.upto bookWholeSpec)

/-- 'cardboxlaw15.BookEach', WHERE WHAT IT READS IS OF BULK AT MOST 1048576: true; the input reads as it did. -/
def bookEachUptoRow : OpenClaim := { program := "ytofelafamfckiaagreatdoor", sum := "b016bebd7081cba40b89b106ba153ae3d1a4ea5b088eb5ea64cba324f505c448", func := "cardbox/cardboxlaw15.BookEach", spec := "bookEach", unfollowed := true, recurses := true, named := ["cardbox/book.names"], loops := true, apart := false, laid := [("cardbox/book.names", laid_cardbox_book_names)], narrowed := true }
def BookEachUptoSaid : Prop := bookEachUptoRow.holds Tryz.pinned (OpenSpec.upto bookEachSpec)

/-- 'cardboxlaw15.BookLacks', WHERE WHAT IT READS IS OF BULK AT MOST 1048576: true; the input reads as it did. -/
def bookLacksUptoRow : OpenClaim := { program := "ytofelafamfckiaagreatdoor", sum := "b016bebd7081cba40b89b106ba153ae3d1a4ea5b088eb5ea64cba324f505c448", func := "cardbox/cardboxlaw15.BookLacks", spec := "bookLacks", unfollowed := true, recurses := true, named := ["cardbox/book.names"], loops := true, apart := false, laid := [("cardbox/book.names", laid_cardbox_book_names)], narrowed := true }
def BookLacksUptoSaid : Prop := bookLacksUptoRow.holds Tryz.pinned (OpenSpec.upto bookLacksSpec)

/-- 'cardboxlaw15.BookKeeps', WHERE WHAT IT READS IS OF BULK AT MOST 1048576: true; the input reads as it did. -/
def bookKeepsUptoRow : OpenClaim := { program := "ytofelafamfckiaagreatdoor", sum := "b016bebd7081cba40b89b106ba153ae3d1a4ea5b088eb5ea64cba324f505c448", func := "cardbox/cardboxlaw15.BookKeeps", spec := "bookKeeps", unfollowed := true, recurses := true, named := ["cardbox/book.names"], loops := true, apart := false, laid := [("cardbox/book.names", laid_cardbox_book_names)], narrowed := true }
def BookKeepsUptoSaid : Prop := bookKeepsUptoRow.holds Tryz.pinned (OpenSpec.upto bookKeepsSpec)

end Rows
end Go.Proofs.YtofelafamfckiaaGreatDoor
