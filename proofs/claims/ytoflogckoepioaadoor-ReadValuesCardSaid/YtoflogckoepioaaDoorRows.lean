/-
  NARROWER THAN 'FOR EVERY INPUT', by the rows' own cells (each row's printed sentence says how): ReadValues: laid · ReadKeeps: laid.
  DERIVED. THE GIVEN ROWS OF THIS SEAT. 2 by the template 'for every input the law returns true; each argument reads behind the call as it read before'; 0 by the template 'total and deterministic' (their statements: YtoflogckoepioaaDoorTotals.lean).
  GIVEN WITH THE SEED: the statements are not yours to turn. If you find one false, say at which input.
  Laid BY PROGRAM, IN A SANDBOX (cutbox-rows.mjs): the forced cells as the released guide's own fill.sh prints them over the translation 43b03d2195a580d1… (all of the seat's roots in one cut). By AI agents, Wed Nov 11 2026. No macro, syntax, notation, axiom, sorry.
-/
import Derived.Test.YtoflogckoepioaaDoorChecked
import GoSem.Claim
import GoSem.ClaimJoined
import GoSem.ClaimMapViews
import Derived.JoinedTies
import Derived.KernelRfl
namespace Go.Proofs.YtoflogckoepioaaDoor
/- THE CELL 'sum', in the pinned program and in every row, IS THE sha256 OF THE DUMP (.gsa) THAT YtoflogckoepioaaDoorProg.lean LOADS. Nothing in Lean hashes anything: it is a label: what it is worth is what the hold of that sum in a sandbox is worth. -/
noncomputable def Tryd.pinned : Pinned := { name := "ytoflogckoepioaadoor", sum := "43b03d2195a580d1ed99a008435d1364da3ae3aea4f90fd8cbaa334fa6b3fc4d", checked := Tryd.checked }
namespace Rows
def none {H : Type} : Left H := { results := [], args := [] }

/- WHAT THE LISTED PACKAGE-LEVEL VARIABLES READ AS WHEN THE CALL BEGINS. Each datum BY PROGRAM (the guide's laid-datum.mjs) off the statement by which the dump's own 'gosem.cut.vars' lays the variable. In a bare row this is a premise. The card (YtoflogckoepioaaDoorCards.lean) ties it to the program's text. -/
def laid_cardbox_cardboxref02_points {H : Type} : DataW H := .agg [.lit (.int .i64 34), .lit (.int .i64 92), .lit (.int .i64 47), .lit (.int .i64 8), .lit (.int .i64 12), .lit (.int .i64 10), .lit (.int .i64 13), .lit (.int .i64 9)]

/-- 'cardboxlaw05.ReadValues': WHATEVER THE INPUT: true; the input reads as it did. -/
def readValuesSpec : ChangeSpec := { name := "readValues", fn := fun _ => fun
  | [d] => { results := [.lit (.bool true)], args := [d] }
  | _ => none }
def readValuesRow : OpenClaim := { program := "ytoflogckoepioaadoor", sum := "43b03d2195a580d1ed99a008435d1364da3ae3aea4f90fd8cbaa334fa6b3fc4d", func := "cardbox/cardboxlaw05.ReadValues", spec := "readValues", unfollowed := true, recurses := true, named := ["cardbox/cardboxref02.points"], apart := false, laid := [("cardbox/cardboxref02.points", laid_cardbox_cardboxref02_points)] }
def ReadValuesSaid : Prop := readValuesRow.holds Tryd.pinned (OpenSpec.ofChange readValuesSpec)

/-- ITS FALSE NEIGHBOUR: 'it returns false'. Refute it at one input. -/
def readValuesWrong : ChangeSpec := { name := "readValues", fn := fun _ => fun
  | [d] => { results := [.lit (.bool false)], args := [d] }
  | _ => none }
def ReadValuesWrongFalsely : Prop := readValuesRow.holds Tryd.pinned (OpenSpec.ofChange readValuesWrong)

/-- 'cardboxlaw05.ReadKeeps': WHATEVER THE INPUT: true; the input reads as it did. -/
def readKeepsSpec : ChangeSpec := { name := "readKeeps", fn := fun _ => fun
  | [d] => { results := [.lit (.bool true)], args := [d] }
  | _ => none }
def readKeepsRow : OpenClaim := { program := "ytoflogckoepioaadoor", sum := "43b03d2195a580d1ed99a008435d1364da3ae3aea4f90fd8cbaa334fa6b3fc4d", func := "cardbox/cardboxlaw05.ReadKeeps", spec := "readKeeps", unfollowed := true, recurses := true, named := ["cardbox/cardboxref02.points"], apart := false, laid := [("cardbox/cardboxref02.points", laid_cardbox_cardboxref02_points)] }
def ReadKeepsSaid : Prop := readKeepsRow.holds Tryd.pinned (OpenSpec.ofChange readKeepsSpec)

/-- ITS FALSE NEIGHBOUR: 'it returns false'. Refute it at one input. -/
def readKeepsWrong : ChangeSpec := { name := "readKeeps", fn := fun _ => fun
  | [d] => { results := [.lit (.bool false)], args := [d] }
  | _ => none }
def ReadKeepsWrongFalsely : Prop := readKeepsRow.holds Tryd.pinned (OpenSpec.ofChange readKeepsWrong)

/- THE SECOND FORM. 'bulk': how many values and letters a reading holds, each counted each time it is reached (what is shared counts as often as it is met; a slice's spare places count too). A statement '..UptoSaid' is the law's where the arguments, and the package variables that the reading takes, are together of bulk at most 1048576: NARROWER than '..Said'. Prove '..Said' where nothing that the law and all that it calls make is longer than what came in: it says more and counts as full. Else prove '..UptoSaid'. A law counts once. -/
mutual
def uptoBulk {H : Type} : DataW H → Nat
  | .lit (.string bytes) => bytes.length + 1
  | .lit _ => 1
  | .nil => 1
  | .ptr d => uptoBulk d + 1
  | .slice elems spare => uptoBulkAll elems + uptoBulkAll spare + 1
  | .agg parts => uptoBulkAll parts + 1
  | .iface _ d => uptoBulk d + 1
  | .map entries => uptoBulkEntries entries + 1
  | .held _ => 1
def uptoBulkAll {H : Type} : List (DataW H) → Nat
  | [] => 0
  | d :: r => uptoBulk d + uptoBulkAll r
def uptoBulkEntries {H : Type} : List (Lit × DataW H) → Nat
  | [] => 0
  | x :: r => uptoBulkEntry x + uptoBulkEntries r
def uptoBulkEntry {H : Type} : Lit × DataW H → Nat
  | (.string bytes, d) => bytes.length + uptoBulk d + 1
  | (_, d) => uptoBulk d + 1
 end
def uptoSmall : (H : Type) → List (DataW H) → Bool := fun _ ds => decide (uptoBulkAll ds ≤ 1048576)
def OpenSpec.upto (s : _root_.Go.ChangeSpec) : _root_.Go.OpenSpec := { _root_.Go.OpenSpec.ofChange s with cond := some uptoSmall }

/-- 'cardboxlaw05.ReadValues', WHERE WHAT IT READS IS OF BULK AT MOST 1048576: true; the input reads as it did. -/
def readValuesUptoRow : OpenClaim := { program := "ytoflogckoepioaadoor", sum := "43b03d2195a580d1ed99a008435d1364da3ae3aea4f90fd8cbaa334fa6b3fc4d", func := "cardbox/cardboxlaw05.ReadValues", spec := "readValues", unfollowed := true, recurses := true, named := ["cardbox/cardboxref02.points"], apart := false, laid := [("cardbox/cardboxref02.points", laid_cardbox_cardboxref02_points)], narrowed := true }
def ReadValuesUptoSaid : Prop := readValuesUptoRow.holds Tryd.pinned (OpenSpec.upto readValuesSpec)

/-- 'cardboxlaw05.ReadKeeps', WHERE WHAT IT READS IS OF BULK AT MOST 1048576: true; the input reads as it did. -/
def readKeepsUptoRow : OpenClaim := { program := "ytoflogckoepioaadoor", sum := "43b03d2195a580d1ed99a008435d1364da3ae3aea4f90fd8cbaa334fa6b3fc4d", func := "cardbox/cardboxlaw05.ReadKeeps", spec := "readKeeps", unfollowed := true, recurses := true, named := ["cardbox/cardboxref02.points"], apart := false, laid := [("cardbox/cardboxref02.points", laid_cardbox_cardboxref02_points)], narrowed := true }
def ReadKeepsUptoSaid : Prop := readKeepsUptoRow.holds Tryd.pinned (OpenSpec.upto readKeepsSpec)

end Rows
end Go.Proofs.YtoflogckoepioaaDoor
