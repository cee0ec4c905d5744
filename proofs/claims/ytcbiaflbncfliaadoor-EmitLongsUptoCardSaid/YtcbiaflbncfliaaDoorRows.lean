/-
  NARROWER THAN 'FOR EVERY INPUT', by the rows' own cells (each row's printed sentence says how): EmitLongs: loops, laid · EmitKeeps: loops, laid.
  DERIVED. THE GIVEN ROWS OF THIS SEAT. 2 by the template 'for every input the law returns true; each argument reads behind the call as it read before'; 0 by the template 'total and deterministic' (their statements: YtcbiaflbncfliaaDoorTotals.lean).
  GIVEN WITH THE SEED: the statements are not yours to turn. If you find one false, say at which input.
  Laid BY PROGRAM, IN A SANDBOX (cutbox-rows.mjs): the forced cells as the released guide's own fill.sh prints them over the translation 19b0211dc1df4b1d… (all of the seat's roots in one cut). By AI agents, Wed Nov 11 2026. No macro, syntax, notation, axiom, sorry.
-/
import Derived.Test.YtcbiaflbncfliaaDoorChecked
import GoSem.Claim
import GoSem.ClaimJoined
import GoSem.ClaimMapViews
import Derived.JoinedTies
import Derived.KernelRfl
namespace Go.Proofs.YtcbiaflbncfliaaDoor
/- THE CELL 'sum', in the pinned program and in every row, IS THE sha256 OF THE DUMP (.gsa) THAT YtcbiaflbncfliaaDoorProg.lean LOADS. Nothing in Lean hashes anything: it is a label: what it is worth is what the hold of that sum in a sandbox is worth. -/
noncomputable def Tryd.pinned : Pinned := { name := "ytcbiaflbncfliaadoor", sum := "19b0211dc1df4b1d2c7441ccb1f62d9ae5e0189dd25f780efd6723da9e562a0f", checked := Tryd.checked }
namespace Rows
def none {H : Type} : Left H := { results := [], args := [] }

/- WHAT THE LISTED PACKAGE-LEVEL VARIABLES READ AS WHEN THE CALL BEGINS. Each datum BY PROGRAM (the guide's laid-datum.mjs) off the statement by which the dump's own 'gosem.cut.vars' lays the variable. In a bare row this is a premise. The card (YtcbiaflbncfliaaDoorCards.lean) ties it to the program's text. -/
def laid_cardbox_cardboxref02_points {H : Type} : DataW H := .agg [.lit (.int .i64 34), .lit (.int .i64 92), .lit (.int .i64 47), .lit (.int .i64 8), .lit (.int .i64 12), .lit (.int .i64 10), .lit (.int .i64 13), .lit (.int .i64 9)]

/-- 'cardboxlaw06.EmitLongs': WHATEVER THE INPUT: true; the input reads as it did. -/
def emitLongsSpec : ChangeSpec := { name := "emitLongs", fn := fun _ => fun
  | [d1, d2] => { results := [.lit (.bool true)], args := [d1, d2] }
  | _ => none }
def emitLongsRow : OpenClaim := { program := "ytcbiaflbncfliaadoor", sum := "19b0211dc1df4b1d2c7441ccb1f62d9ae5e0189dd25f780efd6723da9e562a0f", func := "cardbox/cardboxlaw06.EmitLongs", spec := "emitLongs", recurses := true, named := ["cardbox/cardboxref02.points"], loops := true, apart := false, laid := [("cardbox/cardboxref02.points", laid_cardbox_cardboxref02_points)] }
def EmitLongsSaid : Prop := emitLongsRow.holds Tryd.pinned (OpenSpec.ofChange emitLongsSpec)

/-- ITS FALSE NEIGHBOUR: 'it returns false'. Refute it at one input. -/
def emitLongsWrong : ChangeSpec := { name := "emitLongs", fn := fun _ => fun
  | [d1, d2] => { results := [.lit (.bool false)], args := [d1, d2] }
  | _ => none }
def EmitLongsWrongFalsely : Prop := emitLongsRow.holds Tryd.pinned (OpenSpec.ofChange emitLongsWrong)

/-- 'cardboxlaw06.EmitKeeps': WHATEVER THE INPUT: true; the input reads as it did. -/
def emitKeepsSpec : ChangeSpec := { name := "emitKeeps", fn := fun _ => fun
  | [d] => { results := [.lit (.bool true)], args := [d] }
  | _ => none }
def emitKeepsRow : OpenClaim := { program := "ytcbiaflbncfliaadoor", sum := "19b0211dc1df4b1d2c7441ccb1f62d9ae5e0189dd25f780efd6723da9e562a0f", func := "cardbox/cardboxlaw06.EmitKeeps", spec := "emitKeeps", recurses := true, named := ["cardbox/cardboxref02.points"], loops := true, apart := false, laid := [("cardbox/cardboxref02.points", laid_cardbox_cardboxref02_points)] }
def EmitKeepsSaid : Prop := emitKeepsRow.holds Tryd.pinned (OpenSpec.ofChange emitKeepsSpec)

/-- ITS FALSE NEIGHBOUR: 'it returns false'. Refute it at one input. -/
def emitKeepsWrong : ChangeSpec := { name := "emitKeeps", fn := fun _ => fun
  | [d] => { results := [.lit (.bool false)], args := [d] }
  | _ => none }
def EmitKeepsWrongFalsely : Prop := emitKeepsRow.holds Tryd.pinned (OpenSpec.ofChange emitKeepsWrong)

/- THE SECOND FORM. 'bulk': how many values and letters a reading holds, each counted each time it is reached (what is shared counts as often as it is met; a slice's spare places count too). A statement '..UptoSaid' is the law's where the arguments, and the package variables that the reading takes, are together of bulk at most 1048576: NARROWER than '..Said'. Prove '..Said' where nothing that the law and all that it calls make is longer than what came in: it says more and counts as full. Else prove '..UptoSaid'. A law counts once. -/
mutual
def uptoBulk {H : Type} : DataW H → Nat
  | .lit (.string bytes) => bytes.length + 1
  | .lit _ => 1
  | .nil => 1
  | .ptr d => uptoBulk d + 1
  | .slice elems spare => uptoBulkAll elems + uptoBulkAll spare + 1
  | .agg parts => uptoBulkAll parts + 1
  | .iface _ d => uptoBulk d + 1
  | .map entries => uptoBulkEntries entries + 1
  | .held _ => 1
def uptoBulkAll {H : Type} : List (DataW H) → Nat
  | [] => 0
  | d :: r => uptoBulk d + uptoBulkAll r
def uptoBulkEntries {H : Type} : List (Lit × DataW H) → Nat
  | [] => 0
  | x :: r => uptoBulkEntry x + uptoBulkEntries r
def uptoBulkEntry {H : Type} : Lit × DataW H → Nat
  | (.string bytes, d) => bytes.length + uptoBulk d + 1
  | (_, d) => uptoBulk d + 1
 end
def uptoSmall : (H : Type) → List (DataW H) → Bool := fun _ ds => decide (uptoBulkAll ds ≤ 1048576)
def OpenSpec.upto (s : _root_.Go.ChangeSpec) : _root_.Go.OpenSpec := { _root_.Go.OpenSpec.ofChange s with cond := some uptoSmall }

/-- 'cardboxlaw06.EmitLongs', WHERE WHAT IT READS IS OF BULK AT MOST 1048576: true; the input reads as it did. -/
def emitLongsUptoRow : OpenClaim := { program := "ytcbiaflbncfliaadoor", sum := "19b0211dc1df4b1d2c7441ccb1f62d9ae5e0189dd25f780efd6723da9e562a0f", func := "cardbox/cardboxlaw06.EmitLongs", spec := "emitLongs", recurses := true, named := ["cardbox/cardboxref02.points"], loops := true, apart := false, laid := [("cardbox/cardboxref02.points", laid_cardbox_cardboxref02_points)], narrowed := true }
def EmitLongsUptoSaid : Prop := emitLongsUptoRow.holds Tryd.pinned (OpenSpec.upto emitLongsSpec)

/-- 'cardboxlaw06.EmitKeeps', WHERE WHAT IT READS IS OF BULK AT MOST 1048576: true; the input reads as it did. -/
def emitKeepsUptoRow : OpenClaim := { program := "ytcbiaflbncfliaadoor", sum := "19b0211dc1df4b1d2c7441ccb1f62d9ae5e0189dd25f780efd6723da9e562a0f", func := "cardbox/cardboxlaw06.EmitKeeps", spec := "emitKeeps", recurses := true, named := ["cardbox/cardboxref02.points"], loops := true, apart := false, laid := [("cardbox/cardboxref02.points", laid_cardbox_cardboxref02_points)], narrowed := true }
def EmitKeepsUptoSaid : Prop := emitKeepsUptoRow.holds Tryd.pinned (OpenSpec.upto emitKeepsSpec)

end Rows
end Go.Proofs.YtcbiaflbncfliaaDoor
