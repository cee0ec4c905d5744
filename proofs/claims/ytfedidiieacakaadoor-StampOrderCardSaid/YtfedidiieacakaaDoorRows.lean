/-
  NARROWER THAN 'FOR EVERY INPUT', by the rows' own cells (each row's printed sentence says how): StampReads: laid · StampDays: laid · StampMakes: laid · StampCompares: laid · StampOrder: laid · StampBack: laid.
  DERIVED. THE GIVEN ROWS OF THIS SEAT. 6 by the template 'for every input the law returns true; each argument reads behind the call as it read before'; 0 by the template 'total and deterministic' (their statements: YtfedidiieacakaaDoorTotals.lean).
  GIVEN WITH THE SEED: the statements are not yours to turn. If you find one false, say at which input.
  Laid BY PROGRAM, IN A SANDBOX (cutbox-rows.mjs): the forced cells as the released guide's own fill.sh prints them over the translation b3d4b20a82ace04c… (all of the seat's roots in one cut). By AI agents, Wed Nov 11 2026. No macro, syntax, notation, axiom, sorry.
-/
import Derived.Test.YtfedidiieacakaaDoorChecked
import GoSem.Claim
import GoSem.ClaimJoined
import GoSem.ClaimMapViews
import Derived.JoinedTies
import Derived.KernelRfl
namespace Go.Proofs.YtfedidiieacakaaDoor
/- THE CELL 'sum', in the pinned program and in every row, IS THE sha256 OF THE DUMP (.gsa) THAT YtfedidiieacakaaDoorProg.lean LOADS. Nothing in Lean hashes anything: it is a label: what it is worth is what the hold of that sum in a sandbox is worth. -/
noncomputable def Tryd.pinned : Pinned := { name := "ytfedidiieacakaadoor", sum := "b3d4b20a82ace04c6fd42031f35edf6c618e33d24f229ef7306739472c1926c8", checked := Tryd.checked }
namespace Rows
def none {H : Type} : Left H := { results := [], args := [] }

/- WHAT THE LISTED PACKAGE-LEVEL VARIABLES READ AS WHEN THE CALL BEGINS. Each datum BY PROGRAM (the guide's laid-datum.mjs) off the statement by which the dump's own 'gosem.cut.vars' lays the variable. In a bare row this is a premise. The card (YtfedidiieacakaaDoorCards.lean) ties it to the program's text. -/
def laid_cardbox_stamp_places {H : Type} : DataW H := .agg [.agg [.lit (.int .i64 0), .lit (.int .i64 4)], .agg [.lit (.int .i64 5), .lit (.int .i64 7)], .agg [.lit (.int .i64 8), .lit (.int .i64 10)], .agg [.lit (.int .i64 11), .lit (.int .i64 13)], .agg [.lit (.int .i64 14), .lit (.int .i64 16)], .agg [.lit (.int .i64 17), .lit (.int .i64 19)]]
def laid_cardbox_stamp_monthDays {H : Type} : DataW H := .agg [.lit (.int .i64 31), .lit (.int .i64 28), .lit (.int .i64 31), .lit (.int .i64 30), .lit (.int .i64 31), .lit (.int .i64 30), .lit (.int .i64 31), .lit (.int .i64 31), .lit (.int .i64 30), .lit (.int .i64 31), .lit (.int .i64 30), .lit (.int .i64 31)]

/-- 'cardboxlaw11.StampReads': WHATEVER THE INPUT: true; the input reads as it did. -/
def stampReadsSpec : ChangeSpec := { name := "stampReads", fn := fun _ => fun
  | [d] => { results := [.lit (.bool true)], args := [d] }
  | _ => none }
def stampReadsRow : OpenClaim := { program := "ytfedidiieacakaadoor", sum := "b3d4b20a82ace04c6fd42031f35edf6c618e33d24f229ef7306739472c1926c8", func := "cardbox/cardboxlaw11.StampReads", spec := "stampReads", inPlace := ["internal/bytealg.abigen_runtime_cmpstring"], named := ["cardbox/stamp.places", "cardbox/stamp.monthDays"], apart := false, laid := [("cardbox/stamp.places", laid_cardbox_stamp_places), ("cardbox/stamp.monthDays", laid_cardbox_stamp_monthDays)] }
def StampReadsSaid : Prop := stampReadsRow.holds Tryd.pinned (OpenSpec.ofChange stampReadsSpec)

/-- ITS FALSE NEIGHBOUR: 'it returns false'. Refute it at one input. -/
def stampReadsWrong : ChangeSpec := { name := "stampReads", fn := fun _ => fun
  | [d] => { results := [.lit (.bool false)], args := [d] }
  | _ => none }
def StampReadsWrongFalsely : Prop := stampReadsRow.holds Tryd.pinned (OpenSpec.ofChange stampReadsWrong)

/-- 'cardboxlaw11.StampDays': WHATEVER THE INPUT: true; the input reads as it did. -/
def stampDaysSpec : ChangeSpec := { name := "stampDays", fn := fun _ => fun
  | [d1, d2, d3] => { results := [.lit (.bool true)], args := [d1, d2, d3] }
  | _ => none }
def stampDaysRow : OpenClaim := { program := "ytfedidiieacakaadoor", sum := "b3d4b20a82ace04c6fd42031f35edf6c618e33d24f229ef7306739472c1926c8", func := "cardbox/cardboxlaw11.StampDays", spec := "stampDays", inPlace := ["internal/bytealg.abigen_runtime_cmpstring"], named := ["cardbox/stamp.monthDays", "cardbox/stamp.places"], apart := false, laid := [("cardbox/stamp.places", laid_cardbox_stamp_places), ("cardbox/stamp.monthDays", laid_cardbox_stamp_monthDays)] }
def StampDaysSaid : Prop := stampDaysRow.holds Tryd.pinned (OpenSpec.ofChange stampDaysSpec)

/-- ITS FALSE NEIGHBOUR: 'it returns false'. Refute it at one input. -/
def stampDaysWrong : ChangeSpec := { name := "stampDays", fn := fun _ => fun
  | [d1, d2, d3] => { results := [.lit (.bool false)], args := [d1, d2, d3] }
  | _ => none }
def StampDaysWrongFalsely : Prop := stampDaysRow.holds Tryd.pinned (OpenSpec.ofChange stampDaysWrong)

/-- 'cardboxlaw11.StampMakes': WHATEVER THE INPUT: true; the input reads as it did. -/
def stampMakesSpec : ChangeSpec := { name := "stampMakes", fn := fun _ => fun
  | [d] => { results := [.lit (.bool true)], args := [d] }
  | _ => none }
def stampMakesRow : OpenClaim := { program := "ytfedidiieacakaadoor", sum := "b3d4b20a82ace04c6fd42031f35edf6c618e33d24f229ef7306739472c1926c8", func := "cardbox/cardboxlaw11.StampMakes", spec := "stampMakes", inPlace := ["internal/bytealg.abigen_runtime_cmpstring"], named := ["cardbox/stamp.places", "cardbox/stamp.monthDays"], apart := false, laid := [("cardbox/stamp.places", laid_cardbox_stamp_places), ("cardbox/stamp.monthDays", laid_cardbox_stamp_monthDays)] }
def StampMakesSaid : Prop := stampMakesRow.holds Tryd.pinned (OpenSpec.ofChange stampMakesSpec)

/-- ITS FALSE NEIGHBOUR: 'it returns false'. Refute it at one input. -/
def stampMakesWrong : ChangeSpec := { name := "stampMakes", fn := fun _ => fun
  | [d] => { results := [.lit (.bool false)], args := [d] }
  | _ => none }
def StampMakesWrongFalsely : Prop := stampMakesRow.holds Tryd.pinned (OpenSpec.ofChange stampMakesWrong)

/-- 'cardboxlaw11.StampCompares': WHATEVER THE INPUT: true; the input reads as it did. -/
def stampComparesSpec : ChangeSpec := { name := "stampCompares", fn := fun _ => fun
  | [d1, d2] => { results := [.lit (.bool true)], args := [d1, d2] }
  | _ => none }
def stampComparesRow : OpenClaim := { program := "ytfedidiieacakaadoor", sum := "b3d4b20a82ace04c6fd42031f35edf6c618e33d24f229ef7306739472c1926c8", func := "cardbox/cardboxlaw11.StampCompares", spec := "stampCompares", inPlace := ["internal/bytealg.abigen_runtime_cmpstring"], named := ["cardbox/stamp.places", "cardbox/stamp.monthDays"], apart := false, laid := [("cardbox/stamp.places", laid_cardbox_stamp_places), ("cardbox/stamp.monthDays", laid_cardbox_stamp_monthDays)] }
def StampComparesSaid : Prop := stampComparesRow.holds Tryd.pinned (OpenSpec.ofChange stampComparesSpec)

/-- ITS FALSE NEIGHBOUR: 'it returns false'. Refute it at one input. -/
def stampComparesWrong : ChangeSpec := { name := "stampCompares", fn := fun _ => fun
  | [d1, d2] => { results := [.lit (.bool false)], args := [d1, d2] }
  | _ => none }
def StampComparesWrongFalsely : Prop := stampComparesRow.holds Tryd.pinned (OpenSpec.ofChange stampComparesWrong)

/-- 'cardboxlaw11.StampOrder': WHATEVER THE INPUT: true; the input reads as it did. -/
def stampOrderSpec : ChangeSpec := { name := "stampOrder", fn := fun _ => fun
  | [d1, d2] => { results := [.lit (.bool true)], args := [d1, d2] }
  | _ => none }
def stampOrderRow : OpenClaim := { program := "ytfedidiieacakaadoor", sum := "b3d4b20a82ace04c6fd42031f35edf6c618e33d24f229ef7306739472c1926c8", func := "cardbox/cardboxlaw11.StampOrder", spec := "stampOrder", inPlace := ["internal/bytealg.abigen_runtime_cmpstring"], named := ["cardbox/stamp.places", "cardbox/stamp.monthDays"], apart := false, laid := [("cardbox/stamp.places", laid_cardbox_stamp_places), ("cardbox/stamp.monthDays", laid_cardbox_stamp_monthDays)] }
def StampOrderSaid : Prop := stampOrderRow.holds Tryd.pinned (OpenSpec.ofChange stampOrderSpec)

/-- ITS FALSE NEIGHBOUR: 'it returns false'. Refute it at one input. -/
def stampOrderWrong : ChangeSpec := { name := "stampOrder", fn := fun _ => fun
  | [d1, d2] => { results := [.lit (.bool false)], args := [d1, d2] }
  | _ => none }
def StampOrderWrongFalsely : Prop := stampOrderRow.holds Tryd.pinned (OpenSpec.ofChange stampOrderWrong)

/-- 'cardboxlaw11.StampBack': WHATEVER THE INPUT: true; the input reads as it did. -/
def stampBackSpec : ChangeSpec := { name := "stampBack", fn := fun _ => fun
  | [d1, d2] => { results := [.lit (.bool true)], args := [d1, d2] }
  | _ => none }
def stampBackRow : OpenClaim := { program := "ytfedidiieacakaadoor", sum := "b3d4b20a82ace04c6fd42031f35edf6c618e33d24f229ef7306739472c1926c8", func := "cardbox/cardboxlaw11.StampBack", spec := "stampBack", inPlace := ["internal/bytealg.abigen_runtime_cmpstring"], named := ["cardbox/stamp.places", "cardbox/stamp.monthDays"], apart := false, laid := [("cardbox/stamp.places", laid_cardbox_stamp_places), ("cardbox/stamp.monthDays", laid_cardbox_stamp_monthDays)] }
def StampBackSaid : Prop := stampBackRow.holds Tryd.pinned (OpenSpec.ofChange stampBackSpec)

/-- ITS FALSE NEIGHBOUR: 'it returns false'. Refute it at one input. -/
def stampBackWrong : ChangeSpec := { name := "stampBack", fn := fun _ => fun
  | [d1, d2] => { results := [.lit (.bool false)], args := [d1, d2] }
  | _ => none }
def StampBackWrongFalsely : Prop := stampBackRow.holds Tryd.pinned (OpenSpec.ofChange stampBackWrong)

/- THE SECOND FORM. 'bulk': how many values and letters a reading holds, each counted each time it is reached (what is shared counts as often as it is met; a slice's spare places count too). A statement '..UptoSaid' is the law's where the arguments, and the package variables that the reading takes, are together of bulk at most 1048576: NARROWER than '..Said'. Prove '..Said' where nothing that the law and all that it calls make is longer than what came in: it says more and counts as full. Else prove '..UptoSaid'. A law counts once. -/
mutual
def uptoBulk {H : Type} : DataW H → Nat
  | .lit (.string bytes) => bytes.length + 1
  | .lit _ => 1
  | .nil => 1
  | .ptr d => uptoBulk d + 1
  | .slice elems spare => uptoBulkAll elems + uptoBulkAll spare + 1
  | .agg parts => uptoBulkAll parts + 1
  | .iface _ d => uptoBulk d + 1
  | .map entries => uptoBulkEntries entries + 1
  | .held _ => 1
def uptoBulkAll {H : Type} : List (DataW H) → Nat
  | [] => 0
  | d :: r => uptoBulk d + uptoBulkAll r
def uptoBulkEntries {H : Type} : List (Lit × DataW H) → Nat
  | [] => 0
  | x :: r => uptoBulkEntry x + uptoBulkEntries r
def uptoBulkEntry {H : Type} : Lit × DataW H → Nat
  | (.string bytes, d) => bytes.length + uptoBulk d + 1
  | (_, d) => uptoBulk d + 1
 end
def uptoSmall : (H : Type) → List (DataW H) → Bool := fun _ ds => decide (uptoBulkAll ds ≤ 1048576)
def OpenSpec.upto (s : _root_.Go.ChangeSpec) : _root_.Go.OpenSpec := { _root_.Go.OpenSpec.ofChange s with cond := some uptoSmall }

/-- 'cardboxlaw11.StampReads', WHERE WHAT IT READS IS OF BULK AT MOST 1048576: true; the input reads as it did. -/
def stampReadsUptoRow : OpenClaim := { program := "ytfedidiieacakaadoor", sum := "b3d4b20a82ace04c6fd42031f35edf6c618e33d24f229ef7306739472c1926c8", func := "cardbox/cardboxlaw11.StampReads", spec := "stampReads", inPlace := ["internal/bytealg.abigen_runtime_cmpstring"], named := ["cardbox/stamp.places", "cardbox/stamp.monthDays"], apart := false, laid := [("cardbox/stamp.places", laid_cardbox_stamp_places), ("cardbox/stamp.monthDays", laid_cardbox_stamp_monthDays)], narrowed := true }
def StampReadsUptoSaid : Prop := stampReadsUptoRow.holds Tryd.pinned (OpenSpec.upto stampReadsSpec)

/-- 'cardboxlaw11.StampDays', WHERE WHAT IT READS IS OF BULK AT MOST 1048576: true; the input reads as it did. -/
def stampDaysUptoRow : OpenClaim := { program := "ytfedidiieacakaadoor", sum := "b3d4b20a82ace04c6fd42031f35edf6c618e33d24f229ef7306739472c1926c8", func := "cardbox/cardboxlaw11.StampDays", spec := "stampDays", inPlace := ["internal/bytealg.abigen_runtime_cmpstring"], named := ["cardbox/stamp.monthDays", "cardbox/stamp.places"], apart := false, laid := [("cardbox/stamp.places", laid_cardbox_stamp_places), ("cardbox/stamp.monthDays", laid_cardbox_stamp_monthDays)], narrowed := true }
def StampDaysUptoSaid : Prop := stampDaysUptoRow.holds Tryd.pinned (OpenSpec.upto stampDaysSpec)

/-- 'cardboxlaw11.StampMakes', WHERE WHAT IT READS IS OF BULK AT MOST 1048576: true; the input reads as it did. -/
def stampMakesUptoRow : OpenClaim := { program := "ytfedidiieacakaadoor", sum := "b3d4b20a82ace04c6fd42031f35edf6c618e33d24f229ef7306739472c1926c8", func := "cardbox/cardboxlaw11.StampMakes", spec := "stampMakes", inPlace := ["internal/bytealg.abigen_runtime_cmpstring"], named := ["cardbox/stamp.places", "cardbox/stamp.monthDays"], apart := false, laid := [("cardbox/stamp.places", laid_cardbox_stamp_places), ("cardbox/stamp.monthDays", laid_cardbox_stamp_monthDays)], narrowed := true }
def StampMakesUptoSaid : Prop := stampMakesUptoRow.holds Tryd.pinned (OpenSpec.upto stampMakesSpec)

/-- 'cardboxlaw11.StampCompares', WHERE WHAT IT READS IS OF BULK AT MOST 1048576: true; the input reads as it did. -/
def stampComparesUptoRow : OpenClaim := { program := "ytfedidiieacakaadoor", sum := "b3d4b20a82ace04c6fd42031f35edf6c618e33d24f229ef7306739472c1926c8", func := "cardbox/cardboxlaw11.StampCompares", spec := "stampCompares", inPlace := ["internal/bytealg.abigen_runtime_cmpstring"], named := ["cardbox/stamp.places", "cardbox/stamp.monthDays"], apart := false, laid := [("cardbox/stamp.places", laid_cardbox_stamp_places), ("cardbox/stamp.monthDays", laid_cardbox_stamp_monthDays)], narrowed := true }
def StampComparesUptoSaid : Prop := stampComparesUptoRow.holds Tryd.pinned (OpenSpec.upto stampComparesSpec)

/-- 'cardboxlaw11.StampOrder', WHERE WHAT IT READS IS OF BULK AT MOST 1048576: true; the input reads as it did. -/
def stampOrderUptoRow : OpenClaim := { program := "ytfedidiieacakaadoor", sum := "b3d4b20a82ace04c6fd42031f35edf6c618e33d24f229ef7306739472c1926c8", func := "cardbox/cardboxlaw11.StampOrder", spec := "stampOrder", inPlace := ["internal/bytealg.abigen_runtime_cmpstring"], named := ["cardbox/stamp.places", "cardbox/stamp.monthDays"], apart := false, laid := [("cardbox/stamp.places", laid_cardbox_stamp_places), ("cardbox/stamp.monthDays", laid_cardbox_stamp_monthDays)], narrowed := true }
def StampOrderUptoSaid : Prop := stampOrderUptoRow.holds Tryd.pinned (OpenSpec.upto stampOrderSpec)

/-- 'cardboxlaw11.StampBack', WHERE WHAT IT READS IS OF BULK AT MOST 1048576: true; the input reads as it did. -/
def stampBackUptoRow : OpenClaim := { program := "ytfedidiieacakaadoor", sum := "b3d4b20a82ace04c6fd42031f35edf6c618e33d24f229ef7306739472c1926c8", func := "cardbox/cardboxlaw11.StampBack", spec := "stampBack", inPlace := ["internal/bytealg.abigen_runtime_cmpstring"], named := ["cardbox/stamp.places", "cardbox/stamp.monthDays"], apart := false, laid := [("cardbox/stamp.places", laid_cardbox_stamp_places), ("cardbox/stamp.monthDays", laid_cardbox_stamp_monthDays)], narrowed := true }
def StampBackUptoSaid : Prop := stampBackUptoRow.holds Tryd.pinned (OpenSpec.upto stampBackSpec)

end Rows
end Go.Proofs.YtfedidiieacakaaDoor
