/-
  No cell of these rows narrows 'for every input' (looked for: loops, veiled, ifaces, maps, wideKeys, modest, calm, conditions, laid).
  DERIVED. THE GIVEN ROWS OF THIS SEAT. 4 by the template 'for every input the law returns true; each argument reads behind the call as it read before'; 0 by the template 'total and deterministic' (their statements: YtoflogckoepioaaTotals.lean).
  GIVEN WITH THE SEED: the statements are not yours to turn. If you find one false, say at which input.
  Laid BY PROGRAM, IN A SANDBOX (cutbox-rows.mjs): the forced cells as the released guide's own fill.sh prints them over the translation 344e270ae12f3da9… (all of the seat's roots in one cut). By AI agents, Wed Nov 11 2026. No macro, syntax, notation, axiom, sorry.
-/
import Derived.Test.YtoflogckoepioaaChecked
import GoSem.Claim
import GoSem.ClaimJoined
import GoSem.ClaimMapViews
import Derived.JoinedTies
import Derived.KernelRfl
namespace Go.Proofs.Ytoflogckoepioaa
/- THE CELL 'sum', in the pinned program and in every row, IS THE sha256 OF THE DUMP (.gsa) THAT YtoflogckoepioaaProg.lean LOADS. Nothing in Lean hashes anything: it is a label: what it is worth is what the hold of that sum in a sandbox is worth. -/
noncomputable def Try.pinned : Pinned := { name := "ytoflogckoepioaa", sum := "344e270ae12f3da91bb834f5def79cb6bc982f15bca3cadcc9a4c738934b0ff5", checked := Try.checked }
namespace Rows
def none {H : Type} : Left H := { results := [], args := [] }

/-- 'cardboxlaw05.ReadSorts': WHATEVER THE INPUT: true; the input reads as it did. -/
def readSortsSpec : ChangeSpec := { name := "readSorts", fn := fun _ => fun
  | [d] => { results := [.lit (.bool true)], args := [d] }
  | _ => none }
def readSortsRow : OpenClaim := { program := "ytoflogckoepioaa", sum := "344e270ae12f3da91bb834f5def79cb6bc982f15bca3cadcc9a4c738934b0ff5", func := "cardbox/cardboxlaw05.ReadSorts", spec := "readSorts", unfollowed := true, recurses := true, apart := false }
def ReadSortsSaid : Prop := readSortsRow.holds Try.pinned (OpenSpec.ofChange readSortsSpec)

/-- ITS FALSE NEIGHBOUR: 'it returns false'. Refute it at one input. -/
def readSortsWrong : ChangeSpec := { name := "readSorts", fn := fun _ => fun
  | [d] => { results := [.lit (.bool false)], args := [d] }
  | _ => none }
def ReadSortsWrongFalsely : Prop := readSortsRow.holds Try.pinned (OpenSpec.ofChange readSortsWrong)

/-- 'cardboxlaw05.ReadWhite': WHATEVER THE INPUT: true; the input reads as it did. -/
def readWhiteSpec : ChangeSpec := { name := "readWhite", fn := fun _ => fun
  | [d1, d2] => { results := [.lit (.bool true)], args := [d1, d2] }
  | _ => none }
def readWhiteRow : OpenClaim := { program := "ytoflogckoepioaa", sum := "344e270ae12f3da91bb834f5def79cb6bc982f15bca3cadcc9a4c738934b0ff5", func := "cardbox/cardboxlaw05.ReadWhite", spec := "readWhite", unfollowed := true, recurses := true, apart := false }
def ReadWhiteSaid : Prop := readWhiteRow.holds Try.pinned (OpenSpec.ofChange readWhiteSpec)

/-- ITS FALSE NEIGHBOUR: 'it returns false'. Refute it at one input. -/
def readWhiteWrong : ChangeSpec := { name := "readWhite", fn := fun _ => fun
  | [d1, d2] => { results := [.lit (.bool false)], args := [d1, d2] }
  | _ => none }
def ReadWhiteWrongFalsely : Prop := readWhiteRow.holds Try.pinned (OpenSpec.ofChange readWhiteWrong)

/-- 'cardboxlaw05.ReadWrapped': WHATEVER THE INPUT: true; the input reads as it did. -/
def readWrappedSpec : ChangeSpec := { name := "readWrapped", fn := fun _ => fun
  | [d] => { results := [.lit (.bool true)], args := [d] }
  | _ => none }
def readWrappedRow : OpenClaim := { program := "ytoflogckoepioaa", sum := "344e270ae12f3da91bb834f5def79cb6bc982f15bca3cadcc9a4c738934b0ff5", func := "cardbox/cardboxlaw05.ReadWrapped", spec := "readWrapped", unfollowed := true, recurses := true, apart := false }
def ReadWrappedSaid : Prop := readWrappedRow.holds Try.pinned (OpenSpec.ofChange readWrappedSpec)

/-- ITS FALSE NEIGHBOUR: 'it returns false'. Refute it at one input. -/
def readWrappedWrong : ChangeSpec := { name := "readWrapped", fn := fun _ => fun
  | [d] => { results := [.lit (.bool false)], args := [d] }
  | _ => none }
def ReadWrappedWrongFalsely : Prop := readWrappedRow.holds Try.pinned (OpenSpec.ofChange readWrappedWrong)

/-- 'cardboxlaw05.ReadDeep': WHATEVER THE INPUT: true; the input reads as it did. -/
def readDeepSpec : ChangeSpec := { name := "readDeep", fn := fun _ => fun
  | [d] => { results := [.lit (.bool true)], args := [d] }
  | _ => none }
def readDeepRow : OpenClaim := { program := "ytoflogckoepioaa", sum := "344e270ae12f3da91bb834f5def79cb6bc982f15bca3cadcc9a4c738934b0ff5", func := "cardbox/cardboxlaw05.ReadDeep", spec := "readDeep", unfollowed := true, recurses := true, apart := false }
def ReadDeepSaid : Prop := readDeepRow.holds Try.pinned (OpenSpec.ofChange readDeepSpec)

/-- ITS FALSE NEIGHBOUR: 'it returns false'. Refute it at one input. -/
def readDeepWrong : ChangeSpec := { name := "readDeep", fn := fun _ => fun
  | [d] => { results := [.lit (.bool false)], args := [d] }
  | _ => none }
def ReadDeepWrongFalsely : Prop := readDeepRow.holds Try.pinned (OpenSpec.ofChange readDeepWrong)

/- THE SECOND FORM. 'bulk': how many values and letters a reading holds, each counted each time it is reached (what is shared counts as often as it is met; a slice's spare places count too). A statement '..UptoSaid' is the law's where the arguments, and the package variables that the reading takes, are together of bulk at most 1048576: NARROWER than '..Said'. Prove '..Said' where nothing that the law and all that it calls make is longer than what came in: it says more and counts as full. Else prove '..UptoSaid'. A law counts once. -/
mutual
def uptoBulk {H : Type} : DataW H → Nat
  | .lit (.string bytes) => bytes.length + 1
  | .lit _ => 1
  | .nil => 1
  | .ptr d => uptoBulk d + 1
  | .slice elems spare => uptoBulkAll elems + uptoBulkAll spare + 1
  | .agg parts => uptoBulkAll parts + 1
  | .iface _ d => uptoBulk d + 1
  | .map entries => uptoBulkEntries entries + 1
  | .held _ => 1
def uptoBulkAll {H : Type} : List (DataW H) → Nat
  | [] => 0
  | d :: r => uptoBulk d + uptoBulkAll r
def uptoBulkEntries {H : Type} : List (Lit × DataW H) → Nat
  | [] => 0
  | x :: r => uptoBulkEntry x + uptoBulkEntries r
def uptoBulkEntry {H : Type} : Lit × DataW H → Nat
  | (.string bytes, d) => bytes.length + uptoBulk d + 1
  | (_, d) => uptoBulk d + 1
 end
def uptoSmall : (H : Type) → List (DataW H) → Bool := fun _ ds => decide (uptoBulkAll ds ≤ 1048576)
def OpenSpec.upto (s : _root_.Go.ChangeSpec) : _root_.Go.OpenSpec := { _root_.Go.OpenSpec.ofChange s with cond := some uptoSmall }

/-- 'cardboxlaw05.ReadSorts', WHERE WHAT IT READS IS OF BULK AT MOST 1048576: true; the input reads as it did. -/
def readSortsUptoRow : OpenClaim := { program := "ytoflogckoepioaa", sum := "344e270ae12f3da91bb834f5def79cb6bc982f15bca3cadcc9a4c738934b0ff5", func := "cardbox/cardboxlaw05.ReadSorts", spec := "readSorts", unfollowed := true, recurses := true, apart := false, narrowed := true }
def ReadSortsUptoSaid : Prop := readSortsUptoRow.holds Try.pinned (OpenSpec.upto readSortsSpec)

/-- 'cardboxlaw05.ReadWhite', WHERE WHAT IT READS IS OF BULK AT MOST 1048576: true; the input reads as it did. -/
def readWhiteUptoRow : OpenClaim := { program := "ytoflogckoepioaa", sum := "344e270ae12f3da91bb834f5def79cb6bc982f15bca3cadcc9a4c738934b0ff5", func := "cardbox/cardboxlaw05.ReadWhite", spec := "readWhite", unfollowed := true, recurses := true, apart := false, narrowed := true }
def ReadWhiteUptoSaid : Prop := readWhiteUptoRow.holds Try.pinned (OpenSpec.upto readWhiteSpec)

/-- 'cardboxlaw05.ReadWrapped', WHERE WHAT IT READS IS OF BULK AT MOST 1048576: true; the input reads as it did. -/
def readWrappedUptoRow : OpenClaim := { program := "ytoflogckoepioaa", sum := "344e270ae12f3da91bb834f5def79cb6bc982f15bca3cadcc9a4c738934b0ff5", func := "cardbox/cardboxlaw05.ReadWrapped", spec := "readWrapped", unfollowed := true, recurses := true, apart := false, narrowed := true }
def ReadWrappedUptoSaid : Prop := readWrappedUptoRow.holds Try.pinned (OpenSpec.upto readWrappedSpec)

/-- 'cardboxlaw05.ReadDeep', WHERE WHAT IT READS IS OF BULK AT MOST 1048576: true; the input reads as it did. -/
def readDeepUptoRow : OpenClaim := { program := "ytoflogckoepioaa", sum := "344e270ae12f3da91bb834f5def79cb6bc982f15bca3cadcc9a4c738934b0ff5", func := "cardbox/cardboxlaw05.ReadDeep", spec := "readDeep", unfollowed := true, recurses := true, apart := false, narrowed := true }
def ReadDeepUptoSaid : Prop := readDeepUptoRow.holds Try.pinned (OpenSpec.upto readDeepSpec)

end Rows
end Go.Proofs.Ytoflogckoepioaa
