/-
  NARROWER THAN 'FOR EVERY INPUT', by the rows' own cells (each row's printed sentence says how): PatchAlone: loops · PatchTurned: loops · PatchTwice: loops · PatchKeeps: loops.
  DERIVED. THE GIVEN ROWS OF THIS SEAT. 4 by the template 'for every input the law returns true; each argument reads behind the call as it read before'; 0 by the template 'total and deterministic' (their statements: YtbfogkcnfnjcaaaTotals.lean).
  GIVEN WITH THE SEED: the statements are not yours to turn. If you find one false, say at which input.
  Laid BY PROGRAM, IN A SANDBOX (cutbox-rows.mjs): the forced cells as the released guide's own fill.sh prints them over the translation 6ce856c34fbfb874… (all of the seat's roots in one cut). By AI agents, Wed Nov 11 2026. No macro, syntax, notation, axiom, sorry.
-/
import Derived.Test.YtbfogkcnfnjcaaaChecked
import GoSem.Claim
import GoSem.ClaimJoined
import GoSem.ClaimMapViews
import Derived.JoinedTies
import Derived.KernelRfl
namespace Go.Proofs.Ytbfogkcnfnjcaaa
/- THE CELL 'sum', in the pinned program and in every row, IS THE sha256 OF THE DUMP (.gsa) THAT YtbfogkcnfnjcaaaProg.lean LOADS. Nothing in Lean hashes anything: it is a label: what it is worth is what the hold of that sum in a sandbox is worth. -/
noncomputable def Try.pinned : Pinned := { name := "ytbfogkcnfnjcaaa", sum := "6ce856c34fbfb874776dc64632ce046355bab94805e89be255005849541e6a65", checked := Try.checked }
namespace Rows
def none {H : Type} : Left H := { results := [], args := [] }

/-- 'cardboxlaw09.PatchAlone': WHATEVER THE INPUT: true; the input reads as it did. -/
def patchAloneSpec : ChangeSpec := { name := "patchAlone", fn := fun _ => fun
  | [d1, d2, d3] => { results := [.lit (.bool true)], args := [d1, d2, d3] }
  | _ => none }
def patchAloneRow : OpenClaim := { program := "ytbfogkcnfnjcaaa", sum := "6ce856c34fbfb874776dc64632ce046355bab94805e89be255005849541e6a65", func := "cardbox/cardboxlaw09.PatchAlone", spec := "patchAlone", unfollowed := true, recurses := true, loops := true, apart := false }
def PatchAloneSaid : Prop := patchAloneRow.holds Try.pinned (OpenSpec.ofChange patchAloneSpec)

/-- ITS FALSE NEIGHBOUR: 'it returns false'. Refute it at one input. -/
def patchAloneWrong : ChangeSpec := { name := "patchAlone", fn := fun _ => fun
  | [d1, d2, d3] => { results := [.lit (.bool false)], args := [d1, d2, d3] }
  | _ => none }
def PatchAloneWrongFalsely : Prop := patchAloneRow.holds Try.pinned (OpenSpec.ofChange patchAloneWrong)

/-- 'cardboxlaw09.PatchTurned': WHATEVER THE INPUT: true; the input reads as it did. -/
def patchTurnedSpec : ChangeSpec := { name := "patchTurned", fn := fun _ => fun
  | [d1, d2, d3] => { results := [.lit (.bool true)], args := [d1, d2, d3] }
  | _ => none }
def patchTurnedRow : OpenClaim := { program := "ytbfogkcnfnjcaaa", sum := "6ce856c34fbfb874776dc64632ce046355bab94805e89be255005849541e6a65", func := "cardbox/cardboxlaw09.PatchTurned", spec := "patchTurned", unfollowed := true, recurses := true, loops := true, apart := false }
def PatchTurnedSaid : Prop := patchTurnedRow.holds Try.pinned (OpenSpec.ofChange patchTurnedSpec)

/-- ITS FALSE NEIGHBOUR: 'it returns false'. Refute it at one input. -/
def patchTurnedWrong : ChangeSpec := { name := "patchTurned", fn := fun _ => fun
  | [d1, d2, d3] => { results := [.lit (.bool false)], args := [d1, d2, d3] }
  | _ => none }
def PatchTurnedWrongFalsely : Prop := patchTurnedRow.holds Try.pinned (OpenSpec.ofChange patchTurnedWrong)

/-- 'cardboxlaw09.PatchTwice': WHATEVER THE INPUT: true; the input reads as it did. -/
def patchTwiceSpec : ChangeSpec := { name := "patchTwice", fn := fun _ => fun
  | [d1, d2] => { results := [.lit (.bool true)], args := [d1, d2] }
  | _ => none }
def patchTwiceRow : OpenClaim := { program := "ytbfogkcnfnjcaaa", sum := "6ce856c34fbfb874776dc64632ce046355bab94805e89be255005849541e6a65", func := "cardbox/cardboxlaw09.PatchTwice", spec := "patchTwice", unfollowed := true, recurses := true, loops := true, apart := false }
def PatchTwiceSaid : Prop := patchTwiceRow.holds Try.pinned (OpenSpec.ofChange patchTwiceSpec)

/-- ITS FALSE NEIGHBOUR: 'it returns false'. Refute it at one input. -/
def patchTwiceWrong : ChangeSpec := { name := "patchTwice", fn := fun _ => fun
  | [d1, d2] => { results := [.lit (.bool false)], args := [d1, d2] }
  | _ => none }
def PatchTwiceWrongFalsely : Prop := patchTwiceRow.holds Try.pinned (OpenSpec.ofChange patchTwiceWrong)

/-- 'cardboxlaw09.PatchKeeps': WHATEVER THE INPUT: true; the input reads as it did. -/
def patchKeepsSpec : ChangeSpec := { name := "patchKeeps", fn := fun _ => fun
  | [d1, d2] => { results := [.lit (.bool true)], args := [d1, d2] }
  | _ => none }
def patchKeepsRow : OpenClaim := { program := "ytbfogkcnfnjcaaa", sum := "6ce856c34fbfb874776dc64632ce046355bab94805e89be255005849541e6a65", func := "cardbox/cardboxlaw09.PatchKeeps", spec := "patchKeeps", unfollowed := true, recurses := true, loops := true, apart := false }
def PatchKeepsSaid : Prop := patchKeepsRow.holds Try.pinned (OpenSpec.ofChange patchKeepsSpec)

/-- ITS FALSE NEIGHBOUR: 'it returns false'. Refute it at one input. -/
def patchKeepsWrong : ChangeSpec := { name := "patchKeeps", fn := fun _ => fun
  | [d1, d2] => { results := [.lit (.bool false)], args := [d1, d2] }
  | _ => none }
def PatchKeepsWrongFalsely : Prop := patchKeepsRow.holds Try.pinned (OpenSpec.ofChange patchKeepsWrong)

/- THE SECOND FORM. 'bulk': how many values and letters a reading holds, each counted each time it is reached (what is shared counts as often as it is met; a slice's spare places count too). A statement '..UptoSaid' is the law's where the arguments, and the package variables that the reading takes, are together of bulk at most 1048576: NARROWER than '..Said'. Prove '..Said' where nothing that the law and all that it calls make is longer than what came in: it says more and counts as full. Else prove '..UptoSaid'. A law counts once. -/
mutual
def uptoBulk {H : Type} : DataW H → Nat
  | .lit (.string bytes) => bytes.length + 1
  | .lit _ => 1
  | .nil => 1
  | .ptr d => uptoBulk d + 1
  | .slice elems spare => uptoBulkAll elems + uptoBulkAll spare + 1
  | .agg parts => uptoBulkAll parts + 1
  | .iface _ d => uptoBulk d + 1
  | .map entries => uptoBulkEntries entries + 1
  | .held _ => 1
def uptoBulkAll {H : Type} : List (DataW H) → Nat
  | [] => 0
  | d :: r => uptoBulk d + uptoBulkAll r
def uptoBulkEntries {H : Type} : List (Lit × DataW H) → Nat
  | [] => 0
  | x :: r => uptoBulkEntry x + uptoBulkEntries r
def uptoBulkEntry {H : Type} : Lit × DataW H → Nat
  | (.string bytes, d) => bytes.length + uptoBulk d + 1
  | (_, d) => uptoBulk d + 1
 end
def uptoSmall : (H : Type) → List (DataW H) → Bool := fun _ ds => decide (uptoBulkAll ds ≤ 1048576)
def OpenSpec.upto (s : _root_.Go.ChangeSpec) : _root_.Go.OpenSpec := { _root_.Go.OpenSpec.ofChange s with cond := some uptoSmall }

/-- 'cardboxlaw09.PatchAlone', WHERE WHAT IT READS IS OF BULK AT MOST 1048576: true; the input reads as it did. -/
def patchAloneUptoRow : OpenClaim := { program := "ytbfogkcnfnjcaaa", sum := "6ce856c34fbfb874776dc64632ce046355bab94805e89be255005849541e6a65", func := "cardbox/cardboxlaw09.PatchAlone", spec := "patchAlone", unfollowed := true, recurses := true, loops := true, apart := false, narrowed := true }
def PatchAloneUptoSaid : Prop := patchAloneUptoRow.holds Try.pinned (OpenSpec.upto patchAloneSpec)

/-- 'cardboxlaw09.PatchTurned', WHERE WHAT IT READS IS OF BULK AT MOST 1048576: true; the input reads as it did. -/
def patchTurnedUptoRow : OpenClaim := { program := "ytbfogkcnfnjcaaa", sum := "6ce856c34fbfb874776dc64632ce046355bab94805e89be255005849541e6a65", func := "cardbox/cardboxlaw09.PatchTurned", spec := "patchTurned", unfollowed := true, recurses := true, loops := true, apart := false, narrowed := true }
def PatchTurnedUptoSaid : Prop := patchTurnedUptoRow.holds Try.pinned (OpenSpec.upto patchTurnedSpec)

/-- 'cardboxlaw09.PatchTwice', WHERE WHAT IT READS IS OF BULK AT MOST 1048576: true; the input reads as it did. -/
def patchTwiceUptoRow : OpenClaim := { program := "ytbfogkcnfnjcaaa", sum := "6ce856c34fbfb874776dc64632ce046355bab94805e89be255005849541e6a65", func := "cardbox/cardboxlaw09.PatchTwice", spec := "patchTwice", unfollowed := true, recurses := true, loops := true, apart := false, narrowed := true }
def PatchTwiceUptoSaid : Prop := patchTwiceUptoRow.holds Try.pinned (OpenSpec.upto patchTwiceSpec)

/-- 'cardboxlaw09.PatchKeeps', WHERE WHAT IT READS IS OF BULK AT MOST 1048576: true; the input reads as it did. -/
def patchKeepsUptoRow : OpenClaim := { program := "ytbfogkcnfnjcaaa", sum := "6ce856c34fbfb874776dc64632ce046355bab94805e89be255005849541e6a65", func := "cardbox/cardboxlaw09.PatchKeeps", spec := "patchKeeps", unfollowed := true, recurses := true, loops := true, apart := false, narrowed := true }
def PatchKeepsUptoSaid : Prop := patchKeepsUptoRow.holds Try.pinned (OpenSpec.upto patchKeepsSpec)

end Rows
end Go.Proofs.Ytbfogkcnfnjcaaa
