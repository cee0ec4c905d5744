/-
  NARROWER THAN 'FOR EVERY INPUT', by the rows' own cells (each row's printed sentence says how): PointBack: loops · PointStars: loops · PointKeeps: loops.
  DERIVED. THE GIVEN ROWS OF THIS SEAT. 5 by the template 'for every input the law returns true; each argument reads behind the call as it read before'; 0 by the template 'total and deterministic' (their statements: YtmfpaoincgfjmaaTotals.lean).
  GIVEN WITH THE SEED: the statements are not yours to turn. If you find one false, say at which input.
  Laid BY PROGRAM, IN A SANDBOX (cutbox-rows.mjs): the forced cells as the released guide's own fill.sh prints them over the translation 1351d2db76f49774… (all of the seat's roots in one cut). By AI agents, Wed Nov 11 2026. No macro, syntax, notation, axiom, sorry.
-/
import Derived.Test.YtmfpaoincgfjmaaChecked
import GoSem.Claim
import GoSem.ClaimJoined
import GoSem.ClaimMapViews
import Derived.JoinedTies
import Derived.KernelRfl
namespace Go.Proofs.Ytmfpaoincgfjmaa
/- THE CELL 'sum', in the pinned program and in every row, IS THE sha256 OF THE DUMP (.gsa) THAT YtmfpaoincgfjmaaProg.lean LOADS. Nothing in Lean hashes anything: it is a label: what it is worth is what the hold of that sum in a sandbox is worth. -/
noncomputable def Try.pinned : Pinned := { name := "ytmfpaoincgfjmaa", sum := "1351d2db76f4977408d19a43847f03a10881a7443d999ed0fb037aa176a0f9ab", checked := Try.checked }
namespace Rows
def none {H : Type} : Left H := { results := [], args := [] }

/-- 'cardboxlaw08.PointParts': WHATEVER THE INPUT: true; the input reads as it did. -/
def pointPartsSpec : ChangeSpec := { name := "pointParts", fn := fun _ => fun
  | [d] => { results := [.lit (.bool true)], args := [d] }
  | _ => none }
def pointPartsRow : OpenClaim := { program := "ytmfpaoincgfjmaa", sum := "1351d2db76f4977408d19a43847f03a10881a7443d999ed0fb037aa176a0f9ab", func := "cardbox/cardboxlaw08.PointParts", spec := "pointParts", inPlace := ["internal/abi.NoEscape"], unfollowed := true, recurses := true, apart := false }
def PointPartsSaid : Prop := pointPartsRow.holds Try.pinned (OpenSpec.ofChange pointPartsSpec)

/-- ITS FALSE NEIGHBOUR: 'it returns false'. Refute it at one input. -/
def pointPartsWrong : ChangeSpec := { name := "pointParts", fn := fun _ => fun
  | [d] => { results := [.lit (.bool false)], args := [d] }
  | _ => none }
def PointPartsWrongFalsely : Prop := pointPartsRow.holds Try.pinned (OpenSpec.ofChange pointPartsWrong)

/-- 'cardboxlaw08.PointWrites': WHATEVER THE INPUT: true; the input reads as it did. -/
def pointWritesSpec : ChangeSpec := { name := "pointWrites", fn := fun _ => fun
  | [d] => { results := [.lit (.bool true)], args := [d] }
  | _ => none }
def pointWritesRow : OpenClaim := { program := "ytmfpaoincgfjmaa", sum := "1351d2db76f4977408d19a43847f03a10881a7443d999ed0fb037aa176a0f9ab", func := "cardbox/cardboxlaw08.PointWrites", spec := "pointWrites", inPlace := ["internal/abi.NoEscape"], unfollowed := true, recurses := true, apart := false }
def PointWritesSaid : Prop := pointWritesRow.holds Try.pinned (OpenSpec.ofChange pointWritesSpec)

/-- ITS FALSE NEIGHBOUR: 'it returns false'. Refute it at one input. -/
def pointWritesWrong : ChangeSpec := { name := "pointWrites", fn := fun _ => fun
  | [d] => { results := [.lit (.bool false)], args := [d] }
  | _ => none }
def PointWritesWrongFalsely : Prop := pointWritesRow.holds Try.pinned (OpenSpec.ofChange pointWritesWrong)

/-- 'cardboxlaw08.PointBack': WHATEVER THE INPUT: true; the input reads as it did. -/
def pointBackSpec : ChangeSpec := { name := "pointBack", fn := fun _ => fun
  | [d] => { results := [.lit (.bool true)], args := [d] }
  | _ => none }
def pointBackRow : OpenClaim := { program := "ytmfpaoincgfjmaa", sum := "1351d2db76f4977408d19a43847f03a10881a7443d999ed0fb037aa176a0f9ab", func := "cardbox/cardboxlaw08.PointBack", spec := "pointBack", inPlace := ["internal/abi.NoEscape"], unfollowed := true, recurses := true, loops := true, apart := false }
def PointBackSaid : Prop := pointBackRow.holds Try.pinned (OpenSpec.ofChange pointBackSpec)

/-- ITS FALSE NEIGHBOUR: 'it returns false'. Refute it at one input. -/
def pointBackWrong : ChangeSpec := { name := "pointBack", fn := fun _ => fun
  | [d] => { results := [.lit (.bool false)], args := [d] }
  | _ => none }
def PointBackWrongFalsely : Prop := pointBackRow.holds Try.pinned (OpenSpec.ofChange pointBackWrong)

/-- 'cardboxlaw08.PointStars': WHATEVER THE INPUT: true; the input reads as it did. -/
def pointStarsSpec : ChangeSpec := { name := "pointStars", fn := fun _ => fun
  | [d1, d2, d3] => { results := [.lit (.bool true)], args := [d1, d2, d3] }
  | _ => none }
def pointStarsRow : OpenClaim := { program := "ytmfpaoincgfjmaa", sum := "1351d2db76f4977408d19a43847f03a10881a7443d999ed0fb037aa176a0f9ab", func := "cardbox/cardboxlaw08.PointStars", spec := "pointStars", inPlace := ["internal/abi.NoEscape"], unfollowed := true, recurses := true, loops := true, apart := false }
def PointStarsSaid : Prop := pointStarsRow.holds Try.pinned (OpenSpec.ofChange pointStarsSpec)

/-- ITS FALSE NEIGHBOUR: 'it returns false'. Refute it at one input. -/
def pointStarsWrong : ChangeSpec := { name := "pointStars", fn := fun _ => fun
  | [d1, d2, d3] => { results := [.lit (.bool false)], args := [d1, d2, d3] }
  | _ => none }
def PointStarsWrongFalsely : Prop := pointStarsRow.holds Try.pinned (OpenSpec.ofChange pointStarsWrong)

/-- 'cardboxlaw08.PointKeeps': WHATEVER THE INPUT: true; the input reads as it did. -/
def pointKeepsSpec : ChangeSpec := { name := "pointKeeps", fn := fun _ => fun
  | [d1, d2] => { results := [.lit (.bool true)], args := [d1, d2] }
  | _ => none }
def pointKeepsRow : OpenClaim := { program := "ytmfpaoincgfjmaa", sum := "1351d2db76f4977408d19a43847f03a10881a7443d999ed0fb037aa176a0f9ab", func := "cardbox/cardboxlaw08.PointKeeps", spec := "pointKeeps", inPlace := ["internal/abi.NoEscape"], unfollowed := true, recurses := true, loops := true, apart := false }
def PointKeepsSaid : Prop := pointKeepsRow.holds Try.pinned (OpenSpec.ofChange pointKeepsSpec)

/-- ITS FALSE NEIGHBOUR: 'it returns false'. Refute it at one input. -/
def pointKeepsWrong : ChangeSpec := { name := "pointKeeps", fn := fun _ => fun
  | [d1, d2] => { results := [.lit (.bool false)], args := [d1, d2] }
  | _ => none }
def PointKeepsWrongFalsely : Prop := pointKeepsRow.holds Try.pinned (OpenSpec.ofChange pointKeepsWrong)

/- THE SECOND FORM. 'bulk': how many values and letters a reading holds, each counted each time it is reached (what is shared counts as often as it is met; a slice's spare places count too). A statement '..UptoSaid' is the law's where the arguments, and the package variables that the reading takes, are together of bulk at most 1048576: NARROWER than '..Said'. Prove '..Said' where nothing that the law and all that it calls make is longer than what came in: it says more and counts as full. Else prove '..UptoSaid'. A law counts once. -/
mutual
def uptoBulk {H : Type} : DataW H → Nat
  | .lit (.string bytes) => bytes.length + 1
  | .lit _ => 1
  | .nil => 1
  | .ptr d => uptoBulk d + 1
  | .slice elems spare => uptoBulkAll elems + uptoBulkAll spare + 1
  | .agg parts => uptoBulkAll parts + 1
  | .iface _ d => uptoBulk d + 1
  | .map entries => uptoBulkEntries entries + 1
  | .held _ => 1
def uptoBulkAll {H : Type} : List (DataW H) → Nat
  | [] => 0
  | d :: r => uptoBulk d + uptoBulkAll r
def uptoBulkEntries {H : Type} : List (Lit × DataW H) → Nat
  | [] => 0
  | x :: r => uptoBulkEntry x + uptoBulkEntries r
def uptoBulkEntry {H : Type} : Lit × DataW H → Nat
  | (.string bytes, d) => bytes.length + uptoBulk d + 1
  | (_, d) => uptoBulk d + 1
 end
def uptoSmall : (H : Type) → List (DataW H) → Bool := fun _ ds => decide (uptoBulkAll ds ≤ 1048576)
def OpenSpec.upto (s : _root_.Go.ChangeSpec) : _root_.Go.OpenSpec := { _root_.Go.OpenSpec.ofChange s with cond := some uptoSmall }

/-- 'cardboxlaw08.PointParts', WHERE WHAT IT READS IS OF BULK AT MOST 1048576: true; the input reads as it did. -/
def pointPartsUptoRow : OpenClaim := { program := "ytmfpaoincgfjmaa", sum := "1351d2db76f4977408d19a43847f03a10881a7443d999ed0fb037aa176a0f9ab", func := "cardbox/cardboxlaw08.PointParts", spec := "pointParts", inPlace := ["internal/abi.NoEscape"], unfollowed := true, recurses := true, apart := false, narrowed := true }
def PointPartsUptoSaid : Prop := pointPartsUptoRow.holds Try.pinned (OpenSpec.upto pointPartsSpec)

/-- 'cardboxlaw08.PointWrites', WHERE WHAT IT READS IS OF BULK AT MOST 1048576: true; the input reads as it did. -/
def pointWritesUptoRow : OpenClaim := { program := "ytmfpaoincgfjmaa", sum := "1351d2db76f4977408d19a43847f03a10881a7443d999ed0fb037aa176a0f9ab", func := "cardbox/cardboxlaw08.PointWrites", spec := "pointWrites", inPlace := ["internal/abi.NoEscape"], unfollowed := true, recurses := true, apart := false, narrowed := true }
def PointWritesUptoSaid : Prop := pointWritesUptoRow.holds Try.pinned (OpenSpec.upto pointWritesSpec)

/-- 'cardboxlaw08.PointBack', WHERE WHAT IT READS IS OF BULK AT MOST 1048576: true; the input reads as it did. -/
def pointBackUptoRow : OpenClaim := { program := "ytmfpaoincgfjmaa", sum := "1351d2db76f4977408d19a43847f03a10881a7443d999ed0fb037aa176a0f9ab", func := "cardbox/cardboxlaw08.PointBack", spec := "pointBack", inPlace := ["internal/abi.NoEscape"], unfollowed := true, recurses := true, loops := true, apart := false, narrowed := true }
def PointBackUptoSaid : Prop := pointBackUptoRow.holds Try.pinned (OpenSpec.upto pointBackSpec)

/-- 'cardboxlaw08.PointStars', WHERE WHAT IT READS IS OF BULK AT MOST 1048576: true; the input reads as it did. -/
def pointStarsUptoRow : OpenClaim := { program := "ytmfpaoincgfjmaa", sum := "1351d2db76f4977408d19a43847f03a10881a7443d999ed0fb037aa176a0f9ab", func := "cardbox/cardboxlaw08.PointStars", spec := "pointStars", inPlace := ["internal/abi.NoEscape"], unfollowed := true, recurses := true, loops := true, apart := false, narrowed := true }
def PointStarsUptoSaid : Prop := pointStarsUptoRow.holds Try.pinned (OpenSpec.upto pointStarsSpec)

/-- 'cardboxlaw08.PointKeeps', WHERE WHAT IT READS IS OF BULK AT MOST 1048576: true; the input reads as it did. -/
def pointKeepsUptoRow : OpenClaim := { program := "ytmfpaoincgfjmaa", sum := "1351d2db76f4977408d19a43847f03a10881a7443d999ed0fb037aa176a0f9ab", func := "cardbox/cardboxlaw08.PointKeeps", spec := "pointKeeps", inPlace := ["internal/abi.NoEscape"], unfollowed := true, recurses := true, loops := true, apart := false, narrowed := true }
def PointKeepsUptoSaid : Prop := pointKeepsUptoRow.holds Try.pinned (OpenSpec.upto pointKeepsSpec)

end Rows
end Go.Proofs.Ytmfpaoincgfjmaa
