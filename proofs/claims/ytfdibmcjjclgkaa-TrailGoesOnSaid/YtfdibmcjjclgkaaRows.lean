/-
  No cell of these rows narrows 'for every input' (looked for: loops, veiled, ifaces, maps, wideKeys, modest, calm, conditions, laid).
  DERIVED. THE GIVEN ROWS OF THIS SEAT. 6 by the template 'for every input the law returns true; each argument reads behind the call as it read before'; 0 by the template 'total and deterministic' (their statements: YtfdibmcjjclgkaaTotals.lean).
  GIVEN WITH THE SEED: the statements are not yours to turn. If you find one false, say at which input.
  Laid BY PROGRAM, IN A SANDBOX (cutbox-rows.mjs): the forced cells as the released guide's own fill.sh prints them over the translation 8530e2405c39df35… (all of the seat's roots in one cut). By AI agents, Wed Nov 11 2026. No macro, syntax, notation, axiom, sorry.
-/
import Derived.Test.YtfdibmcjjclgkaaChecked
import GoSem.Claim
import GoSem.ClaimJoined
import GoSem.ClaimMapViews
import Derived.JoinedTies
import Derived.KernelRfl
namespace Go.Proofs.Ytfdibmcjjclgkaa
/- THE CELL 'sum', in the pinned program and in every row, IS THE sha256 OF THE DUMP (.gsa) THAT YtfdibmcjjclgkaaProg.lean LOADS. Nothing in Lean hashes anything: it is a label: what it is worth is what the hold of that sum in a sandbox is worth. -/
noncomputable def Try.pinned : Pinned := { name := "ytfdibmcjjclgkaa", sum := "8530e2405c39df3517fe7d9c54a5b2652de4415f93c656ab76303fdf5c78e09d", checked := Try.checked }
namespace Rows
def none {H : Type} : Left H := { results := [], args := [] }

/-- 'cardboxlaw17.TrailRights': WHATEVER THE INPUT: true; the input reads as it did. -/
def trailRightsSpec : ChangeSpec := { name := "trailRights", fn := fun _ => fun
  | [d1, d2, d3] => { results := [.lit (.bool true)], args := [d1, d2, d3] }
  | _ => none }
def trailRightsRow : OpenClaim := { program := "ytfdibmcjjclgkaa", sum := "8530e2405c39df3517fe7d9c54a5b2652de4415f93c656ab76303fdf5c78e09d", func := "cardbox/cardboxlaw17.TrailRights", spec := "trailRights", unfollowed := true, recurses := true, apart := false }
def TrailRightsSaid : Prop := trailRightsRow.holds Try.pinned (OpenSpec.ofChange trailRightsSpec)

/-- ITS FALSE NEIGHBOUR: 'it returns false'. Refute it at one input. -/
def trailRightsWrong : ChangeSpec := { name := "trailRights", fn := fun _ => fun
  | [d1, d2, d3] => { results := [.lit (.bool false)], args := [d1, d2, d3] }
  | _ => none }
def TrailRightsWrongFalsely : Prop := trailRightsRow.holds Try.pinned (OpenSpec.ofChange trailRightsWrong)

/-- 'cardboxlaw17.TrailAdds': WHATEVER THE INPUT: true; the input reads as it did. -/
def trailAddsSpec : ChangeSpec := { name := "trailAdds", fn := fun _ => fun
  | [d1, d2, d3, d4] => { results := [.lit (.bool true)], args := [d1, d2, d3, d4] }
  | _ => none }
def trailAddsRow : OpenClaim := { program := "ytfdibmcjjclgkaa", sum := "8530e2405c39df3517fe7d9c54a5b2652de4415f93c656ab76303fdf5c78e09d", func := "cardbox/cardboxlaw17.TrailAdds", spec := "trailAdds", unfollowed := true, recurses := true, apart := false }
def TrailAddsSaid : Prop := trailAddsRow.holds Try.pinned (OpenSpec.ofChange trailAddsSpec)

/-- ITS FALSE NEIGHBOUR: 'it returns false'. Refute it at one input. -/
def trailAddsWrong : ChangeSpec := { name := "trailAdds", fn := fun _ => fun
  | [d1, d2, d3, d4] => { results := [.lit (.bool false)], args := [d1, d2, d3, d4] }
  | _ => none }
def TrailAddsWrongFalsely : Prop := trailAddsRow.holds Try.pinned (OpenSpec.ofChange trailAddsWrong)

/-- 'cardboxlaw17.TrailSinces': WHATEVER THE INPUT: true; the input reads as it did. -/
def trailSincesSpec : ChangeSpec := { name := "trailSinces", fn := fun _ => fun
  | [d1, d2] => { results := [.lit (.bool true)], args := [d1, d2] }
  | _ => none }
def trailSincesRow : OpenClaim := { program := "ytfdibmcjjclgkaa", sum := "8530e2405c39df3517fe7d9c54a5b2652de4415f93c656ab76303fdf5c78e09d", func := "cardbox/cardboxlaw17.TrailSinces", spec := "trailSinces", unfollowed := true, recurses := true, apart := false }
def TrailSincesSaid : Prop := trailSincesRow.holds Try.pinned (OpenSpec.ofChange trailSincesSpec)

/-- ITS FALSE NEIGHBOUR: 'it returns false'. Refute it at one input. -/
def trailSincesWrong : ChangeSpec := { name := "trailSinces", fn := fun _ => fun
  | [d1, d2] => { results := [.lit (.bool false)], args := [d1, d2] }
  | _ => none }
def TrailSincesWrongFalsely : Prop := trailSincesRow.holds Try.pinned (OpenSpec.ofChange trailSincesWrong)

/-- 'cardboxlaw17.TrailPast': WHATEVER THE INPUT: true; the input reads as it did. -/
def trailPastSpec : ChangeSpec := { name := "trailPast", fn := fun _ => fun
  | [d1, d2, d3] => { results := [.lit (.bool true)], args := [d1, d2, d3] }
  | _ => none }
def trailPastRow : OpenClaim := { program := "ytfdibmcjjclgkaa", sum := "8530e2405c39df3517fe7d9c54a5b2652de4415f93c656ab76303fdf5c78e09d", func := "cardbox/cardboxlaw17.TrailPast", spec := "trailPast", unfollowed := true, recurses := true, apart := false }
def TrailPastSaid : Prop := trailPastRow.holds Try.pinned (OpenSpec.ofChange trailPastSpec)

/-- ITS FALSE NEIGHBOUR: 'it returns false'. Refute it at one input. -/
def trailPastWrong : ChangeSpec := { name := "trailPast", fn := fun _ => fun
  | [d1, d2, d3] => { results := [.lit (.bool false)], args := [d1, d2, d3] }
  | _ => none }
def TrailPastWrongFalsely : Prop := trailPastRow.holds Try.pinned (OpenSpec.ofChange trailPastWrong)

/-- 'cardboxlaw17.TrailGoesOn': WHATEVER THE INPUT: true; the input reads as it did. -/
def trailGoesOnSpec : ChangeSpec := { name := "trailGoesOn", fn := fun _ => fun
  | [d1, d2, d3, d4] => { results := [.lit (.bool true)], args := [d1, d2, d3, d4] }
  | _ => none }
def trailGoesOnRow : OpenClaim := { program := "ytfdibmcjjclgkaa", sum := "8530e2405c39df3517fe7d9c54a5b2652de4415f93c656ab76303fdf5c78e09d", func := "cardbox/cardboxlaw17.TrailGoesOn", spec := "trailGoesOn", unfollowed := true, recurses := true, apart := false }
def TrailGoesOnSaid : Prop := trailGoesOnRow.holds Try.pinned (OpenSpec.ofChange trailGoesOnSpec)

/-- ITS FALSE NEIGHBOUR: 'it returns false'. Refute it at one input. -/
def trailGoesOnWrong : ChangeSpec := { name := "trailGoesOn", fn := fun _ => fun
  | [d1, d2, d3, d4] => { results := [.lit (.bool false)], args := [d1, d2, d3, d4] }
  | _ => none }
def TrailGoesOnWrongFalsely : Prop := trailGoesOnRow.holds Try.pinned (OpenSpec.ofChange trailGoesOnWrong)

/-- 'cardboxlaw17.TrailKeeps': WHATEVER THE INPUT: true; the input reads as it did. -/
def trailKeepsSpec : ChangeSpec := { name := "trailKeeps", fn := fun _ => fun
  | [d1, d2, d3] => { results := [.lit (.bool true)], args := [d1, d2, d3] }
  | _ => none }
def trailKeepsRow : OpenClaim := { program := "ytfdibmcjjclgkaa", sum := "8530e2405c39df3517fe7d9c54a5b2652de4415f93c656ab76303fdf5c78e09d", func := "cardbox/cardboxlaw17.TrailKeeps", spec := "trailKeeps", unfollowed := true, recurses := true, apart := false }
def TrailKeepsSaid : Prop := trailKeepsRow.holds Try.pinned (OpenSpec.ofChange trailKeepsSpec)

/-- ITS FALSE NEIGHBOUR: 'it returns false'. Refute it at one input. -/
def trailKeepsWrong : ChangeSpec := { name := "trailKeeps", fn := fun _ => fun
  | [d1, d2, d3] => { results := [.lit (.bool false)], args := [d1, d2, d3] }
  | _ => none }
def TrailKeepsWrongFalsely : Prop := trailKeepsRow.holds Try.pinned (OpenSpec.ofChange trailKeepsWrong)

/- THE SECOND FORM. 'bulk': how many values and letters a reading holds, each counted each time it is reached (what is shared counts as often as it is met; a slice's spare places count too). A statement '..UptoSaid' is the law's where the arguments, and the package variables that the reading takes, are together of bulk at most 1048576: NARROWER than '..Said'. Prove '..Said' where nothing that the law and all that it calls make is longer than what came in: it says more and counts as full. Else prove '..UptoSaid'. A law counts once. -/
mutual
def uptoBulk {H : Type} : DataW H → Nat
  | .lit (.string bytes) => bytes.length + 1
  | .lit _ => 1
  | .nil => 1
  | .ptr d => uptoBulk d + 1
  | .slice elems spare => uptoBulkAll elems + uptoBulkAll spare + 1
  | .agg parts => uptoBulkAll parts + 1
  | .iface _ d => uptoBulk d + 1
  | .map entries => uptoBulkEntries entries + 1
  | .held _ => 1
def uptoBulkAll {H : Type} : List (DataW H) → Nat
  | [] => 0
  | d :: r => uptoBulk d + uptoBulkAll r
def uptoBulkEntries {H : Type} : List (Lit × DataW H) → Nat
  | [] => 0
  | x :: r => uptoBulkEntry x + uptoBulkEntries r
def uptoBulkEntry {H : Type} : Lit × DataW H → Nat
  | (.string bytes, d) => bytes.length + uptoBulk d + 1
  | (_, d) => uptoBulk d + 1
 end
def uptoSmall : (H : Type) → List (DataW H) → Bool := fun _ ds => decide (uptoBulkAll ds ≤ 1048576)
def OpenSpec.upto (s : _root_.Go.ChangeSpec) : _root_.Go.OpenSpec := { _root_.Go.OpenSpec.ofChange s with cond := some uptoSmall }

/-- 'cardboxlaw17.TrailRights', WHERE WHAT IT READS IS OF BULK AT MOST 1048576: true; the input reads as it did. -/
def trailRightsUptoRow : OpenClaim := { program := "ytfdibmcjjclgkaa", sum := "8530e2405c39df3517fe7d9c54a5b2652de4415f93c656ab76303fdf5c78e09d", func := "cardbox/cardboxlaw17.TrailRights", spec := "trailRights", unfollowed := true, recurses := true, apart := false, narrowed := true }
def TrailRightsUptoSaid : Prop := trailRightsUptoRow.holds Try.pinned (OpenSpec.upto trailRightsSpec)

/-- 'cardboxlaw17.TrailAdds', WHERE WHAT IT READS IS OF BULK AT MOST 1048576: true; the input reads as it did. -/
def trailAddsUptoRow : OpenClaim := { program := "ytfdibmcjjclgkaa", sum := "8530e2405c39df3517fe7d9c54a5b2652de4415f93c656ab76303fdf5c78e09d", func := "cardbox/cardboxlaw17.TrailAdds", spec := "trailAdds", unfollowed := true, recurses := true, apart := false, narrowed := true }
def TrailAddsUptoSaid : Prop := trailAddsUptoRow.holds Try.pinned (OpenSpec.upto trailAddsSpec)

/-- 'cardboxlaw17.TrailSinces', WHERE WHAT IT READS IS OF BULK AT MOST 1048576: true; the input reads as it did. -/
def trailSincesUptoRow : OpenClaim := { program := "ytfdibmcjjclgkaa", sum := "8530e2405c39df3517fe7d9c54a5b2652de4415f93c656ab76303fdf5c78e09d", func := "cardbox/cardboxlaw17.TrailSinces", spec := "trailSinces", unfollowed := true, recurses := true, apart := false, narrowed := true }
def TrailSincesUptoSaid : Prop := trailSincesUptoRow.holds Try.pinned (OpenSpec.upto trailSincesSpec)

/-- 'cardboxlaw17.TrailPast', WHERE WHAT IT READS IS OF BULK AT MOST 1048576: true; the input reads as it did. -/
def trailPastUptoRow : OpenClaim := { program := "ytfdibmcjjclgkaa", sum := "8530e2405c39df3517fe7d9c54a5b2652de4415f93c656ab76303fdf5c78e09d", func := "cardbox/cardboxlaw17.TrailPast", spec := "trailPast", unfollowed := true, recurses := true, apart := false, narrowed := true }
def TrailPastUptoSaid : Prop := trailPastUptoRow.holds Try.pinned (OpenSpec.upto trailPastSpec)

/-- 'cardboxlaw17.TrailGoesOn', WHERE WHAT IT READS IS OF BULK AT MOST 1048576: true; the input reads as it did. -/
def trailGoesOnUptoRow : OpenClaim := { program := "ytfdibmcjjclgkaa", sum := "8530e2405c39df3517fe7d9c54a5b2652de4415f93c656ab76303fdf5c78e09d", func := "cardbox/cardboxlaw17.TrailGoesOn", spec := "trailGoesOn", unfollowed := true, recurses := true, apart := false, narrowed := true }
def TrailGoesOnUptoSaid : Prop := trailGoesOnUptoRow.holds Try.pinned (OpenSpec.upto trailGoesOnSpec)

/-- 'cardboxlaw17.TrailKeeps', WHERE WHAT IT READS IS OF BULK AT MOST 1048576: true; the input reads as it did. -/
def trailKeepsUptoRow : OpenClaim := { program := "ytfdibmcjjclgkaa", sum := "8530e2405c39df3517fe7d9c54a5b2652de4415f93c656ab76303fdf5c78e09d", func := "cardbox/cardboxlaw17.TrailKeeps", spec := "trailKeeps", unfollowed := true, recurses := true, apart := false, narrowed := true }
def TrailKeepsUptoSaid : Prop := trailKeepsUptoRow.holds Try.pinned (OpenSpec.upto trailKeepsSpec)

end Rows
end Go.Proofs.Ytfdibmcjjclgkaa
