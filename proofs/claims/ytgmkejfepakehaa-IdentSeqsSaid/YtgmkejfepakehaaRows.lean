/-
  No cell of these rows narrows 'for every input' (looked for: loops, veiled, ifaces, maps, wideKeys, modest, calm, conditions, laid).
  DERIVED. THE GIVEN ROWS OF THIS SEAT. 5 by the template 'for every input the law returns true; each argument reads behind the call as it read before'; 0 by the template 'total and deterministic' (their statements: YtgmkejfepakehaaTotals.lean).
  GIVEN WITH THE SEED: the statements are not yours to turn. If you find one false, say at which input.
  Laid BY PROGRAM, IN A SANDBOX (cutbox-rows.mjs): the forced cells as the released guide's own fill.sh prints them over the translation 91a948f31aae1dda… (all of the seat's roots in one cut). By AI agents, Wed Nov 11 2026. No macro, syntax, notation, axiom, sorry.
-/
import Derived.Test.YtgmkejfepakehaaChecked
import GoSem.Claim
import GoSem.ClaimJoined
import GoSem.ClaimMapViews
import Derived.JoinedTies
import Derived.KernelRfl
namespace Go.Proofs.Ytgmkejfepakehaa
/- THE CELL 'sum', in the pinned program and in every row, IS THE sha256 OF THE DUMP (.gsa) THAT YtgmkejfepakehaaProg.lean LOADS. Nothing in Lean hashes anything: it is a label: what it is worth is what the hold of that sum in a sandbox is worth. -/
noncomputable def Try.pinned : Pinned := { name := "ytgmkejfepakehaa", sum := "91a948f31aae1ddaf421ec0c26d3c861788d6e9c719d9627bd58f4c0aa5fdbd0", checked := Try.checked }
namespace Rows
def none {H : Type} : Left H := { results := [], args := [] }

/-- 'cardboxlaw10.IdentIds': WHATEVER THE INPUT: true; the input reads as it did. -/
def identIdsSpec : ChangeSpec := { name := "identIds", fn := fun _ => fun
  | [d] => { results := [.lit (.bool true)], args := [d] }
  | _ => none }
def identIdsRow : OpenClaim := { program := "ytgmkejfepakehaa", sum := "91a948f31aae1ddaf421ec0c26d3c861788d6e9c719d9627bd58f4c0aa5fdbd0", func := "cardbox/cardboxlaw10.IdentIds", spec := "identIds", apart := false }
def IdentIdsSaid : Prop := identIdsRow.holds Try.pinned (OpenSpec.ofChange identIdsSpec)

/-- ITS FALSE NEIGHBOUR: 'it returns false'. Refute it at one input. -/
def identIdsWrong : ChangeSpec := { name := "identIds", fn := fun _ => fun
  | [d] => { results := [.lit (.bool false)], args := [d] }
  | _ => none }
def IdentIdsWrongFalsely : Prop := identIdsRow.holds Try.pinned (OpenSpec.ofChange identIdsWrong)

/-- 'cardboxlaw10.IdentMakes': WHATEVER THE INPUT: true; the input reads as it did. -/
def identMakesSpec : ChangeSpec := { name := "identMakes", fn := fun _ => fun
  | [d1, d2] => { results := [.lit (.bool true)], args := [d1, d2] }
  | _ => none }
def identMakesRow : OpenClaim := { program := "ytgmkejfepakehaa", sum := "91a948f31aae1ddaf421ec0c26d3c861788d6e9c719d9627bd58f4c0aa5fdbd0", func := "cardbox/cardboxlaw10.IdentMakes", spec := "identMakes", recurses := true, apart := false }
def IdentMakesSaid : Prop := identMakesRow.holds Try.pinned (OpenSpec.ofChange identMakesSpec)

/-- ITS FALSE NEIGHBOUR: 'it returns false'. Refute it at one input. -/
def identMakesWrong : ChangeSpec := { name := "identMakes", fn := fun _ => fun
  | [d1, d2] => { results := [.lit (.bool false)], args := [d1, d2] }
  | _ => none }
def IdentMakesWrongFalsely : Prop := identMakesRow.holds Try.pinned (OpenSpec.ofChange identMakesWrong)

/-- 'cardboxlaw10.IdentSeqs': WHATEVER THE INPUT: true; the input reads as it did. -/
def identSeqsSpec : ChangeSpec := { name := "identSeqs", fn := fun _ => fun
  | [d1, d2] => { results := [.lit (.bool true)], args := [d1, d2] }
  | _ => none }
def identSeqsRow : OpenClaim := { program := "ytgmkejfepakehaa", sum := "91a948f31aae1ddaf421ec0c26d3c861788d6e9c719d9627bd58f4c0aa5fdbd0", func := "cardbox/cardboxlaw10.IdentSeqs", spec := "identSeqs", recurses := true, apart := false }
def IdentSeqsSaid : Prop := identSeqsRow.holds Try.pinned (OpenSpec.ofChange identSeqsSpec)

/-- ITS FALSE NEIGHBOUR: 'it returns false'. Refute it at one input. -/
def identSeqsWrong : ChangeSpec := { name := "identSeqs", fn := fun _ => fun
  | [d1, d2] => { results := [.lit (.bool false)], args := [d1, d2] }
  | _ => none }
def IdentSeqsWrongFalsely : Prop := identSeqsRow.holds Try.pinned (OpenSpec.ofChange identSeqsWrong)

/-- 'cardboxlaw10.IdentRises': WHATEVER THE INPUT: true; the input reads as it did. -/
def identRisesSpec : ChangeSpec := { name := "identRises", fn := fun _ => fun
  | [d1, d2] => { results := [.lit (.bool true)], args := [d1, d2] }
  | _ => none }
def identRisesRow : OpenClaim := { program := "ytgmkejfepakehaa", sum := "91a948f31aae1ddaf421ec0c26d3c861788d6e9c719d9627bd58f4c0aa5fdbd0", func := "cardbox/cardboxlaw10.IdentRises", spec := "identRises", apart := false }
def IdentRisesSaid : Prop := identRisesRow.holds Try.pinned (OpenSpec.ofChange identRisesSpec)

/-- ITS FALSE NEIGHBOUR: 'it returns false'. Refute it at one input. -/
def identRisesWrong : ChangeSpec := { name := "identRises", fn := fun _ => fun
  | [d1, d2] => { results := [.lit (.bool false)], args := [d1, d2] }
  | _ => none }
def IdentRisesWrongFalsely : Prop := identRisesRow.holds Try.pinned (OpenSpec.ofChange identRisesWrong)

/-- 'cardboxlaw10.IdentApart': WHATEVER THE INPUT: true; the input reads as it did. -/
def identApartSpec : ChangeSpec := { name := "identApart", fn := fun _ => fun
  | [d1, d2] => { results := [.lit (.bool true)], args := [d1, d2] }
  | _ => none }
def identApartRow : OpenClaim := { program := "ytgmkejfepakehaa", sum := "91a948f31aae1ddaf421ec0c26d3c861788d6e9c719d9627bd58f4c0aa5fdbd0", func := "cardbox/cardboxlaw10.IdentApart", spec := "identApart", apart := false }
def IdentApartSaid : Prop := identApartRow.holds Try.pinned (OpenSpec.ofChange identApartSpec)

/-- ITS FALSE NEIGHBOUR: 'it returns false'. Refute it at one input. -/
def identApartWrong : ChangeSpec := { name := "identApart", fn := fun _ => fun
  | [d1, d2] => { results := [.lit (.bool false)], args := [d1, d2] }
  | _ => none }
def IdentApartWrongFalsely : Prop := identApartRow.holds Try.pinned (OpenSpec.ofChange identApartWrong)

/- THE SECOND FORM. 'bulk': how many values and letters a reading holds, each counted each time it is reached (what is shared counts as often as it is met; a slice's spare places count too). A statement '..UptoSaid' is the law's where the arguments, and the package variables that the reading takes, are together of bulk at most 1048576: NARROWER than '..Said'. Prove '..Said' where nothing that the law and all that it calls make is longer than what came in: it says more and counts as full. Else prove '..UptoSaid'. A law counts once. -/
mutual
def uptoBulk {H : Type} : DataW H → Nat
  | .lit (.string bytes) => bytes.length + 1
  | .lit _ => 1
  | .nil => 1
  | .ptr d => uptoBulk d + 1
  | .slice elems spare => uptoBulkAll elems + uptoBulkAll spare + 1
  | .agg parts => uptoBulkAll parts + 1
  | .iface _ d => uptoBulk d + 1
  | .map entries => uptoBulkEntries entries + 1
  | .held _ => 1
def uptoBulkAll {H : Type} : List (DataW H) → Nat
  | [] => 0
  | d :: r => uptoBulk d + uptoBulkAll r
def uptoBulkEntries {H : Type} : List (Lit × DataW H) → Nat
  | [] => 0
  | x :: r => uptoBulkEntry x + uptoBulkEntries r
def uptoBulkEntry {H : Type} : Lit × DataW H → Nat
  | (.string bytes, d) => bytes.length + uptoBulk d + 1
  | (_, d) => uptoBulk d + 1
 end
def uptoSmall : (H : Type) → List (DataW H) → Bool := fun _ ds => decide (uptoBulkAll ds ≤ 1048576)
def OpenSpec.upto (s : _root_.Go.ChangeSpec) : _root_.Go.OpenSpec := { _root_.Go.OpenSpec.ofChange s with cond := some uptoSmall }

/-- 'cardboxlaw10.IdentIds', WHERE WHAT IT READS IS OF BULK AT MOST 1048576: true; the input reads as it did. -/
def identIdsUptoRow : OpenClaim := { program := "ytgmkejfepakehaa", sum := "91a948f31aae1ddaf421ec0c26d3c861788d6e9c719d9627bd58f4c0aa5fdbd0", func := "cardbox/cardboxlaw10.IdentIds", spec := "identIds", apart := false, narrowed := true }
def IdentIdsUptoSaid : Prop := identIdsUptoRow.holds Try.pinned (OpenSpec.upto identIdsSpec)

/-- 'cardboxlaw10.IdentMakes', WHERE WHAT IT READS IS OF BULK AT MOST 1048576: true; the input reads as it did. -/
def identMakesUptoRow : OpenClaim := { program := "ytgmkejfepakehaa", sum := "91a948f31aae1ddaf421ec0c26d3c861788d6e9c719d9627bd58f4c0aa5fdbd0", func := "cardbox/cardboxlaw10.IdentMakes", spec := "identMakes", recurses := true, apart := false, narrowed := true }
def IdentMakesUptoSaid : Prop := identMakesUptoRow.holds Try.pinned (OpenSpec.upto identMakesSpec)

/-- 'cardboxlaw10.IdentSeqs', WHERE WHAT IT READS IS OF BULK AT MOST 1048576: true; the input reads as it did. -/
def identSeqsUptoRow : OpenClaim := { program := "ytgmkejfepakehaa", sum := "91a948f31aae1ddaf421ec0c26d3c861788d6e9c719d9627bd58f4c0aa5fdbd0", func := "cardbox/cardboxlaw10.IdentSeqs", spec := "identSeqs", recurses := true, apart := false, narrowed := true }
def IdentSeqsUptoSaid : Prop := identSeqsUptoRow.holds Try.pinned (OpenSpec.upto identSeqsSpec)

/-- 'cardboxlaw10.IdentRises', WHERE WHAT IT READS IS OF BULK AT MOST 1048576: true; the input reads as it did. -/
def identRisesUptoRow : OpenClaim := { program := "ytgmkejfepakehaa", sum := "91a948f31aae1ddaf421ec0c26d3c861788d6e9c719d9627bd58f4c0aa5fdbd0", func := "cardbox/cardboxlaw10.IdentRises", spec := "identRises", apart := false, narrowed := true }
def IdentRisesUptoSaid : Prop := identRisesUptoRow.holds Try.pinned (OpenSpec.upto identRisesSpec)

/-- 'cardboxlaw10.IdentApart', WHERE WHAT IT READS IS OF BULK AT MOST 1048576: true; the input reads as it did. -/
def identApartUptoRow : OpenClaim := { program := "ytgmkejfepakehaa", sum := "91a948f31aae1ddaf421ec0c26d3c861788d6e9c719d9627bd58f4c0aa5fdbd0", func := "cardbox/cardboxlaw10.IdentApart", spec := "identApart", apart := false, narrowed := true }
def IdentApartUptoSaid : Prop := identApartUptoRow.holds Try.pinned (OpenSpec.upto identApartSpec)

end Rows
end Go.Proofs.Ytgmkejfepakehaa
