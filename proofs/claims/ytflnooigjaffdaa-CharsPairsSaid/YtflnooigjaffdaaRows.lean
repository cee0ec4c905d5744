/-
  No cell of these rows narrows 'for every input' (looked for: loops, veiled, ifaces, maps, wideKeys, modest, calm, conditions, laid).
  DERIVED. THE GIVEN ROWS OF THIS SEAT. 4 by the template 'for every input the law returns true; each argument reads behind the call as it read before'; 0 by the template 'total and deterministic' (their statements: YtflnooigjaffdaaTotals.lean).
  GIVEN WITH THE SEED: the statements are not yours to turn. If you find one false, say at which input.
  Laid BY PROGRAM, IN A SANDBOX (cutbox-rows.mjs): the forced cells as the released guide's own fill.sh prints them over the translation 1637bbaf1110cfb7… (all of the seat's roots in one cut). By AI agents, Wed Nov 11 2026. No macro, syntax, notation, axiom, sorry.
-/
import Derived.Test.YtflnooigjaffdaaChecked
import GoSem.Claim
import GoSem.ClaimJoined
import GoSem.ClaimMapViews
import Derived.JoinedTies
import Derived.KernelRfl
namespace Go.Proofs.Ytflnooigjaffdaa
/- THE CELL 'sum', in the pinned program and in every row, IS THE sha256 OF THE DUMP (.gsa) THAT YtflnooigjaffdaaProg.lean LOADS. Nothing in Lean hashes anything: it is a label: what it is worth is what the hold of that sum in a sandbox is worth. -/
noncomputable def Try.pinned : Pinned := { name := "ytflnooigjaffdaa", sum := "1637bbaf1110cfb7806ace00b020ec757321600d40558575009243833db2a445", checked := Try.checked }
namespace Rows
def none {H : Type} : Left H := { results := [], args := [] }

/-- 'cardboxlaw02.CharsBack': WHATEVER THE INPUT: true; the input reads as it did. -/
def charsBackSpec : ChangeSpec := { name := "charsBack", fn := fun _ => fun
  | [d1, d2, d3] => { results := [.lit (.bool true)], args := [d1, d2, d3] }
  | _ => none }
def charsBackRow : OpenClaim := { program := "ytflnooigjaffdaa", sum := "1637bbaf1110cfb7806ace00b020ec757321600d40558575009243833db2a445", func := "cardbox/cardboxlaw02.CharsBack", spec := "charsBack", apart := false }
def CharsBackSaid : Prop := charsBackRow.holds Try.pinned (OpenSpec.ofChange charsBackSpec)

/-- ITS FALSE NEIGHBOUR: 'it returns false'. Refute it at one input. -/
def charsBackWrong : ChangeSpec := { name := "charsBack", fn := fun _ => fun
  | [d1, d2, d3] => { results := [.lit (.bool false)], args := [d1, d2, d3] }
  | _ => none }
def CharsBackWrongFalsely : Prop := charsBackRow.holds Try.pinned (OpenSpec.ofChange charsBackWrong)

/-- 'cardboxlaw02.CharsAgain': WHATEVER THE INPUT: true; the input reads as it did. -/
def charsAgainSpec : ChangeSpec := { name := "charsAgain", fn := fun _ => fun
  | [d1, d2] => { results := [.lit (.bool true)], args := [d1, d2] }
  | _ => none }
def charsAgainRow : OpenClaim := { program := "ytflnooigjaffdaa", sum := "1637bbaf1110cfb7806ace00b020ec757321600d40558575009243833db2a445", func := "cardbox/cardboxlaw02.CharsAgain", spec := "charsAgain", apart := false }
def CharsAgainSaid : Prop := charsAgainRow.holds Try.pinned (OpenSpec.ofChange charsAgainSpec)

/-- ITS FALSE NEIGHBOUR: 'it returns false'. Refute it at one input. -/
def charsAgainWrong : ChangeSpec := { name := "charsAgain", fn := fun _ => fun
  | [d1, d2] => { results := [.lit (.bool false)], args := [d1, d2] }
  | _ => none }
def CharsAgainWrongFalsely : Prop := charsAgainRow.holds Try.pinned (OpenSpec.ofChange charsAgainWrong)

/-- 'cardboxlaw02.CharsPairs': WHATEVER THE INPUT: true; the input reads as it did. -/
def charsPairsSpec : ChangeSpec := { name := "charsPairs", fn := fun _ => fun
  | [d1, d2] => { results := [.lit (.bool true)], args := [d1, d2] }
  | _ => none }
def charsPairsRow : OpenClaim := { program := "ytflnooigjaffdaa", sum := "1637bbaf1110cfb7806ace00b020ec757321600d40558575009243833db2a445", func := "cardbox/cardboxlaw02.CharsPairs", spec := "charsPairs", apart := false }
def CharsPairsSaid : Prop := charsPairsRow.holds Try.pinned (OpenSpec.ofChange charsPairsSpec)

/-- ITS FALSE NEIGHBOUR: 'it returns false'. Refute it at one input. -/
def charsPairsWrong : ChangeSpec := { name := "charsPairs", fn := fun _ => fun
  | [d1, d2] => { results := [.lit (.bool false)], args := [d1, d2] }
  | _ => none }
def CharsPairsWrongFalsely : Prop := charsPairsRow.holds Try.pinned (OpenSpec.ofChange charsPairsWrong)

/-- 'cardboxlaw02.CharsBegins': WHATEVER THE INPUT: true; the input reads as it did. -/
def charsBeginsSpec : ChangeSpec := { name := "charsBegins", fn := fun _ => fun
  | [d1, d2, d3] => { results := [.lit (.bool true)], args := [d1, d2, d3] }
  | _ => none }
def charsBeginsRow : OpenClaim := { program := "ytflnooigjaffdaa", sum := "1637bbaf1110cfb7806ace00b020ec757321600d40558575009243833db2a445", func := "cardbox/cardboxlaw02.CharsBegins", spec := "charsBegins", apart := false }
def CharsBeginsSaid : Prop := charsBeginsRow.holds Try.pinned (OpenSpec.ofChange charsBeginsSpec)

/-- ITS FALSE NEIGHBOUR: 'it returns false'. Refute it at one input. -/
def charsBeginsWrong : ChangeSpec := { name := "charsBegins", fn := fun _ => fun
  | [d1, d2, d3] => { results := [.lit (.bool false)], args := [d1, d2, d3] }
  | _ => none }
def CharsBeginsWrongFalsely : Prop := charsBeginsRow.holds Try.pinned (OpenSpec.ofChange charsBeginsWrong)

/- THE SECOND FORM. 'bulk': how many values and letters a reading holds, each counted each time it is reached (what is shared counts as often as it is met; a slice's spare places count too). A statement '..UptoSaid' is the law's where the arguments, and the package variables that the reading takes, are together of bulk at most 1048576: NARROWER than '..Said'. Prove '..Said' where nothing that the law and all that it calls make is longer than what came in: it says more and counts as full. Else prove '..UptoSaid'. A law counts once. -/
mutual
def uptoBulk {H : Type} : DataW H → Nat
  | .lit (.string bytes) => bytes.length + 1
  | .lit _ => 1
  | .nil => 1
  | .ptr d => uptoBulk d + 1
  | .slice elems spare => uptoBulkAll elems + uptoBulkAll spare + 1
  | .agg parts => uptoBulkAll parts + 1
  | .iface _ d => uptoBulk d + 1
  | .map entries => uptoBulkEntries entries + 1
  | .held _ => 1
def uptoBulkAll {H : Type} : List (DataW H) → Nat
  | [] => 0
  | d :: r => uptoBulk d + uptoBulkAll r
def uptoBulkEntries {H : Type} : List (Lit × DataW H) → Nat
  | [] => 0
  | x :: r => uptoBulkEntry x + uptoBulkEntries r
def uptoBulkEntry {H : Type} : Lit × DataW H → Nat
  | (.string bytes, d) => bytes.length + uptoBulk d + 1
  | (_, d) => uptoBulk d + 1
 end
def uptoSmall : (H : Type) → List (DataW H) → Bool := fun _ ds => decide (uptoBulkAll ds ≤ 1048576)
def OpenSpec.upto (s : _root_.Go.ChangeSpec) : _root_.Go.OpenSpec := { _root_.Go.OpenSpec.ofChange s with cond := some uptoSmall }

/-- 'cardboxlaw02.CharsBack', WHERE WHAT IT READS IS OF BULK AT MOST 1048576: true; the input reads as it did. -/
def charsBackUptoRow : OpenClaim := { program := "ytflnooigjaffdaa", sum := "1637bbaf1110cfb7806ace00b020ec757321600d40558575009243833db2a445", func := "cardbox/cardboxlaw02.CharsBack", spec := "charsBack", apart := false, narrowed := true }
def CharsBackUptoSaid : Prop := charsBackUptoRow.holds Try.pinned (OpenSpec.upto charsBackSpec)

/-- 'cardboxlaw02.CharsAgain', WHERE WHAT IT READS IS OF BULK AT MOST 1048576: true; the input reads as it did. -/
def charsAgainUptoRow : OpenClaim := { program := "ytflnooigjaffdaa", sum := "1637bbaf1110cfb7806ace00b020ec757321600d40558575009243833db2a445", func := "cardbox/cardboxlaw02.CharsAgain", spec := "charsAgain", apart := false, narrowed := true }
def CharsAgainUptoSaid : Prop := charsAgainUptoRow.holds Try.pinned (OpenSpec.upto charsAgainSpec)

/-- 'cardboxlaw02.CharsPairs', WHERE WHAT IT READS IS OF BULK AT MOST 1048576: true; the input reads as it did. -/
def charsPairsUptoRow : OpenClaim := { program := "ytflnooigjaffdaa", sum := "1637bbaf1110cfb7806ace00b020ec757321600d40558575009243833db2a445", func := "cardbox/cardboxlaw02.CharsPairs", spec := "charsPairs", apart := false, narrowed := true }
def CharsPairsUptoSaid : Prop := charsPairsUptoRow.holds Try.pinned (OpenSpec.upto charsPairsSpec)

/-- 'cardboxlaw02.CharsBegins', WHERE WHAT IT READS IS OF BULK AT MOST 1048576: true; the input reads as it did. -/
def charsBeginsUptoRow : OpenClaim := { program := "ytflnooigjaffdaa", sum := "1637bbaf1110cfb7806ace00b020ec757321600d40558575009243833db2a445", func := "cardbox/cardboxlaw02.CharsBegins", spec := "charsBegins", apart := false, narrowed := true }
def CharsBeginsUptoSaid : Prop := charsBeginsUptoRow.holds Try.pinned (OpenSpec.upto charsBeginsSpec)

end Rows
end Go.Proofs.Ytflnooigjaffdaa
