/-
  NARROWER THAN 'FOR EVERY INPUT', by the rows' own cells (each row's printed sentence says how): CardLacks: loops, laid · CardKeeps: loops, laid.
  DERIVED. THE GIVEN ROWS OF THIS SEAT. 2 by the template 'for every input the law returns true; each argument reads behind the call as it read before'; 0 by the template 'total and deterministic' (their statements: YtnecfkhbncepnaaGreatDoorTotals.lean).
  GIVEN WITH THE SEED: the statements are not yours to turn. If you find one false, say at which input.
  Laid BY PROGRAM, IN A SANDBOX (cutbox-rows.mjs): the forced cells as the released guide's own fill.sh prints them over the translation c40158b0c0aea51d… (all of the seat's roots in one cut). By AI agents, Wed Nov 11 2026. No macro, syntax, notation, axiom, sorry.
-/
import Derived.Test.YtnecfkhbncepnaaGreatDoorChecked
import GoSem.Claim
import GoSem.ClaimJoined
import GoSem.ClaimMapViews
import Derived.JoinedTies
import Derived.KernelRfl
namespace Go.Proofs.YtnecfkhbncepnaaGreatDoor
/- THE CELL 'sum', in the pinned program and in every row, IS THE sha256 OF THE DUMP (.gsa) THAT YtnecfkhbncepnaaGreatDoorProg.lean LOADS. Nothing in Lean hashes anything: it is a label: what it is worth is what the hold of that sum in a sandbox is worth. -/
noncomputable def Tryz.pinned : Pinned := { name := "ytnecfkhbncepnaagreatdoor", sum := "c40158b0c0aea51d447471438f7ce9917afc92500ca5341d4c06402709ff32f9", checked := Tryz.checked }
namespace Rows
def none {H : Type} : Left H := { results := [], args := [] }

/- WHAT THE LISTED PACKAGE-LEVEL VARIABLES READ AS WHEN THE CALL BEGINS. Each datum BY PROGRAM (the guide's laid-datum.mjs) off the statement by which the dump's own 'gosem.cut.vars' lays the variable. In a bare row this is a premise. The card (YtnecfkhbncepnaaGreatDoorCards.lean) ties it to the program's text. -/
def laid_cardbox_stamp_places {H : Type} : DataW H := .agg [.agg [.lit (.int .i64 0), .lit (.int .i64 4)], .agg [.lit (.int .i64 5), .lit (.int .i64 7)], .agg [.lit (.int .i64 8), .lit (.int .i64 10)], .agg [.lit (.int .i64 11), .lit (.int .i64 13)], .agg [.lit (.int .i64 14), .lit (.int .i64 16)], .agg [.lit (.int .i64 17), .lit (.int .i64 19)]]
def laid_cardbox_stamp_monthDays {H : Type} : DataW H := .agg [.lit (.int .i64 31), .lit (.int .i64 28), .lit (.int .i64 31), .lit (.int .i64 30), .lit (.int .i64 31), .lit (.int .i64 30), .lit (.int .i64 31), .lit (.int .i64 31), .lit (.int .i64 30), .lit (.int .i64 31), .lit (.int .i64 30), .lit (.int .i64 31)]

/-- 'cardboxlaw14.CardLacks': WHATEVER THE INPUT: true; the input reads as it did. -/
def cardLacksSpec : ChangeSpec := { name := "cardLacks", fn := fun _ => fun
  | [d1, d2] => { results := [.lit (.bool true)], args := [d1, d2] }
  | _ => none }
def cardLacksRow : OpenClaim := { program := "ytnecfkhbncepnaagreatdoor", sum := "c40158b0c0aea51d447471438f7ce9917afc92500ca5341d4c06402709ff32f9", func := "cardbox/cardboxlaw14.CardLacks", spec := "cardLacks", inPlace := ["internal/bytealg.abigen_runtime_cmpstring", "internal/bytealg.IndexByteString", "internal/bytealg.IndexString"], unfollowed := true, recurses := true, named := ["internal/bytealg.MaxLen", "cardbox/stamp.places", "cardbox/stamp.monthDays"], loops := true, apart := false, laid := [("cardbox/stamp.places", laid_cardbox_stamp_places), ("cardbox/stamp.monthDays", laid_cardbox_stamp_monthDays)] }
def CardLacksSaid : Prop := cardLacksRow.holds Tryz.pinned (OpenSpec.ofChange cardLacksSpec)

/-- ITS FALSE NEIGHBOUR: 'it returns false'. Refute it at one input. -/
def cardLacksWrong : ChangeSpec := { name := "cardLacks", fn := fun _ => fun
  | [d1, d2] => { results := [.lit (.bool false)], args := [d1, d2] }
  | _ => none }
def CardLacksWrongFalsely : Prop := cardLacksRow.holds Tryz.pinned (OpenSpec.ofChange cardLacksWrong)

/-- 'cardboxlaw14.CardKeeps': WHATEVER THE INPUT: true; the input reads as it did. -/
def cardKeepsSpec : ChangeSpec := { name := "cardKeeps", fn := fun _ => fun
  | [d] => { results := [.lit (.bool true)], args := [d] }
  | _ => none }
def cardKeepsRow : OpenClaim := { program := "ytnecfkhbncepnaagreatdoor", sum := "c40158b0c0aea51d447471438f7ce9917afc92500ca5341d4c06402709ff32f9", func := "cardbox/cardboxlaw14.CardKeeps", spec := "cardKeeps", inPlace := ["internal/bytealg.abigen_runtime_cmpstring", "internal/bytealg.IndexByteString", "internal/bytealg.IndexString"], unfollowed := true, recurses := true, named := ["internal/bytealg.MaxLen", "cardbox/stamp.places", "cardbox/stamp.monthDays"], loops := true, apart := false, laid := [("cardbox/stamp.places", laid_cardbox_stamp_places), ("cardbox/stamp.monthDays", laid_cardbox_stamp_monthDays)] }
def CardKeepsSaid : Prop := cardKeepsRow.holds Tryz.pinned (OpenSpec.ofChange cardKeepsSpec)

/-- ITS FALSE NEIGHBOUR: 'it returns false'. Refute it at one input. -/
def cardKeepsWrong : ChangeSpec := { name := "cardKeeps", fn := fun _ => fun
  | [d] => { results := [.lit (.bool false)], args := [d] }
  | _ => none }
def CardKeepsWrongFalsely : Prop := cardKeepsRow.holds Tryz.pinned (OpenSpec.ofChange cardKeepsWrong)

/- THE SECOND FORM. 'bulk': how many values and letters a reading holds, each counted each time it is reached (what is shared counts as often as it is met; a slice's spare places count too). A statement '..UptoSaid' is the law's where the arguments, and the package variables that the reading takes, are together of bulk at most 1048576: NARROWER than '..Said'. Prove '..Said' where nothing that the law and all that it calls make is longer than what came in: it says more and counts as full. Else prove '..UptoSaid'. A law counts once. -/
mutual
def uptoBulk {H : Type} : DataW H → Nat
  | .lit (.string bytes) => bytes.length + 1
  | .lit _ => 1
  | .nil => 1
  | .ptr d => uptoBulk d + 1
  | .slice elems spare => uptoBulkAll elems + uptoBulkAll spare + 1
  | .agg parts => uptoBulkAll parts + 1
  | .iface _ d => uptoBulk d + 1
  | .map entries => uptoBulkEntries entries + 1
  | .held _ => 1
def uptoBulkAll {H : Type} : List (DataW H) → Nat
  | [] => 0
  | d :: r => uptoBulk d + uptoBulkAll r
def uptoBulkEntries {H : Type} : List (Lit × DataW H) → Nat
  | [] => 0
  | x :: r => uptoBulkEntry x + uptoBulkEntries r
def uptoBulkEntry {H : Type} : Lit × DataW H → Nat
  | (.string bytes, d) => bytes.length + uptoBulk d + 1
  | (_, d) => uptoBulk d + 1
 end
def uptoSmall : (H : Type) → List (DataW H) → Bool := fun _ ds => decide (uptoBulkAll ds ≤ 1048576)
def OpenSpec.upto (s : _root_.Go.ChangeSpec) : _root_.Go.OpenSpec := { _root_.Go.OpenSpec.ofChange s with cond := some uptoSmall }

/-- 'cardboxlaw14.CardLacks', WHERE WHAT IT READS IS OF BULK AT MOST 1048576: true; the input reads as it did. -/
def cardLacksUptoRow : OpenClaim := { program := "ytnecfkhbncepnaagreatdoor", sum := "c40158b0c0aea51d447471438f7ce9917afc92500ca5341d4c06402709ff32f9", func := "cardbox/cardboxlaw14.CardLacks", spec := "cardLacks", inPlace := ["internal/bytealg.abigen_runtime_cmpstring", "internal/bytealg.IndexByteString", "internal/bytealg.IndexString"], unfollowed := true, recurses := true, named := ["internal/bytealg.MaxLen", "cardbox/stamp.places", "cardbox/stamp.monthDays"], loops := true, apart := false, laid := [("cardbox/stamp.places", laid_cardbox_stamp_places), ("cardbox/stamp.monthDays", laid_cardbox_stamp_monthDays)], narrowed := true }
def CardLacksUptoSaid : Prop := cardLacksUptoRow.holds Tryz.pinned (OpenSpec.upto cardLacksSpec)

/-- 'cardboxlaw14.CardKeeps', WHERE WHAT IT READS IS OF BULK AT MOST 1048576: true; the input reads as it did. -/
def cardKeepsUptoRow : OpenClaim := { program := "ytnecfkhbncepnaagreatdoor", sum := "c40158b0c0aea51d447471438f7ce9917afc92500ca5341d4c06402709ff32f9", func := "cardbox/cardboxlaw14.CardKeeps", spec := "cardKeeps", inPlace := ["internal/bytealg.abigen_runtime_cmpstring", "internal/bytealg.IndexByteString", "internal/bytealg.IndexString"], unfollowed := true, recurses := true, named := ["internal/bytealg.MaxLen", "cardbox/stamp.places", "cardbox/stamp.monthDays"], loops := true, apart := false, laid := [("cardbox/stamp.places", laid_cardbox_stamp_places), ("cardbox/stamp.monthDays", laid_cardbox_stamp_monthDays)], narrowed := true }
def CardKeepsUptoSaid : Prop := cardKeepsUptoRow.holds Tryz.pinned (OpenSpec.upto cardKeepsSpec)

end Rows
end Go.Proofs.YtnecfkhbncepnaaGreatDoor
