/- Merged: ChPl ScPl RePl EmPl. -/
import Derived.Test.YtjbaogoapobhbaaDoorTt2
import Derived.Test.YtjbaogoapobhbaaDoorProg
import Derived.Test.YtjbaogoapobhbaaDoorTt0
import Derived.WalkKit
import Derived.Deep.QuietTactic
import Derived.BigQuiet
import Derived.WalkLawsBesides
import Derived.WalkSpells
import Derived.Lib.Hide
import Derived.Laws.AppendOwn
import Derived.Laws.BytesString
import Derived.Lib.AppendStr
namespace Go.Proofs.YtjbaogoapobhbaaDoor.Ch
open Go.RowKit
open Go.Proofs.YtjbaogoapobhbaaDoor.Utf

end Go.Proofs.YtjbaogoapobhbaaDoor.Ch
namespace Go.Proofs.YtjbaogoapobhbaaDoor.Ch
open Go.RowKit
open Go.Proofs.YtjbaogoapobhbaaDoor.Utf

end Go.Proofs.YtjbaogoapobhbaaDoor.Ch
namespace Go.Proofs.YtjbaogoapobhbaaDoor.Ch
open Go.RowKit
open Go.Proofs.YtjbaogoapobhbaaDoor.Utf

end Go.Proofs.YtjbaogoapobhbaaDoor.Ch
namespace Go.Proofs.YtjbaogoapobhbaaDoor.Ch
open Go.RowKit
open Go.Proofs.YtjbaogoapobhbaaDoor.Utf

def toB (l : List Int) : List UInt8 := l.map fun x => UInt8.ofNat x.toNat
def hexV (d : Int) : Int := if d < 10 then 48 + d else 87 + d
def special (p : Int) : Bool := decide (p < 32 ∨ p = 34 ∨ p = 92)
def escZ (p : Int) : List Int :=
  if p = 34 ∨ p = 92 then [92, p] else if p = 8 then [92, 98] else if p = 9 then [92, 116] else if p = 10 then [92, 110] else if p = 12 then [92, 102] else if p = 13 then [92, 114]
  else [92, 117, 48, 48, hexV (p / 16), hexV (p % 16)]
def qbZ (c : Int) : List Int := if special c = true then escZ c else [c]
def qb (c : UInt8) : List UInt8 := toB (qbZ c.toNat)
def qbL (l : List UInt8) : List UInt8 := (l.map qb).flatten
end Go.Proofs.YtjbaogoapobhbaaDoor.Ch
namespace Go.Proofs.YtjbaogoapobhbaaDoor.Ch
open Go.RowKit
open Go.Proofs.YtjbaogoapobhbaaDoor.Utf

end Go.Proofs.YtjbaogoapobhbaaDoor.Ch
namespace Go.Proofs.YtjbaogoapobhbaaDoor.Ch
open Go.RowKit
open Go.Proofs.YtjbaogoapobhbaaDoor.Utf

end Go.Proofs.YtjbaogoapobhbaaDoor.Ch
namespace Go.Proofs.YtjbaogoapobhbaaDoor.Sc
open Go.RowKit
open Go.Proofs.YtjbaogoapobhbaaDoor.Utf
open Go.Proofs.YtjbaogoapobhbaaDoor.Ch (qbL)
open Go.Proofs.YtjbaogoapobhbaaDoor.Nu

abbrev Tok := Int × Int × List UInt8 × Int
def isMk (c : Int) : Bool := decide (c = 123 ∨ c = 125 ∨ c = 91 ∨ c = 93 ∨ c = 58 ∨ c = 44)
def isPart (c : Int) : Bool := decide ((97 ≤ c ∧ c ≤ 122) ∨ (65 ≤ c ∧ c ≤ 90) ∨ (48 ≤ c ∧ c ≤ 57) ∨ c = 95)
def wTrue : List UInt8 := [116, 114, 117, 101]
def wFalse : List UInt8 := [102, 97, 108, 115, 101]
def wNull : List UInt8 := [110, 117, 108, 108]
def hasW (l : List UInt8) (k : Nat) (w : List UInt8) : Prop := (l.drop k).take w.length = w ∧ isPart (byt l (k + w.length)) = false
instance (l : List UInt8) (k : Nat) (w : List UInt8) : Decidable (hasW l k w) := by unfold hasW; infer_instance
end Go.Proofs.YtjbaogoapobhbaaDoor.Sc
namespace Go.Proofs.YtjbaogoapobhbaaDoor.Sc
open Go.RowKit
open Go.Proofs.YtjbaogoapobhbaaDoor.Utf
open Go.Proofs.YtjbaogoapobhbaaDoor.Ch (qbL)
open Go.Proofs.YtjbaogoapobhbaaDoor.Nu

def wrds (k : Nat) : List UInt8 := if k = 0 then wTrue else if k = 1 then wFalse else wNull
def okT (t : Tok) : Prop :=
  (t.1 = 1 ∧ t.2.1 = 0 ∧ ∃ c : UInt8, t.2.2.1 = [c] ∧ isMk (c.toNat : Int) = true) ∨ (t.1 = 2 ∧ t.2.1 = 0 ∧ ∃ i, i < 3 ∧ t.2.2.1 = wrds i) ∨
  (t.1 = 3 ∧ t.2.1.natAbs ≤ maxN ∧ t.2.2.1 = []) ∨ (t.1 = 4 ∧ t.2.1 = 0 ∧ (ptsL t.2.2.1).2 = t.2.2.1.length)
def wr (t : Tok) : List UInt8 := if t.1 = 3 then putL t.2.1 else if t.1 = 4 then 34 :: (qbL t.2.2.1 ++ [34]) else t.2.2.1

end Go.Proofs.YtjbaogoapobhbaaDoor.Sc
namespace Go.Proofs.YtjbaogoapobhbaaDoor.Re
open Go.Proofs.YtjbaogoapobhbaaDoor.Utf
open Go.Proofs.YtjbaogoapobhbaaDoor.Sc

inductive V : Type
  | mk (k n : Int) (s : List UInt8) (l : List V) (ns : List (List UInt8)) (ms : List V) : V
mutual
/-- how high a value is -/
def ht : V → Nat
  | .mk _ _ _ l _ ms => max (htL l) (htL ms) + 1
def htL : List V → Nat
  | [] => 0
  | v :: r => max (ht v) (htL r)
end
end Go.Proofs.YtjbaogoapobhbaaDoor.Re
namespace Go.Proofs.YtjbaogoapobhbaaDoor.Em
open Go.Proofs.YtjbaogoapobhbaaDoor.Utf
open Go.Proofs.YtjbaogoapobhbaaDoor.Sc
open Go.Proofs.YtjbaogoapobhbaaDoor.Re
open Go.Proofs.YtjbaogoapobhbaaDoor.Ch (qbL)
open Go.Proofs.YtjbaogoapobhbaaDoor.Nu

def okS (s : List UInt8) : Prop := (ptsL s).2 = s.length
instance (s : List UInt8) : Decidable (okS s) := by unfold okS; infer_instance
def nmsOk (ns : List (List UInt8)) : Prop := ns.length ≤ 8192 → (∀ x ∈ ns, okS x) ∧ ns.Nodup
instance (ns : List (List UInt8)) : Decidable (nmsOk ns) := by unfold nmsOk; infer_instance
def own (k n : Int) (s : List UInt8) (a : Nat) (ns : List (List UInt8)) (b : Nat) : Prop :=
  ((1 ≤ k ∧ k ≤ 6) ∧ ((k ≠ 2 ∧ k ≠ 3) → n = 0) ∧ (k ≠ 4 → s = []) ∧ (k ≠ 5 → a = 0) ∧ (k ≠ 6 → b = 0)) ∧
    (k = 2 → n = 0 ∨ n = 1) ∧ (k = 3 → -9007199254740991 ≤ n ∧ n ≤ 9007199254740991) ∧ (k = 4 → okS s) ∧ (k = 6 → nmsOk ns)
instance (k n : Int) (s : List UInt8) (a : Nat) (ns : List (List UInt8)) (b : Nat) : Decidable (own k n s a ns b) := by unfold own; infer_instance

end Go.Proofs.YtjbaogoapobhbaaDoor.Em
