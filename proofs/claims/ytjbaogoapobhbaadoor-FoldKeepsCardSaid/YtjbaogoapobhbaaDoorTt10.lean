/- Merged: PoT PoM PoA. -/
import Derived.Test.YtjbaogoapobhbaaDoorTt7
import Derived.Test.YtjbaogoapobhbaaDoorTt0
import Derived.Deep.Slices
import Derived.SizedLaws
import Derived.Test.YtjbaogoapobhbaaDoorProg
import Derived.Test.YtjbaogoapobhbaaDoorTt2
import Derived.WalkKit
import Derived.Deep.QuietTactic
import Derived.BigQuiet
import Derived.WalkLawsBesides
import Derived.WalkSpells
import Derived.Lib.Hide
import Derived.Laws.AppendOwn
import Derived.Laws.BytesString
import Derived.IntWalk
import Derived.Deep.RegionHeld3
import Derived.Maps.OwnSet
import Derived.ChangeArms
import Derived.Laws.Shifts
import Derived.OpenShut
import Derived.Deep.AppendLies
import Derived.Deep.RegionLaw
import Derived.Lib.AppendStr
import Derived.Shelf.Strings.Builder1
import Derived.Lib.ConvBytes
import Derived.Deep.LoopGhost
namespace Go.Proofs.YtjbaogoapobhbaaDoor.Po
open Go.Proofs Go.RowKit
open Go.Proofs.YtjbaogoapobhbaaDoor.Utf
open Go.Proofs.YtjbaogoapobhbaaDoor.Sc
open Go.Proofs.YtjbaogoapobhbaaDoor.Em

def strC (ps : List (List UInt8)) : List Value := ps.map fun q => .string (strOf q)
theorem strC_len (ps : List (List UInt8)) : (strC ps).length = ps.length := by unfold strC; simp
theorem strC_at (ps : List (List UInt8)) (k : Nat) (h : k < ps.length) : (strC ps)[k]? = some (.string (strOf ps[k])) := by
  unfold strC
  rw [List.getElem?_map, List.getElem?_eq_getElem h]; rfl
end Go.Proofs.YtjbaogoapobhbaaDoor.Po
namespace Go.Proofs.YtjbaogoapobhbaaDoor.Po
open Go.Proofs Go.RowKit
open Go.Proofs.YtjbaogoapobhbaaDoor.Utf

def RdS (w : World) (B : Nat) (v : Value) (ps : List (List UInt8)) : Prop :=
  ∃ A c, v = .slice A ps.length c ∧ ps.length ≤ c ∧ (0 < ps.length → ∃ ad, A = some ad ∧ ad.block < B ∧ ∀ j u, (strC ps)[j]? = some u → w.cell? (ad.add j) = some u)
theorem RdS.rd {w : World} {B : Nat} {v : Value} {ps : List (List UInt8)} (h : RdS w B v ps) : Rd w B v (strC ps) := by
  obtain ⟨A, c, rfl, _, h⟩ := h
  exact ⟨A, c, by rw [strC_len], by rw [strC_len]; exact h⟩
theorem RdS.nil (w : World) (B : Nat) : RdS w B (.slice none 0 0) [] := ⟨none, 0, rfl, Nat.le_refl _, fun h => by simp at h⟩
end Go.Proofs.YtjbaogoapobhbaaDoor.Po
namespace Go.Proofs.YtjbaogoapobhbaaDoor.Po
open Go.Proofs Go.RowKit
open Go.Proofs.YtjbaogoapobhbaaDoor.Utf
open Go.Proofs.YtjbaogoapobhbaaDoor.Sc
open Go.Proofs.YtjbaogoapobhbaaDoor.Em

theorem infoStr : (Tryd.prog.info? 9).map (fun i => (i.zero, i.size, i.bytes)) = some (some (.string ⟨#[]⟩), 1, 16) := by kernel_rfl

section
variable {r : List UInt8} {k : Nat} {ps : List (List UInt8)} {pt : List UInt8} {b : Bool}
end
end Go.Proofs.YtjbaogoapobhbaaDoor.Po
