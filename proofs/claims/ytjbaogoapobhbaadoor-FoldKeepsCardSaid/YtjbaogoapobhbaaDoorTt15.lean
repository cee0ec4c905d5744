/- Merged: TrA. -/
import Derived.RangeFuncNested
import Derived.RangeFuncBound
import Derived.RangeFuncCalls
import Derived.RangeFuncLeaves
import Derived.Shelf.Abstract
import Derived.WalkKit
import Derived.OwnWalkIn
import Derived.TacticsInMore
import Derived.LoopNIn
import Derived.LoopIn
import Derived.Maps.OwnIn
import Derived.Maps.OwnSet
import Derived.WalkArith
import Derived.Test.YtjbaogoapobhbaaDoorTt3
import Derived.Test.YtjbaogoapobhbaaDoorTt7
import Derived.Test.YtjbaogoapobhbaaDoorTt0
import Derived.Deep.Slices
import Derived.SizedLaws
import Derived.ChangeArms
import Derived.BigQuiet
import Derived.IntWalk
import Derived.Deep.RegionHeld3
namespace Go.Proofs.YtjbaogoapobhbaaDoor.Tr
open Go.Proofs Go.RowKit Go.Lib
open Go.Proofs.YtjbaogoapobhbaaDoor.Utf
open Go.Proofs.YtjbaogoapobhbaaDoor.Sc
open Go.Proofs.YtjbaogoapobhbaaDoor.Re

theorem bDrewN {B : Nat} {a w : World} (h : Below B a w) (n : Nat) : Below B a (w.drewN n) := ⟨h.os, h.tape, h.output, h.size, h.block⟩
end Go.Proofs.YtjbaogoapobhbaaDoor.Tr
