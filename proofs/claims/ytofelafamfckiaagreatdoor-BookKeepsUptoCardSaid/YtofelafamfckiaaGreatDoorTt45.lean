/- Merged: PoAw PoW6. -/
import Derived.Test.YtofelafamfckiaaGreatDoorTt43
import Derived.Test.YtofelafamfckiaaGreatDoorTt23
import Derived.Test.YtofelafamfckiaaGreatDoorTt33
set_option linter.unusedSimpArgs false
namespace Go.Proofs.YtofelafamfckiaaGreatDoor
namespace Po
open Go.Proofs Go.RowKit Utf Sc Re Tr Nu
theorem _root_.Go.Proofs.YtofelafamfckiaaGreatDoor.Re.RdA.more {w:World} {lo hi hi':Nat} {v:V} {cs:List Value} (h:RdA w lo hi v cs) (hh:hi≤hi'):RdA w lo hi' v cs:=RdA.keep (fun _ _ _=>rfl) (Nat.le_refl _) hh _ _ h
end Po
end Go.Proofs.YtofelafamfckiaaGreatDoor
set_option linter.unusedSimpArgs false
namespace Go.Proofs.YtofelafamfckiaaGreatDoor
namespace Po
open Go.Proofs Go.RowKit Utf Sc Re Tr Em
theorem _root_.Go.Proofs.YtofelafamfckiaaGreatDoor.Re.RdA.wide {w:World} {lo hi:Nat} {v:V} {cs:List Value} (h:RdA w lo hi v cs):RdA w 0 hi v cs:=RdA.keep (fun _ _ _=>rfl) (Nat.zero_le _) (Nat.le_refl _) _ _ h
theorem qia (v:V) (cv:List Value) (w:World) (hl:Em.aZ v) (zv:szU v≤1048576) (fv:wfV v) (hc:chk v=0) (hv:RdA w 0 w.heap.size v cv):Calls Tryz.prog 21 #[.agg cv.toArray] w fun e w'=>e = .returned (.tuple #[.string (ae (qhE v)),.int .i64 0])∧Below w.heap.size w w':=by
 refine (Em.qeO v cv 0 w hl (by omega) (co _ v fv (by omega)) hv).mono ?_;rintro e w' ⟨e1,e2⟩;rw [hc] at e1;exact ⟨e1,e2⟩
