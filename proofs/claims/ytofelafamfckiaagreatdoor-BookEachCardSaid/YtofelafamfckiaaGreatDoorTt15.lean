/- Merged: StB. -/
import Derived.Test.YtofelafamfckiaaGreatDoorTt5
import Derived.Deep.DeepCutAuto
import Derived.Deep.RegionWith
import Derived.Laws.Concat
import Derived.Test.YtofelafamfckiaaGreatDoorTt1
import Derived.Lib.ConvBytes
namespace Go.Proofs.YtofelafamfckiaaGreatDoor
namespace St
open Go.RowKit Utf Nu
def qfT (n:Int) (b:Bool) (w:World) (e:Ending) (w':World):Prop:=e = .returned (.tuple #[.int .i64 n,.bool b])∧w=w'
