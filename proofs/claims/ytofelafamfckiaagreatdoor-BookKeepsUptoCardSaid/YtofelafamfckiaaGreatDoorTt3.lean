/- Merged: SmPl2. -/
import Derived.Test.YtofelafamfckiaaGreatDoorTt2
import GoSem.Op.String
namespace Go.Proofs.YtofelafamfckiaaGreatDoor
namespace Sm
open Go.RowKit Utf Nu Wo
def qlY (x:Pr):Prop:=
 (12≤x.fm∧x.fm≤15∧qau x.ar≠[]∧x.ar≠[]∧x.df=[])∨
 (x.fm=11∧x.ar≠[]∧x.df=[])∨(x.fm=11∧x.ar≠[]∧x.df≠[]∧inS x.ar x.df=true)∨
 (x.fm=17∧x.ar≠[]∧x.df=[])∨
 (¬(11≤x.fm∧x.fm≤15)∧x.fm≠17∧x.ar=[]∧x.df=[])∨
 (x.fm=3∧x.ar=[]∧x.df=[102,97,108,115,101])
instance (x:Pr):Decidable (qlY x):=by unfold qlY;infer_instance
