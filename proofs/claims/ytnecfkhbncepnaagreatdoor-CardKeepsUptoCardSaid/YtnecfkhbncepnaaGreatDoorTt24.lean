/- Merged: SmB SmD SmE. -/
import Derived.Test.YtnecfkhbncepnaaGreatDoorTt19
import Derived.RegionTactic
import Derived.BigRegion
namespace Go.Proofs.YtnecfkhbncepnaaGreatDoor
namespace Sm
open Go.Proofs Go.RowKit Utf Nu Wo
theorem qao (w:World) (o:Obj):(w.alloc o).heap.size=w.heap.size+1:=by simp
theorem qhO {w:World} {B B' E s n:Nat} {v:Value} {xs:List Value} (h:w.ownsRow B E s v n xs) (hb:B'≤B):w.ownsRow B' E s v n xs:=
 ⟨h.1,h.2.imp id fun ⟨g,cap,cur,h1,h2,h3⟩=>⟨g,cap,cur,h1,Nat.le_trans hb h2,h3⟩⟩
theorem qtz (a:ByteArray) (f:Int) (b:ByteArray) (m:Bool) (d:ByteArray):∀ u∈[Value.string a,.int .i64 f,.string b,.bool m,.string d],u.oneCell'=true:=by
 intro u hu;simp only [List.mem_cons,List.not_mem_nil,or_false] at hu;rcases hu with rfl | rfl | rfl | rfl | rfl <;> rfl
def qiH (o:Option Pr):Value:=match o with
 | some p=> .tuple #[prV p,.bool true]
 | none=> .tuple #[prV Pr.zero,.bool false]
theorem qnc {L:List Pr} {n:List UInt8} {k:Nat} (hk:k<L.length) (h:L[k].nm=n) (h2:∀ j (hj:j<L.length),j<k→L[j].nm≠n):cX L n=some L[k]:=by
 unfold cX;induction L generalizing k with
 | nil=>simp at hk
 | cons a r ih=>
  cases k with
  | zero=>
   have h':a.nm=n:=h;rw [List.find?_cons,zT h'];rfl
  | succ j=>
   have h3:a.nm≠n:=h2 0 (by simp) (by omega);rw [List.find?_cons,zF h3];exact ih (k:=j) (by simpa using hk) h (fun i hi hij=>h2 (i+1) (by simpa using hi) (by omega))
theorem qlE {L:List Pr} {n:List UInt8} (h:∀ j (hj:j<L.length),L[j].nm≠n):cX L n=none:=by
 unfold cX;rw [List.find?_eq_none];intro p hp;obtain ⟨j,hj,rfl⟩:=List.getElem_of_mem hp
 simpa using h j hj
