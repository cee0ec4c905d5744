/- Merged: EmO. -/
import Derived.Test.YtofelafamfckiaaGreatDoorTt15
import Derived.Test.YtofelafamfckiaaGreatDoorRows
import Derived.WalkArith
namespace Go.Proofs.YtofelafamfckiaaGreatDoor
namespace Em
open Go.RowKit Go.ChangeShapes Go.WideShapes Go.Deep Utf Sc Re
mutual
/-- its numbers are numbers -/
def wfV:V→Prop
 | .mk k n _ l _ ms=>(Lit.int .i64 k).wf=true∧(Lit.int .i64 n).wf=true∧wfL l∧wfL ms
def wfL:List V→Prop
 | []=>True
 | v::r=>wfV v∧wfL r
end
theorem qb3:∀ l:List V,l.length≤cr l
 | []=>by simp
 | v::r=>by
  have h1:=qb3 r;have h2:1≤szU v:=by cases v;rw [szU];omega
  rw [cr,List.length_cons];omega
theorem qjv {x:List UInt8}:∀ {ns:List (List UInt8)},x∈ns→1+x.length≤(ns.map fun x=>1+x.length).sum:=by
 intro ns;induction ns with
 | nil=>intro h;cases h
 | cons a r ih=>
  intro h;rw [List.map_cons,List.sum_cons];rcases List.mem_cons.1 h with rfl | h
  ·omega
  ·have:=ih h;omega
mutual
/-- how large it is in one way, and in the other -/
theorem qbg (B:Nat):∀ v:V,wfV v→96*szU v≤B→szA B v
 | .mk k n s l ns ms,h,hz=>by
  rw [wfV] at h;rw [szU] at hz;rw [szA];have a:=qb3 l;have b:=qb3 ms;exact ⟨h.1,h.2.1,by omega,by omega,by omega,fun nm hn=>by have:=qjv hn;omega,qct B l h.2.2.1 (by omega),qct B ms h.2.2.2 (by omega)⟩
theorem qct (B:Nat):∀ l:List V,wfL l→96*cr l≤B→aR B l
 | [],_,_=>by rw [aR];trivial
 | v::r,h,hz=>by
  rw [wfL] at h;rw [cr] at hz;rw [aR];exact ⟨qbg B v h.1 (by omega),qct B r h.2 (by omega)⟩
end
theorem qbm {B C:Nat} (h:B≤C):∀ v:V,szA B v→szA C v:=by
 intro v;exact V.rec (motive_1:=fun v=>szA B v→szA C v) (motive_2:=fun l=>aR B l→aR C l)
  (fun k n s l ns ms h1 h2 hz=>by
   rw [szA] at hz ⊢;exact ⟨hz.1,hz.2.1,by omega,by omega,by omega,fun nm hn=>by have:=hz.2.2.2.2.2.1 nm hn;omega,h1 hz.2.2.2.2.2.2.1,h2 hz.2.2.2.2.2.2.2⟩)
  (fun _=>by rw [aR];trivial)
  (fun v r h1 h2 hz=>by rw [aR] at hz ⊢;exact ⟨h1 hz.1,h2 hz.2⟩) v
section
variable {H:Type} {enc:TypeId×Value→H} {w:World} {base:Nat} {sp:Nat→Bool} {hd:Bool}
end
