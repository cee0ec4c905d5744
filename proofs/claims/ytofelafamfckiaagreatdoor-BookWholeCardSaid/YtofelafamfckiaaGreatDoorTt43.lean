/- Merged: TsA TsB. -/
import Derived.Test.YtofelafamfckiaaGreatDoorTt42
import Derived.Test.YtofelafamfckiaaGreatDoorTt28
namespace Go.Proofs.YtofelafamfckiaaGreatDoor
namespace Tr
open Go.Proofs Go.RowKit Go.Lib Utf Sc Re
open Em (qcd qbh bv cq qia qiw)
theorem qge (v:V):1≤cnt v:=by rw [qcA];omega
end Tr
namespace Tr
open Go.Proofs Go.RowKit Go.Lib Utf Sc Re
open Em (qcd qbh bv cq own qal szU cr wfV wfL chk qfs qbV okW)
theorem qdt:∀ (l r:List (List UInt8)),l.Perm r→l.Pairwise (fun a b=>ltN b a=false)→r.Pairwise (fun a b=>ltN b a=false)→l=r
 | [],r,hp,_,_=>by rw [List.nil_perm.1 hp]
 | x::t,r,hp,h1,h2=>by
  cases r with
  | nil=>exact absurd hp.length_eq (by simp)
  | cons y u=>
   rw [List.pairwise_cons] at h1 h2;have e:x=y:=by
    rcases List.mem_cons.1 (hp.subset (show x∈x::t by simp)) with h | h
    ·exact h
    ·rcases List.mem_cons.1 (hp.symm.subset (show y∈y::u by simp)) with k | k
     ·exact k.symm
     ·exact (qlC (h2.1 x h) (h1.1 y k)).symm▸rfl
   subst e;rw [qdt t u (List.perm_cons x |>.1 hp) h1.2 h2.2]
