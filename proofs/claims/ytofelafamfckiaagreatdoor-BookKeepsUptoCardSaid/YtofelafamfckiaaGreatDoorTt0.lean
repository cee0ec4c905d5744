/- Merged: Bulk. -/
import Derived.Test.YtofelafamfckiaaGreatDoorTtMv
import Derived.Test.YtofelafamfckiaaGreatDoorRows
namespace Go.Proofs.YtofelafamfckiaaGreatDoor
section
theorem qgA {H:Type}:∀ {l:List (DataW H)} {j:Nat} {d:DataW H},l[j]? = some d→Rows.uptoBulk d≤Rows.uptoBulkAll l
 | [],j,d,h=>by simp at h
 | x::r,0,d,h=>by
  simp at h;subst h;simp only [Rows.uptoBulkAll];omega
 | x::r,j+1,d,h=>by
  have:=qgA (l:=r) (j:=j) (d:=d) (by simpa using h);simp only [Rows.uptoBulkAll];omega
end
