/- Merged: WoF SmA. -/
import Derived.Deep.QuietTactic
import Derived.BigQuiet
import Derived.WalkLawsBesides
import Derived.WalkSpells
import Derived.IntWalk
import Derived.Shelf.Abstract
import Derived.Deep.LoopGhost
import Derived.Deep.AppendLies
import Derived.Test.YtofelafamfckiaaGreatDoorTt1
namespace Go.Proofs.YtofelafamfckiaaGreatDoor
namespace Wo
open Go.Proofs Go.RowKit Utf Nu
theorem qma:(Tryz.prog.info? 9).map (fun i=>(i.zero,i.size,i.bytes))=some (some (.string ⟨#[]⟩),1,16):=by kernel_rfl
theorem qa7 {c:Int} (h0:0≤c) (h1:c≤255):((c.toNat.toUInt8).toNat:Int)=c:=by
 obtain ⟨n,rfl⟩:=Int.eq_ofNat_of_zero_le h0;have:n<256:=by omega
 simp [Nat.mod_eq_of_lt this]
section
variable {c:UInt8} {l:List UInt8} {k f:Nat} {ps:List (List UInt8)}
end
end Wo
namespace Sm
open Go.Proofs Go.RowKit Utf Nu Wo
def prC (p:Pr):List Value:=[.string (ae p.nm),.int .i64 p.fm,.string (ae p.ar),.bool p.mu,.string (ae p.df)]
def qaI (ps:List Pr):List Value:=(ps.map prC).flatten
theorem qe4 (a b:List Pr):qaI (a++b)=qaI a++qaI b:=by simp [qaI]
theorem qeY (t:Pr):qaI [t]=prC t:=by simp [qaI]
theorem qbA (ts:List Pr):(qaI ts).length=ts.length*5:=by
 induction ts with
 | nil=>rfl
 | cons a r ih=>rw [show a::r=[a]++r from rfl,qe4,List.length_append,ih,qeY,prC];simp;omega
theorem qky (ts:List Pr):∀ (i:Nat) (h:i<ts.length) (j:Nat),j<5→(qaI ts)[i*5+j]? = (prC ts[i])[j]?:=by
 induction ts with
 | nil=>intro i h;simp at h
 | cons a r ih=>
  intro i h j hj;have e:qaI (a::r)=prC a++qaI r:=by rw [show a::r=[a]++r from rfl,qe4,qeY]
  rw [e];cases i with
  | zero=>
   rw [List.getElem?_append_left (by show 0*5+j<5;omega),Nat.zero_mul,Nat.zero_add];rfl
  | succ k=>
   rw [List.getElem?_append_right (by show 5≤_;omega),show (k+1)*5+j-(prC a).length=k*5+j by show (k+1)*5+j-5=_;omega];exact ih k (by simpa using h) j hj
section
variable {w w':World} {B B':Nat} {v:Value} {ps:List Pr}
def P5 (w:World) (g o:Nat) (p:Pr):Prop:=
 w.cell? ⟨g,o,none⟩=some (.string (ae p.nm))∧w.cell? ⟨g,o+1,none⟩=some (.int .i64 p.fm)∧w.cell? ⟨g,o+2,none⟩=some (.string (ae p.ar))∧w.cell? ⟨g,o+3,none⟩=some (.bool p.mu)∧w.cell? ⟨g,o+4,none⟩=some (.string (ae p.df))
end
section
variable {w:World} {b t:Nat} {u0 u1 u2 u3 u4:Value}
end
section
variable {fn:Func} {s b z:Nat} {tmps:Array Value} {w:World} {fr:Nat×Nat} {v0 v1 v2 v3 v4:Value}
end
