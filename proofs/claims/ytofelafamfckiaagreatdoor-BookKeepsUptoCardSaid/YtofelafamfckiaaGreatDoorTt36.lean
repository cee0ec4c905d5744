/- Merged: TrP PoC. -/
import Derived.Test.YtofelafamfckiaaGreatDoorTt31
import Derived.Test.YtofelafamfckiaaGreatDoorTt12
import Derived.Test.YtofelafamfckiaaGreatDoorTt18
import Derived.Laws.AppendOwnNone
namespace Go.Proofs.YtofelafamfckiaaGreatDoor
namespace Tr
open Go.Proofs Go.RowKit Go.Lib Go.Sort Utf Sc Re
structure qbY (F:List Nat) (w w':World):Prop where
 os:w'.os=w.os
 tape:w'.tape=w.tape
 output:w'.output=w.output
 size:w.heap.size≤w'.heap.size
 block:∀ k,k<w.heap.size→k∉F→w'.heap[k]? = w.heap[k]?
theorem qbY.refl (F:List Nat) (w:World):qbY F w w:=⟨rfl,rfl,rfl,Nat.le_refl _,fun _ _ _=>rfl⟩
theorem qbY.trans {F:List Nat} {w w1 w2:World} (h:qbY F w w1) (k:qbY F w1 w2):qbY F w w2:=
 ⟨k.os.trans h.os,k.tape.trans h.tape,k.output.trans h.output,Nat.le_trans h.size k.size,fun i h1 h2=>(k.block i (Nat.lt_of_lt_of_le h1 h.size) h2).trans (h.block i h1 h2)⟩
theorem qbY.below {F:List Nat} {B:Nat} {w w':World} (h:qbY F w w') (hB:B≤w.heap.size) (hF:∀ x∈F,B≤x):Below B w w':=⟨h.os,h.tape,h.output,h.size,fun k hk=>h.block k (by omega) fun hx=>by have:=hF k hx;omega⟩
structure It (s o0 g:Nat) (lc:List V) (Gs:List (List Nat)) (w:World):Prop where
 len:Gs.length=lc.length
 at_:∀ i (h1:i<lc.length) (h2:i<Gs.length),∃ cs,aw w g (i*s+o0) cs∧RdF w lc[i] cs Gs[i]
 nod:(g::Gs.flatten).Nodup
 lt:∀ x∈g::Gs.flatten,x<w.heap.size
theorem qio {Gs:List (List Nat)} {i:Nat} (hi:i<Gs.length) {x:Nat} (hx:x∈Gs[i]):x∈Gs.flatten:=List.mem_flatten.2 ⟨_,List.getElem_mem hi,hx⟩
theorem It.keep {s o0 g:Nat} {lc:List V} {Gs:List (List Nat)} {w w':World} (h:It s o0 g lc Gs w) (hb:Below w.heap.size w w'):It s o0 g lc Gs w' where
 len:=h.len
 at_:=fun i h1 h2=>by
  obtain ⟨c,p1,p2⟩:=h.at_ i h1 h2;exact ⟨c,p1.keep (hb.block g (h.lt g (by simp))),RdF.keep _ _ _ (fun k hk=>hb.block k (h.lt k (List.mem_cons_of_mem _ (qio h2 hk)))) p2⟩
 nod:=h.nod
 lt:=fun x hx=>Nat.lt_of_lt_of_le (h.lt x hx) hb.size
end Tr
namespace Po
open Go.Proofs Go.RowKit Go.Lib Utf Sc Re Tr
def Lc (c:Nat) (z most:Int):Prop:=1≤z∧z≤most+1∧(z≤most→(c:Int)≤z)
def qed (v:V) (most:Int) (w:World) (e:Ending) (w':World):Prop:=(∃ x:Int,e = .returned (.int .i64 x)∧Lc (cnt v) x most)∧Below w.heap.size w w'
