/- Merged: PaKp. -/
import Derived.Test.YtofelafamfckiaaGreatDoorTt47
import Derived.Test.YtofelafamfckiaaGreatDoorTt45
import Derived.Test.YtofelafamfckiaaGreatDoorTt39
namespace Go.Proofs.YtofelafamfckiaaGreatDoor
namespace Pa
open Go.Proofs Go.RowKit Go.Lib Utf Sc Re Tr Po
open Em (szU bc)
structure KpI (W5:World) (FM:List Nat) (g:Nat) (T:List M3) (wr:World):Prop where
 chg:qbY FM W5 wr
 there:∀ b o n,W5.there b o n→wr.there b o n
 vcs:∀ j (h:j<T.length),wr.cell? ⟨g,j*6+1+3,none⟩=some (.slice T[j].1.A T[j].1.l T[j].1.c)∧wr.cell? ⟨g,j*6+1+4,none⟩=some (.slice T[j].1.A2 T[j].1.m T[j].1.c2)
theorem KpI.set {W5 wr:World} {FM:List Nat} {g:Nat} {T:List M3} (h:KpI W5 FM g T wr) {b o:Nat} {vs:List Value} (hb:b∈FM) (hc:b≠g∨∃ i,o=i*6∧vs.length=1):KpI W5 FM g T (wr.setCells b o vs):=by
 refine ⟨h.chg.trans (qbp b FM hb vs o wr),fun b' o' n hh=>World.there_setCells (h.there b' o' n hh) b o vs,fun j hj=>?_⟩;obtain ⟨h1,h2⟩:=h.vcs j hj;rcases hc with hc | ⟨i,rfl,h3⟩
 ·exact ⟨(World.cell?_setCells_out b vs o wr _ (fun e=>absurd e.symm hc)).trans h1,(World.cell?_setCells_out b vs o wr _ (fun e=>absurd e.symm hc)).trans h2⟩
 ·exact ⟨(World.cell?_setCells_out b vs _ wr _ (fun _ _=>by show _<_∨_≤_;rw [h3];simp only;omega)).trans h1,(World.cell?_setCells_out b vs _ wr _ (fun _ _=>by show _<_∨_≤_;rw [h3];simp only;omega)).trans h2⟩
