/- Merged: RaOpen. -/
import Derived.Test.YtofelafamfckiaaGreatDoorTt11
import Derived.ChangeArms
set_option maxRecDepth 100000
namespace Go.Proofs.YtofelafamfckiaaGreatDoor
namespace Re
open Go.RowKit Go.ChangeShapes Go.WideShapes Go.Deep Utf Sc
theorem qcd (s:ByteArray):ae s.data.toList=s:=by cases s;simp [ae]
set_option linter.unusedSimpArgs false
mutual
/-- how large the numbers, texts and slices of a value are: no more than B bytes each -/
def szA (B:Nat):V→Prop
 | .mk k n s l ns ms=>(Lit.int .i64 k).wf=true∧(Lit.int .i64 n).wf=true∧s.length≤B∧l.length*80≤B∧ms.length*96≤B∧(∀ nm∈ns,nm.length≤B)∧qbm B l∧qbm B ms
def qbm (B:Nat):List V→Prop
 | []=>True
 | v::r=>szA B v∧qbm B r
end
theorem qav {B:Nat} {v:V}:∀ {l:List V},qbm B l→v∈l→szA B v:=by
 intro l;induction l with
 | nil=>intro _ h;cases h
 | cons a r ih=>
  intro h hv;rw [qbm] at h;rcases List.mem_cons.1 hv with rfl | hv
  ·exact h.1
  ·exact ih h.2 hv
theorem qbI (B:Nat) (v:V):szA B v↔((Lit.int .i64 v.k).wf=true∧(Lit.int .i64 v.n).wf=true∧v.s.length≤B∧v.l.length*80≤B∧v.ms.length*96≤B∧(∀ nm∈v.ns,nm.length≤B)∧qbm B v.l∧qbm B v.ms):=by
 cases v;rw [szA];rfl
theorem qcN:Tryz.prog.cellsOf 25=5:=by kernel_rfl
theorem qiC:Tryz.prog.cellsOf 37=6:=by kernel_rfl
theorem qiD:Tryz.prog.cellsOf 3=1:=by kernel_rfl
theorem qhQ:Tryz.prog.cellsOf 2=1:=by kernel_rfl
theorem qeS:Tryz.prog.cellsOf 9=1:=by kernel_rfl
theorem qjn:Tryz.prog.cellsOf 22=1:=by kernel_rfl
theorem qkc:Tryz.prog.cellsOf 23=1:=by kernel_rfl
section
variable {H:Type} {enc:TypeId×Value→H} {w:World} {base:Nat} {sp:Nat→Bool} {hd:Bool}
/-- the fields of a value -/
theorem qiF {fuel:Nat} {cs:List Value} {x:DataW H×List MemPlace} (h:DataW.trod enc Tryz.prog w base sp hd fuel 25 cs=some x) :
  ∃ (k n:Int) (s:ByteArray) (vl vm:Value) (yl ym:DataW H×List MemPlace) (m:Nat),fuel=m+1∧cs=[.int .i64 k,.int .i64 n,.string s,vl,vm]∧x.1 = .agg [.lit (.int .i64 k),.lit (.int .i64 n),.lit (.string s.data.toList),yl.1,ym.1]∧
   (Lit.int .i64 k).wf=true∧(Lit.int .i64 n).wf=true∧DataW.trod enc Tryz.prog w base sp hd m 22 [vl]=some yl∧DataW.trod enc Tryz.prog w base sp hd m 23 [vm]=some ym:=by
 obtain ⟨xs,m,hm,hx,hlen,hxl,hf⟩:=DataW.trod_struct Tryz.underlying25 h;rw [qcN] at hlen
 match xs,hxl,cs,hlen with
 | [y0,y1,y2,y3,y4],_,[c0,c1,c2,c3,c4],_=>
  have g0:DataW.trod enc Tryz.prog w base sp hd m 3 (([c0,c1,c2,c3,c4].drop 0).take (Tryz.prog.cellsOf 3))=some y0:=hf 0 _ rfl;rw [qiD] at g0;replace g0:DataW.trod enc Tryz.prog w base sp hd m 3 [c0]=some y0:=g0;have g1:DataW.trod enc Tryz.prog w base sp hd m 2 (([c0,c1,c2,c3,c4].drop 1).take (Tryz.prog.cellsOf 2))=some y1:=hf 1 _ rfl;rw [qhQ] at g1;replace g1:DataW.trod enc Tryz.prog w base sp hd m 2 [c1]=some y1:=g1;have g2:DataW.trod enc Tryz.prog w base sp hd m 9 (([c0,c1,c2,c3,c4].drop 2).take (Tryz.prog.cellsOf 9))=some y2:=hf 2 _ rfl;rw [qeS] at g2;replace g2:DataW.trod enc Tryz.prog w base sp hd m 9 [c2]=some y2:=g2;have g3:DataW.trod enc Tryz.prog w base sp hd m 22 (([c0,c1,c2,c3,c4].drop 3).take (Tryz.prog.cellsOf 22))=some y3:=hf 3 _ rfl;rw [qjn] at g3;replace g3:DataW.trod enc Tryz.prog w base sp hd m 22 [c3]=some y3:=g3;have g4:DataW.trod enc Tryz.prog w base sp hd m 23 (([c0,c1,c2,c3,c4].drop 4).take (Tryz.prog.cellsOf 23))=some y4:=hf 4 _ rfl;rw [qkc] at g4;replace g4:DataW.trod enc Tryz.prog w base sp hd m 23 [c4]=some y4:=g4;obtain ⟨k,e0,hy0,w0⟩:=DataW.trod_int Tryz.underlying3 g0;obtain ⟨n,e1,hy1,w1⟩:=DataW.trod_int Tryz.underlying2 g1;obtain ⟨s,e2,hy2,_⟩:=DataW.trod_string Tryz.underlying9 g2;simp only [List.cons.injEq,and_true] at e0 e1 e2;subst e0 e1 e2 hy0 hy1 hy2;exact ⟨k,n,s,c3,c4,y3,y4,m,hm,rfl,by rw [hx];rfl,w0,w1,g3,g4⟩
/-- the fields of a member -/
theorem qhO {fuel:Nat} {cs:List Value} {x:DataW H×List MemPlace} (h:DataW.trod enc Tryz.prog w base sp hd fuel 37 cs=some x) :
  ∃ (y0 y1:DataW H×List MemPlace) (m:Nat),fuel=m+1∧x.1 = .agg [y0.1,y1.1]∧DataW.trod enc Tryz.prog w base sp hd m 9 ((cs.drop 0).take 1)=some y0∧DataW.trod enc Tryz.prog w base sp hd m 25 ((cs.drop 1).take 5)=some y1:=by
 obtain ⟨xs,m,hm,hx,hlen,hxl,hf⟩:=DataW.trod_struct Tryz.underlying37 h
 match xs,hxl with
 | [y0,y1],_=>
  have g0:=hf 0 _ rfl;have g1:=hf 1 _ rfl;simp only [qeS,qcN,List.getElem?_cons_zero,List.getElem?_cons_succ] at g0 g1;exact ⟨y0,y1,m,hm,by rw [hx];rfl,g0,g1⟩
end
