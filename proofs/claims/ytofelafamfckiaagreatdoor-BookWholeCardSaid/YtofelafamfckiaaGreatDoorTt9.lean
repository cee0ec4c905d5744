/- Merged: CdPl CdPl2. -/
import Derived.Test.YtofelafamfckiaaGreatDoorTt2
import Derived.Test.YtofelafamfckiaaGreatDoorTt7
namespace Go.Proofs.YtofelafamfckiaaGreatDoor
namespace Cd
open Go.RowKit Utf Nu Wo Sm
open Re (V ht htL bt mpV V0)
def qgh:List UInt8:=[64,116,121,112,101]
def qdP:List UInt8:=[107,105,110,100]
def cZ:List UInt8:=[109,101,109,98,101,114,115]
def qem:List UInt8:=[103,114,111,117,112]
def qmt:List UInt8:=[121,101,97,114]
def qle:List UInt8:=[109,111,110,116,104]
def qm3:List UInt8:=[100,97,121]
def mem (v:V):List (List UInt8×V):=v.ns.zip v.ms
def fst (l:List (List UInt8×V)) (n:List UInt8):Option V:=(l.find? fun m=>decide (m.1=n)).map Prod.snd
def isT (v:V) (a b:Nat):Bool:=decide (v.k=4∧a≤v.s.length∧v.s.length≤b)
def btw (v:V) (a b:Int):Bool:=decide (v.k=3∧a≤v.n∧v.n≤b)
def qmE (v:V):Bool:=decide (v.k=2∧v.n=1)
def qfW (n:List UInt8):Bool:=decide (1≤n.length∧n.length≤255)
def gt (v:V) (n:List UInt8):Option V:=if v.k=6 then fst (mem v) n else none
def qng (x:V) (s:List UInt8):Bool:=decide (x.k=4∧x.s=s)
def qjQ (v:V):Bool:=match gt v qgh with
 | some t=>qng t qkA
 | none=>false
def qlb (v:V):List UInt8:=if qjQ v then qkA else qlf
def prt (v:V) (nm:List UInt8) (a b:Int):Bool:=match gt v nm with
 | some x=>decide (a≤x.n∧x.n≤b)
 | none=>true
def qmH (O:List UInt8→V→Bool) (fm:Int) (ar:List UInt8) (v:V):Bool:=
 if fm=1 then isT v 0 1024
 else if fm=2 then isT v 0 1024&&qfW v.s
 else if fm=3 then decide (v.k=2)
 else if fm=4 then decide (v.k=3∧0≤v.n)
 else if fm=5 then btw v 1 100
 else if fm=6 then isT v 0 1024&&Id.isL v.s
 else if fm=7 then isT v 0 1024&&decide (St.qiX v.s)
 else if fm=8 then isT v 0 1024&&qnm v.s
 else if fm=9 then isT v 0 1024&&qmg v.s
 else if fm=10 then isT v 0 1024&&qmu v.s
 else if fm=11 then isT v 0 1024&&inS ar v.s
 else if fm=12 then O ar v
 else if fm=13 then decide (v.k=5)&&v.l.all (O ar)
 else if fm=14 then decide (v.k=6)&&(mem v).all fun m=>Id.isL m.1&&O ar m.2
 else if fm=15 then decide (v.k=6)&&(mem v).all fun m=>qfW m.1&&O ar m.2
 else if fm=16 then decide (v.k=6)&&(mem v).all fun m=>qfW m.1&&qmE m.2
 else if fm=17 then decide (v.k=6)&&(mem v).all fun m=>inS ar m.1&&qmE m.2
 else if fm=18 then O (qlb v) v&&prt v qmt 0 9999&&prt v qle 1 12&&prt v qm3 1 31
 else false
def qiP (O:List UInt8→V→Bool) (of:List UInt8) (m:List UInt8×V):Bool:=
 if m.1=qgh then decide (m.2.k=4∧m.2.s=of)
 else match qmK (qaA of) m.1 with
  | some p=>qmH O p.fm p.ar m.2
  | none=>qm4 m.1
def qmx (of:List UInt8) (ns:List (List UInt8)):Bool:=(qaA of).all fun p=> !p.mu || ns.contains p.nm
def qmw:Nat→List UInt8→V→Bool
 | 0,_,_=>false
 | f+1,of,v=>decide (v.k=6)&&decide (qaA of≠[])&&(mem v).all (qiP (qmw f) of)&&qmx of v.ns
def qeh (of:List UInt8) (v:V):Bool:=qmw (ht v) of v
def qce (v:V) (n:List UInt8):Bool:=
 if v.k=6 then
  (mem v).any (fun m=>decide (m.1=n)&& !qiP qeh nm0 m) || (qaA nm0).any (fun p=>p.mu&&decide (p.nm=n)&& !v.ns.contains n) ||
   (decide (n=cZ)&&v.ns.contains n&& !(match fst (mem v) qdP with | some t=>decide (t.k=4∧t.s=qem) | none=>false))
 else decide (n=qgh)
theorem qgH {v:V} {m:List UInt8×V} (h:m∈mem v):m.2∈v.ms:=(List.of_mem_zip (a:=m.1) (b:=m.2) h).2
theorem qbE {v:V} {m:List UInt8×V} (h:m∈mem v):m.1∈v.ns:=(List.of_mem_zip (a:=m.1) (b:=m.2) h).1
theorem de {v:V} (h:∀ n,qce v n=false):v.k=6∧(∀ m∈mem v,qiP qeh nm0 m=true)∧(∀ p∈qaA nm0,p.mu=true→p.nm∈v.ns)∧
  (cZ∈v.ns→∃ t,fst (mem v) qdP=some t∧t.k=4∧t.s=qem):=by
 have hk:v.k=6:=by
  by_cases hk:v.k=6
  ·exact hk
  ·have:=h qgh;unfold qce at this;rw [if_neg hk] at this;exact absurd this (by simp)
 have hb:∀ n,(mem v).any (fun m=>decide (m.1=n)&& !qiP qeh nm0 m)=false∧(qaA nm0).any (fun p=>p.mu&&decide (p.nm=n)&& !v.ns.contains n)=false∧
   (decide (n=cZ)&&v.ns.contains n&& !(match fst (mem v) qdP with | some t=>decide (t.k=4∧t.s=qem) | none=>false))=false:=fun n=>by
  have:=h n;unfold qce at this;rw [if_pos hk,Bool.or_eq_false_iff,Bool.or_eq_false_iff] at this;exact ⟨this.1.1,this.1.2,this.2⟩
 refine ⟨hk,fun m hm=>?_,fun p hp hmu=>?_,fun hmem=>?_⟩
 ·have:=List.any_eq_false.1 (hb m.1).1 m hm
  simpa using this
 ·have:=List.any_eq_false.1 (hb p.nm).2.1 p hp
  simpa [hmu] using this
 ·have:=(hb cZ).2.2;cases hf:fst (mem v) qdP with
  | none=>rw [hf] at this;simp [hmem] at this
  | some t=>
   rw [hf] at this;simp [hmem] at this;exact ⟨t,rfl,this.1,this.2⟩
def qmy (l:List (List UInt8×V)) (ns:List (List UInt8)):Prop:=cZ∈ns∧¬ ∃ t,fst l qdP=some t∧t.k=4∧t.s=qem
theorem qaV {v:V} (hk:v.k=6) (n:List UInt8):qce v n=true↔(∃ m∈mem v,m.1=n∧qiP qeh nm0 m=false)∨(∃ p∈qaA nm0,p.mu=true∧p.nm=n∧n∉v.ns)∨(n=cZ∧qmy (mem v) v.ns):=by
 unfold qce;rw [if_pos hk,Bool.or_eq_true,Bool.or_eq_true,or_assoc];refine or_congr ?_ (or_congr ?_ ?_)
 ·rw [List.any_eq_true];refine exists_congr fun m=>and_congr_right fun _=>?_;simp
 ·rw [List.any_eq_true];refine exists_congr fun m=>and_congr_right fun _=>?_;simp [and_assoc]
 ·unfold qmy;cases hf:fst (mem v) qdP with
  | none=>
   simp only [Bool.and_eq_true,decide_eq_true_eq,List.contains_iff_mem];constructor
   ·rintro ⟨⟨rfl,h⟩,_⟩;exact ⟨rfl,h,by rintro ⟨t,h1,_⟩;cases h1⟩
   ·rintro ⟨rfl,h,_⟩;exact ⟨⟨rfl,h⟩,rfl⟩
  | some t=>
   simp only [Bool.and_eq_true,decide_eq_true_eq,List.contains_iff_mem,Bool.not_eq_true',decide_eq_false_iff_not];constructor
   ·rintro ⟨⟨rfl,h⟩,h2⟩;exact ⟨rfl,h,by rintro ⟨t',h1,h3⟩;injection h1 with h1;subst h1;exact h2 h3⟩
   ·rintro ⟨rfl,h,h2⟩;exact ⟨⟨rfl,h⟩,fun h3=>h2 ⟨t,rfl,h3⟩⟩
