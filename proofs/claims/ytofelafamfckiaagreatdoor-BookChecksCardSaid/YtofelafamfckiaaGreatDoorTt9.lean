/- Merged: CdPl CdPl2. -/
import Derived.Test.YtofelafamfckiaaGreatDoorTt2
import Derived.Test.YtofelafamfckiaaGreatDoorTt7
namespace Go.Proofs.YtofelafamfckiaaGreatDoor
namespace Cd
open Go.RowKit Utf Nu Wo Sm
open Re (V ht htL bE mpV V0)
def qgR:List UInt8:=[64,116,121,112,101]
def qdL:List UInt8:=[107,105,110,100]
def dv:List UInt8:=[109,101,109,98,101,114,115]
def qef:List UInt8:=[103,114,111,117,112]
def qm0:List UInt8:=[121,101,97,114]
def qlZ:List UInt8:=[109,111,110,116,104]
def qnG:List UInt8:=[100,97,121]
def mem (v:V):List (List UInt8×V):=v.ns.zip v.ms
def fst (l:List (List UInt8×V)) (n:List UInt8):Option V:=(l.find? fun m=>decide (m.1=n)).map Prod.snd
def isT (v:V) (a b:Nat):Bool:=decide (v.k=4∧a≤v.s.length∧v.s.length≤b)
def btw (v:V) (a b:Int):Bool:=decide (v.k=3∧a≤v.n∧v.n≤b)
def qmX (v:V):Bool:=decide (v.k=2∧v.n=1)
def qgv (n:List UInt8):Bool:=decide (1≤n.length∧n.length≤255)
def gt (v:V) (n:List UInt8):Option V:=if v.k=6 then fst (mem v) n else none
def qnp (x:V) (s:List UInt8):Bool:=decide (x.k=4∧x.s=s)
def qky (v:V):Bool:=match gt v qgR with
 | some t=>qnp t qk9
 | none=>false
def qmj (v:V):List UInt8:=if qky v then qk9 else ql1
def prt (v:V) (nm:List UInt8) (a b:Int):Bool:=match gt v nm with
 | some x=>decide (a≤x.n∧x.n≤b)
 | none=>true
def qm7 (O:List UInt8→V→Bool) (fm:Int) (ar:List UInt8) (v:V):Bool:=
 if fm=1 then isT v 0 1024
 else if fm=2 then isT v 0 1024&&qgv v.s
 else if fm=3 then decide (v.k=2)
 else if fm=4 then decide (v.k=3∧0≤v.n)
 else if fm=5 then btw v 1 100
 else if fm=6 then isT v 0 1024&&Id.isL v.s
 else if fm=7 then isT v 0 1024&&decide (St.qi3 v.s)
 else if fm=8 then isT v 0 1024&&qnr v.s
 else if fm=9 then isT v 0 1024&&qmt v.s
 else if fm=10 then isT v 0 1024&&qmA v.s
 else if fm=11 then isT v 0 1024&&inS ar v.s
 else if fm=12 then O ar v
 else if fm=13 then decide (v.k=5)&&v.l.all (O ar)
 else if fm=14 then decide (v.k=6)&&(mem v).all fun m=>Id.isL m.1&&O ar m.2
 else if fm=15 then decide (v.k=6)&&(mem v).all fun m=>qgv m.1&&O ar m.2
 else if fm=16 then decide (v.k=6)&&(mem v).all fun m=>qgv m.1&&qmX m.2
 else if fm=17 then decide (v.k=6)&&(mem v).all fun m=>inS ar m.1&&qmX m.2
 else if fm=18 then O (qmj v) v&&prt v qm0 0 9999&&prt v qlZ 1 12&&prt v qnG 1 31
 else false
def qiK (O:List UInt8→V→Bool) (of:List UInt8) (m:List UInt8×V):Bool:=
 if m.1=qgR then decide (m.2.k=4∧m.2.s=of)
 else match qmu (qaz of) m.1 with
  | some p=>qm7 O p.fm p.ar m.2
  | none=>qns m.1
def qm3 (of:List UInt8) (ns:List (List UInt8)):Bool:=(qaz of).all fun p=> !p.mu || ns.contains p.nm
def qmE:Nat→List UInt8→V→Bool
 | 0,_,_=>false
 | f+1,of,v=>decide (v.k=6)&&decide (qaz of≠[])&&(mem v).all (qiK (qmE f) of)&&qm3 of v.ns
def qeU (of:List UInt8) (v:V):Bool:=qmE (ht v) of v
def qct (v:V) (n:List UInt8):Bool:=
 if v.k=6 then
  (mem v).any (fun m=>decide (m.1=n)&& !qiK qeU nm0 m) || (qaz nm0).any (fun p=>p.mu&&decide (p.nm=n)&& !v.ns.contains n) ||
   (decide (n=dv)&&v.ns.contains n&& !(match fst (mem v) qdL with | some t=>decide (t.k=4∧t.s=qef) | none=>false))
 else decide (n=qgR)
theorem qg0 {v:V} {m:List UInt8×V} (h:m∈mem v):m.2∈v.ms:=(List.of_mem_zip (a:=m.1) (b:=m.2) h).2
theorem qbO {v:V} {m:List UInt8×V} (h:m∈mem v):m.1∈v.ns:=(List.of_mem_zip (a:=m.1) (b:=m.2) h).1
theorem qbH {v:V} (h:∀ n,qct v n=false):v.k=6∧(∀ m∈mem v,qiK qeU nm0 m=true)∧(∀ p∈qaz nm0,p.mu=true→p.nm∈v.ns)∧
  (dv∈v.ns→∃ t,fst (mem v) qdL=some t∧t.k=4∧t.s=qef):=by
 have hk:v.k=6:=by
  by_cases hk:v.k=6
  ·exact hk
  ·have:=h qgR;unfold qct at this;rw [if_neg hk] at this;exact absurd this (by simp)
 have hb:∀ n,(mem v).any (fun m=>decide (m.1=n)&& !qiK qeU nm0 m)=false∧(qaz nm0).any (fun p=>p.mu&&decide (p.nm=n)&& !v.ns.contains n)=false∧
   (decide (n=dv)&&v.ns.contains n&& !(match fst (mem v) qdL with | some t=>decide (t.k=4∧t.s=qef) | none=>false))=false:=fun n=>by
  have:=h n;unfold qct at this;rw [if_pos hk,Bool.or_eq_false_iff,Bool.or_eq_false_iff] at this;exact ⟨this.1.1,this.1.2,this.2⟩
 refine ⟨hk,fun m hm=>?_,fun p hp hmu=>?_,fun hmem=>?_⟩
 ·have:=List.any_eq_false.1 (hb m.1).1 m hm
  simpa using this
 ·have:=List.any_eq_false.1 (hb p.nm).2.1 p hp
  simpa [hmu] using this
 ·have:=(hb dv).2.2;cases hf:fst (mem v) qdL with
  | none=>rw [hf] at this;simp [hmem] at this
  | some t=>
   rw [hf] at this;simp [hmem] at this;exact ⟨t,rfl,this.1,this.2⟩
def qmz (l:List (List UInt8×V)) (ns:List (List UInt8)):Prop:=dv∈ns∧¬ ∃ t,fst l qdL=some t∧t.k=4∧t.s=qef
theorem cV {v:V} (hk:v.k=6) (n:List UInt8):qct v n=true↔(∃ m∈mem v,m.1=n∧qiK qeU nm0 m=false)∨(∃ p∈qaz nm0,p.mu=true∧p.nm=n∧n∉v.ns)∨(n=dv∧qmz (mem v) v.ns):=by
 unfold qct;rw [if_pos hk,Bool.or_eq_true,Bool.or_eq_true,or_assoc];refine or_congr ?_ (or_congr ?_ ?_)
 ·rw [List.any_eq_true];refine exists_congr fun m=>and_congr_right fun _=>?_;simp
 ·rw [List.any_eq_true];refine exists_congr fun m=>and_congr_right fun _=>?_;simp [and_assoc]
 ·unfold qmz;cases hf:fst (mem v) qdL with
  | none=>
   simp only [Bool.and_eq_true,decide_eq_true_eq,List.contains_iff_mem];constructor
   ·rintro ⟨⟨rfl,h⟩,_⟩;exact ⟨rfl,h,by rintro ⟨t,h1,_⟩;cases h1⟩
   ·rintro ⟨rfl,h,_⟩;exact ⟨⟨rfl,h⟩,rfl⟩
  | some t=>
   simp only [Bool.and_eq_true,decide_eq_true_eq,List.contains_iff_mem,Bool.not_eq_true',decide_eq_false_iff_not];constructor
   ·rintro ⟨⟨rfl,h⟩,h2⟩;exact ⟨rfl,h,by rintro ⟨t',h1,h3⟩;injection h1 with h1;subst h1;exact h2 h3⟩
   ·rintro ⟨rfl,h,h2⟩;exact ⟨⟨rfl,h⟩,fun h3=>h2 ⟨t,rfl,h3⟩⟩
