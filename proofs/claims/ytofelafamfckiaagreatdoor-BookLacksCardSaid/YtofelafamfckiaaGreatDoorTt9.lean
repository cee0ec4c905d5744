/- Merged: CdPl CdPl2. -/
import Derived.Test.YtofelafamfckiaaGreatDoorTt2
import Derived.Test.YtofelafamfckiaaGreatDoorTt7
namespace Go.Proofs.YtofelafamfckiaaGreatDoor
namespace Cd
open Go.RowKit Utf Nu Wo Sm
open Re (V ht htL bx mpV V0)
def qgl:List UInt8:=[64,116,121,112,101]
def qdv:List UInt8:=[107,105,110,100]
def de:List UInt8:=[109,101,109,98,101,114,115]
def qeC:List UInt8:=[103,114,111,117,112]
def qmD:List UInt8:=[121,101,97,114]
def qlK:List UInt8:=[109,111,110,116,104]
def qnf:List UInt8:=[100,97,121]
def mem (v:V):List (List UInt8×V):=v.ns.zip v.ms
def fst (l:List (List UInt8×V)) (n:List UInt8):Option V:=(l.find? fun m=>decide (m.1=n)).map Prod.snd
def isT (v:V) (a b:Nat):Bool:=decide (v.k=4∧a≤v.s.length∧v.s.length≤b)
def btw (v:V) (a b:Int):Bool:=decide (v.k=3∧a≤v.n∧v.n≤b)
def qmT (v:V):Bool:=decide (v.k=2∧v.n=1)
def qge (n:List UInt8):Bool:=decide (1≤n.length∧n.length≤255)
def gt (v:V) (n:List UInt8):Option V:=if v.k=6 then fst (mem v) n else none
def qni (x:V) (s:List UInt8):Bool:=decide (x.k=4∧x.s=s)
def qky (v:V):Bool:=match gt v qgl with
 | some t=>qni t qk0
 | none=>false
def qlX (v:V):List UInt8:=if qky v then qk0 else qlO
def prt (v:V) (nm:List UInt8) (a b:Int):Bool:=match gt v nm with
 | some x=>decide (a≤x.n∧x.n≤b)
 | none=>true
def qmw (O:List UInt8→V→Bool) (fm:Int) (ar:List UInt8) (v:V):Bool:=
 if fm=1 then isT v 0 1024
 else if fm=2 then isT v 0 1024&&qge v.s
 else if fm=3 then decide (v.k=2)
 else if fm=4 then decide (v.k=3∧0≤v.n)
 else if fm=5 then btw v 1 100
 else if fm=6 then isT v 0 1024&&Id.isL v.s
 else if fm=7 then isT v 0 1024&&decide (St.qjF v.s)
 else if fm=8 then isT v 0 1024&&qnm v.s
 else if fm=9 then isT v 0 1024&&ql1 v.s
 else if fm=10 then isT v 0 1024&&qmP v.s
 else if fm=11 then isT v 0 1024&&inS ar v.s
 else if fm=12 then O ar v
 else if fm=13 then decide (v.k=5)&&v.l.all (O ar)
 else if fm=14 then decide (v.k=6)&&(mem v).all fun m=>Id.isL m.1&&O ar m.2
 else if fm=15 then decide (v.k=6)&&(mem v).all fun m=>qge m.1&&O ar m.2
 else if fm=16 then decide (v.k=6)&&(mem v).all fun m=>qge m.1&&qmT m.2
 else if fm=17 then decide (v.k=6)&&(mem v).all fun m=>inS ar m.1&&qmT m.2
 else if fm=18 then O (qlX v) v&&prt v qmD 0 9999&&prt v qlK 1 12&&prt v qnf 1 31
 else false
def qin (O:List UInt8→V→Bool) (of:List UInt8) (m:List UInt8×V):Bool:=
 if m.1=qgl then decide (m.2.k=4∧m.2.s=of)
 else match qmx (qaI of) m.1 with
  | some p=>qmw O p.fm p.ar m.2
  | none=>qm5 m.1
def qmz (of:List UInt8) (ns:List (List UInt8)):Bool:=(qaI of).all fun p=> !p.mu || ns.contains p.nm
def qmh:Nat→List UInt8→V→Bool
 | 0,_,_=>false
 | f+1,of,v=>decide (v.k=6)&&decide (qaI of≠[])&&(mem v).all (qin (qmh f) of)&&qmz of v.ns
def qey (of:List UInt8) (v:V):Bool:=qmh (ht v) of v
def qcj (v:V) (n:List UInt8):Bool:=
 if v.k=6 then
  (mem v).any (fun m=>decide (m.1=n)&& !qin qey nm0 m) || (qaI nm0).any (fun p=>p.mu&&decide (p.nm=n)&& !v.ns.contains n) ||
   (decide (n=de)&&v.ns.contains n&& !(match fst (mem v) qdv with | some t=>decide (t.k=4∧t.s=qeC) | none=>false))
 else decide (n=qgl)
theorem qgS {v:V} {m:List UInt8×V} (h:m∈mem v):m.2∈v.ms:=(List.of_mem_zip (a:=m.1) (b:=m.2) h).2
theorem qcs {v:V} {m:List UInt8×V} (h:m∈mem v):m.1∈v.ns:=(List.of_mem_zip (a:=m.1) (b:=m.2) h).1
theorem cG {v:V} (h:∀ n,qcj v n=false):v.k=6∧(∀ m∈mem v,qin qey nm0 m=true)∧(∀ p∈qaI nm0,p.mu=true→p.nm∈v.ns)∧
  (de∈v.ns→∃ t,fst (mem v) qdv=some t∧t.k=4∧t.s=qeC):=by
 have hk:v.k=6:=by
  by_cases hk:v.k=6
  ·exact hk
  ·have:=h qgl;unfold qcj at this;rw [if_neg hk] at this;exact absurd this (by simp)
 have hb:∀ n,(mem v).any (fun m=>decide (m.1=n)&& !qin qey nm0 m)=false∧(qaI nm0).any (fun p=>p.mu&&decide (p.nm=n)&& !v.ns.contains n)=false∧
   (decide (n=de)&&v.ns.contains n&& !(match fst (mem v) qdv with | some t=>decide (t.k=4∧t.s=qeC) | none=>false))=false:=fun n=>by
  have:=h n;unfold qcj at this;rw [if_pos hk,Bool.or_eq_false_iff,Bool.or_eq_false_iff] at this;exact ⟨this.1.1,this.1.2,this.2⟩
 refine ⟨hk,fun m hm=>?_,fun p hp hmu=>?_,fun hmem=>?_⟩
 ·have:=List.any_eq_false.1 (hb m.1).1 m hm
  simpa using this
 ·have:=List.any_eq_false.1 (hb p.nm).2.1 p hp
  simpa [hmu] using this
 ·have:=(hb de).2.2;cases hf:fst (mem v) qdv with
  | none=>rw [hf] at this;simp [hmem] at this
  | some t=>
   rw [hf] at this;simp [hmem] at this;exact ⟨t,rfl,this.1,this.2⟩
def qmX (l:List (List UInt8×V)) (ns:List (List UInt8)):Prop:=de∈ns∧¬ ∃ t,fst l qdv=some t∧t.k=4∧t.s=qeC
theorem qak {v:V} (hk:v.k=6) (n:List UInt8):qcj v n=true↔(∃ m∈mem v,m.1=n∧qin qey nm0 m=false)∨(∃ p∈qaI nm0,p.mu=true∧p.nm=n∧n∉v.ns)∨(n=de∧qmX (mem v) v.ns):=by
 unfold qcj;rw [if_pos hk,Bool.or_eq_true,Bool.or_eq_true,or_assoc];refine or_congr ?_ (or_congr ?_ ?_)
 ·rw [List.any_eq_true];refine exists_congr fun m=>and_congr_right fun _=>?_;simp
 ·rw [List.any_eq_true];refine exists_congr fun m=>and_congr_right fun _=>?_;simp [and_assoc]
 ·unfold qmX;cases hf:fst (mem v) qdv with
  | none=>
   simp only [Bool.and_eq_true,decide_eq_true_eq,List.contains_iff_mem];constructor
   ·rintro ⟨⟨rfl,h⟩,_⟩;exact ⟨rfl,h,by rintro ⟨t,h1,_⟩;cases h1⟩
   ·rintro ⟨rfl,h,_⟩;exact ⟨⟨rfl,h⟩,rfl⟩
  | some t=>
   simp only [Bool.and_eq_true,decide_eq_true_eq,List.contains_iff_mem,Bool.not_eq_true',decide_eq_false_iff_not];constructor
   ·rintro ⟨⟨rfl,h⟩,h2⟩;exact ⟨rfl,h,by rintro ⟨t',h1,h3⟩;injection h1 with h1;subst h1;exact h2 h3⟩
   ·rintro ⟨rfl,h,h2⟩;exact ⟨⟨rfl,h⟩,fun h3=>h2 ⟨t,rfl,h3⟩⟩
theorem qh9 {ps:List (List UInt8)} {p:List UInt8} (hr:ps.Nodup) (h:∀ n,n∈ps↔n=p):ps=[p]:=by
 cases ps with
 | nil=>exact absurd ((h p).2 rfl) (by simp)
 | cons a r=>
  have ea:a=p:=(h a).1 List.mem_cons_self;cases r with
  | nil=>rw [ea]
  | cons b s=>
   have eb:b=p:=(h b).1 (by simp);rw [ea,eb] at hr;simp at hr
