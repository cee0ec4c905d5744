/- Merged: CdPl CdPl2. -/
import Derived.Test.YtofelafamfckiaaGreatDoorTt2
import Derived.Test.YtofelafamfckiaaGreatDoorTt7
namespace Go.Proofs.YtofelafamfckiaaGreatDoor
namespace Cd
open Go.RowKit Utf Nu Wo Sm
open Re (V ht htL bG mpV V0)
def qgg:List UInt8:=[64,116,121,112,101]
def qdy:List UInt8:=[107,105,110,100]
def cW:List UInt8:=[109,101,109,98,101,114,115]
def qd2:List UInt8:=[103,114,111,117,112]
def qmz:List UInt8:=[121,101,97,114]
def qlB:List UInt8:=[109,111,110,116,104]
def qm8:List UInt8:=[100,97,121]
def mem (v:V):List (List UInt8×V):=v.ns.zip v.ms
def fst (l:List (List UInt8×V)) (n:List UInt8):Option V:=(l.find? fun m=>decide (m.1=n)).map Prod.snd
def isT (v:V) (a b:Nat):Bool:=decide (v.k=4∧a≤v.s.length∧v.s.length≤b)
def btw (v:V) (a b:Int):Bool:=decide (v.k=3∧a≤v.n∧v.n≤b)
def qmk (v:V):Bool:=decide (v.k=2∧v.n=1)
def qfs (n:List UInt8):Bool:=decide (1≤n.length∧n.length≤255)
def gt (v:V) (n:List UInt8):Option V:=if v.k=6 then fst (mem v) n else none
def qm0 (x:V) (s:List UInt8):Bool:=decide (x.k=4∧x.s=s)
def qkj (v:V):Bool:=match gt v qgg with
 | some t=>qm0 t qkV
 | none=>false
def qlZ (v:V):List UInt8:=if qkj v then qkV else qlH
def prt (v:V) (nm:List UInt8) (a b:Int):Bool:=match gt v nm with
 | some x=>decide (a≤x.n∧x.n≤b)
 | none=>true
def qmp (O:List UInt8→V→Bool) (fm:Int) (ar:List UInt8) (v:V):Bool:=
 if fm=1 then isT v 0 1024
 else if fm=2 then isT v 0 1024&&qfs v.s
 else if fm=3 then decide (v.k=2)
 else if fm=4 then decide (v.k=3∧0≤v.n)
 else if fm=5 then btw v 1 100
 else if fm=6 then isT v 0 1024&&Id.isL v.s
 else if fm=7 then isT v 0 1024&&decide (St.qiV v.s)
 else if fm=8 then isT v 0 1024&&qm3 v.s
 else if fm=9 then isT v 0 1024&&qla v.s
 else if fm=10 then isT v 0 1024&&qmw v.s
 else if fm=11 then isT v 0 1024&&inS ar v.s
 else if fm=12 then O ar v
 else if fm=13 then decide (v.k=5)&&v.l.all (O ar)
 else if fm=14 then decide (v.k=6)&&(mem v).all fun m=>Id.isL m.1&&O ar m.2
 else if fm=15 then decide (v.k=6)&&(mem v).all fun m=>qfs m.1&&O ar m.2
 else if fm=16 then decide (v.k=6)&&(mem v).all fun m=>qfs m.1&&qmk m.2
 else if fm=17 then decide (v.k=6)&&(mem v).all fun m=>inS ar m.1&&qmk m.2
 else if fm=18 then O (qlZ v) v&&prt v qmz 0 9999&&prt v qlB 1 12&&prt v qm8 1 31
 else false
def qjk (O:List UInt8→V→Bool) (of:List UInt8) (m:List UInt8×V):Bool:=
 if m.1=qgg then decide (m.2.k=4∧m.2.s=of)
 else match qmL (qaM of) m.1 with
  | some p=>qmp O p.fm p.ar m.2
  | none=>qm1 m.1
def qmA (of:List UInt8) (ns:List (List UInt8)):Bool:=(qaM of).all fun p=> !p.mu || ns.contains p.nm
def qmf:Nat→List UInt8→V→Bool
 | 0,_,_=>false
 | f+1,of,v=>decide (v.k=6)&&decide (qaM of≠[])&&(mem v).all (qjk (qmf f) of)&&qmA of v.ns
def qeg (of:List UInt8) (v:V):Bool:=qmf (ht v) of v
def qcj (v:V) (n:List UInt8):Bool:=
 if v.k=6 then
  (mem v).any (fun m=>decide (m.1=n)&& !qjk qeg nm0 m) || (qaM nm0).any (fun p=>p.mu&&decide (p.nm=n)&& !v.ns.contains n) ||
   (decide (n=cW)&&v.ns.contains n&& !(match fst (mem v) qdy with | some t=>decide (t.k=4∧t.s=qd2) | none=>false))
 else decide (n=qgg)
theorem qcp {v:V} {m:List UInt8×V} (h:m∈mem v):m.1∈v.ns:=(List.of_mem_zip (a:=m.1) (b:=m.2) h).1
theorem cr {v:V} (h:∀ n,qcj v n=false):v.k=6∧(∀ m∈mem v,qjk qeg nm0 m=true)∧(∀ p∈qaM nm0,p.mu=true→p.nm∈v.ns)∧
  (cW∈v.ns→∃ t,fst (mem v) qdy=some t∧t.k=4∧t.s=qd2):=by
 have hk:v.k=6:=by
  by_cases hk:v.k=6
  ·exact hk
  ·have:=h qgg;unfold qcj at this;rw [if_neg hk] at this;exact absurd this (by simp)
 have hb:∀ n,(mem v).any (fun m=>decide (m.1=n)&& !qjk qeg nm0 m)=false∧(qaM nm0).any (fun p=>p.mu&&decide (p.nm=n)&& !v.ns.contains n)=false∧
   (decide (n=cW)&&v.ns.contains n&& !(match fst (mem v) qdy with | some t=>decide (t.k=4∧t.s=qd2) | none=>false))=false:=fun n=>by
  have:=h n;unfold qcj at this;rw [if_pos hk,Bool.or_eq_false_iff,Bool.or_eq_false_iff] at this;exact ⟨this.1.1,this.1.2,this.2⟩
 refine ⟨hk,fun m hm=>?_,fun p hp hmu=>?_,fun hmem=>?_⟩
 ·have:=List.any_eq_false.1 (hb m.1).1 m hm
  simpa using this
 ·have:=List.any_eq_false.1 (hb p.nm).2.1 p hp
  simpa [hmu] using this
 ·have:=(hb cW).2.2;cases hf:fst (mem v) qdy with
  | none=>rw [hf] at this;simp [hmem] at this
  | some t=>
   rw [hf] at this;simp [hmem] at this;exact ⟨t,rfl,this.1,this.2⟩
def qmC (l:List (List UInt8×V)) (ns:List (List UInt8)):Prop:=cW∈ns∧¬ ∃ t,fst l qdy=some t∧t.k=4∧t.s=qd2
theorem qae {v:V} (hk:v.k=6) (n:List UInt8):qcj v n=true↔(∃ m∈mem v,m.1=n∧qjk qeg nm0 m=false)∨(∃ p∈qaM nm0,p.mu=true∧p.nm=n∧n∉v.ns)∨(n=cW∧qmC (mem v) v.ns):=by
 unfold qcj;rw [if_pos hk,Bool.or_eq_true,Bool.or_eq_true,or_assoc];refine or_congr ?_ (or_congr ?_ ?_)
 ·rw [List.any_eq_true];refine exists_congr fun m=>and_congr_right fun _=>?_;simp
 ·rw [List.any_eq_true];refine exists_congr fun m=>and_congr_right fun _=>?_;simp [and_assoc]
 ·unfold qmC;cases hf:fst (mem v) qdy with
  | none=>
   simp only [Bool.and_eq_true,decide_eq_true_eq,List.contains_iff_mem];constructor
   ·rintro ⟨⟨rfl,h⟩,_⟩;exact ⟨rfl,h,by rintro ⟨t,h1,_⟩;cases h1⟩
   ·rintro ⟨rfl,h,_⟩;exact ⟨⟨rfl,h⟩,rfl⟩
  | some t=>
   simp only [Bool.and_eq_true,decide_eq_true_eq,List.contains_iff_mem,Bool.not_eq_true',decide_eq_false_iff_not];constructor
   ·rintro ⟨⟨rfl,h⟩,h2⟩;exact ⟨rfl,h,by rintro ⟨t',h1,h3⟩;injection h1 with h1;subst h1;exact h2 h3⟩
   ·rintro ⟨rfl,h,h2⟩;exact ⟨⟨rfl,h⟩,fun h3=>h2 ⟨t,rfl,h3⟩⟩
theorem qiW {ps:List (List UInt8)} {p:List UInt8} (hr:ps.Nodup) (h:∀ n,n∈ps↔n=p):ps=[p]:=by
 cases ps with
 | nil=>exact absurd ((h p).2 rfl) (by simp)
 | cons a r=>
  have ea:a=p:=(h a).1 List.mem_cons_self;cases r with
  | nil=>rw [ea]
  | cons b s=>
   have eb:b=p:=(h b).1 (by simp);rw [ea,eb] at hr;simp at hr
