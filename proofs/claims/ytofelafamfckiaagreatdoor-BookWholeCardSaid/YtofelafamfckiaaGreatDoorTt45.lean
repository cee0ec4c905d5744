/- Merged: TsK PaPl PaT PaPl2. -/
import Derived.Test.YtofelafamfckiaaGreatDoorTt39
import Derived.Test.YtofelafamfckiaaGreatDoorTt43
namespace Go.Proofs.YtofelafamfckiaaGreatDoor
namespace Tr
open Go.Proofs Go.RowKit Go.Lib Utf Sc Re
theorem qfk {ns:List (List UInt8)} {nm:List UInt8} (r:List (List UInt8)) (h:nm∈ns):(ns++r).idxOf nm=ns.idxOf nm:=by
 induction ns with
 | nil=>cases h
 | cons a t ih=>
  rw [List.cons_append,List.idxOf_cons,List.idxOf_cons];by_cases e:a=nm
  ·simp [e]
  ·have hb:(a==nm)=false:=by simpa using e
   rcases List.mem_cons.1 h with k | k
   ·exact absurd k.symm e
   ·rw [hb,cond_false,cond_false,ih k]
theorem qb8 {ns:List (List UInt8)} {nm:List UInt8} (r:List (List UInt8)) (h:nm∉ns):(ns++r).idxOf nm=ns.length+r.idxOf nm:=by
 induction ns with
 | nil=>simp
 | cons a t ih=>
  have e:a≠nm:=fun e=>h (by rw [e];simp);have hb:(a==nm)=false:=by simpa using e
  rw [List.cons_append,List.idxOf_cons,hb,cond_false,ih (fun k=>h (by simp [k]))];simp;omega
theorem qjl (x:List (List UInt8)×List V):inN (mpV x)=x.1:=rfl
theorem qiW (x:List (List UInt8)×List V):inM (mpV x)=x.2:=rfl
theorem qf6 (v:V) (nm:List UInt8):bP v nm=(inM v)[(inN v).idxOf nm]?.getD V0:=by
 unfold bP;rw [List.getD_eq_getElem?_getD]
theorem qhj (v x:V) (nm:List UInt8) (hl:(inN v).length=(inM v).length):nm∈inN (mpV (qbz v nm,qbr v nm x))∧bP (mpV (qbz v nm,qbr v nm x)) nm=x:=by
 rw [qf6,qjl,qiW];unfold qbz qbr;by_cases h:nm∈inN v
 ·simp only [if_pos h];refine ⟨h,?_⟩;have hi:=List.idxOf_lt_length_of_mem h;rw [List.getElem?_set_self (by omega)];rfl
 ·simp only [if_neg h];refine ⟨by simp,?_⟩;rw [qb8 [nm] h,hl];simp
theorem qfA (v x:V) (nm o:List UInt8) (hl:(inN v).length=(inM v).length) (ho:o≠nm):(o∈inN (mpV (qbz v nm,qbr v nm x))↔o∈inN v)∧bP (mpV (qbz v nm,qbr v nm x)) o=bP v o:=by
 rw [qf6,qf6,qjl,qiW];unfold qbz qbr;by_cases h:nm∈inN v
 ·simp only [if_pos h];refine ⟨trivial,?_⟩;have hne:(inN v).idxOf nm≠(inN v).idxOf o:=fun e=>by
   have h1:=List.getElem_idxOf (List.idxOf_lt_length_of_mem h);by_cases hm:o∈inN v
   ·have h2:=List.getElem_idxOf (List.idxOf_lt_length_of_mem hm);simp only [←e] at h2;exact ho (h2.symm.trans h1)
   ·rw [List.idxOf_eq_length hm] at e;have:=List.idxOf_lt_length_of_mem h;omega
  rw [List.getElem?_set_ne hne]
 ·simp only [if_neg h];refine ⟨by simp [ho],?_⟩;by_cases hm:o∈inN v
  ·have hi:=List.idxOf_lt_length_of_mem hm;rw [qfk [nm] hm,List.getElem?_append_left (by omega)]
  ·have hb:(nm==o)=false:=by simpa using fun e=>ho e.symm
   rw [qb8 [nm] hm,List.idxOf_eq_length hm,List.idxOf_cons,hb];rw [List.getElem?_eq_none (by simp;omega),List.getElem?_eq_none (by omega)]
end Tr
namespace Pa
open Go.Proofs Go.RowKit Utf Sc Re Tr Po
open Em (bv cq szU cr wfV wfL qcd qbh)
def qeJ (v:V) (p:List UInt8):Option V:=if p∈inN v then some (bP v p) else none
def qmS:List (List UInt8)→V→Option V
 | [],v=>some v
 | p::r,v=>(qeJ v p).bind (qmS r)
def okP:List (List UInt8)→V→Prop
 | [],_=>False
 | [_],v=>v.k=6
 | p::q::r,v=>v.k=6∧p∈inN v∧okP (q::r) (bP v p)
def qhz:List (List UInt8)→V→V→V
 | [],_,v=>v
 | [p],x,v=>if x.k=1 then mpV (woN v p,woM v p) else mpV (qbz v p,qbr v p x)
 | p::q::r,x,v=>mpV (qbz v p,qbr v p (qhz (q::r) x (bP v p)))
def qmC (v:V) (m:List (List UInt8)×V):V:=if (qmS m.1 v).isSome=true∨m.2.k≠1 then qhz m.1 m.2 v else v
theorem qmN {v:V} {p:List UInt8} (h:p∈inN v):v.k=6:=by
 unfold inN at h;split at h
 ·assumption
 ·cases h
theorem qef {v:V} (h:bv v):(inN v).length=(inM v).length:=by
 cases v;rw [bv] at h;unfold inN inM;split
 ·exact h.1
 ·rfl
theorem qhv {v:V} (hl:bv v) (p o:List UInt8) (x:V):qeJ (mpV (qbz v p,qbr v p x)) o=if o=p then some x else qeJ v o:=by
 unfold qeJ;by_cases e:o=p
 ·subst e;obtain ⟨h1,h2⟩:=qhj v x o (qef hl);rw [if_pos h1,if_pos rfl,h2]
 ·obtain ⟨h1,h2⟩:=qfA v x p o (qef hl) e;rw [if_neg e,h2];by_cases h:o∈inN v
  ·rw [if_pos (h1.2 h),if_pos h]
  ·rw [if_neg (fun k=>h (h1.1 k)),if_neg h]
theorem qms:∀ {ps:List (List UInt8)} {x v:V},v.k=6→(qhz ps x v).k=6
 | [],_,_,h=>h
 | [_],x,v,_=>by rw [qhz];split <;> rfl
 | _::_::_,_,_,_=>rfl
theorem qaE {v:V}:∀ {l:List V},cq l→v∈l→bv v
 | [],_,h=>by cases h
 | a::r,h,hv=>by
  rw [cq] at h;rcases List.mem_cons.1 hv with rfl | hv
  ·exact h.1
  ·exact qaE h.2 hv
theorem qke {v:V} (hl:bv v) {p:List UInt8} (h:p∈inN v):bP v p∈v.ms:=by
 have h1:=List.idxOf_lt_length_of_mem h;rw [qef hl] at h1;rw [qgE h1 rfl];exact qki (List.getElem_mem h1)
theorem qh1 {v:V} (hl:bv v) {p:List UInt8} (h:p∈inN v):bv (bP v p):=by
 refine qaE (l:=v.ms) ?_ (qke hl h);cases v;rw [bv] at hl;exact hl.2.2
theorem qjW {v:V} {p:List UInt8} (h:p∈inN v):qeJ v p=some (bP v p):=if_pos h
theorem qh8 {v y:V} {p:List UInt8} (h:qeJ v p=some y):p∈inN v∧bP v p=y:=by
 unfold qeJ at h;split at h
 ·rename_i hm;injection h with h;exact ⟨hm,h⟩
 ·cases h
theorem qjH {p:List UInt8} {q:List (List UInt8)} {v:V} (hq:q≠[]):okP (p::q) v↔∃ y,qeJ v p=some y∧okP q y:=by
 cases q with
 | nil=>exact absurd rfl hq
 | cons a r=>
  constructor
  ·intro h;exact ⟨_,qjW h.2.1,h.2.2⟩
  ·rintro ⟨y,h1,h2⟩;obtain ⟨h3,rfl⟩:=qh8 h1;exact ⟨qmN h3,h3,h2⟩
theorem qgk:∀ {ps:List (List UInt8)} {x v:V},okP ps v→bv v→okP ps (qhz ps x v)
 | [],_,_,h,_=>h.elim
 | [p],x,v,h,_=>qms h
 | p::q::r,x,v,h,hv=>by
  rw [qjH (by simp)];exact ⟨_,by rw [qhz,qhv hv,if_pos rfl],qgk h.2.2 (qh1 hv h.2.1)⟩
theorem qbH {m:List (List UInt8)×V} {v:V} (h:okP m.1 v) (hv:bv v):okP m.1 (qmC v m):=by
 unfold qmC;split
 ·exact qgk h hv
 ·exact h
theorem qbx {v:V}:∀ {l:List V},v∈l→szU v≤cr l
 | [],h=>by cases h
 | a::r,h=>by
  rw [cr];rcases List.mem_cons.1 h with rfl | h
  ·omega
  ·have:=qbx h;omega
end Pa
namespace Pa
open Go.Proofs Go.RowKit Go.Lib Utf Sc Re Tr
open Em (bv cq)
abbrev M3:=M6×V×List Nat
def tN (T:List M3):List (List UInt8):=T.map fun t=>t.1.nm
end Pa
namespace Pa
open Go.Proofs Go.RowKit Utf Sc Re Tr Po
open Em (bv cq szU cr wfV wfL qcd qbh)
inductive D:Type
 | mk (k n:Int) (s:List UInt8) (l:List D) (f:List UInt8→Option D):D
