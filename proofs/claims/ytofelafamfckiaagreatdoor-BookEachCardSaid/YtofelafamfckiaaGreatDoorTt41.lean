/- Merged: TsA TsB TsK PaPl PaT PaPl2. -/
import Derived.Test.YtofelafamfckiaaGreatDoorTt33
import Derived.Test.YtofelafamfckiaaGreatDoorTt27
import Derived.Test.YtofelafamfckiaaGreatDoorTt38
namespace Go.Proofs.YtofelafamfckiaaGreatDoor
namespace Tr
open Go.Proofs Go.RowKit Go.Lib Utf Sc Re
open Em (qci qbq bo ci qii qjg)
theorem qgt (v:V):1≤cnt v:=by rw [qcM];omega
end Tr
namespace Tr
open Go.Proofs Go.RowKit Go.Lib Utf Sc Re
open Em (qci qbq bo ci own qam szU cj wfV wfL chk qfZ qbV okW)
theorem qdz:∀ (l r:List (List UInt8)),l.Perm r→l.Pairwise (fun a b=>ltN b a=false)→r.Pairwise (fun a b=>ltN b a=false)→l=r
 | [],r,hp,_,_=>by rw [List.nil_perm.1 hp]
 | x::t,r,hp,h1,h2=>by
  cases r with
  | nil=>exact absurd hp.length_eq (by simp)
  | cons y u=>
   rw [List.pairwise_cons] at h1 h2;have e:x=y:=by
    rcases List.mem_cons.1 (hp.subset (show x∈x::t by simp)) with h | h
    ·exact h
    ·rcases List.mem_cons.1 (hp.symm.subset (show y∈y::u by simp)) with k | k
     ·exact k.symm
     ·exact (ql7 (h2.1 x h) (h1.1 y k)).symm▸rfl
   subst e;rw [qdz t u (List.perm_cons x |>.1 hp) h1.2 h2.2]
end Tr
namespace Tr
open Go.Proofs Go.RowKit Go.Lib Utf Sc Re
theorem qeW {ns:List (List UInt8)} {nm:List UInt8} (r:List (List UInt8)) (h:nm∈ns):(ns++r).idxOf nm=ns.idxOf nm:=by
 induction ns with
 | nil=>cases h
 | cons a t ih=>
  rw [List.cons_append,List.idxOf_cons,List.idxOf_cons];by_cases e:a=nm
  ·simp [e]
  ·have hb:(a==nm)=false:=by simpa using e
   rcases List.mem_cons.1 h with k | k
   ·exact absurd k.symm e
   ·rw [hb,cond_false,cond_false,ih k]
theorem qcg {ns:List (List UInt8)} {nm:List UInt8} (r:List (List UInt8)) (h:nm∉ns):(ns++r).idxOf nm=ns.length+r.idxOf nm:=by
 induction ns with
 | nil=>simp
 | cons a t ih=>
  have e:a≠nm:=fun e=>h (by rw [e];simp);have hb:(a==nm)=false:=by simpa using e
  rw [List.cons_append,List.idxOf_cons,hb,cond_false,ih (fun k=>h (by simp [k]))];simp;omega
theorem qiy (x:List (List UInt8)×List V):inN (mpV x)=x.1:=rfl
theorem qiu (x:List (List UInt8)×List V):inM (mpV x)=x.2:=rfl
theorem qfB (v:V) (nm:List UInt8):ck v nm=(inM v)[(inN v).idxOf nm]?.getD V0:=by
 unfold ck;rw [List.getD_eq_getElem?_getD]
theorem qhb (v x:V) (nm:List UInt8) (hl:(inN v).length=(inM v).length):nm∈inN (mpV (qbB v nm,qbA v nm x))∧ck (mpV (qbB v nm,qbA v nm x)) nm=x:=by
 rw [qfB,qiy,qiu];unfold qbB qbA;by_cases h:nm∈inN v
 ·simp only [if_pos h];refine ⟨h,?_⟩;have hi:=List.idxOf_lt_length_of_mem h;rw [List.getElem?_set_self (by omega)];rfl
 ·simp only [if_neg h];refine ⟨by simp,?_⟩;rw [qcg [nm] h,hl];simp
theorem qfI (v x:V) (nm o:List UInt8) (hl:(inN v).length=(inM v).length) (ho:o≠nm):(o∈inN (mpV (qbB v nm,qbA v nm x))↔o∈inN v)∧ck (mpV (qbB v nm,qbA v nm x)) o=ck v o:=by
 rw [qfB,qfB,qiy,qiu];unfold qbB qbA;by_cases h:nm∈inN v
 ·simp only [if_pos h];refine ⟨trivial,?_⟩;have hne:(inN v).idxOf nm≠(inN v).idxOf o:=fun e=>by
   have h1:=List.getElem_idxOf (List.idxOf_lt_length_of_mem h);by_cases hm:o∈inN v
   ·have h2:=List.getElem_idxOf (List.idxOf_lt_length_of_mem hm);simp only [←e] at h2;exact ho (h2.symm.trans h1)
   ·rw [List.idxOf_eq_length hm] at e;have:=List.idxOf_lt_length_of_mem h;omega
  rw [List.getElem?_set_ne hne]
 ·simp only [if_neg h];refine ⟨by simp [ho],?_⟩;by_cases hm:o∈inN v
  ·have hi:=List.idxOf_lt_length_of_mem hm;rw [qeW [nm] hm,List.getElem?_append_left (by omega)]
  ·have hb:(nm==o)=false:=by simpa using fun e=>ho e.symm
   rw [qcg [nm] hm,List.idxOf_eq_length hm,List.idxOf_cons,hb];rw [List.getElem?_eq_none (by simp;omega),List.getElem?_eq_none (by omega)]
end Tr
namespace Pa
open Go.Proofs Go.RowKit Utf Sc Re Tr Po
open Em (bo ci szU cj wfV wfL qci qbq)
def qe0 (v:V) (p:List UInt8):Option V:=if p∈inN v then some (ck v p) else none
def qmI:List (List UInt8)→V→Option V
 | [],v=>some v
 | p::r,v=>(qe0 v p).bind (qmI r)
def okP:List (List UInt8)→V→Prop
 | [],_=>False
 | [_],v=>v.k=6
 | p::q::r,v=>v.k=6∧p∈inN v∧okP (q::r) (ck v p)
def qgY:List (List UInt8)→V→V→V
 | [],_,v=>v
 | [p],x,v=>if x.k=1 then mpV (woN v p,woM v p) else mpV (qbB v p,qbA v p x)
 | p::q::r,x,v=>mpV (qbB v p,qbA v p (qgY (q::r) x (ck v p)))
def qmg (v:V) (m:List (List UInt8)×V):V:=if (qmI m.1 v).isSome=true∨m.2.k≠1 then qgY m.1 m.2 v else v
theorem qmH {v:V} {p:List UInt8} (h:p∈inN v):v.k=6:=by
 unfold inN at h;split at h
 ·assumption
 ·cases h
theorem qdR {v:V} (h:bo v):(inN v).length=(inM v).length:=by
 cases v;rw [bo] at h;unfold inN inM;split
 ·exact h.1
 ·rfl
theorem qhs {v:V} (hl:bo v) (p o:List UInt8) (x:V):qe0 (mpV (qbB v p,qbA v p x)) o=if o=p then some x else qe0 v o:=by
 unfold qe0;by_cases e:o=p
 ·subst e;obtain ⟨h1,h2⟩:=qhb v x o (qdR hl);rw [if_pos h1,if_pos rfl,h2]
 ·obtain ⟨h1,h2⟩:=qfI v x p o (qdR hl) e;rw [if_neg e,h2];by_cases h:o∈inN v
  ·rw [if_pos (h1.2 h),if_pos h]
  ·rw [if_neg (fun k=>h (h1.1 k)),if_neg h]
theorem qmB:∀ {ps:List (List UInt8)} {x v:V},v.k=6→(qgY ps x v).k=6
 | [],_,_,h=>h
 | [_],x,v,_=>by rw [qgY];split <;> rfl
 | _::_::_,_,_,_=>rfl
theorem qax {v:V}:∀ {l:List V},ci l→v∈l→bo v
 | [],_,h=>by cases h
 | a::r,h,hv=>by
  rw [ci] at h;rcases List.mem_cons.1 hv with rfl | hv
  ·exact h.1
  ·exact qax h.2 hv
theorem qkQ {v:V} (hl:bo v) {p:List UInt8} (h:p∈inN v):ck v p∈v.ms:=by
 have h1:=List.idxOf_lt_length_of_mem h;rw [qdR hl] at h1;rw [qf9 h1 rfl];exact qj2 (List.getElem_mem h1)
theorem qi2 {v:V} (hl:bo v) {p:List UInt8} (h:p∈inN v):bo (ck v p):=by
 refine qax (l:=v.ms) ?_ (qkQ hl h);cases v;rw [bo] at hl;exact hl.2.2
theorem qkI {v:V} {p:List UInt8} (h:p∈inN v):qe0 v p=some (ck v p):=if_pos h
theorem qjh {v y:V} {p:List UInt8} (h:qe0 v p=some y):p∈inN v∧ck v p=y:=by
 unfold qe0 at h;split at h
 ·rename_i hm;injection h with h;exact ⟨hm,h⟩
 ·cases h
theorem qiI {p:List UInt8} {q:List (List UInt8)} {v:V} (hq:q≠[]):okP (p::q) v↔∃ y,qe0 v p=some y∧okP q y:=by
 cases q with
 | nil=>exact absurd rfl hq
 | cons a r=>
  constructor
  ·intro h;exact ⟨_,qkI h.2.1,h.2.2⟩
  ·rintro ⟨y,h1,h2⟩;obtain ⟨h3,rfl⟩:=qjh h1;exact ⟨qmH h3,h3,h2⟩
theorem qgl:∀ {ps:List (List UInt8)} {x v:V},okP ps v→bo v→okP ps (qgY ps x v)
 | [],_,_,h,_=>h.elim
 | [p],x,v,h,_=>qmB h
 | p::q::r,x,v,h,hv=>by
  rw [qiI (by simp)];exact ⟨_,by rw [qgY,qhs hv,if_pos rfl],qgl h.2.2 (qi2 hv h.2.1)⟩
theorem qb5 {m:List (List UInt8)×V} {v:V} (h:okP m.1 v) (hv:bo v):okP m.1 (qmg v m):=by
 unfold qmg;split
 ·exact qgl h hv
 ·exact h
theorem qbz {v:V}:∀ {l:List V},v∈l→szU v≤cj l
 | [],h=>by cases h
 | a::r,h=>by
  rw [cj];rcases List.mem_cons.1 h with rfl | h
  ·omega
  ·have:=qbz h;omega
end Pa
namespace Pa
open Go.Proofs Go.RowKit Go.Lib Utf Sc Re Tr
open Em (bo ci)
abbrev M3:=M6×V×List Nat
def tN (T:List M3):List (List UInt8):=T.map fun t=>t.1.nm
end Pa
namespace Pa
open Go.Proofs Go.RowKit Utf Sc Re Tr Po
open Em (bo ci szU cj wfV wfL qci qbq)
inductive D:Type
 | mk (k n:Int) (s:List UInt8) (l:List D) (f:List UInt8→Option D):D
