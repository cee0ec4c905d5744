/- Merged: TsA TsB TsK PaPl PaT PaPl2. -/
import Derived.Test.YtofelafamfckiaaGreatDoorTt32
import Derived.Test.YtofelafamfckiaaGreatDoorTt36
import Derived.Test.YtofelafamfckiaaGreatDoorTt26
namespace Go.Proofs.YtofelafamfckiaaGreatDoor
namespace Tr
open Go.Proofs Go.RowKit Go.Lib Utf Sc Re
open Em (qcj qa9 aZ bo qiu qh8)
theorem qgn (v:V):1≤cnt v:=by rw [qkX];omega
end Tr
namespace Tr
open Go.Proofs Go.RowKit Go.Lib Utf Sc Re
open Em (qcj qa9 aZ bo own qal szU bc wfV wfL chk qfq qbO okW)
theorem qdI:∀ (l r:List (List UInt8)),l.Perm r→l.Pairwise (fun a b=>ltN b a=false)→r.Pairwise (fun a b=>ltN b a=false)→l=r
 | [],r,hp,_,_=>by rw [List.nil_perm.1 hp]
 | x::t,r,hp,h1,h2=>by
  cases r with
  | nil=>exact absurd hp.length_eq (by simp)
  | cons y u=>
   rw [List.pairwise_cons] at h1 h2;have e:x=y:=by
    rcases List.mem_cons.1 (hp.subset (show x∈x::t by simp)) with h | h
    ·exact h
    ·rcases List.mem_cons.1 (hp.symm.subset (show y∈y::u by simp)) with k | k
     ·exact k.symm
     ·exact (qk5 (h2.1 x h) (h1.1 y k)).symm▸rfl
   subst e;rw [qdI t u (List.perm_cons x |>.1 hp) h1.2 h2.2]
end Tr
namespace Tr
open Go.Proofs Go.RowKit Go.Lib Utf Sc Re
theorem qfc {ns:List (List UInt8)} {nm:List UInt8} (r:List (List UInt8)) (h:nm∈ns):(ns++r).idxOf nm=ns.idxOf nm:=by
 induction ns with
 | nil=>cases h
 | cons a t ih=>
  rw [List.cons_append,List.idxOf_cons,List.idxOf_cons];by_cases e:a=nm
  ·simp [e]
  ·have hb:(a==nm)=false:=by simpa using e
   rcases List.mem_cons.1 h with k | k
   ·exact absurd k.symm e
   ·rw [hb,cond_false,cond_false,ih k]
theorem qcf {ns:List (List UInt8)} {nm:List UInt8} (r:List (List UInt8)) (h:nm∉ns):(ns++r).idxOf nm=ns.length+r.idxOf nm:=by
 induction ns with
 | nil=>simp
 | cons a t ih=>
  have e:a≠nm:=fun e=>h (by rw [e];simp);have hb:(a==nm)=false:=by simpa using e
  rw [List.cons_append,List.idxOf_cons,hb,cond_false,ih (fun k=>h (by simp [k]))];simp;omega
theorem qhS (x:List (List UInt8)×List V):inN (mpV x)=x.1:=rfl
theorem qhV (x:List (List UInt8)×List V):inM (mpV x)=x.2:=rfl
theorem qfG (v:V) (nm:List UInt8):b7 v nm=(inM v)[(inN v).idxOf nm]?.getD V0:=by
 unfold b7;rw [List.getD_eq_getElem?_getD]
theorem qg9 (v x:V) (nm:List UInt8) (hl:(inN v).length=(inM v).length):nm∈inN (mpV (qbB v nm,qbG v nm x))∧b7 (mpV (qbB v nm,qbG v nm x)) nm=x:=by
 rw [qfG,qhS,qhV];unfold qbB qbG;by_cases h:nm∈inN v
 ·simp only [if_pos h];refine ⟨h,?_⟩;have hi:=List.idxOf_lt_length_of_mem h;rw [List.getElem?_set_self (by omega)];rfl
 ·simp only [if_neg h];refine ⟨by simp,?_⟩;rw [qcf [nm] h,hl];simp
theorem qfu (v x:V) (nm o:List UInt8) (hl:(inN v).length=(inM v).length) (ho:o≠nm):(o∈inN (mpV (qbB v nm,qbG v nm x))↔o∈inN v)∧b7 (mpV (qbB v nm,qbG v nm x)) o=b7 v o:=by
 rw [qfG,qfG,qhS,qhV];unfold qbB qbG;by_cases h:nm∈inN v
 ·simp only [if_pos h];refine ⟨trivial,?_⟩;have hne:(inN v).idxOf nm≠(inN v).idxOf o:=fun e=>by
   have h1:=List.getElem_idxOf (List.idxOf_lt_length_of_mem h);by_cases hm:o∈inN v
   ·have h2:=List.getElem_idxOf (List.idxOf_lt_length_of_mem hm);simp only [←e] at h2;exact ho (h2.symm.trans h1)
   ·rw [List.idxOf_eq_length hm] at e;have:=List.idxOf_lt_length_of_mem h;omega
  rw [List.getElem?_set_ne hne]
 ·simp only [if_neg h];refine ⟨by simp [ho],?_⟩;by_cases hm:o∈inN v
  ·have hi:=List.idxOf_lt_length_of_mem hm;rw [qfc [nm] hm,List.getElem?_append_left (by omega)]
  ·have hb:(nm==o)=false:=by simpa using fun e=>ho e.symm
   rw [qcf [nm] hm,List.idxOf_eq_length hm,List.idxOf_cons,hb];rw [List.getElem?_eq_none (by simp;omega),List.getElem?_eq_none (by omega)]
end Tr
namespace Pa
open Go.Proofs Go.RowKit Utf Sc Re Tr Po
open Em (aZ bo szU bc wfV wfL qcj qa9)
def qex (v:V) (p:List UInt8):Option V:=if p∈inN v then some (b7 v p) else none
def qlV:List (List UInt8)→V→Option V
 | [],v=>some v
 | p::r,v=>(qex v p).bind (qlV r)
def okP:List (List UInt8)→V→Prop
 | [],_=>False
 | [_],v=>v.k=6
 | p::q::r,v=>v.k=6∧p∈inN v∧okP (q::r) (b7 v p)
def qg5:List (List UInt8)→V→V→V
 | [],_,v=>v
 | [p],x,v=>if x.k=1 then mpV (woN v p,woM v p) else mpV (qbB v p,qbG v p x)
 | p::q::r,x,v=>mpV (qbB v p,qbG v p (qg5 (q::r) x (b7 v p)))
def qlU (v:V) (m:List (List UInt8)×V):V:=if (qlV m.1 v).isSome=true∨m.2.k≠1 then qg5 m.1 m.2 v else v
theorem qmb {v:V} {p:List UInt8} (h:p∈inN v):v.k=6:=by
 unfold inN at h;split at h
 ·assumption
 ·cases h
theorem qd2 {v:V} (h:aZ v):(inN v).length=(inM v).length:=by
 cases v;rw [aZ] at h;unfold inN inM;split
 ·exact h.1
 ·rfl
theorem qhF {v:V} (hl:aZ v) (p o:List UInt8) (x:V):qex (mpV (qbB v p,qbG v p x)) o=if o=p then some x else qex v o:=by
 unfold qex;by_cases e:o=p
 ·subst e;obtain ⟨h1,h2⟩:=qg9 v x o (qd2 hl);rw [if_pos h1,if_pos rfl,h2]
 ·obtain ⟨h1,h2⟩:=qfu v x p o (qd2 hl) e;rw [if_neg e,h2];by_cases h:o∈inN v
  ·rw [if_pos (h1.2 h),if_pos h]
  ·rw [if_neg (fun k=>h (h1.1 k)),if_neg h]
theorem qlC:∀ {ps:List (List UInt8)} {x v:V},v.k=6→(qg5 ps x v).k=6
 | [],_,_,h=>h
 | [_],x,v,_=>by rw [qg5];split <;> rfl
 | _::_::_,_,_,_=>rfl
theorem qap {v:V}:∀ {l:List V},bo l→v∈l→aZ v
 | [],_,h=>by cases h
 | a::r,h,hv=>by
  rw [bo] at h;rcases List.mem_cons.1 hv with rfl | hv
  ·exact h.1
  ·exact qap h.2 hv
theorem qjO {v:V} (hl:aZ v) {p:List UInt8} (h:p∈inN v):b7 v p∈v.ms:=by
 have h1:=List.idxOf_lt_length_of_mem h;rw [qd2 hl] at h1;rw [qgf h1 rfl];exact qj7 (List.getElem_mem h1)
theorem qiJ {v:V} (hl:aZ v) {p:List UInt8} (h:p∈inN v):aZ (b7 v p):=by
 refine qap (l:=v.ms) ?_ (qjO hl h);cases v;rw [aZ] at hl;exact hl.2.2
theorem qjD {v:V} {p:List UInt8} (h:p∈inN v):qex v p=some (b7 v p):=if_pos h
theorem qhH {v y:V} {p:List UInt8} (h:qex v p=some y):p∈inN v∧b7 v p=y:=by
 unfold qex at h;split at h
 ·rename_i hm;injection h with h;exact ⟨hm,h⟩
 ·cases h
theorem qin {p:List UInt8} {q:List (List UInt8)} {v:V} (hq:q≠[]):okP (p::q) v↔∃ y,qex v p=some y∧okP q y:=by
 cases q with
 | nil=>exact absurd rfl hq
 | cons a r=>
  constructor
  ·intro h;exact ⟨_,qjD h.2.1,h.2.2⟩
  ·rintro ⟨y,h1,h2⟩;obtain ⟨h3,rfl⟩:=qhH h1;exact ⟨qmb h3,h3,h2⟩
theorem qgo:∀ {ps:List (List UInt8)} {x v:V},okP ps v→aZ v→okP ps (qg5 ps x v)
 | [],_,_,h,_=>h.elim
 | [p],x,v,h,_=>qlC h
 | p::q::r,x,v,h,hv=>by
  rw [qin (by simp)];exact ⟨_,by rw [qg5,qhF hv,if_pos rfl],qgo h.2.2 (qiJ hv h.2.1)⟩
theorem qbJ {m:List (List UInt8)×V} {v:V} (h:okP m.1 v) (hv:aZ v):okP m.1 (qlU v m):=by
 unfold qlU;split
 ·exact qgo h hv
 ·exact h
theorem qbx {v:V}:∀ {l:List V},v∈l→szU v≤bc l
 | [],h=>by cases h
 | a::r,h=>by
  rw [bc];rcases List.mem_cons.1 h with rfl | h
  ·omega
  ·have:=qbx h;omega
end Pa
namespace Pa
open Go.Proofs Go.RowKit Go.Lib Utf Sc Re Tr
open Em (aZ bo)
abbrev M3:=M6×V×List Nat
def tN (T:List M3):List (List UInt8):=T.map fun t=>t.1.nm
end Pa
namespace Pa
open Go.Proofs Go.RowKit Utf Sc Re Tr Po
open Em (aZ bo szU bc wfV wfL qcj qa9)
inductive D:Type
 | mk (k n:Int) (s:List UInt8) (l:List D) (f:List UInt8→Option D):D
