/- Merged: TsA TsB PoH TsK PaPl PaT PaPl2 TsN TsO. -/
import Derived.Test.YtofelafamfckiaaGreatDoorTt42
import Derived.Test.YtofelafamfckiaaGreatDoorTt28
import Derived.Deep.DeepCutAuto
import Derived.Deep.RegionWith
import Derived.Laws.Concat
import Derived.Test.YtofelafamfckiaaGreatDoorTt39
namespace Go.Proofs.YtofelafamfckiaaGreatDoor
namespace Tr
open Go.Proofs Go.RowKit Go.Lib Utf Sc Re
open Em (qcu qbo bC cD qjd qif)
theorem qgN (v:V):1≤cnt v:=by rw [qdv];omega
end Tr
namespace Tr
open Go.Proofs Go.RowKit Go.Lib Utf Sc Re
open Em (qcu qbo bC cD own qam szU cC wfV wfL chk qgg qbT okW)
theorem qdP:∀ (l r:List (List UInt8)),l.Perm r→l.Pairwise (fun a b=>ltN b a=false)→r.Pairwise (fun a b=>ltN b a=false)→l=r
 | [],r,hp,_,_=>by rw [List.nil_perm.1 hp]
 | x::t,r,hp,h1,h2=>by
  cases r with
  | nil=>exact absurd hp.length_eq (by simp)
  | cons y u=>
   rw [List.pairwise_cons] at h1 h2;have e:x=y:=by
    rcases List.mem_cons.1 (hp.subset (show x∈x::t by simp)) with h | h
    ·exact h
    ·rcases List.mem_cons.1 (hp.symm.subset (show y∈y::u by simp)) with k | k
     ·exact k.symm
     ·exact (qgb (h2.1 x h) (h1.1 y k)).symm▸rfl
   subst e;rw [qdP t u (List.perm_cons x |>.1 hp) h1.2 h2.2]
end Tr
end Go.Proofs.YtofelafamfckiaaGreatDoor
set_option linter.unusedSimpArgs false
namespace Go.Proofs.YtofelafamfckiaaGreatDoor
namespace Po
open Go.Proofs Go.RowKit Utf Sc Re Tr Nu
structure Gs (f:V→Option V) (l acc acc':List V) (k:Nat):Prop where
 ex:∃ g0,acc'=acc++g0∧qjg f l=(qjg f (l.drop k)).map fun r=>g0++r
 sz:acc'.length+aR (l.drop k)≤1000000000000
end Po
namespace Tr
open Go.Proofs Go.RowKit Go.Lib Utf Sc Re
theorem qfd {ns:List (List UInt8)} {nm:List UInt8} (r:List (List UInt8)) (h:nm∈ns):(ns++r).idxOf nm=ns.idxOf nm:=by
 induction ns with
 | nil=>cases h
 | cons a t ih=>
  rw [List.cons_append,List.idxOf_cons,List.idxOf_cons];by_cases e:a=nm
  ·simp [e]
  ·have hb:(a==nm)=false:=by simpa using e
   rcases List.mem_cons.1 h with k | k
   ·exact absurd k.symm e
   ·rw [hb,cond_false,cond_false,ih k]
theorem qck {ns:List (List UInt8)} {nm:List UInt8} (r:List (List UInt8)) (h:nm∉ns):(ns++r).idxOf nm=ns.length+r.idxOf nm:=by
 induction ns with
 | nil=>simp
 | cons a t ih=>
  have e:a≠nm:=fun e=>h (by rw [e];simp);have hb:(a==nm)=false:=by simpa using e
  rw [List.cons_append,List.idxOf_cons,hb,cond_false,ih (fun k=>h (by simp [k]))];simp;omega
theorem qjk (x:List (List UInt8)×List V):inN (mpV x)=x.1:=rfl
theorem qiY (x:List (List UInt8)×List V):inM (mpV x)=x.2:=rfl
theorem qf1 (v:V) (nm:List UInt8):bQ v nm=(inM v)[(inN v).idxOf nm]?.getD V0:=by
 unfold bQ;rw [List.getD_eq_getElem?_getD]
theorem qh7 (v x:V) (nm:List UInt8) (hl:(inN v).length=(inM v).length):nm∈inN (mpV (qbD v nm,qbJ v nm x))∧bQ (mpV (qbD v nm,qbJ v nm x)) nm=x:=by
 rw [qf1,qjk,qiY];unfold qbD qbJ;by_cases h:nm∈inN v
 ·simp only [if_pos h];refine ⟨h,?_⟩;have hi:=List.idxOf_lt_length_of_mem h;rw [List.getElem?_set_self (by omega)];rfl
 ·simp only [if_neg h];refine ⟨by simp,?_⟩;rw [qck [nm] h,hl];simp
theorem qgx (v x:V) (nm o:List UInt8) (hl:(inN v).length=(inM v).length) (ho:o≠nm):(o∈inN (mpV (qbD v nm,qbJ v nm x))↔o∈inN v)∧bQ (mpV (qbD v nm,qbJ v nm x)) o=bQ v o:=by
 rw [qf1,qf1,qjk,qiY];unfold qbD qbJ;by_cases h:nm∈inN v
 ·simp only [if_pos h];refine ⟨trivial,?_⟩;have hne:(inN v).idxOf nm≠(inN v).idxOf o:=fun e=>by
   have h1:=List.getElem_idxOf (List.idxOf_lt_length_of_mem h);by_cases hm:o∈inN v
   ·have h2:=List.getElem_idxOf (List.idxOf_lt_length_of_mem hm);simp only [←e] at h2;exact ho (h2.symm.trans h1)
   ·rw [List.idxOf_eq_length hm] at e;have:=List.idxOf_lt_length_of_mem h;omega
  rw [List.getElem?_set_ne hne]
 ·simp only [if_neg h];refine ⟨by simp [ho],?_⟩;by_cases hm:o∈inN v
  ·have hi:=List.idxOf_lt_length_of_mem hm;rw [qfd [nm] hm,List.getElem?_append_left (by omega)]
  ·have hb:(nm==o)=false:=by simpa using fun e=>ho e.symm
   rw [qck [nm] hm,List.idxOf_eq_length hm,List.idxOf_cons,hb];rw [List.getElem?_eq_none (by simp;omega),List.getElem?_eq_none (by omega)]
end Tr
namespace Pa
open Go.Proofs Go.RowKit Utf Sc Re Tr Po
open Em (bC cD szU cC wfV wfL qcu qbo)
def qe6 (v:V) (p:List UInt8):Option V:=if p∈inN v then some (bQ v p) else none
def qmw:List (List UInt8)→V→Option V
 | [],v=>some v
 | p::r,v=>(qe6 v p).bind (qmw r)
def okP:List (List UInt8)→V→Prop
 | [],_=>False
 | [_],v=>v.k=6
 | p::q::r,v=>v.k=6∧p∈inN v∧okP (q::r) (bQ v p)
def qhV:List (List UInt8)→V→V→V
 | [],_,v=>v
 | [p],x,v=>if x.k=1 then mpV (woN v p,woM v p) else mpV (qbD v p,qbJ v p x)
 | p::q::r,x,v=>mpV (qbD v p,qbJ v p (qhV (q::r) x (bQ v p)))
def qmD (v:V) (m:List (List UInt8)×V):V:=if (qmw m.1 v).isSome=true∨m.2.k≠1 then qhV m.1 m.2 v else v
theorem qm8 {v:V} {p:List UInt8} (h:p∈inN v):v.k=6:=by
 unfold inN at h;split at h
 ·assumption
 ·cases h
theorem qes {v:V} (h:bC v):(inN v).length=(inM v).length:=by
 cases v;rw [bC] at h;unfold inN inM;split
 ·exact h.1
 ·rfl
theorem qhR {v:V} (hl:bC v) (p o:List UInt8) (x:V):qe6 (mpV (qbD v p,qbJ v p x)) o=if o=p then some x else qe6 v o:=by
 unfold qe6;by_cases e:o=p
 ·subst e;obtain ⟨h1,h2⟩:=qh7 v x o (qes hl);rw [if_pos h1,if_pos rfl,h2]
 ·obtain ⟨h1,h2⟩:=qgx v x p o (qes hl) e;rw [if_neg e,h2];by_cases h:o∈inN v
  ·rw [if_pos (h1.2 h),if_pos h]
  ·rw [if_neg (fun k=>h (h1.1 k)),if_neg h]
theorem qmH:∀ {ps:List (List UInt8)} {x v:V},v.k=6→(qhV ps x v).k=6
 | [],_,_,h=>h
 | [_],x,v,_=>by rw [qhV];split <;> rfl
 | _::_::_,_,_,_=>rfl
theorem qaw {v:V}:∀ {l:List V},cD l→v∈l→bC v
 | [],_,h=>by cases h
 | a::r,h,hv=>by
  rw [cD] at h;rcases List.mem_cons.1 hv with rfl | hv
  ·exact h.1
  ·exact qaw h.2 hv
theorem qkj {v:V} (hl:bC v) {p:List UInt8} (h:p∈inN v):bQ v p∈v.ms:=by
 have h1:=List.idxOf_lt_length_of_mem h;rw [qes hl] at h1;rw [qek h1 rfl];exact qkL (List.getElem_mem h1)
theorem qja {v:V} (hl:bC v) {p:List UInt8} (h:p∈inN v):bC (bQ v p):=by
 refine qaw (l:=v.ms) ?_ (qkj hl h);cases v;rw [bC] at hl;exact hl.2.2
theorem qkI {v:V} {p:List UInt8} (h:p∈inN v):qe6 v p=some (bQ v p):=if_pos h
theorem qju {v y:V} {p:List UInt8} (h:qe6 v p=some y):p∈inN v∧bQ v p=y:=by
 unfold qe6 at h;split at h
 ·rename_i hm;injection h with h;exact ⟨hm,h⟩
 ·cases h
theorem qi5 {p:List UInt8} {q:List (List UInt8)} {v:V} (hq:q≠[]):okP (p::q) v↔∃ y,qe6 v p=some y∧okP q y:=by
 cases q with
 | nil=>exact absurd rfl hq
 | cons a r=>
  constructor
  ·intro h;exact ⟨_,qkI h.2.1,h.2.2⟩
  ·rintro ⟨y,h1,h2⟩;obtain ⟨h3,rfl⟩:=qju h1;exact ⟨qm8 h3,h3,h2⟩
theorem qg7:∀ {ps:List (List UInt8)} {x v:V},okP ps v→bC v→okP ps (qhV ps x v)
 | [],_,_,h,_=>h.elim
 | [p],x,v,h,_=>qmH h
 | p::q::r,x,v,h,hv=>by
  rw [qi5 (by simp)];exact ⟨_,by rw [qhV,qhR hv,if_pos rfl],qg7 h.2.2 (qja hv h.2.1)⟩
theorem qcb {m:List (List UInt8)×V} {v:V} (h:okP m.1 v) (hv:bC v):okP m.1 (qmD v m):=by
 unfold qmD;split
 ·exact qg7 h hv
 ·exact h
theorem qbF {v:V}:∀ {l:List V},v∈l→szU v≤cC l
 | [],h=>by cases h
 | a::r,h=>by
  rw [cC];rcases List.mem_cons.1 h with rfl | h
  ·omega
  ·have:=qbF h;omega
end Pa
namespace Pa
open Go.Proofs Go.RowKit Go.Lib Utf Sc Re Tr
open Em (bC cD)
abbrev M3:=M6×V×List Nat
def tN (T:List M3):List (List UInt8):=T.map fun t=>t.1.nm
end Pa
namespace Pa
open Go.Proofs Go.RowKit Utf Sc Re Tr Po
open Em (bC cD szU cC wfV wfL qcu qbo)
inductive D:Type
 | mk (k n:Int) (s:List UInt8) (l:List D) (f:List UInt8→Option D):D
end Pa
namespace Tr
open Go.Proofs Go.RowKit Go.Lib Utf Sc Re
def bZ (wr:World) (b:Nat) (rows:List (List Value)):Prop:=
 ∃ A c,wr.heap[b]? = some (.cells #[.int .i64 6,.int .i64 0,.string ⟨#[]⟩,.slice none 0 0,.slice A rows.length c] 25 (0,0))∧wr.ownsRow (b+1) 37 6 (.slice A rows.length c) rows.length rows.flatten
theorem bZ.far {wr:World} {b:Nat} {rows:List (List Value)} {A:Option Addr} {c:Nat} (hb:wr.heap[b]? = some (.cells #[.int .i64 6,.int .i64 0,.string ⟨#[]⟩,.slice none 0 0,.slice A rows.length c] 25 (0,0)))
  (ho:wr.ownsRow (b+1) 37 6 (.slice A rows.length c) rows.length rows.flatten):(Value.slice A rows.length c).ownBlock≠some b:=by
 intro e;rcases ho.2 with ⟨e2,_⟩ | ⟨g,cap,cur,e2,_,hg,_⟩
 ·rw [e2] at e;cases e
 ·rw [e2] at e;have e3:g=b:=by simpa [Value.ownBlock] using e
  subst e3;rw [hb] at hg;simp at hg
theorem bZ.push {w1:World} {b g cap:Nat} {rows:List (List Value)} {row:List Value} {s:Value} (hb:w1.heap[b]? = some (.cells #[.int .i64 6,.int .i64 0,.string ⟨#[]⟩,.slice none 0 0,s] 25 (0,0)))
  (ho:w1.ownsRow (b+1) 37 6 (.slice (some ⟨g,0,none⟩) (rows.length+1) cap) (rows.length+1) (rows.flatten++row)):bZ (w1.setCell ⟨b,4,none⟩ (.slice (some ⟨g,0,none⟩) (rows.length+1) cap)) b (rows++[row]):=by
 refine ⟨some ⟨g,0,none⟩,cap,?_,?_⟩
 ·have:=qah w1 b 4 _ _ (.slice (some ⟨g,0,none⟩) (rows.length+1) cap) hb;rw [List.length_append];exact this
 ·have:=dl ho hb (by decide) ⟨b,4,none⟩ rfl (.slice (some ⟨g,0,none⟩) (rows.length+1) cap);rw [List.length_append,List.flatten_append,List.flatten_singleton];exact this
theorem bZ.same {wr w':World} {b:Nat} {rows:List (List Value)} (h:bZ wr b rows) (hb:Below wr.heap.size wr w'):bZ w' b rows:=by
 obtain ⟨A,c,h1,h2⟩:=h;exact ⟨A,c,(hb.block b (Array.getElem?_eq_some_iff.1 h1).1).trans h1,aH h2 hb⟩
theorem qbG {Wb wp w1:World} {b N g cap c:Nat} {A:Option Addr} {rows:List (List Value)} {row:List Value} (hN:rows.length=N) (hrow:wp.heap[b]? = some (.cells #[.int .i64 6,.int .i64 0,.string ⟨#[]⟩,.slice none 0 0,.slice A N c] 25 (0,0)))
  (ho:wp.ownsRow (b+1) 37 6 (.slice A N c) N rows.flatten) (hb:Below b Wb wp) (hg:wp.grownBy w1 (Value.slice A N c).ownBlock) (how:w1.ownsRow (b+1) 37 6 (.slice (some ⟨g,0,none⟩) (N+1) cap) (N+1) (rows.flatten++row)) :
  w1.heap[b]? = some (.cells #[.int .i64 6,.int .i64 0,.string ⟨#[]⟩,.slice none 0 0,.slice A N c] 25 (0,0))∧bZ (w1.setCell ⟨b,4,none⟩ (.slice (some ⟨g,0,none⟩) (N+1) cap)) b (rows++[row])∧Below b Wb (w1.setCell ⟨b,4,none⟩ (.slice (some ⟨g,0,none⟩) (N+1) cap)):=by
 subst hN;have hlt:=(Array.getElem?_eq_some_iff.1 hrow).1;have hne:=bZ.far hrow ho;have h1:=(hg.block b hlt (fun e=>hne e.symm)).trans hrow;exact ⟨h1,bZ.push h1 how,(hb.grown hg (by omega) (fun q hq=>by have:=(ho.lt q hq).1;omega)).setCell (p:=⟨b,4,none⟩) (Nat.le_refl _) _⟩
