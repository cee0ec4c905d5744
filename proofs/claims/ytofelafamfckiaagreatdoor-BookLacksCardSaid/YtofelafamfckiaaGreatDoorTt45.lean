/- Merged: TsK PaPl PaT PaPl2 BkAw0. -/
import Derived.Test.YtofelafamfckiaaGreatDoorTt40
import Derived.Test.YtofelafamfckiaaGreatDoorTt43
import Derived.Test.YtofelafamfckiaaGreatDoorTt32
namespace Go.Proofs.YtofelafamfckiaaGreatDoor
namespace Tr
open Go.Proofs Go.RowKit Go.Lib Utf Sc Re
theorem qeP {ns:List (List UInt8)} {nm:List UInt8} (r:List (List UInt8)) (h:nm∈ns):(ns++r).idxOf nm=ns.idxOf nm:=by
 induction ns with
 | nil=>cases h
 | cons a t ih=>
  rw [List.cons_append,List.idxOf_cons,List.idxOf_cons];by_cases e:a=nm
  ·simp [e]
  ·have hb:(a==nm)=false:=by simpa using e
   rcases List.mem_cons.1 h with k | k
   ·exact absurd k.symm e
   ·rw [hb,cond_false,cond_false,ih k]
theorem qcg {ns:List (List UInt8)} {nm:List UInt8} (r:List (List UInt8)) (h:nm∉ns):(ns++r).idxOf nm=ns.length+r.idxOf nm:=by
 induction ns with
 | nil=>simp
 | cons a t ih=>
  have e:a≠nm:=fun e=>h (by rw [e];simp);have hb:(a==nm)=false:=by simpa using e
  rw [List.cons_append,List.idxOf_cons,hb,cond_false,ih (fun k=>h (by simp [k]))];simp;omega
theorem qjl (x:List (List UInt8)×List V):inN (mpV x)=x.1:=rfl
theorem qiq (x:List (List UInt8)×List V):inM (mpV x)=x.2:=rfl
theorem qf2 (v:V) (nm:List UInt8):bV v nm=(inM v)[(inN v).idxOf nm]?.getD V0:=by
 unfold bV;rw [List.getD_eq_getElem?_getD]
theorem qhN (v x:V) (nm:List UInt8) (hl:(inN v).length=(inM v).length):nm∈inN (mpV (qbM v nm,qbH v nm x))∧bV (mpV (qbM v nm,qbH v nm x)) nm=x:=by
 rw [qf2,qjl,qiq];unfold qbM qbH;by_cases h:nm∈inN v
 ·simp only [if_pos h];refine ⟨h,?_⟩;have hi:=List.idxOf_lt_length_of_mem h;rw [List.getElem?_set_self (by omega)];rfl
 ·simp only [if_neg h];refine ⟨by simp,?_⟩;rw [qcg [nm] h,hl];simp
theorem qfW (v x:V) (nm o:List UInt8) (hl:(inN v).length=(inM v).length) (ho:o≠nm):(o∈inN (mpV (qbM v nm,qbH v nm x))↔o∈inN v)∧bV (mpV (qbM v nm,qbH v nm x)) o=bV v o:=by
 rw [qf2,qf2,qjl,qiq];unfold qbM qbH;by_cases h:nm∈inN v
 ·simp only [if_pos h];refine ⟨trivial,?_⟩;have hne:(inN v).idxOf nm≠(inN v).idxOf o:=fun e=>by
   have h1:=List.getElem_idxOf (List.idxOf_lt_length_of_mem h);by_cases hm:o∈inN v
   ·have h2:=List.getElem_idxOf (List.idxOf_lt_length_of_mem hm);simp only [←e] at h2;exact ho (h2.symm.trans h1)
   ·rw [List.idxOf_eq_length hm] at e;have:=List.idxOf_lt_length_of_mem h;omega
  rw [List.getElem?_set_ne hne]
 ·simp only [if_neg h];refine ⟨by simp [ho],?_⟩;by_cases hm:o∈inN v
  ·have hi:=List.idxOf_lt_length_of_mem hm;rw [qeP [nm] hm,List.getElem?_append_left (by omega)]
  ·have hb:(nm==o)=false:=by simpa using fun e=>ho e.symm
   rw [qcg [nm] hm,List.idxOf_eq_length hm,List.idxOf_cons,hb];rw [List.getElem?_eq_none (by simp;omega),List.getElem?_eq_none (by omega)]
end Tr
namespace Pa
open Go.Proofs Go.RowKit Utf Sc Re Tr Po
open Em (bu cA szU cz wfV wfL qci qbn)
def qfr (v:V) (p:List UInt8):Option V:=if p∈inN v then some (bV v p) else none
def qmQ:List (List UInt8)→V→Option V
 | [],v=>some v
 | p::r,v=>(qfr v p).bind (qmQ r)
def okP:List (List UInt8)→V→Prop
 | [],_=>False
 | [_],v=>v.k=6
 | p::q::r,v=>v.k=6∧p∈inN v∧okP (q::r) (bV v p)
def qhU:List (List UInt8)→V→V→V
 | [],_,v=>v
 | [p],x,v=>if x.k=1 then mpV (woN v p,woM v p) else mpV (qbM v p,qbH v p x)
 | p::q::r,x,v=>mpV (qbM v p,qbH v p (qhU (q::r) x (bV v p)))
def qmH (v:V) (m:List (List UInt8)×V):V:=if (qmQ m.1 v).isSome=true∨m.2.k≠1 then qhU m.1 m.2 v else v
theorem qmm {v:V} {p:List UInt8} (h:p∈inN v):v.k=6:=by
 unfold inN at h;split at h
 ·assumption
 ·cases h
theorem qeK {v:V} (h:bu v):(inN v).length=(inM v).length:=by
 cases v;rw [bu] at h;unfold inN inM;split
 ·exact h.1
 ·rfl
theorem qhd {v:V} (hl:bu v) (p o:List UInt8) (x:V):qfr (mpV (qbM v p,qbH v p x)) o=if o=p then some x else qfr v o:=by
 unfold qfr;by_cases e:o=p
 ·subst e;obtain ⟨h1,h2⟩:=qhN v x o (qeK hl);rw [if_pos h1,if_pos rfl,h2]
 ·obtain ⟨h1,h2⟩:=qfW v x p o (qeK hl) e;rw [if_neg e,h2];by_cases h:o∈inN v
  ·rw [if_pos (h1.2 h),if_pos h]
  ·rw [if_neg (fun k=>h (h1.1 k)),if_neg h]
theorem qmj:∀ {ps:List (List UInt8)} {x v:V},v.k=6→(qhU ps x v).k=6
 | [],_,_,h=>h
 | [_],x,v,_=>by rw [qhU];split <;> rfl
 | _::_::_,_,_,_=>rfl
theorem qaA {v:V}:∀ {l:List V},cA l→v∈l→bu v
 | [],_,h=>by cases h
 | a::r,h,hv=>by
  rw [cA] at h;rcases List.mem_cons.1 hv with rfl | hv
  ·exact h.1
  ·exact qaA h.2 hv
theorem qkw {v:V} (hl:bu v) {p:List UInt8} (h:p∈inN v):bV v p∈v.ms:=by
 have h1:=List.idxOf_lt_length_of_mem h;rw [qeK hl] at h1;rw [qd2 h1 rfl];exact qkd (List.getElem_mem h1)
theorem qiy {v:V} (hl:bu v) {p:List UInt8} (h:p∈inN v):bu (bV v p):=by
 refine qaA (l:=v.ms) ?_ (qkw hl h);cases v;rw [bu] at hl;exact hl.2.2
theorem qkH {v:V} {p:List UInt8} (h:p∈inN v):qfr v p=some (bV v p):=if_pos h
theorem qiJ {v y:V} {p:List UInt8} (h:qfr v p=some y):p∈inN v∧bV v p=y:=by
 unfold qfr at h;split at h
 ·rename_i hm;injection h with h;exact ⟨hm,h⟩
 ·cases h
theorem qjc {p:List UInt8} {q:List (List UInt8)} {v:V} (hq:q≠[]):okP (p::q) v↔∃ y,qfr v p=some y∧okP q y:=by
 cases q with
 | nil=>exact absurd rfl hq
 | cons a r=>
  constructor
  ·intro h;exact ⟨_,qkH h.2.1,h.2.2⟩
  ·rintro ⟨y,h1,h2⟩;obtain ⟨h3,rfl⟩:=qiJ h1;exact ⟨qmm h3,h3,h2⟩
theorem qgV:∀ {ps:List (List UInt8)} {x v:V},okP ps v→bu v→okP ps (qhU ps x v)
 | [],_,_,h,_=>h.elim
 | [p],x,v,h,_=>qmj h
 | p::q::r,x,v,h,hv=>by
  rw [qjc (by simp)];exact ⟨_,by rw [qhU,qhd hv,if_pos rfl],qgV h.2.2 (qiy hv h.2.1)⟩
theorem qbY {m:List (List UInt8)×V} {v:V} (h:okP m.1 v) (hv:bu v):okP m.1 (qmH v m):=by
 unfold qmH;split
 ·exact qgV h hv
 ·exact h
theorem qbz {v:V}:∀ {l:List V},v∈l→szU v≤cz l
 | [],h=>by cases h
 | a::r,h=>by
  rw [cz];rcases List.mem_cons.1 h with rfl | h
  ·omega
  ·have:=qbz h;omega
end Pa
namespace Pa
open Go.Proofs Go.RowKit Go.Lib Utf Sc Re Tr
open Em (bu cA)
abbrev M3:=M6×V×List Nat
def tN (T:List M3):List (List UInt8):=T.map fun t=>t.1.nm
end Pa
namespace Pa
open Go.Proofs Go.RowKit Utf Sc Re Tr Po
open Em (bu cA szU cz wfV wfL qci qbn)
inductive D:Type
 | mk (k n:Int) (s:List UInt8) (l:List D) (f:List UInt8→Option D):D
end Pa
namespace Bk
open Go.Proofs Utf Sc Re Tr Em
open Cd (mem fst qcs)
set_option linter.unusedSimpArgs false
def awV:V:=mpV ([[110,97,109,101]],[txV [97]])
def awW:V:=mpV ([[115,111,114,116,79,114,100,101,114],[120]],[nmV (-1),nmV 1])
theorem qkC:cM [123,34,110,97,109,101,34,58,34,97,34,125] =
 ([(1,0,[123],0),(4,0,[110,97,109,101],1),(1,0,[58],7),(4,0,[97],8),(1,0,[125],11)],0,0):=by decide +kernel
theorem qlm:rdV [123,34,110,97,109,101,34,58,34,97,34,125]=(awV,0,0):=
 qjy qkC (by simp [rdT,cU,pV,pL,pM,tk,isM,qb7,Rs.map,txV,nmV,wdV,lsV,mpV,ci,bW,V0,awV,awW])
theorem qj9:cM [123,34,115,111,114,116,79,114,100,101,114,34,58,45,49,44,34,120,34,58,49,125] =
 ([(1,0,[123],0),(4,0,[115,111,114,116,79,114,100,101,114],1),(1,0,[58],12),(3, -1,[],13),(1,0,[44],15),(4,0,[120],16),(1,0,[58],19),(3,1,[],20),(1,0,[125],21)],0,0):=by decide +kernel
theorem qlW:rdV [123,34,115,111,114,116,79,114,100,101,114,34,58,45,49,44,34,120,34,58,49,125]=(awW,0,0):=
 qjy qj9 (by simp [rdT,cU,pV,pL,pM,tk,isM,qb7,Rs.map,txV,nmV,wdV,lsV,mpV,ci,bW,V0,awV,awW])
theorem qis:∀ n,bL awV n=false:=(cG awV).2 ⟨rfl,(fun m hm=>List.all_eq_true.1 (show ((mem awV).all fun m=>bf m.1 m.2)=true by decide +kernel) m hm),(by decide +kernel)⟩
theorem qie {v:V} (hk:v.k=6) {n:List UInt8} (h:bL v n=true):n∈v.ns++[ay]:=by
 rw [List.mem_append];rcases (qak hk n).1 h with ⟨m,h1,h2, -⟩ | ⟨rfl, -⟩
 ·exact .inl (h2▸qcs h1)
 ·exact .inr (by simp)
theorem qlZ:(awW.ns++[ay]).all (fun n=>decide (bL awW n=true↔n∈[[110,97,109,101],[115,111,114,116,79,114,100,101,114],[120]]))=true:=by decide +kernel
theorem qkj : [[110,97,109,101],[115,111,114,116,79,114,100,101,114],[120]].all (fun n=>bL awW n)=true:=by decide +kernel
theorem qlU (n:List UInt8):bL awW n=true↔n∈[[110,97,109,101],[115,111,114,116,79,114,100,101,114],[120]]:=by
 constructor
 ·intro h;have:=List.all_eq_true.1 qlZ n (qie rfl h);exact (of_decide_eq_true this).1 h
 ·intro h;exact List.all_eq_true.1 qkj n h
theorem qhl {l r:List (List UInt8)} (hl:l.Pairwise fun a b=>ltN a b=true) (hr:r.Pairwise fun a b=>ltN a b=true) (h:∀ n,n∈l↔n∈r):l=r:=by
 have nd:∀ {q:List (List UInt8)},(q.Pairwise fun a b=>ltN a b=true)→q.Nodup:=fun hq=>hq.imp fun {a b} h e=>by subst e;rw [qcn.irrefl] at h;cases h
 have le:∀ {q:List (List UInt8)},(q.Pairwise fun a b=>ltN a b=true)→q.Pairwise (fun a b=>ltN b a=false):=fun hq=>hq.imp fun {a b} h=>by
  cases hc:ltN b a with
  | false=>rfl
  | true=>
   have:=qcn.trans _ _ _ h hc;rw [qcn.irrefl] at this;cases this
 exact qdO l r ((List.perm_ext_iff_of_nodup (nd hl) (nd hr)).2 h) (le hl) (le hr)
theorem qjH:chk (aL awV)=0:=by decide +kernel
theorem ql4:qkR (aL awV)=[123,34,100,101,115,99,114,105,112,116,105,111,110,34,58,110,117,108,108,44,34,105,115,83,117,98,115,99,114,105,98,101,100,34,58,116,114,117,101,44,34,110,97,109,101,34,58,34,97,34,44,34,115,111,114,116,79,114,100,101,114,34,58,48,125]:=by
 unfold qkR;rw [if_pos qjH]
 decide +kernel
theorem ql2:aL awV=mpV (bM,[qcx,qds,txV [97],qdo]):=by kernel_rfl
theorem qad (v:V) (h:v=awV∨v=awW∨v=aL awV):wfV v∧szU v≤1000∧bu v:=by
 rcases h with rfl | rfl | rfl
 ·refine ⟨?_,?_,?_⟩
  ·simp [awV,mpV,nmV,txV,wfV,wfL];decide
  ·simp [awV,mpV,nmV,txV,szU,cz]
  ·simp [awV,mpV,nmV,txV,bu,cA]
 ·refine ⟨?_,?_,?_⟩
  ·simp [awW,mpV,nmV,txV,wfV,wfL];decide
  ·simp [awW,mpV,nmV,txV,szU,cz]
  ·simp [awW,mpV,nmV,txV,bu,cA]
 ·rw [ql2];refine ⟨?_,?_,?_⟩
  ·simp [bM,qcx,qds,qdo,mpV,nmV,txV,wfV,wfL];decide
  ·simp [bM,be,bN,ay,bP,qcx,qds,qdo,mpV,nmV,txV,szU,cz]
  ·simp [bM,qcx,qds,qdo,mpV,nmV,txV,bu,cA]
