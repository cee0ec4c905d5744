/- Merged: EmO. -/
import Derived.Test.YtofelafamfckiaaGreatDoorTt15
import Derived.Test.YtofelafamfckiaaGreatDoorTt0
import Derived.WalkArith
namespace Go.Proofs.YtofelafamfckiaaGreatDoor
namespace Em
open Go.RowKit Go.ChangeShapes Go.WideShapes Go.Deep Utf Sc Re
mutual
theorem qbk {w:World} {lo hi:Nat}:∀ (v:V) (cs:List Value),RdA w lo hi v cs→aZ v
 | .mk k n s l ns ms,cs,h=>by
  rw [RdA] at h;obtain ⟨A,c,A2,c2,_,hn,h1,h2⟩:=h;rw [aZ];refine ⟨hn,?_,?_⟩
  ·by_cases h0:0<l.length
   ·obtain ⟨g,o,_,_,_,hr⟩:=h1 h0;exact qbz l g o hr
   ·have e:l=[]:=List.eq_nil_of_length_eq_zero (by omega);rw [e,bo];trivial
  ·by_cases h0:0<ms.length
   ·obtain ⟨g,o,_,_,_,hr⟩:=h2 h0;exact qbq ms ns g o hr
   ·have e:ms=[]:=List.eq_nil_of_length_eq_zero (by omega);rw [e,bo];trivial
theorem qbz {w:World} {lo hi:Nat}:∀ (l:List V) (g o:Nat),be w lo hi g o l→bo l
 | [],_,_,_=>by rw [bo];trivial
 | v::r,g,o,h=>by
  rw [be] at h;obtain ⟨⟨cs,_,hv⟩,hr⟩:=h;rw [bo];exact ⟨qbk v cs hv,qbz r g _ hr⟩
theorem qbq {w:World} {lo hi:Nat}:∀ (l:List V) (ns:List (List UInt8)) (g o:Nat),aR w lo hi g o ns l→bo l
 | [],_,_,_,_=>by rw [bo];trivial
 | v::r,ns,g,o,h=>by
  rw [aR] at h;obtain ⟨nm,ns',_,_,⟨cs,_,hv⟩,hr⟩:=h;rw [bo];exact ⟨qbk v cs hv,qbq r ns' g _ hr⟩
end
mutual
/-- its numbers are numbers -/
def wfV:V→Prop
 | .mk k n _ l _ ms=>(Lit.int .i64 k).wf=true∧(Lit.int .i64 n).wf=true∧wfL l∧wfL ms
def wfL:List V→Prop
 | []=>True
 | v::r=>wfV v∧wfL r
end
theorem qb8:∀ l:List V,l.length≤bc l
 | []=>by simp
 | v::r=>by
  have h1:=qb8 r;have h2:1≤szU v:=by cases v;rw [szU];omega
  rw [bc,List.length_cons];omega
theorem qji {x:List UInt8}:∀ {ns:List (List UInt8)},x∈ns→1+x.length≤(ns.map fun x=>1+x.length).sum:=by
 intro ns;induction ns with
 | nil=>intro h;cases h
 | cons a r ih=>
  intro h;rw [List.map_cons,List.sum_cons];rcases List.mem_cons.1 h with rfl | h
  ·omega
  ·have:=ih h;omega
mutual
/-- how large it is in one way, and in the other -/
theorem co (B:Nat):∀ v:V,wfV v→96*szU v≤B→szA B v
 | .mk k n s l ns ms,h,hz=>by
  rw [wfV] at h;rw [szU] at hz;rw [szA];have a:=qb8 l;have b:=qb8 ms;exact ⟨h.1,h.2.1,by omega,by omega,by omega,fun nm hn=>by have:=qji hn;omega,qcJ B l h.2.2.1 (by omega),qcJ B ms h.2.2.2 (by omega)⟩
theorem qcJ (B:Nat):∀ l:List V,wfL l→96*bc l≤B→qbm B l
 | [],_,_=>by rw [qbm];trivial
 | v::r,h,hz=>by
  rw [wfL] at h;rw [bc] at hz;rw [qbm];exact ⟨co B v h.1 (by omega),qcJ B r h.2 (by omega)⟩
end
theorem qeM {B C:Nat} (h:B≤C):∀ v:V,szA B v→szA C v:=by
 intro v;exact V.rec (motive_1:=fun v=>szA B v→szA C v) (motive_2:=fun l=>qbm B l→qbm C l)
  (fun k n s l ns ms h1 h2 hz=>by
   rw [szA] at hz ⊢;exact ⟨hz.1,hz.2.1,by omega,by omega,by omega,fun nm hn=>by have:=hz.2.2.2.2.2.1 nm hn;omega,h1 hz.2.2.2.2.2.2.1,h2 hz.2.2.2.2.2.2.2⟩)
  (fun _=>by rw [qbm];trivial)
  (fun v r h1 h2 hz=>by rw [qbm] at hz ⊢;exact ⟨h1 hz.1,h2 hz.2⟩) v
section
variable {H:Type} {enc:TypeId×Value→H} {w:World} {base:Nat} {sp:Nat→Bool} {hd:Bool}
theorem qeG {lo hi g:Nat}:∀ (ds:List (DataW H)) (o:Nat),(∀ i (h:i<ds.length),∃ v cs,(∀ j u,cs[j]? = some u→w.cell? ⟨g,o+i*5+j,none⟩=some u)∧RdA w lo hi v cs∧szU v≤Rows.uptoBulk ds[i]∧wfV v)→
  ∃ l:List V,l.length=ds.length∧be w lo hi g o l∧bc l≤Rows.uptoBulkAll ds∧wfL l:=by
 intro ds;induction ds with
 | nil=>intro o _;exact ⟨[],rfl,by rw [be];trivial,by rw [bc];omega,by rw [wfL];trivial⟩
 | cons d ds ih=>
  intro o h;obtain ⟨v,cs,h1,h2,h3,h4⟩:=h 0 (by simp);obtain ⟨l,hl,hr,hq,hw⟩:=ih (o+5) (fun i hi=>by
   obtain ⟨v,cs,h1,h2,h3,h4⟩:=h (i+1) (by simp;omega);exact ⟨v,cs,fun j u hu=>by rw [show o+5+i*5+j=o+(i+1)*5+j by omega];exact h1 j u hu,h2,by simpa using h3,h4⟩)
  refine ⟨v::l,by simp [hl],?_,?_,by rw [wfL];exact ⟨h4,hw⟩⟩
  ·rw [be];exact ⟨⟨cs,fun j u hu=>by have:=h1 j u hu;rwa [show o+0*5+j=o+j by omega] at this,h2⟩,hr⟩
  ·have h3':szU v≤Rows.uptoBulk d:=h3;rw [bc,Rows.uptoBulkAll];omega
theorem qez {lo hi g:Nat}:∀ (ds:List (DataW H)) (o:Nat),(∀ i (h:i<ds.length),∃ nm v cs,w.cell? ⟨g,o+i*6,none⟩=some (.string (ae nm))∧(∀ j u,cs[j]? = some u→w.cell? ⟨g,o+i*6+1+j,none⟩=some u)∧RdA w lo hi v cs∧1+nm.length+szU v≤Rows.uptoBulk ds[i]∧wfV v)→
  ∃ (ns:List (List UInt8)) (l:List V),ns.length=ds.length∧l.length=ds.length∧aR w lo hi g o ns l∧(ns.map fun x=>1+x.length).sum+bc l≤Rows.uptoBulkAll ds∧wfL l:=by
 intro ds;induction ds with
 | nil=>intro o _;exact ⟨[],[],rfl,rfl,by rw [aR];trivial,by rw [bc];simp,by rw [wfL];trivial⟩
 | cons d ds ih=>
  intro o h;obtain ⟨nm,v,cs,h0,h1,h2,h3,h4⟩:=h 0 (by simp);obtain ⟨ns,l,hn,hl,hr,hq,hw⟩:=ih (o+6) (fun i hi=>by
   obtain ⟨nm,v,cs,h0,h1,h2,h3,h4⟩:=h (i+1) (by simp;omega);exact ⟨nm,v,cs,by rw [show o+6+i*6=o+(i+1)*6 by omega];exact h0,fun j u hu=>by rw [show o+6+i*6+1+j=o+(i+1)*6+1+j by omega];exact h1 j u hu,h2,by simpa using h3,h4⟩)
  refine ⟨nm::ns,v::l,by simp [hn],by simp [hl],?_,?_,by rw [wfL];exact ⟨h4,hw⟩⟩
  ·rw [aR];refine ⟨nm,ns,rfl,by have:=h0;rwa [show o+0*6=o by omega] at this,⟨cs,fun j u hu=>by have:=h1 j u hu;rwa [show o+0*6+1+j=o+1+j by omega] at this,h2⟩,hr⟩
  ·have h3':1+nm.length+szU v≤Rows.uptoBulk d:=h3;rw [bc,Rows.uptoBulkAll,List.map_cons,List.sum_cons];omega
theorem qlB:∀ (fuel:Nat) (cs:List Value) (x:DataW H×List MemPlace),DataW.trod enc Tryz.prog w base sp hd fuel 25 cs=some x→
  ∃ v,RdA w base w.heap.size v cs∧szU v≤Rows.uptoBulk x.1∧wfV v:=by
 intro fuel;induction fuel using Nat.strongRecOn with
 | ind fuel ih=>
  intro cs x h;obtain ⟨k,n,s,vl,vm,yl,ym,m,rfl,rfl,hx,wk,wn,hl,hm⟩:=qiF h;have spot:∀ (a:Addr) (u:Value),w.cell? a=some u→∃ g o,a=⟨g,o,none⟩∧g<w.heap.size:=fun a u hu=>by
   obtain ⟨g,o,q⟩:=a;obtain rfl:q=none:=World.cell?_spot hu;exact ⟨g,o,rfl,qf4 hu⟩
  have L:∃ (A:Option Addr) (c:Nat) (l:List V),vl = .slice A l.length (l.length+c)∧bc l≤Rows.uptoBulk yl.1∧wfL l∧(0<l.length→∃ g o,A=some ⟨g,o,none⟩∧base≤g∧g<w.heap.size∧be w base w.heap.size g o l):=by
   rcases DataW.trod_slice Tryz.underlying22 hl with ⟨e,_⟩ | ⟨a,len,cap,elems,rest,m2,hm2,e,ey,hb,hlc,hmx,hlen,hel,_,_⟩
   ·simp only [List.cons.injEq,and_true] at e;exact ⟨none,0,[],e,by rw [bc];omega,by rw [wfL];trivial,fun h=>by simp at h⟩
   ·simp only [List.cons.injEq,and_true] at e;rw [qcN] at hel;have each:∀ i (hi:i<len) (hi2:i<elems.length),∃ v cs,(∀ j,j<5→w.cell? ((a.add (i*5)).add j)=cs[j]?)∧cs.length=5∧RdA w base w.heap.size v cs∧szU v≤Rows.uptoBulk elems[i].1∧wfV v:=fun i hi hi2=>by
     have k1:=hel i hi;rw [List.getElem?_eq_getElem hi2] at k1;obtain ⟨cs,c1,c2⟩:=Option.bind_eq_some_iff.1 k1;obtain ⟨_,c3,c4⟩:=World.cells?_some c1;obtain ⟨v,hv,hz⟩:=ih m2 (by omega) cs _ c2;exact ⟨v,cs,c4,c3,hv,hz⟩
    by_cases h0:len=0
    ·subst h0;exact ⟨some a,cap,[],by simpa using e,by rw [bc];omega,by rw [wfL];trivial,fun h=>by simp at h⟩
    ·obtain ⟨v0,cs0,c0,c1,_,_⟩:=each 0 (by omega) (by omega);have c2:=c0 0 (by omega);rw [List.getElem?_eq_getElem (by omega),Go.Deep.add_add] at c2;obtain ⟨g,o,hgo,hgs⟩:=spot _ _ c2;obtain ⟨ga,oa,qa⟩:=a;have hq:qa=none∧ga=g:=by unfold Addr.add at hgo;simp at hgo;exact ⟨hgo.2.2,hgo.1⟩
     obtain ⟨rfl,rfl⟩:=hq;obtain ⟨l,hll,hr,hq,hw⟩:=qeG (w:=w) (lo:=base) (hi:=w.heap.size) (g:=ga) (elems.map (·.1)) oa (fun i hi=>by
      have hi2:i<elems.length:=by simpa using hi
      obtain ⟨v,cs,d1,d2,d3,d4⟩:=each i (by omega) hi2;refine ⟨v,cs,fun j u hu=>?_,d3,by simpa using d4⟩;have hj:j<5:=by have:=(List.getElem?_eq_some_iff.1 hu).1;omega
      have:=d1 j hj;rw [add_plain,add_plain,hu] at this;exact this)
     have hll2:l.length=len:=by rw [hll,List.length_map];omega
     refine ⟨some ⟨ga,oa,none⟩,cap-len,l,by rw [hll2,Nat.add_sub_of_le hlc];exact e,?_,hw,fun _=>⟨ga,oa,rfl,hb,hgs,hr⟩⟩;rw [ey,Rows.uptoBulk];omega
  have M:∃ (A:Option Addr) (c:Nat) (ns:List (List UInt8)) (l:List V),vm = .slice A l.length (l.length+c)∧ns.length=l.length∧(ns.map fun x=>1+x.length).sum+bc l≤Rows.uptoBulk ym.1∧wfL l∧(0<l.length→∃ g o,A=some ⟨g,o,none⟩∧base≤g∧g<w.heap.size∧aR w base w.heap.size g o ns l):=by
   rcases DataW.trod_slice Tryz.underlying23 hm with ⟨e,_⟩ | ⟨a,len,cap,elems,rest,m2,hm2,e,ey,hb,hlc,hmx,hlen,hel,_,_⟩
   ·simp only [List.cons.injEq,and_true] at e;exact ⟨none,0,[],[],e,rfl,by rw [bc];simp,by rw [wfL];trivial,fun h=>by simp at h⟩
   ·simp only [List.cons.injEq,and_true] at e;rw [qiC] at hel;have each:∀ i (hi:i<len) (hi2:i<elems.length),∃ nm v cs,(∀ j,j<6→w.cell? ((a.add (i*6)).add j)=(.string (ae nm)::cs)[j]?)∧cs.length=5∧RdA w base w.heap.size v cs∧1+nm.length+szU v≤Rows.uptoBulk elems[i].1∧wfV v:=fun i hi hi2=>by
     have k1:=hel i hi;rw [List.getElem?_eq_getElem hi2] at k1;obtain ⟨cs,c1,c2⟩:=Option.bind_eq_some_iff.1 k1;obtain ⟨_,c3,c4⟩:=World.cells?_some c1;obtain ⟨y0,y1,m3,hm3,hye,t0,t1⟩:=qhO c2;cases cs with
     | nil=>simp at c3
     | cons x0 cs=>
      rw [List.drop_zero,show (x0::cs).take 1=[x0] from rfl] at t0;rw [show (x0::cs).drop 1=cs from rfl] at t1;obtain ⟨s,e0,hy0,_⟩:=DataW.trod_string Tryz.underlying9 t0;simp only [List.cons.injEq,and_true] at e0;subst e0;have c5:cs.length=5:=by simpa using c3
      have ht:cs.take 5=cs:=List.take_of_length_le (by omega);obtain ⟨v,hv,hz,hwf⟩:=ih m3 (by omega) cs _ (by rw [←ht];exact t1);refine ⟨s.data.toList,v,cs,by rw [show ae s.data.toList=s from qcd s];exact c4,c5,hv,?_,hwf⟩;rw [hye,hy0];simp only [Rows.uptoBulk,Rows.uptoBulkAll];omega
    by_cases h0:len=0
    ·subst h0;exact ⟨some a,cap,[],[],by simpa using e,rfl,by rw [bc];simp,by rw [wfL];trivial,fun h=>by simp at h⟩
    ·obtain ⟨nm0,v0,cs0,c0,c1,_,_⟩:=each 0 (by omega) (by omega);have c2:=c0 0 (by omega);rw [Go.Deep.add_add] at c2;obtain ⟨g,o,hgo,hgs⟩:=spot _ _ c2;obtain ⟨ga,oa,qa⟩:=a;have hq:qa=none∧ga=g:=by unfold Addr.add at hgo;simp at hgo;exact ⟨hgo.2.2,hgo.1⟩
     obtain ⟨rfl,rfl⟩:=hq;obtain ⟨ns,l,hnn,hll,hr,hq,hw⟩:=qez (w:=w) (lo:=base) (hi:=w.heap.size) (g:=ga) (elems.map (·.1)) oa (fun i hi=>by
      have hi2:i<elems.length:=by simpa using hi
      obtain ⟨nm,v,cs,d1,d2,d3,d4,d5⟩:=each i (by omega) hi2;refine ⟨nm,v,cs,?_,fun j u hu=>?_,d3,by simpa using d4,d5⟩
      ·have:=d1 0 (by omega);rw [add_plain,add_plain] at this;exact this
      ·have hj:j<5:=by have:=(List.getElem?_eq_some_iff.1 hu).1;omega
       have:=d1 (j+1) (by omega);rw [add_plain,add_plain,List.getElem?_cons_succ,hu] at this;rw [show oa+i*6+1+j=oa+i*6+(j+1) by omega];exact this)
     have hll2:l.length=len:=by rw [hll,List.length_map];omega
     refine ⟨some ⟨ga,oa,none⟩,cap-len,ns,l,by rw [hll2,Nat.add_sub_of_le hlc];exact e,by omega,?_,hw,fun _=>⟨ga,oa,rfl,hb,hgs,hr⟩⟩;rw [ey,Rows.uptoBulk];omega
  obtain ⟨A,c,l,rfl,l1,l2,l3⟩:=L;obtain ⟨A2,c2,ns,ms,rfl,m0,m1,m2,m3⟩:=M;refine ⟨.mk k n s.data.toList l ns ms,?_,?_,?_⟩
  ·rw [RdA];exact ⟨A,c,A2,c2,by rw [show ae s.data.toList=s from qcd s],m0,l3,m3⟩
  ·rw [szU,hx];simp only [Rows.uptoBulk,Rows.uptoBulkAll];omega
  ·rw [wfV];exact ⟨wk,wn,l2,m2⟩
end
