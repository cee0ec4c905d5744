/- Merged: RaOpen. -/
import Derived.Test.YtofelafamfckiaaGreatDoorTt10
import Derived.ChangeArms
set_option maxRecDepth 100000
namespace Go.Proofs.YtofelafamfckiaaGreatDoor
namespace Re
open Go.RowKit Go.ChangeShapes Go.WideShapes Go.Deep Utf Sc
theorem qb7 (s:ByteArray):ae s.data.toList=s:=by cases s;simp [ae]
set_option linter.unusedSimpArgs false
mutual
/-- how large the numbers, texts and slices of a value are: no more than B bytes each -/
def szA (B:Nat):V→Prop
 | .mk k n s l ns ms=>(Lit.int .i64 k).wf=true∧(Lit.int .i64 n).wf=true∧s.length≤B∧l.length*80≤B∧ms.length*96≤B∧(∀ nm∈ns,nm.length≤B)∧aR B l∧aR B ms
def aR (B:Nat):List V→Prop
 | []=>True
 | v::r=>szA B v∧aR B r
end
theorem aU {B:Nat} {v:V}:∀ {l:List V},aR B l→v∈l→szA B v:=by
 intro l;induction l with
 | nil=>intro _ h;cases h
 | cons a r ih=>
  intro h hv;rw [aR] at h;rcases List.mem_cons.1 hv with rfl | hv
  ·exact h.1
  ·exact ih h.2 hv
theorem qgO {B:Nat}:∀ {l:List V},(∀ v∈l,szA B v)→aR B l:=by
 intro l;induction l with
 | nil=>intro _;rw [aR];trivial
 | cons a r ih=>intro h;rw [aR];exact ⟨h a (by simp),ih fun v hv=>h v (by simp [hv])⟩
theorem bL (B:Nat) (v:V):szA B v↔((Lit.int .i64 v.k).wf=true∧(Lit.int .i64 v.n).wf=true∧v.s.length≤B∧v.l.length*80≤B∧v.ms.length*96≤B∧(∀ nm∈v.ns,nm.length≤B)∧aR B v.l∧aR B v.ms):=by
 cases v;rw [szA];rfl
theorem qcx:Tryz.prog.cellsOf 25=5:=by kernel_rfl
theorem qiK:Tryz.prog.cellsOf 37=6:=by kernel_rfl
theorem qin:Tryz.prog.cellsOf 3=1:=by kernel_rfl
theorem qjf:Tryz.prog.cellsOf 2=1:=by kernel_rfl
theorem qeL:Tryz.prog.cellsOf 9=1:=by kernel_rfl
theorem qkQ:Tryz.prog.cellsOf 22=1:=by kernel_rfl
theorem qku:Tryz.prog.cellsOf 23=1:=by kernel_rfl
theorem qjh:Tryz.prog.bytesOf 25=80:=by kernel_rfl
theorem qjn:Tryz.prog.bytesOf 37=96:=by kernel_rfl
section
variable {H:Type} {enc:TypeId×Value→H} {w:World} {base:Nat} {sp:Nat→Bool} {hd:Bool}
theorem qfI {lo hi g:Nat} {Q:V→Prop}:∀ (n o:Nat),(∀ i,i<n→∃ v cs,(∀ j u,cs[j]? = some u→w.cell? ⟨g,o+i*5+j,none⟩=some u)∧RdA w lo hi v cs∧Q v)→
  ∃ l:List V,l.length=n∧aN w lo hi g o l∧∀ v∈l,Q v:=by
 intro n;induction n with
 | zero=>intro o _;exact ⟨[],rfl,by rw [aN];trivial,fun v h=>by cases h⟩
 | succ n ih=>
  intro o h;obtain ⟨v,cs,h1,h2,h3⟩:=h 0 (by omega);obtain ⟨l,hl,hr,hq⟩:=ih (o+5) (fun i hi=>by
   obtain ⟨v,cs,h1,h2,h3⟩:=h (i+1) (by omega);exact ⟨v,cs,fun j u hu=>by rw [show o+5+i*5+j=o+(i+1)*5+j by omega];exact h1 j u hu,h2,h3⟩)
  refine ⟨v::l,by simp [hl],?_,fun x hx=>?_⟩
  ·rw [aN];exact ⟨⟨cs,fun j u hu=>by have:=h1 j u hu;rwa [show o+0*5+j=o+j by omega] at this,h2⟩,hr⟩
  ·rcases List.mem_cons.1 hx with rfl | hx
   ·exact h3
   ·exact hq x hx
theorem qfv {lo hi g:Nat} {Q:V→Prop} {R:List UInt8→Prop}:∀ (n o:Nat),(∀ i,i<n→∃ nm v cs,w.cell? ⟨g,o+i*6,none⟩=some (.string (ae nm))∧(∀ j u,cs[j]? = some u→w.cell? ⟨g,o+i*6+1+j,none⟩=some u)∧RdA w lo hi v cs∧Q v∧R nm)→
  ∃ (ns:List (List UInt8)) (l:List V),ns.length=n∧l.length=n∧aL w lo hi g o ns l∧(∀ v∈l,Q v)∧∀ x∈ns,R x:=by
 intro n;induction n with
 | zero=>intro o _;exact ⟨[],[],rfl,rfl,by rw [aL];trivial,(fun v h=>by cases h),fun v h=>by cases h⟩
 | succ n ih=>
  intro o h;obtain ⟨nm,v,cs,h0,h1,h2,h3,h4⟩:=h 0 (by omega);obtain ⟨ns,l,hn,hl,hr,hq,hrr⟩:=ih (o+6) (fun i hi=>by
   obtain ⟨nm,v,cs,h0,h1,h2,h3,h4⟩:=h (i+1) (by omega);exact ⟨nm,v,cs,by rw [show o+6+i*6=o+(i+1)*6 by omega];exact h0,fun j u hu=>by rw [show o+6+i*6+1+j=o+(i+1)*6+1+j by omega];exact h1 j u hu,h2,h3,h4⟩)
  refine ⟨nm::ns,v::l,by simp [hn],by simp [hl],?_,fun x hx=>?_,fun x hx=>?_⟩
  ·rw [aL];refine ⟨nm,ns,rfl,by have:=h0;rwa [show o+0*6=o by omega] at this,⟨cs,fun j u hu=>by have:=h1 j u hu;rwa [show o+0*6+1+j=o+1+j by omega] at this,h2⟩,hr⟩
  ·rcases List.mem_cons.1 hx with rfl | hx
   ·exact h3
   ·exact hq x hx
  ·rcases List.mem_cons.1 hx with rfl | hx
   ·exact h4
   ·exact hrr x hx
theorem qaB {P:Program} {e:TypeId} {B:Nat}:∀ {ds:List (DataW H)},(DataW.weightsAll P e ds).all (· ≤B)=true→∀ d∈ds,(d.weights P e).all (· ≤B)=true:=by
 intro ds;induction ds with
 | nil=>intro _ d h;cases h
 | cons a r ih=>
  intro h d hd;rw [DataW.weightsAll,List.all_append,Bool.and_eq_true] at h;rcases List.mem_cons.1 hd with rfl | hd
  ·exact h.1
  ·exact ih h.2 d hd
/-- the fields of a value -/
theorem qi1 {fuel:Nat} {cs:List Value} {x:DataW H×List MemPlace} (h:DataW.trod enc Tryz.prog w base sp hd fuel 25 cs=some x) :
  ∃ (k n:Int) (s:ByteArray) (vl vm:Value) (yl ym:DataW H×List MemPlace) (m:Nat),fuel=m+1∧cs=[.int .i64 k,.int .i64 n,.string s,vl,vm]∧x.1 = .agg [.lit (.int .i64 k),.lit (.int .i64 n),.lit (.string s.data.toList),yl.1,ym.1]∧
   (Lit.int .i64 k).wf=true∧(Lit.int .i64 n).wf=true∧DataW.trod enc Tryz.prog w base sp hd m 22 [vl]=some yl∧DataW.trod enc Tryz.prog w base sp hd m 23 [vm]=some ym:=by
 obtain ⟨xs,m,hm,hx,hlen,hxl,hf⟩:=DataW.trod_struct Tryz.underlying25 h;rw [qcx] at hlen
 match xs,hxl,cs,hlen with
 | [y0,y1,y2,y3,y4],_,[c0,c1,c2,c3,c4],_=>
  have g0:DataW.trod enc Tryz.prog w base sp hd m 3 (([c0,c1,c2,c3,c4].drop 0).take (Tryz.prog.cellsOf 3))=some y0:=hf 0 _ rfl;rw [qin] at g0;replace g0:DataW.trod enc Tryz.prog w base sp hd m 3 [c0]=some y0:=g0;have g1:DataW.trod enc Tryz.prog w base sp hd m 2 (([c0,c1,c2,c3,c4].drop 1).take (Tryz.prog.cellsOf 2))=some y1:=hf 1 _ rfl;rw [qjf] at g1;replace g1:DataW.trod enc Tryz.prog w base sp hd m 2 [c1]=some y1:=g1;have g2:DataW.trod enc Tryz.prog w base sp hd m 9 (([c0,c1,c2,c3,c4].drop 2).take (Tryz.prog.cellsOf 9))=some y2:=hf 2 _ rfl;rw [qeL] at g2;replace g2:DataW.trod enc Tryz.prog w base sp hd m 9 [c2]=some y2:=g2;have g3:DataW.trod enc Tryz.prog w base sp hd m 22 (([c0,c1,c2,c3,c4].drop 3).take (Tryz.prog.cellsOf 22))=some y3:=hf 3 _ rfl;rw [qkQ] at g3;replace g3:DataW.trod enc Tryz.prog w base sp hd m 22 [c3]=some y3:=g3;have g4:DataW.trod enc Tryz.prog w base sp hd m 23 (([c0,c1,c2,c3,c4].drop 4).take (Tryz.prog.cellsOf 23))=some y4:=hf 4 _ rfl;rw [qku] at g4;replace g4:DataW.trod enc Tryz.prog w base sp hd m 23 [c4]=some y4:=g4;obtain ⟨k,e0,hy0,w0⟩:=DataW.trod_int Tryz.underlying3 g0;obtain ⟨n,e1,hy1,w1⟩:=DataW.trod_int Tryz.underlying2 g1;obtain ⟨s,e2,hy2,_⟩:=DataW.trod_string Tryz.underlying9 g2;simp only [List.cons.injEq,and_true] at e0 e1 e2;subst e0 e1 e2 hy0 hy1 hy2;exact ⟨k,n,s,c3,c4,y3,y4,m,hm,rfl,by rw [hx];rfl,w0,w1,g3,g4⟩
/-- the fields of a member -/
theorem qim {fuel:Nat} {cs:List Value} {x:DataW H×List MemPlace} (h:DataW.trod enc Tryz.prog w base sp hd fuel 37 cs=some x) :
  ∃ (y0 y1:DataW H×List MemPlace) (m:Nat),fuel=m+1∧x.1 = .agg [y0.1,y1.1]∧DataW.trod enc Tryz.prog w base sp hd m 9 ((cs.drop 0).take 1)=some y0∧DataW.trod enc Tryz.prog w base sp hd m 25 ((cs.drop 1).take 5)=some y1:=by
 obtain ⟨xs,m,hm,hx,hlen,hxl,hf⟩:=DataW.trod_struct Tryz.underlying37 h
 match xs,hxl with
 | [y0,y1],_=>
  have g0:=hf 0 _ rfl;have g1:=hf 1 _ rfl;simp only [qeL,qcx,List.getElem?_cons_zero,List.getElem?_cons_succ] at g0 g1;exact ⟨y0,y1,m,hm,by rw [hx];rfl,g0,g1⟩
theorem qmR {B:Nat}:∀ (fuel:Nat) (cs:List Value) (x:DataW H×List MemPlace),DataW.trod enc Tryz.prog w base sp hd fuel 25 cs=some x→
  (x.1.weights Tryz.prog 25).all (· ≤B)=true→∃ v,RdA w base w.heap.size v cs∧szA B v:=by
 intro fuel;induction fuel using Nat.strongRecOn with
 | ind fuel ih=>
  intro cs x h hw;obtain ⟨k,n,s,vl,vm,yl,ym,m,rfl,rfl,hx,wk,wn,hl,hm⟩:=qi1 h;rw [hx] at hw;simp only [DataW.weights,Tryz.underlying25,DataW.weightsEach,List.map_cons,List.map_nil,List.all_append,List.all_cons,List.all_nil,Bool.and_true,Bool.and_eq_true,decide_eq_true_eq,List.nil_append] at hw;obtain ⟨hws,hwl,hwm⟩:=hw
  -- an address that holds a cell
  have spot:∀ (a:Addr) (u:Value),w.cell? a=some u→∃ g o,a=⟨g,o,none⟩∧g<w.heap.size:=fun a u hu=>by
   obtain ⟨g,o,q⟩:=a;obtain rfl:q=none:=World.cell?_spot hu;exact ⟨g,o,rfl,qgB hu⟩
  have L:∃ (A:Option Addr) (c:Nat) (l:List V),vl = .slice A l.length (l.length+c)∧l.length*80≤B∧(∀ v∈l,szA B v)∧(0<l.length→∃ g o,A=some ⟨g,o,none⟩∧base≤g∧g<w.heap.size∧aN w base w.heap.size g o l):=by
   rcases DataW.trod_slice Tryz.underlying22 hl with ⟨e,_⟩ | ⟨a,len,cap,elems,rest,m2,hm2,e,ey,hb,hlc,hmx,hlen,hel,_,_⟩
   ·simp only [List.cons.injEq,and_true] at e;exact ⟨none,0,[],e,by simp,(fun v h=>by cases h),fun h=>by simp at h⟩
   ·simp only [List.cons.injEq,and_true] at e;rw [ey] at hwl;simp only [DataW.weights,Tryz.underlying22,qjh,List.all_cons,List.all_append,Bool.and_eq_true,decide_eq_true_eq,List.length_map] at hwl;obtain ⟨hw1,hw2,_⟩:=hwl;rw [qcx] at hel;have each:∀ i,i<len→∃ v cs,(∀ j,j<5→w.cell? ((a.add (i*5)).add j)=cs[j]?)∧cs.length=5∧RdA w base w.heap.size v cs∧szA B v:=fun i hi=>by
     have k1:=hel i hi;rw [List.getElem?_eq_getElem (by omega)] at k1;obtain ⟨cs,c1,c2⟩:=Option.bind_eq_some_iff.1 k1;obtain ⟨_,c3,c4⟩:=World.cells?_some c1;obtain ⟨v,hv,hz⟩:=ih m2 (by omega) cs _ c2 (qaB hw2 _ (List.mem_map.2 ⟨_,List.getElem_mem (by omega),rfl⟩));exact ⟨v,cs,c4,c3,hv,hz⟩
    by_cases h0:len=0
    ·subst h0;exact ⟨some a,cap,[],by simpa using e,by simp,(fun v h=>by cases h),fun h=>by simp at h⟩
    ·obtain ⟨v0,cs0,c0,c1,_,_⟩:=each 0 (by omega);have c2:=c0 0 (by omega);rw [List.getElem?_eq_getElem (by omega),Go.Deep.add_add] at c2;obtain ⟨g,o,hgo,hgs⟩:=spot _ _ c2;obtain ⟨ga,oa,qa⟩:=a;have hq:qa=none∧ga=g:=by unfold Addr.add at hgo;simp at hgo;exact ⟨hgo.2.2,hgo.1⟩
     obtain ⟨rfl,rfl⟩:=hq;obtain ⟨l,hll,hr,hq⟩:=qfI (w:=w) (lo:=base) (hi:=w.heap.size) (g:=ga) (Q:=szA B) len oa (fun i hi=>by
      obtain ⟨v,cs,d1,d2,d3,d4⟩:=each i hi;refine ⟨v,cs,fun j u hu=>?_,d3,d4⟩;have hj:j<5:=by have:=(List.getElem?_eq_some_iff.1 hu).1;omega
      have:=d1 j hj;rw [add_plain,add_plain,hu] at this;exact this)
     exact ⟨some ⟨ga,oa,none⟩,cap-len,l,by rw [hll,Nat.add_sub_of_le hlc];exact e,by rw [hll];omega,hq,fun _=>⟨ga,oa,rfl,hb,hgs,hr⟩⟩
  have M:∃ (A:Option Addr) (c:Nat) (ns:List (List UInt8)) (l:List V),vm = .slice A l.length (l.length+c)∧ns.length=l.length∧l.length*96≤B∧(∀ v∈l,szA B v)∧(∀ nm∈ns,nm.length≤B)∧(0<l.length→∃ g o,A=some ⟨g,o,none⟩∧base≤g∧g<w.heap.size∧aL w base w.heap.size g o ns l):=by
   rcases DataW.trod_slice Tryz.underlying23 hm with ⟨e,_⟩ | ⟨a,len,cap,elems,rest,m2,hm2,e,ey,hb,hlc,hmx,hlen,hel,_,_⟩
   ·simp only [List.cons.injEq,and_true] at e;exact ⟨none,0,[],[],e,rfl,by simp,(fun v h=>by cases h),(fun v h=>by cases h),fun h=>by simp at h⟩
   ·simp only [List.cons.injEq,and_true] at e;rw [ey] at hwm;simp only [DataW.weights,Tryz.underlying23,qjn,List.all_cons,List.all_append,Bool.and_eq_true,decide_eq_true_eq,List.length_map] at hwm;obtain ⟨hw1,hw2,_⟩:=hwm;rw [qiK] at hel;have each:∀ i,i<len→∃ nm v cs,(∀ j,j<6→w.cell? ((a.add (i*6)).add j)=(.string (ae nm)::cs)[j]?)∧cs.length=5∧RdA w base w.heap.size v cs∧szA B v∧nm.length≤B:=fun i hi=>by
     have k1:=hel i hi;rw [List.getElem?_eq_getElem (by omega)] at k1;obtain ⟨cs,c1,c2⟩:=Option.bind_eq_some_iff.1 k1;obtain ⟨_,c3,c4⟩:=World.cells?_some c1;have hwe:=qaB hw2 _ (List.mem_map.2 ⟨_,List.getElem_mem (show i<elems.length by omega),rfl⟩);obtain ⟨y0,y1,m3,hm3,hye,t0,t1⟩:=qim c2;cases cs with
     | nil=>simp at c3
     | cons x0 cs=>
      rw [hye] at hwe;simp only [DataW.weights,Tryz.underlying37,DataW.weightsEach,List.map_cons,List.map_nil,List.all_append,List.all_nil,Bool.and_true,Bool.and_eq_true] at hwe;rw [List.drop_zero,show (x0::cs).take 1=[x0] from rfl] at t0;rw [show (x0::cs).drop 1=cs from rfl] at t1;obtain ⟨s,e0,hy0,_⟩:=DataW.trod_string Tryz.underlying9 t0;simp only [List.cons.injEq,and_true] at e0;subst e0;rw [hy0] at hwe;simp only [DataW.weights,List.all_cons,List.all_nil,Bool.and_true,decide_eq_true_eq] at hwe;have c5:cs.length=5:=by simpa using c3
      have ht:cs.take 5=cs:=List.take_of_length_le (by omega);obtain ⟨v,hv,hz⟩:=ih m3 (by omega) cs _ (by rw [←ht];exact t1) hwe.2;exact ⟨s.data.toList,v,cs,by rw [show ae s.data.toList=s from qb7 s];exact c4,c5,hv,hz,hwe.1⟩
    by_cases h0:len=0
    ·subst h0;exact ⟨some a,cap,[],[],by simpa using e,rfl,by simp,(fun v h=>by cases h),(fun v h=>by cases h),fun h=>by simp at h⟩
    ·obtain ⟨nm0,v0,cs0,c0,c1,_,_⟩:=each 0 (by omega);have c2:=c0 0 (by omega);rw [Go.Deep.add_add] at c2;obtain ⟨g,o,hgo,hgs⟩:=spot _ _ c2;obtain ⟨ga,oa,qa⟩:=a;have hq:qa=none∧ga=g:=by unfold Addr.add at hgo;simp at hgo;exact ⟨hgo.2.2,hgo.1⟩
     obtain ⟨rfl,rfl⟩:=hq;obtain ⟨ns,l,hnn,hll,hr,hq,hrr⟩:=qfv (w:=w) (lo:=base) (hi:=w.heap.size) (g:=ga) (Q:=szA B) (R:=fun nm=>nm.length≤B) len oa (fun i hi=>by
      obtain ⟨nm,v,cs,d1,d2,d3,d4,d5⟩:=each i hi;refine ⟨nm,v,cs,?_,fun j u hu=>?_,d3,d4,d5⟩
      ·have:=d1 0 (by omega);rw [add_plain,add_plain] at this;exact this
      ·have hj:j<5:=by have:=(List.getElem?_eq_some_iff.1 hu).1;omega
       have:=d1 (j+1) (by omega);rw [add_plain,add_plain,List.getElem?_cons_succ,hu] at this;rw [show oa+i*6+1+j=oa+i*6+(j+1) by omega];exact this)
     exact ⟨some ⟨ga,oa,none⟩,cap-len,ns,l,by rw [hll,Nat.add_sub_of_le hlc];exact e,by omega,by rw [hll];omega,hq,hrr,fun _=>⟨ga,oa,rfl,hb,hgs,hr⟩⟩
  obtain ⟨A,c,l,rfl,l1,l2,l3⟩:=L;obtain ⟨A2,c2,ns,ms,rfl,m0,m1,m2,m4,m3⟩:=M;refine ⟨.mk k n s.data.toList l ns ms,?_,?_⟩
  ·rw [RdA];exact ⟨A,c,A2,c2,by rw [show ae s.data.toList=s from qb7 s],m0,l3,m3⟩
  ·rw [szA];exact ⟨wk,wn,hws,l1,m1,m4,qgO l2,qgO m2⟩
end
