/- Merged: RaMem CdPl CdPl2 CdPl3. -/
import Derived.Test.YtnecfkhbncepnaaGreatDoorTt11
import Derived.Deep.Slices
import Derived.SizedLaws
namespace Go.Proofs.YtnecfkhbncepnaaGreatDoor
namespace Re
open Go.RowKit Go.ChangeShapes Go.WideShapes Go.Deep Utf Sc
mutual
/-- In w the five cells cs read as the value v; what it holds lies in blocks from lo on, below hi, wherever in them. -/
def RdA (w:World) (lo hi:Nat):V→List Value→Prop
 | .mk k n s l ns ms,cs=>∃ (A:Option Addr) (c:Nat) (A2:Option Addr) (c2:Nat),cs=[.int .i64 k,.int .i64 n,.string (aa s),.slice A l.length (l.length+c),.slice A2 ms.length (ms.length+c2)]∧ns.length=ms.length∧
   (0<l.length→∃ g o,A=some ⟨g,o,none⟩∧lo≤g∧g<hi∧bN w lo hi g o l)∧(0<ms.length→∃ g o,A2=some ⟨g,o,none⟩∧lo≤g∧g<hi∧bl w lo hi g o ns ms)
def bN (w:World) (lo hi:Nat):Nat→Nat→List V→Prop
 | _,_,[]=>True
 | g,o,v::r=>(∃ cs,(∀ j u,cs[j]? = some u→w.cell? ⟨g,o+j,none⟩=some u)∧RdA w lo hi v cs)∧bN w lo hi g (o+5) r
def bl (w:World) (lo hi:Nat):Nat→Nat→List (List UInt8)→List V→Prop
 | _,_,_,[]=>True
 | g,o,ns,v::r=>∃ nm ns',ns=nm::ns'∧w.cell? ⟨g,o,none⟩=some (.string (aa nm))∧(∃ cs,(∀ j u,cs[j]? = some u→w.cell? ⟨g,o+1+j,none⟩=some u)∧RdA w lo hi v cs)∧bl w lo hi g (o+6) ns' r
end
section
variable {w w':World} {lo hi lo' hi':Nat}
mutual
theorem RdA.keep (hk:∀ p:Addr,lo≤p.block→p.block<hi→w'.cell? p=w.cell? p) (h1:lo'≤lo) (h2:hi≤hi'):∀ (v:V) (cs:List Value),RdA w lo hi v cs→RdA w' lo' hi' v cs
 | .mk k n s l ns ms,cs,h=>by
  rw [RdA] at h ⊢;obtain ⟨A,c,A2,c2,rfl,hn,ha,hb⟩:=h;refine ⟨A,c,A2,c2,rfl,hn,fun h0=>?_,fun h0=>?_⟩
  ·obtain ⟨g,o,e,g1,g2,h⟩:=ha h0;exact ⟨g,o,e,by omega,by omega,bN.keep hk h1 h2 l g o g1 g2 h⟩
  ·obtain ⟨g,o,e,g1,g2,h⟩:=hb h0;exact ⟨g,o,e,by omega,by omega,bl.keep hk h1 h2 ms ns g o g1 g2 h⟩
theorem bN.keep (hk:∀ p:Addr,lo≤p.block→p.block<hi→w'.cell? p=w.cell? p) (h1:lo'≤lo) (h2:hi≤hi'):∀ (l:List V) (g o:Nat),lo≤g→g<hi→bN w lo hi g o l→bN w' lo' hi' g o l
 | [],g,o,_,_,_=>by rw [bN];trivial
 | v::r,g,o,g1,g2,h=>by
  rw [bN] at h ⊢;obtain ⟨⟨cs,hc,hv⟩,hr⟩:=h;exact ⟨⟨cs,fun j u hu=>(hk ⟨g,o+j,none⟩ g1 g2).trans (hc j u hu),RdA.keep hk h1 h2 v cs hv⟩,bN.keep hk h1 h2 r g (o+5) g1 g2 hr⟩
theorem bl.keep (hk:∀ p:Addr,lo≤p.block→p.block<hi→w'.cell? p=w.cell? p) (h1:lo'≤lo) (h2:hi≤hi'):∀ (ms:List V) (ns:List (List UInt8)) (g o:Nat),lo≤g→g<hi→bl w lo hi g o ns ms→bl w' lo' hi' g o ns ms
 | [],ns,g,o,_,_,_=>by rw [bl];trivial
 | v::r,ns,g,o,g1,g2,h=>by
  rw [bl] at h ⊢;obtain ⟨nm,ns',rfl,hm,⟨cs,hc,hv⟩,hr⟩:=h;exact ⟨nm,ns',rfl,(hk ⟨g,o,none⟩ g1 g2).trans hm,⟨cs,fun j u hu=>(hk ⟨g,o+1+j,none⟩ g1 g2).trans (hc j u hu),RdA.keep hk h1 h2 v cs hv⟩,bl.keep hk h1 h2 r ns' g (o+6) g1 g2 hr⟩
end
theorem RdA.below {B:Nat} {v:V} {cs:List Value} (h:RdA w lo hi v cs) (hb:Below B w w') (hB:hi≤B) (hh:hi≤hi'):RdA w' lo hi' v cs:=
 RdA.keep (fun p _ hp=>hb.cell (by omega)) (Nat.le_refl _) hh v cs h
mutual
/-- what is in new memory is in a caller's -/
theorem RdA.of_RdV:∀ (v:V) (cs:List Value),RdV w lo hi v cs→RdA w lo hi v cs
 | .mk k n s l ns ms,cs,h=>by
  rw [RdV] at h;rw [RdA];obtain ⟨vl,vm,rfl,⟨A,c,rfl,ha⟩,⟨A2,c2,rfl,hn,hb⟩⟩:=h;refine ⟨A,c,A2,c2,rfl,hn,fun h0=>?_,fun h0=>?_⟩
  ·obtain ⟨g,e,g1,g2,h⟩:=ha h0;exact ⟨g,0,e,g1,g2,by have:=bN.of_RdL l g 0 h;simpa using this⟩
  ·obtain ⟨g,e,g1,g2,h⟩:=hb h0;exact ⟨g,0,e,g1,g2,by have:=bl.of_RdM ms ns g 0 h;simpa using this⟩
theorem bN.of_RdL:∀ (l:List V) (g i:Nat),RdL w lo hi g i l→bN w lo hi g (i*5) l
 | [],g,i,_=>by rw [bN];trivial
 | v::r,g,i,h=>by
  rw [RdL] at h;rw [bN];obtain ⟨⟨cs,hc,hv⟩,hr⟩:=h;refine ⟨⟨cs,hc,RdA.of_RdV v cs hv⟩,?_⟩;have:=bN.of_RdL r g (i+1) hr;rwa [show (i+1)*5=i*5+5 by omega] at this
theorem bl.of_RdM:∀ (ms:List V) (ns:List (List UInt8)) (g i:Nat),RdM w lo hi g i ns ms→bl w lo hi g (i*6) ns ms
 | [],ns,g,i,_=>by rw [bl];trivial
 | v::r,ns,g,i,h=>by
  rw [RdM] at h;rw [bl];obtain ⟨nm,ns',rfl,hm,⟨cs,hc,hv⟩,hr⟩:=h;refine ⟨nm,ns',rfl,hm,⟨cs,hc,RdA.of_RdV v cs hv⟩,?_⟩;have:=bl.of_RdM r ns' g (i+1) hr;rwa [show (i+1)*6=i*6+6 by omega] at this
end
theorem RdA.cells {v:V} {cs:List Value} (h:RdA w lo hi v cs):∃ A c A2 c2,cs=[.int .i64 v.k,.int .i64 v.n,.string (aa v.s),.slice A v.l.length c,.slice A2 v.ms.length c2]∧v.ns.length=v.ms.length∧
  (0<v.l.length→∃ g o,A=some ⟨g,o,none⟩∧lo≤g∧g<hi∧bN w lo hi g o v.l)∧(0<v.ms.length→∃ g o,A2=some ⟨g,o,none⟩∧lo≤g∧g<hi∧bl w lo hi g o v.ns v.ms):=by
 obtain ⟨k,n,s,l,ns,ms⟩:=v;rw [RdA] at h;obtain ⟨A,c,A2,c2,h⟩:=h;exact ⟨A,_,A2,_,h⟩
theorem bN.at_ {g:Nat}:∀ (l:List V) (o:Nat),bN w lo hi g o l→∀ k (hk:k<l.length),∃ cs,(∀ j u,cs[j]? = some u→w.cell? ⟨g,o+k*5+j,none⟩=some u)∧RdA w lo hi l[k] cs:=by
 intro l;induction l with
 | nil=>intro o _ k hk;simp at hk
 | cons v r ih=>
  intro o h k hk;rw [bN] at h;cases k with
  | zero=>simpa using h.1
  | succ k=>
   obtain ⟨cs,h1,h2⟩:=ih (o+5) h.2 k (by simpa using hk);exact ⟨cs,fun j u hu=>by rw [show o+(k+1)*5+j=o+5+k*5+j by omega];exact h1 j u hu,h2⟩
theorem bl.at_ {g:Nat}:∀ (ms:List V) (ns:List (List UInt8)) (o:Nat),bl w lo hi g o ns ms→∀ k (hk:k<ms.length) (hn:k<ns.length),w.cell? ⟨g,o+k*6,none⟩=some (.string (aa ns[k]))∧∃ cs,(∀ j u,cs[j]? = some u→w.cell? ⟨g,o+k*6+1+j,none⟩=some u)∧RdA w lo hi ms[k] cs:=by
 intro ms;induction ms with
 | nil=>intro ns o _ k hk;simp at hk
 | cons v r ih=>
  intro ns o h k hk hn;rw [bl] at h;obtain ⟨nm,ns',rfl,hm,hv,hr⟩:=h;cases k with
  | zero=>exact ⟨by simpa using hm,by simpa using hv⟩
  | succ k=>
   obtain ⟨h0,cs,h1,h2⟩:=ih ns' (o+6) hr k (by simpa using hk) (by simpa using hn);exact ⟨by rw [show o+(k+1)*6=o+6+k*6 by omega];exact h0,cs,fun j u hu=>by rw [show o+(k+1)*6+1+j=o+6+k*6+1+j by omega];exact h1 j u hu,h2⟩
end
end Re
namespace Cd
open Go.RowKit Utf Nu Wo Sm
open Re (V ht htL bu mpV V0)
def cD:List UInt8:=[64,116,121,112,101]
def bO:List UInt8:=[107,105,110,100]
def bg:List UInt8:=[109,101,109,98,101,114,115]
def cE:List UInt8:=[103,114,111,117,112]
def bh:List UInt8:=[99,111,108,111,114]
def qio:List UInt8:=[121,101,97,114]
def qeJ:List UInt8:=[109,111,110,116,104]
def qni:List UInt8:=[100,97,121]
def mem (v:V):List (List UInt8×V):=v.ns.zip v.ms
def fst (l:List (List UInt8×V)) (n:List UInt8):Option V:=(l.find? fun m=>decide (m.1=n)).map Prod.snd
def isT (v:V) (a b:Nat):Bool:=decide (v.k=4∧a≤v.s.length∧v.s.length≤b)
def btw (v:V) (a b:Int):Bool:=decide (v.k=3∧a≤v.n∧v.n≤b)
def qjO (v:V):Bool:=decide (v.k=2∧v.n=1)
def b7 (n:List UInt8):Bool:=decide (1≤n.length∧n.length≤255)
def gt (v:V) (n:List UInt8):Option V:=if v.k=6 then fst (mem v) n else none
def qao (x:V) (s:List UInt8):Bool:=decide (x.k=4∧x.s=s)
def qg5 (v:V):Bool:=match gt v cD with
 | some t=>qao t du
 | none=>false
def bP (v:V):List UInt8:=if qg5 v then du else qcE
def prt (v:V) (nm:List UInt8) (a b:Int):Bool:=match gt v nm with
 | some x=>decide (a≤x.n∧x.n≤b)
 | none=>true
def qdO (O:List UInt8→V→Bool) (fm:Int) (ar:List UInt8) (v:V):Bool:=
 if fm=1 then isT v 0 1024
 else if fm=2 then isT v 0 1024&&b7 v.s
 else if fm=3 then decide (v.k=2)
 else if fm=4 then decide (v.k=3∧0≤v.n)
 else if fm=5 then btw v 1 100
 else if fm=6 then isT v 0 1024&&Id.isL v.s
 else if fm=7 then isT v 0 1024&&decide (St.cM v.s)
 else if fm=8 then isT v 0 1024&&qeG v.s
 else if fm=9 then isT v 0 1024&&dG v.s
 else if fm=10 then isT v 0 1024&&fu v.s
 else if fm=11 then isT v 0 1024&&inS ar v.s
 else if fm=12 then O ar v
 else if fm=13 then decide (v.k=5)&&v.l.all (O ar)
 else if fm=14 then decide (v.k=6)&&(mem v).all fun m=>Id.isL m.1&&O ar m.2
 else if fm=15 then decide (v.k=6)&&(mem v).all fun m=>b7 m.1&&O ar m.2
 else if fm=16 then decide (v.k=6)&&(mem v).all fun m=>b7 m.1&&qjO m.2
 else if fm=17 then decide (v.k=6)&&(mem v).all fun m=>inS ar m.1&&qjO m.2
 else if fm=18 then O (bP v) v&&prt v qio 0 9999&&prt v qeJ 1 12&&prt v qni 1 31
 else false
def cR (O:List UInt8→V→Bool) (of:List UInt8) (m:List UInt8×V):Bool:=
 if m.1=cD then decide (m.2.k=4∧m.2.s=of)
 else match bC (ae of) m.1 with
  | some p=>qdO O p.fm p.ar m.2
  | none=>qh2 m.1
def qf8 (of:List UInt8) (ns:List (List UInt8)):Bool:=(ae of).all fun p=> !p.mu || ns.contains p.nm
def qdX:Nat→List UInt8→V→Bool
 | 0,_,_=>false
 | f+1,of,v=>decide (v.k=6)&&decide (ae of≠[])&&(mem v).all (cR (qdX f) of)&&qf8 of v.ns
def aH (of:List UInt8) (v:V):Bool:=qdX (ht v) of v
def ca (v:V) (n:List UInt8):Bool:=
 if v.k=6 then
  (mem v).any (fun m=>decide (m.1=n)&& !cR aH nm0 m) || (ae nm0).any (fun p=>p.mu&&decide (p.nm=n)&& !v.ns.contains n) ||
   (decide (n=bg)&&v.ns.contains n&& !(match fst (mem v) bO with | some t=>decide (t.k=4∧t.s=cE) | none=>false))
 else decide (n=cD)
theorem qri {v x:V} (h:x∈v.l):ht x<ht v:=by
 obtain ⟨k,n,s,l,ns,ms⟩:=v;have:=bu (show x∈l from h);rw [ht];omega
theorem qdh {v x:V} (h:x∈v.ms):ht x<ht v:=by
 obtain ⟨k,n,s,l,ns,ms⟩:=v;have:=bu (show x∈ms from h);rw [ht];omega
theorem qqj {v:V} {m:List UInt8×V} (h:m∈mem v):m.2∈v.ms:=(List.of_mem_zip (a:=m.1) (b:=m.2) h).2
theorem qkJ {v:V} {m:List UInt8×V} (h:m∈mem v):m.1∈v.ns:=(List.of_mem_zip (a:=m.1) (b:=m.2) h).1
theorem qaQ {v:V} {m:List UInt8×V} (h:m∈mem v):ht m.2<ht v:=qdh (qqj h)
theorem qgP (v:V):0<ht v:=by obtain ⟨k,n,s,l,ns,ms⟩:=v;rw [ht];omega
theorem dY {α : Type} {l:List α} {p q : α →Bool} (h:∀ x∈l,p x=q x):l.all p=l.all q:=by
 induction l with
 | nil=>rfl
 | cons a r ih=>rw [List.all_cons,List.all_cons,h a List.mem_cons_self,ih fun x hx=>h x (List.mem_cons_of_mem _ hx)]
theorem qj3 {O O':List UInt8→V→Bool} {v:V} (h:∀ of x,ht x≤ht v→O of x=O' of x) (fm:Int) (ar:List UInt8):qdO O fm ar v=qdO O' fm ar v:=by
 have h13:v.l.all (O ar)=v.l.all (O' ar):=dY fun x hx=>h ar x (Nat.le_of_lt (qri hx));have h14:((mem v).all fun m=>Id.isL m.1&&O ar m.2)=(mem v).all fun m=>Id.isL m.1&&O' ar m.2:=dY fun m hm=>by rw [h ar m.2 (Nat.le_of_lt (qaQ hm))]
 have h15:((mem v).all fun m=>b7 m.1&&O ar m.2)=(mem v).all fun m=>b7 m.1&&O' ar m.2:=dY fun m hm=>by rw [h ar m.2 (Nat.le_of_lt (qaQ hm))]
 unfold qdO;rw [h13,h14,h15,h ar v (Nat.le_refl _),h (bP v) v (Nat.le_refl _)]
theorem qfO {O O':List UInt8→V→Bool} {m:List UInt8×V} (h:∀ of x,ht x≤ht m.2→O of x=O' of x) (of:List UInt8):cR O of m=cR O' of m:=by
 unfold cR;split
 ·rfl
 ·split
  ·exact qj3 h _ _
  ·rfl
theorem qhM:∀ (f f':Nat) (of:List UInt8) (v:V),ht v≤f→ht v≤f'→qdX f of v=qdX f' of v:=by
 intro f;induction f with
 | zero=>intro f' of v h;have:=qgP v;omega
 | succ f ih=>
  intro f' of v h h';cases f' with
  | zero=>have:=qgP v;omega
  | succ f'=>
   rw [qdX,qdX,dY (p:=cR (qdX f) of) (q:=cR (qdX f') of) fun m hm=>qfO (fun of x hx=>ih f' of x (by have:=qaQ hm;omega) (by have:=qaQ hm;omega)) of]
theorem qiH (of:List UInt8) (v:V):aH of v=(decide (v.k=6)&&decide (ae of≠[])&&(mem v).all (cR aH of)&&qf8 of v.ns):=by
 have e:aH of v=qdX (ht v+1) of v:=qhM _ _ _ _ (Nat.le_refl _) (Nat.le_succ _);rw [e,qdX,dY (p:=cR (qdX (ht v)) of) (q:=cR aH of) fun m hm=>qfO (fun of x hx=>qhM _ _ of x (by have:=qaQ hm;omega) (Nat.le_refl _)) of]
theorem qes:bC (ae nm0) bh=none:=by decide +kernel
theorem qfF:qh2 bh=false:=by decide +kernel
theorem qtr:(ae nm0).all (fun p=> !p.mu || (decide (p.nm≠bO)&&decide (p.nm≠bg)&&decide (bC (ae nm0) p.nm=some p)))=true:=by decide +kernel
theorem ed {v:V} (h:∀ n,ca v n=false):v.k=6∧(∀ m∈mem v,cR aH nm0 m=true)∧(∀ p∈ae nm0,p.mu=true→p.nm∈v.ns)∧
  (bg∈v.ns→∃ t,fst (mem v) bO=some t∧t.k=4∧t.s=cE):=by
 have hk:v.k=6:=by
  by_cases hk:v.k=6
  ·exact hk
  ·have:=h cD;unfold ca at this;rw [if_neg hk] at this;exact absurd this (by simp)
 have hb:∀ n,(mem v).any (fun m=>decide (m.1=n)&& !cR aH nm0 m)=false∧(ae nm0).any (fun p=>p.mu&&decide (p.nm=n)&& !v.ns.contains n)=false∧
   (decide (n=bg)&&v.ns.contains n&& !(match fst (mem v) bO with | some t=>decide (t.k=4∧t.s=cE) | none=>false))=false:=fun n=>by
  have:=h n;unfold ca at this;rw [if_pos hk,Bool.or_eq_false_iff,Bool.or_eq_false_iff] at this;exact ⟨this.1.1,this.1.2,this.2⟩
 refine ⟨hk,fun m hm=>?_,fun p hp hmu=>?_,fun hmem=>?_⟩
 ·have:=List.any_eq_false.1 (hb m.1).1 m hm
  simpa using this
 ·have:=List.any_eq_false.1 (hb p.nm).2.1 p hp
  simpa [hmu] using this
 ·have:=(hb bg).2.2;cases hf:fst (mem v) bO with
  | none=>rw [hf] at this;simp [hmem] at this
  | some t=>
   rw [hf] at this;simp [hmem] at this;exact ⟨t,rfl,this.1,this.2⟩
def qul (l:List (List UInt8×V)) (ns:List (List UInt8)):Prop:=bg∈ns∧¬ ∃ t,fst l bO=some t∧t.k=4∧t.s=cE
theorem qbg {v:V} (hk:v.k=6) (n:List UInt8):ca v n=true↔(∃ m∈mem v,m.1=n∧cR aH nm0 m=false)∨(∃ p∈ae nm0,p.mu=true∧p.nm=n∧n∉v.ns)∨(n=bg∧qul (mem v) v.ns):=by
 unfold ca;rw [if_pos hk,Bool.or_eq_true,Bool.or_eq_true,or_assoc];refine or_congr ?_ (or_congr ?_ ?_)
 ·rw [List.any_eq_true];refine exists_congr fun m=>and_congr_right fun _=>?_;simp
 ·rw [List.any_eq_true];refine exists_congr fun m=>and_congr_right fun _=>?_;simp [and_assoc]
 ·unfold qul;cases hf:fst (mem v) bO with
  | none=>
   simp only [Bool.and_eq_true,decide_eq_true_eq,List.contains_iff_mem];constructor
   ·rintro ⟨⟨rfl,h⟩,_⟩;exact ⟨rfl,h,by rintro ⟨t,h1,_⟩;cases h1⟩
   ·rintro ⟨rfl,h,_⟩;exact ⟨⟨rfl,h⟩,rfl⟩
  | some t=>
   simp only [Bool.and_eq_true,decide_eq_true_eq,List.contains_iff_mem,Bool.not_eq_true',decide_eq_false_iff_not];constructor
   ·rintro ⟨⟨rfl,h⟩,h2⟩;exact ⟨rfl,h,by rintro ⟨t',h1,h3⟩;injection h1 with h1;subst h1;exact h2 h3⟩
   ·rintro ⟨rfl,h,h2⟩;exact ⟨⟨rfl,h⟩,fun h3=>h2 ⟨t,rfl,h3⟩⟩
theorem qee {l:List (List UInt8×V)} {a b:List UInt8} (h:a≠b):fst (l.filter fun m=>decide (m.1≠b)) a=fst l a:=by
 unfold fst
 congr 1
 induction l with
 | nil=>rfl
 | cons m r ih=>
  rw [List.filter_cons];by_cases e:m.1=b
  ·rw [if_neg (by simpa using e),List.find?_cons,zF (by rw [e];exact fun e2=>h e2.symm)];exact ih
  ·rw [if_pos (by simpa using e),List.find?_cons,List.find?_cons];cases decide (m.1=a) with
   | true=>rfl
   | false=>exact ih
theorem qfA {n:List UInt8} {p:Pr} (hp:p∈ae nm0) (hm:p.mu=true) (hn:p.nm=n):n≠bO∧n≠bg∧bC (ae nm0) n=some p:=by
 have:=List.all_eq_true.1 qtr p hp;rw [hm,hn] at this;simp at this;exact ⟨this.1.1,this.1.2,this.2⟩
theorem qmB {n:List UInt8} {p:Pr} (h:bC (ae nm0) n=some p):p∈ae nm0∧p.nm=n:=by
 unfold bC at h;exact ⟨List.mem_of_find?_eq_some h,by simpa using List.find?_some h⟩
theorem qjg {v w:V} (h:∀ n,ca v n=false) {nm:List UInt8} {p:Pr} (hf:bC (ae nm0) nm=some p) (hmu:p.mu=true) (hk:w.k=6) (hm:mem w=(mem v).filter fun m=>decide (m.1≠nm)) (hn:∀ n,n∈w.ns↔n∈v.ns∧n≠nm) (n:List UInt8):ca w n=true↔n=nm:=by
 obtain ⟨h1,h2,h3,h4⟩:=ed h;obtain ⟨hp,hpn⟩:=qmB hf;obtain ⟨a1,a2,a3⟩:=qfA hp hmu hpn;rw [qbg hk];constructor
 ·rintro (⟨m,hmem,e,hb⟩ | ⟨q,hq,hqm,e,hnot⟩ | ⟨rfl,ho1,ho2⟩)
  ·rw [hm,List.mem_filter] at hmem;rw [h2 m hmem.1] at hb;cases hb
  ·have:=h3 q hq hqm;rw [e] at this;by_cases e2:n=nm
   ·exact e2
   ·exact absurd ((hn n).2 ⟨this,e2⟩) hnot
  ·obtain ⟨hv,_⟩:=(hn _).1 ho1;refine absurd ?_ ho2;rw [hm,qee (Ne.symm a1)];exact h4 hv
 ·rintro rfl;exact .inr (.inl ⟨p,hp,hmu,hpn,fun hx=>((hn _).1 hx).2 rfl⟩)
theorem qiA {v w:V} (h:∀ n,ca v n=false) {nm:List UInt8} (hno:∀ p,bC (ae nm0) nm=some p→p.mu=false) (hkind:nm≠bO) (hk:w.k=6) (hm:mem w=(mem v).filter fun m=>decide (m.1≠nm)) (hn:∀ n,n∈w.ns↔n∈v.ns∧n≠nm) (n:List UInt8):ca w n=false:=by
 obtain ⟨h1,h2,h3,h4⟩:=ed h;rw [←Bool.not_eq_true];rw [qbg hk];rintro (⟨m,hmem,e,hb⟩ | ⟨q,hq,hqm,e,hnot⟩ | ⟨rfl,ho1,ho2⟩)
 ·rw [hm,List.mem_filter] at hmem;rw [h2 m hmem.1] at hb;cases hb
 ·have hv:=h3 q hq hqm;rw [e] at hv;by_cases e2:n=nm
  ·have:=hno q (by rw [←e2];exact (qfA hq hqm e).2.2);rw [hqm] at this;cases this
  ·exact hnot ((hn n).2 ⟨hv,e2⟩)
 ·obtain ⟨hv,_⟩:=(hn _).1 ho1;refine absurd ?_ ho2;rw [hm,qee (Ne.symm hkind)];exact h4 hv
theorem qhF:¬(bh=cD):=by decide
theorem qnB {v:V} (hl:v.ns.length=v.ms.length) (h:∀ n,ca v n=false):bh∉v.ns:=fun hc=>by
 obtain ⟨h1,h2,h3,h4⟩:=ed h;obtain ⟨i,hi,e⟩:=List.getElem_of_mem hc;have hz:i<(v.ns.zip v.ms).length:=by rw [List.length_zip];omega
 have hm:(v.ns.zip v.ms)[i]∈mem v:=List.getElem_mem hz;have:=h2 _ hm;rw [List.getElem_zip] at this;unfold cR at this;rw [if_neg (show ¬(v.ns[i]=cD) by rw [e];exact qhF)] at this;rw [e,qes] at this;simp only at this;rw [qfF] at this;cases this
theorem qiK {v w:V} (_hl:v.ns.length=v.ms.length) (h:∀ n,ca v n=false) {x:V} (hk:w.k=6) (hm:mem w=mem v++[(bh,x)]) (hn:w.ns=v.ns++[bh]) (n:List UInt8):ca w n=true↔n=bh:=by
 obtain ⟨h1,h2,h3,h4⟩:=ed h;have hbad:cR aH nm0 (bh,x)=false:=by
  unfold cR;rw [if_neg (show ¬(bh=cD) from qhF)];simp only [qes,qfF]
 rw [qbg hk];constructor
 ·rintro (⟨m,hmem,e,hb⟩ | ⟨q,hq,hqm,e,hnot⟩ | ⟨rfl,ho1,ho2⟩)
  ·rw [hm,List.mem_append] at hmem;rcases hmem with hmem | hmem
   ·rw [h2 m hmem] at hb;cases hb
   ·rw [List.mem_singleton] at hmem;rw [←e,hmem]
  ·have hv:=h3 q hq hqm;rw [e] at hv;exact absurd (by rw [hn];exact List.mem_append_left _ hv) hnot
  ·rw [hn,List.mem_append] at ho1;rcases ho1 with ho1 | ho1
   ·obtain ⟨t,q1,q2⟩:=h4 ho1;refine absurd ⟨t,?_,q2⟩ ho2;rw [hm];unfold fst at q1 ⊢;rw [List.find?_append];cases hf:(mem v).find? (fun m=>decide (m.1=bO)) with
    | none=>rw [hf] at q1;cases q1
    | some y=>rw [hf] at q1;exact q1
   ·exact absurd (List.mem_singleton.1 ho1) (by decide)
 ·rintro rfl;exact .inl ⟨(bh,x),by rw [hm];simp,rfl,hbad⟩
theorem qaV {ps:List (List UInt8)} {p:List UInt8} (hr:ps.Nodup) (h:∀ n,n∈ps↔n=p):ps=[p]:=by
 cases ps with
 | nil=>exact absurd ((h p).2 rfl) (by simp)
 | cons a r=>
  have ea:a=p:=(h a).1 List.mem_cons_self;cases r with
  | nil=>rw [ea]
  | cons b s=>
   have eb:b=p:=(h b).1 (by simp);rw [ea,eb] at hr;simp at hr
theorem qe4 {ps:List (List UInt8)} (h:∀ n,n∉ps):ps=[]:=List.eq_nil_iff_forall_not_mem.2 h
end Cd
namespace Cd
open Go.RowKit Utf Nu Wo Sm
open Re (V ht htL bu mpV V0)
open Em (szU cC)
def qaw (p:Pr) (x:V):Bool:=if p.df=[] then false else if p.fm=3 then decide (x.n=0) else decide (x.s=p.df)
def ce (N:List UInt8→V→V) (p:Pr) (x:V):V:=
 if p.fm=12 then N p.ar x
 else if p.fm=18 then N (bP x) x
 else if p.fm=13 then .mk x.k x.n x.s (x.l.map (N p.ar)) x.ns x.ms
 else if p.fm=14∨p.fm=15 then .mk x.k x.n x.s x.l x.ns (x.ms.map (N p.ar))
 else x
def qcM (of n:List UInt8):Pr:=(bC (ae of) n).getD Pr.zero
def bZ (N:List UInt8→V→V) (of:List UInt8) (m:List UInt8×V):Option (List UInt8×V):=
 if (m.1=cD∧of≠du)∨qaw (qcM of m.1) m.2=true then none else some (m.1,ce N (qcM of m.1) m.2)
def fo:Nat→List UInt8→V→V
 | 0,_,v=>v
 | f+1,of,v=> .mk v.k v.n v.s v.l (((mem v).filterMap (bZ (fo f) of)).map Prod.fst) (((mem v).filterMap (bZ (fo f) of)).map Prod.snd)
def qcb (v:V):Bool:=aH nm0 v&&(!v.ns.contains bg || (match fst (mem v) bO with | some t=>decide (t.k=4∧t.s=cE) | none=>false))
def qaL (v v1:V):V:=if qcb v then fo (ht v1) nm0 v1 else v1
theorem qr7:ae nm0≠[]:=by decide +kernel
theorem qhr (v:V):qcb v=true↔∀ n,ca v n=false:=by
 unfold qcb;rw [qiH];constructor
 ·intro h n;simp only [Bool.and_eq_true,decide_eq_true_eq,List.all_eq_true] at h;obtain ⟨⟨⟨⟨hk, -⟩,hm⟩,hmu⟩,hg⟩:=h;rw [←Bool.not_eq_true,qbg hk];rintro (⟨m,h1, -,h2⟩ | ⟨p,h1,h2,h3,h4⟩ | ⟨-,h1,h2⟩)
  ·rw [hm m h1] at h2;cases h2
  ·unfold qf8 at hmu;have:=List.all_eq_true.1 hmu p h1;rw [h2,h3] at this;exact h4 (by simpa using this)
  ·cases hf:fst (mem v) bO with
   | none=>rw [hf] at hg;simp [h1] at hg
   | some t=>
    rw [hf] at hg h2;simp [h1] at hg;exact h2 ⟨t,rfl,hg⟩
 ·intro h;obtain ⟨h1,h2,h3,h4⟩:=ed h;simp only [Bool.and_eq_true,decide_eq_true_eq,List.all_eq_true];refine ⟨⟨⟨⟨h1,qr7⟩,h2⟩,?_⟩,?_⟩
  ·unfold qf8;rw [List.all_eq_true];intro p hp;cases hm:p.mu with
   | false=>rfl
   | true=>simpa using h3 p hp hm
  ·by_cases hx:bg∈v.ns
   ·obtain ⟨t,e,e2⟩:=h4 hx;rw [e];simp [e2]
   ·simp [hx]
theorem qia {N N':List UInt8→V→V} {x:V} (h:∀ of y,ht y≤ht x→N of y=N' of y) (p:Pr):ce N p x=ce N' p x:=by
 unfold ce;rw [h p.ar x (Nat.le_refl _),h (bP x) x (Nat.le_refl _),List.map_congr_left (f:=N p.ar) (g:=N' p.ar) fun y hy=>h p.ar y (Nat.le_of_lt (qri hy)),List.map_congr_left (f:=N p.ar) (g:=N' p.ar) (l:=x.ms) fun y hy=>h p.ar y (Nat.le_of_lt (qdh hy))]
theorem qdb {N N':List UInt8→V→V} {m:List UInt8×V} (h:∀ of y,ht y≤ht m.2→N of y=N' of y) (of:List UInt8):bZ N of m=bZ N' of m:=by
 unfold bZ;rw [qia h]
theorem eX {α β : Type} {l:List α} {f g : α →Option β} (h:∀ x∈l,f x=g x):l.filterMap f=l.filterMap g:=by
 induction l with
 | nil=>rfl
 | cons a r ih=>rw [List.filterMap_cons,List.filterMap_cons,h a List.mem_cons_self,ih fun x hx=>h x (List.mem_cons_of_mem _ hx)]
theorem qfP:∀ (f f':Nat) (of:List UInt8) (v:V),ht v≤f→ht v≤f'→fo f of v=fo f' of v:=by
 intro f;induction f with
 | zero=>intro f' of v h;have:=qgP v;omega
 | succ f ih=>
  intro f' of v h h';cases f' with
  | zero=>have:=qgP v;omega
  | succ f'=>
   rw [fo,fo,eX (f:=bZ (fo f) of) (g:=bZ (fo f') of) fun m hm=>qdb (fun of x hx=>ih f' of x (by have:=qaQ hm;omega) (by have:=qaQ hm;omega)) of]
def ax (of:List UInt8) (v:V):V:=fo (ht v) of v
theorem qqe (of:List UInt8) (v:V):ax of v = .mk v.k v.n v.s v.l (((mem v).filterMap (bZ ax of)).map Prod.fst) (((mem v).filterMap (bZ ax of)).map Prod.snd):=by
 have e:ax of v=fo (ht v+1) of v:=qfP _ _ _ _ (Nat.le_refl _) (Nat.le_succ _);rw [e,fo,eX (f:=bZ (fo (ht v)) of) (g:=bZ ax of) fun m hm=>qdb (fun of x hx=>qfP _ _ of x (by have:=qaQ hm;omega) (Nat.le_refl _)) of]
