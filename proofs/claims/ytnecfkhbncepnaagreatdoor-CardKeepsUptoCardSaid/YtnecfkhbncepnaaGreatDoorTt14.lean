/- Merged: RaMem CdPl CdPl2 CdPl3. -/
import Derived.Test.YtnecfkhbncepnaaGreatDoorTt12
import Derived.Deep.Slices
import Derived.SizedLaws
namespace Go.Proofs.YtnecfkhbncepnaaGreatDoor
namespace Re
open Go.RowKit Go.ChangeShapes Go.WideShapes Go.Deep Utf Sc
mutual
/-- In w the five cells cs read as the value v; what it holds lies in blocks from lo on, below hi, wherever in them. -/
def RdA (w:World) (lo hi:Nat):V→List Value→Prop
 | .mk k n s l ns ms,cs=>∃ (A:Option Addr) (c:Nat) (A2:Option Addr) (c2:Nat),cs=[.int .i64 k,.int .i64 n,.string (aa s),.slice A l.length (l.length+c),.slice A2 ms.length (ms.length+c2)]∧ns.length=ms.length∧
   (0<l.length→∃ g o,A=some ⟨g,o,none⟩∧lo≤g∧g<hi∧bC w lo hi g o l)∧(0<ms.length→∃ g o,A2=some ⟨g,o,none⟩∧lo≤g∧g<hi∧bA w lo hi g o ns ms)
def bC (w:World) (lo hi:Nat):Nat→Nat→List V→Prop
 | _,_,[]=>True
 | g,o,v::r=>(∃ cs,(∀ j u,cs[j]? = some u→w.cell? ⟨g,o+j,none⟩=some u)∧RdA w lo hi v cs)∧bC w lo hi g (o+5) r
def bA (w:World) (lo hi:Nat):Nat→Nat→List (List UInt8)→List V→Prop
 | _,_,_,[]=>True
 | g,o,ns,v::r=>∃ nm ns',ns=nm::ns'∧w.cell? ⟨g,o,none⟩=some (.string (aa nm))∧(∃ cs,(∀ j u,cs[j]? = some u→w.cell? ⟨g,o+1+j,none⟩=some u)∧RdA w lo hi v cs)∧bA w lo hi g (o+6) ns' r
end
section
variable {w w':World} {lo hi lo' hi':Nat}
mutual
theorem RdA.keep (hk:∀ p:Addr,lo≤p.block→p.block<hi→w'.cell? p=w.cell? p) (h1:lo'≤lo) (h2:hi≤hi'):∀ (v:V) (cs:List Value),RdA w lo hi v cs→RdA w' lo' hi' v cs
 | .mk k n s l ns ms,cs,h=>by
  rw [RdA] at h ⊢;obtain ⟨A,c,A2,c2,rfl,hn,ha,hb⟩:=h;refine ⟨A,c,A2,c2,rfl,hn,fun h0=>?_,fun h0=>?_⟩
  ·obtain ⟨g,o,e,g1,g2,h⟩:=ha h0;exact ⟨g,o,e,by omega,by omega,bC.keep hk h1 h2 l g o g1 g2 h⟩
  ·obtain ⟨g,o,e,g1,g2,h⟩:=hb h0;exact ⟨g,o,e,by omega,by omega,bA.keep hk h1 h2 ms ns g o g1 g2 h⟩
theorem bC.keep (hk:∀ p:Addr,lo≤p.block→p.block<hi→w'.cell? p=w.cell? p) (h1:lo'≤lo) (h2:hi≤hi'):∀ (l:List V) (g o:Nat),lo≤g→g<hi→bC w lo hi g o l→bC w' lo' hi' g o l
 | [],g,o,_,_,_=>by rw [bC];trivial
 | v::r,g,o,g1,g2,h=>by
  rw [bC] at h ⊢;obtain ⟨⟨cs,hc,hv⟩,hr⟩:=h;exact ⟨⟨cs,fun j u hu=>(hk ⟨g,o+j,none⟩ g1 g2).trans (hc j u hu),RdA.keep hk h1 h2 v cs hv⟩,bC.keep hk h1 h2 r g (o+5) g1 g2 hr⟩
theorem bA.keep (hk:∀ p:Addr,lo≤p.block→p.block<hi→w'.cell? p=w.cell? p) (h1:lo'≤lo) (h2:hi≤hi'):∀ (ms:List V) (ns:List (List UInt8)) (g o:Nat),lo≤g→g<hi→bA w lo hi g o ns ms→bA w' lo' hi' g o ns ms
 | [],ns,g,o,_,_,_=>by rw [bA];trivial
 | v::r,ns,g,o,g1,g2,h=>by
  rw [bA] at h ⊢;obtain ⟨nm,ns',rfl,hm,⟨cs,hc,hv⟩,hr⟩:=h;exact ⟨nm,ns',rfl,(hk ⟨g,o,none⟩ g1 g2).trans hm,⟨cs,fun j u hu=>(hk ⟨g,o+1+j,none⟩ g1 g2).trans (hc j u hu),RdA.keep hk h1 h2 v cs hv⟩,bA.keep hk h1 h2 r ns' g (o+6) g1 g2 hr⟩
end
theorem RdA.below {B:Nat} {v:V} {cs:List Value} (h:RdA w lo hi v cs) (hb:Below B w w') (hB:hi≤B) (hh:hi≤hi'):RdA w' lo hi' v cs:=
 RdA.keep (fun p _ hp=>hb.cell (by omega)) (Nat.le_refl _) hh v cs h
mutual
/-- what is in new memory is in a caller's -/
theorem RdA.of_RdV:∀ (v:V) (cs:List Value),RdV w lo hi v cs→RdA w lo hi v cs
 | .mk k n s l ns ms,cs,h=>by
  rw [RdV] at h;rw [RdA];obtain ⟨vl,vm,rfl,⟨A,c,rfl,ha⟩,⟨A2,c2,rfl,hn,hb⟩⟩:=h;refine ⟨A,c,A2,c2,rfl,hn,fun h0=>?_,fun h0=>?_⟩
  ·obtain ⟨g,e,g1,g2,h⟩:=ha h0;exact ⟨g,0,e,g1,g2,by have:=bC.of_RdL l g 0 h;simpa using this⟩
  ·obtain ⟨g,e,g1,g2,h⟩:=hb h0;exact ⟨g,0,e,g1,g2,by have:=bA.of_RdM ms ns g 0 h;simpa using this⟩
theorem bC.of_RdL:∀ (l:List V) (g i:Nat),RdL w lo hi g i l→bC w lo hi g (i*5) l
 | [],g,i,_=>by rw [bC];trivial
 | v::r,g,i,h=>by
  rw [RdL] at h;rw [bC];obtain ⟨⟨cs,hc,hv⟩,hr⟩:=h;refine ⟨⟨cs,hc,RdA.of_RdV v cs hv⟩,?_⟩;have:=bC.of_RdL r g (i+1) hr;rwa [show (i+1)*5=i*5+5 by omega] at this
theorem bA.of_RdM:∀ (ms:List V) (ns:List (List UInt8)) (g i:Nat),RdM w lo hi g i ns ms→bA w lo hi g (i*6) ns ms
 | [],ns,g,i,_=>by rw [bA];trivial
 | v::r,ns,g,i,h=>by
  rw [RdM] at h;rw [bA];obtain ⟨nm,ns',rfl,hm,⟨cs,hc,hv⟩,hr⟩:=h;refine ⟨nm,ns',rfl,hm,⟨cs,hc,RdA.of_RdV v cs hv⟩,?_⟩;have:=bA.of_RdM r ns' g (i+1) hr;rwa [show (i+1)*6=i*6+6 by omega] at this
end
theorem RdA.cells {v:V} {cs:List Value} (h:RdA w lo hi v cs):∃ A c A2 c2,cs=[.int .i64 v.k,.int .i64 v.n,.string (aa v.s),.slice A v.l.length c,.slice A2 v.ms.length c2]∧v.ns.length=v.ms.length∧
  (0<v.l.length→∃ g o,A=some ⟨g,o,none⟩∧lo≤g∧g<hi∧bC w lo hi g o v.l)∧(0<v.ms.length→∃ g o,A2=some ⟨g,o,none⟩∧lo≤g∧g<hi∧bA w lo hi g o v.ns v.ms):=by
 obtain ⟨k,n,s,l,ns,ms⟩:=v;rw [RdA] at h;obtain ⟨A,c,A2,c2,h⟩:=h;exact ⟨A,_,A2,_,h⟩
theorem bC.at_ {g:Nat}:∀ (l:List V) (o:Nat),bC w lo hi g o l→∀ k (hk:k<l.length),∃ cs,(∀ j u,cs[j]? = some u→w.cell? ⟨g,o+k*5+j,none⟩=some u)∧RdA w lo hi l[k] cs:=by
 intro l;induction l with
 | nil=>intro o _ k hk;simp at hk
 | cons v r ih=>
  intro o h k hk;rw [bC] at h;cases k with
  | zero=>simpa using h.1
  | succ k=>
   obtain ⟨cs,h1,h2⟩:=ih (o+5) h.2 k (by simpa using hk);exact ⟨cs,fun j u hu=>by rw [show o+(k+1)*5+j=o+5+k*5+j by omega];exact h1 j u hu,h2⟩
theorem bA.at_ {g:Nat}:∀ (ms:List V) (ns:List (List UInt8)) (o:Nat),bA w lo hi g o ns ms→∀ k (hk:k<ms.length) (hn:k<ns.length),w.cell? ⟨g,o+k*6,none⟩=some (.string (aa ns[k]))∧∃ cs,(∀ j u,cs[j]? = some u→w.cell? ⟨g,o+k*6+1+j,none⟩=some u)∧RdA w lo hi ms[k] cs:=by
 intro ms;induction ms with
 | nil=>intro ns o _ k hk;simp at hk
 | cons v r ih=>
  intro ns o h k hk hn;rw [bA] at h;obtain ⟨nm,ns',rfl,hm,hv,hr⟩:=h;cases k with
  | zero=>exact ⟨by simpa using hm,by simpa using hv⟩
  | succ k=>
   obtain ⟨h0,cs,h1,h2⟩:=ih ns' (o+6) hr k (by simpa using hk) (by simpa using hn);exact ⟨by rw [show o+(k+1)*6=o+6+k*6 by omega];exact h0,cs,fun j u hu=>by rw [show o+(k+1)*6+1+j=o+6+k*6+1+j by omega];exact h1 j u hu,h2⟩
end
end Re
namespace Cd
open Go.RowKit Utf Nu Wo Sm
open Re (V ht htL bn mpV V0)
def cJ:List UInt8:=[64,116,121,112,101]
def cn:List UInt8:=[107,105,110,100]
def bv:List UInt8:=[109,101,109,98,101,114,115]
def cj:List UInt8:=[103,114,111,117,112]
def qip:List UInt8:=[121,101,97,114]
def qek:List UInt8:=[109,111,110,116,104]
def qoZ:List UInt8:=[100,97,121]
def mem (v:V):List (List UInt8×V):=v.ns.zip v.ms
def fst (l:List (List UInt8×V)) (n:List UInt8):Option V:=(l.find? fun m=>decide (m.1=n)).map Prod.snd
def isT (v:V) (a b:Nat):Bool:=decide (v.k=4∧a≤v.s.length∧v.s.length≤b)
def btw (v:V) (a b:Int):Bool:=decide (v.k=3∧a≤v.n∧v.n≤b)
def qiQ (v:V):Bool:=decide (v.k=2∧v.n=1)
def bU (n:List UInt8):Bool:=decide (1≤n.length∧n.length≤255)
def gt (v:V) (n:List UInt8):Option V:=if v.k=6 then fst (mem v) n else none
def qak (x:V) (s:List UInt8):Bool:=decide (x.k=4∧x.s=s)
def qgB (v:V):Bool:=match gt v cJ with
 | some t=>qak t dF
 | none=>false
def bK (v:V):List UInt8:=if qgB v then dF else qdT
def prt (v:V) (nm:List UInt8) (a b:Int):Bool:=match gt v nm with
 | some x=>decide (a≤x.n∧x.n≤b)
 | none=>true
def qee (O:List UInt8→V→Bool) (fm:Int) (ar:List UInt8) (v:V):Bool:=
 if fm=1 then isT v 0 1024
 else if fm=2 then isT v 0 1024&&bU v.s
 else if fm=3 then decide (v.k=2)
 else if fm=4 then decide (v.k=3∧0≤v.n)
 else if fm=5 then btw v 1 100
 else if fm=6 then isT v 0 1024&&Id.isL v.s
 else if fm=7 then isT v 0 1024&&decide (St.cA v.s)
 else if fm=8 then isT v 0 1024&&qdS v.s
 else if fm=9 then isT v 0 1024&&dG v.s
 else if fm=10 then isT v 0 1024&&eV v.s
 else if fm=11 then isT v 0 1024&&inS ar v.s
 else if fm=12 then O ar v
 else if fm=13 then decide (v.k=5)&&v.l.all (O ar)
 else if fm=14 then decide (v.k=6)&&(mem v).all fun m=>Id.isL m.1&&O ar m.2
 else if fm=15 then decide (v.k=6)&&(mem v).all fun m=>bU m.1&&O ar m.2
 else if fm=16 then decide (v.k=6)&&(mem v).all fun m=>bU m.1&&qiQ m.2
 else if fm=17 then decide (v.k=6)&&(mem v).all fun m=>inS ar m.1&&qiQ m.2
 else if fm=18 then O (bK v) v&&prt v qip 0 9999&&prt v qek 1 12&&prt v qoZ 1 31
 else false
def cY (O:List UInt8→V→Bool) (of:List UInt8) (m:List UInt8×V):Bool:=
 if m.1=cJ then decide (m.2.k=4∧m.2.s=of)
 else match cX (af of) m.1 with
  | some p=>qee O p.fm p.ar m.2
  | none=>qjJ m.1
def qfm (of:List UInt8) (ns:List (List UInt8)):Bool:=(af of).all fun p=> !p.mu || ns.contains p.nm
def qeS:Nat→List UInt8→V→Bool
 | 0,_,_=>false
 | f+1,of,v=>decide (v.k=6)&&decide (af of≠[])&&(mem v).all (cY (qeS f) of)&&qfm of v.ns
def aI (of:List UInt8) (v:V):Bool:=qeS (ht v) of v
def dD (v:V) (n:List UInt8):Bool:=
 if v.k=6 then
  (mem v).any (fun m=>decide (m.1=n)&& !cY aI nm0 m) || (af nm0).any (fun p=>p.mu&&decide (p.nm=n)&& !v.ns.contains n) ||
   (decide (n=bv)&&v.ns.contains n&& !(match fst (mem v) cn with | some t=>decide (t.k=4∧t.s=cj) | none=>false))
 else decide (n=cJ)
theorem qq4 {v x:V} (h:x∈v.l):ht x<ht v:=by
 obtain ⟨k,n,s,l,ns,ms⟩:=v;have:=bn (show x∈l from h);rw [ht];omega
theorem qdm {v x:V} (h:x∈v.ms):ht x<ht v:=by
 obtain ⟨k,n,s,l,ns,ms⟩:=v;have:=bn (show x∈ms from h);rw [ht];omega
theorem qrd {v:V} {m:List UInt8×V} (h:m∈mem v):m.2∈v.ms:=(List.of_mem_zip (a:=m.1) (b:=m.2) h).2
theorem qkQ {v:V} {m:List UInt8×V} (h:m∈mem v):m.1∈v.ns:=(List.of_mem_zip (a:=m.1) (b:=m.2) h).1
theorem qaK {v:V} {m:List UInt8×V} (h:m∈mem v):ht m.2<ht v:=qdm (qrd h)
theorem qf3 (v:V):0<ht v:=by obtain ⟨k,n,s,l,ns,ms⟩:=v;rw [ht];omega
theorem dZ {α : Type} {l:List α} {p q : α →Bool} (h:∀ x∈l,p x=q x):l.all p=l.all q:=by
 induction l with
 | nil=>rfl
 | cons a r ih=>rw [List.all_cons,List.all_cons,h a List.mem_cons_self,ih fun x hx=>h x (List.mem_cons_of_mem _ hx)]
theorem qjB {O O':List UInt8→V→Bool} {v:V} (h:∀ of x,ht x≤ht v→O of x=O' of x) (fm:Int) (ar:List UInt8):qee O fm ar v=qee O' fm ar v:=by
 have h13:v.l.all (O ar)=v.l.all (O' ar):=dZ fun x hx=>h ar x (Nat.le_of_lt (qq4 hx));have h14:((mem v).all fun m=>Id.isL m.1&&O ar m.2)=(mem v).all fun m=>Id.isL m.1&&O' ar m.2:=dZ fun m hm=>by rw [h ar m.2 (Nat.le_of_lt (qaK hm))]
 have h15:((mem v).all fun m=>bU m.1&&O ar m.2)=(mem v).all fun m=>bU m.1&&O' ar m.2:=dZ fun m hm=>by rw [h ar m.2 (Nat.le_of_lt (qaK hm))]
 unfold qee;rw [h13,h14,h15,h ar v (Nat.le_refl _),h (bK v) v (Nat.le_refl _)]
theorem qfr {O O':List UInt8→V→Bool} {m:List UInt8×V} (h:∀ of x,ht x≤ht m.2→O of x=O' of x) (of:List UInt8):cY O of m=cY O' of m:=by
 unfold cY;split
 ·rfl
 ·split
  ·exact qjB h _ _
  ·rfl
theorem qhu:∀ (f f':Nat) (of:List UInt8) (v:V),ht v≤f→ht v≤f'→qeS f of v=qeS f' of v:=by
 intro f;induction f with
 | zero=>intro f' of v h;have:=qf3 v;omega
 | succ f ih=>
  intro f' of v h h';cases f' with
  | zero=>have:=qf3 v;omega
  | succ f'=>
   rw [qeS,qeS,dZ (p:=cY (qeS f) of) (q:=cY (qeS f') of) fun m hm=>qfr (fun of x hx=>ih f' of x (by have:=qaK hm;omega) (by have:=qaK hm;omega)) of]
theorem qhj (of:List UInt8) (v:V):aI of v=(decide (v.k=6)&&decide (af of≠[])&&(mem v).all (cY aI of)&&qfm of v.ns):=by
 have e:aI of v=qeS (ht v+1) of v:=qhu _ _ _ _ (Nat.le_refl _) (Nat.le_succ _);rw [e,qeS,dZ (p:=cY (qeS (ht v)) of) (q:=cY aI of) fun m hm=>qfr (fun of x hx=>qhu _ _ of x (by have:=qaK hm;omega) (Nat.le_refl _)) of]
theorem qoI {v:V} (h:∀ n,dD v n=false):v.k=6∧(∀ m∈mem v,cY aI nm0 m=true)∧(∀ p∈af nm0,p.mu=true→p.nm∈v.ns)∧
  (bv∈v.ns→∃ t,fst (mem v) cn=some t∧t.k=4∧t.s=cj):=by
 have hk:v.k=6:=by
  by_cases hk:v.k=6
  ·exact hk
  ·have:=h cJ;unfold dD at this;rw [if_neg hk] at this;exact absurd this (by simp)
 have hb:∀ n,(mem v).any (fun m=>decide (m.1=n)&& !cY aI nm0 m)=false∧(af nm0).any (fun p=>p.mu&&decide (p.nm=n)&& !v.ns.contains n)=false∧
   (decide (n=bv)&&v.ns.contains n&& !(match fst (mem v) cn with | some t=>decide (t.k=4∧t.s=cj) | none=>false))=false:=fun n=>by
  have:=h n;unfold dD at this;rw [if_pos hk,Bool.or_eq_false_iff,Bool.or_eq_false_iff] at this;exact ⟨this.1.1,this.1.2,this.2⟩
 refine ⟨hk,fun m hm=>?_,fun p hp hmu=>?_,fun hmem=>?_⟩
 ·have:=List.any_eq_false.1 (hb m.1).1 m hm
  simpa using this
 ·have:=List.any_eq_false.1 (hb p.nm).2.1 p hp
  simpa [hmu] using this
 ·have:=(hb bv).2.2;cases hf:fst (mem v) cn with
  | none=>rw [hf] at this;simp [hmem] at this
  | some t=>
   rw [hf] at this;simp [hmem] at this;exact ⟨t,rfl,this.1,this.2⟩
def qt6 (l:List (List UInt8×V)) (ns:List (List UInt8)):Prop:=bv∈ns∧¬ ∃ t,fst l cn=some t∧t.k=4∧t.s=cj
theorem qfW {v:V} (hk:v.k=6) (n:List UInt8):dD v n=true↔(∃ m∈mem v,m.1=n∧cY aI nm0 m=false)∨(∃ p∈af nm0,p.mu=true∧p.nm=n∧n∉v.ns)∨(n=bv∧qt6 (mem v) v.ns):=by
 unfold dD;rw [if_pos hk,Bool.or_eq_true,Bool.or_eq_true,or_assoc];refine or_congr ?_ (or_congr ?_ ?_)
 ·rw [List.any_eq_true];refine exists_congr fun m=>and_congr_right fun _=>?_;simp
 ·rw [List.any_eq_true];refine exists_congr fun m=>and_congr_right fun _=>?_;simp [and_assoc]
 ·unfold qt6;cases hf:fst (mem v) cn with
  | none=>
   simp only [Bool.and_eq_true,decide_eq_true_eq,List.contains_iff_mem];constructor
   ·rintro ⟨⟨rfl,h⟩,_⟩;exact ⟨rfl,h,by rintro ⟨t,h1,_⟩;cases h1⟩
   ·rintro ⟨rfl,h,_⟩;exact ⟨⟨rfl,h⟩,rfl⟩
  | some t=>
   simp only [Bool.and_eq_true,decide_eq_true_eq,List.contains_iff_mem,Bool.not_eq_true',decide_eq_false_iff_not];constructor
   ·rintro ⟨⟨rfl,h⟩,h2⟩;exact ⟨rfl,h,by rintro ⟨t',h1,h3⟩;injection h1 with h1;subst h1;exact h2 h3⟩
   ·rintro ⟨rfl,h,h2⟩;exact ⟨⟨rfl,h⟩,fun h3=>h2 ⟨t,rfl,h3⟩⟩
theorem qm4 {ps:List (List UInt8)} (h:∀ n,n∉ps):ps=[]:=List.eq_nil_iff_forall_not_mem.2 h
end Cd
namespace Cd
open Go.RowKit Utf Nu Wo Sm
open Re (V ht htL bn mpV V0)
open Em (szU aL)
def qaJ (p:Pr) (x:V):Bool:=if p.df=[] then false else if p.fm=3 then decide (x.n=0) else decide (x.s=p.df)
def bQ (N:List UInt8→V→V) (p:Pr) (x:V):V:=
 if p.fm=12 then N p.ar x
 else if p.fm=18 then N (bK x) x
 else if p.fm=13 then .mk x.k x.n x.s (x.l.map (N p.ar)) x.ns x.ms
 else if p.fm=14∨p.fm=15 then .mk x.k x.n x.s x.l x.ns (x.ms.map (N p.ar))
 else x
def qbV (of n:List UInt8):Pr:=(cX (af of) n).getD Pr.zero
def bP (N:List UInt8→V→V) (of:List UInt8) (m:List UInt8×V):Option (List UInt8×V):=
 if (m.1=cJ∧of≠dF)∨qaJ (qbV of m.1) m.2=true then none else some (m.1,bQ N (qbV of m.1) m.2)
def dJ:Nat→List UInt8→V→V
 | 0,_,v=>v
 | f+1,of,v=> .mk v.k v.n v.s v.l (((mem v).filterMap (bP (dJ f) of)).map Prod.fst) (((mem v).filterMap (bP (dJ f) of)).map Prod.snd)
def qbN (v:V):Bool:=aI nm0 v&&(!v.ns.contains bv || (match fst (mem v) cn with | some t=>decide (t.k=4∧t.s=cj) | none=>false))
def dT (v v1:V):V:=if qbN v then dJ (ht v1) nm0 v1 else v1
theorem qs5:af nm0≠[]:=by decide +kernel
theorem qig (v:V):qbN v=true↔∀ n,dD v n=false:=by
 unfold qbN;rw [qhj];constructor
 ·intro h n;simp only [Bool.and_eq_true,decide_eq_true_eq,List.all_eq_true] at h;obtain ⟨⟨⟨⟨hk, -⟩,hm⟩,hmu⟩,hg⟩:=h;rw [←Bool.not_eq_true,qfW hk];rintro (⟨m,h1, -,h2⟩ | ⟨p,h1,h2,h3,h4⟩ | ⟨-,h1,h2⟩)
  ·rw [hm m h1] at h2;cases h2
  ·unfold qfm at hmu;have:=List.all_eq_true.1 hmu p h1;rw [h2,h3] at this;exact h4 (by simpa using this)
  ·cases hf:fst (mem v) cn with
   | none=>rw [hf] at hg;simp [h1] at hg
   | some t=>
    rw [hf] at hg h2;simp [h1] at hg;exact h2 ⟨t,rfl,hg⟩
 ·intro h;obtain ⟨h1,h2,h3,h4⟩:=qoI h;simp only [Bool.and_eq_true,decide_eq_true_eq,List.all_eq_true];refine ⟨⟨⟨⟨h1,qs5⟩,h2⟩,?_⟩,?_⟩
  ·unfold qfm;rw [List.all_eq_true];intro p hp;cases hm:p.mu with
   | false=>rfl
   | true=>simpa using h3 p hp hm
  ·by_cases hx:bv∈v.ns
   ·obtain ⟨t,e,e2⟩:=h4 hx;rw [e];simp [e2]
   ·simp [hx]
def wgt (m:List UInt8×V):Nat:=1+m.1.length+szU m.2
theorem qrb (P:List (List UInt8×V)):((P.map Prod.fst).map fun x=>1+x.length).sum+aL (P.map Prod.snd)=(P.map wgt).sum:=by
 induction P with
 | nil=>rfl
 | cons a r ih=>
  simp only [List.map_cons,List.sum_cons,aL] at ih ⊢;unfold wgt at ih ⊢;omega
theorem qdB:∀ (ns:List (List UInt8)) (ms:List V),((ns.zip ms).map wgt).sum≤(ns.map fun x=>1+x.length).sum+aL ms
 | [],_=>by simp
 | _::_,[]=>by simp
 | n::ns,m::ms=>by
  have:=qdB ns ms;simp only [List.zip_cons_cons,List.map_cons,List.sum_cons,aL] at this ⊢;have e:wgt (n,m)=1+n.length+szU m:=rfl;omega
theorem qqX (v:V):1+v.s.length+aL v.l+((mem v).map wgt).sum≤szU v:=by
 obtain ⟨k,n,s,l,ns,ms⟩:=v;have:=qdB ns ms;rw [szU];show 1+s.length+aL l+((ns.zip ms).map wgt).sum≤_;omega
theorem qbl {f:List UInt8×V→Option (List UInt8×V)}:∀ P:List (List UInt8×V),(∀ m∈P,∀ m',f m=some m'→wgt m'≤wgt m)→((P.filterMap f).map wgt).sum≤(P.map wgt).sum
 | [],_=>by simp
 | a::r,h=>by
  have ih:=qbl r fun m hm=>h m (List.mem_cons_of_mem _ hm);rw [List.filterMap_cons];cases hf:f a with
  | none=>simp only [List.map_cons,List.sum_cons];omega
  | some b=>
   have:=h a List.mem_cons_self b hf;simp only [List.map_cons,List.sum_cons];omega
theorem qkc {N:V→V} (h:∀ x,szU (N x)≤szU x) (l:List V):aL (l.map N)≤aL l:=by
 induction l with
 | nil=>simp
 | cons a r ih=>rw [List.map_cons,aL,aL];have:=h a;omega
theorem qok {N:List UInt8→V→V} (h:∀ of x,szU (N of x)≤szU x) (p:Pr) (x:V):szU (bQ N p x)≤szU x:=by
 unfold bQ;split
 ·exact h _ _
 ·split
  ·exact h _ _
  ·split
   ·obtain ⟨k,n,s,l,ns,ms⟩:=x;rw [szU,szU];have h1:=qkc (h p.ar) l;show 1+s.length+aL (l.map (N p.ar))+(ns.map fun x=>1+x.length).sum+aL ms≤_;omega
   ·split
    ·obtain ⟨k,n,s,l,ns,ms⟩:=x;rw [szU,szU];have h1:=qkc (h p.ar) ms;show 1+s.length+aL l+(ns.map fun x=>1+x.length).sum+aL (ms.map (N p.ar))≤_;omega
    ·exact Nat.le_refl _
theorem qoj:∀ (f:Nat) (of:List UInt8) (v:V),szU (dJ f of v)≤szU v:=by
 intro f;induction f with
 | zero=>intro of v;exact Nat.le_refl _
 | succ f ih=>
  intro of v;rw [dJ,szU,Nat.add_assoc,qrb];have h1:=qbl (f:=bP (dJ f) of) (mem v) fun m hm m' he=>by
   unfold bP at he;split at he
   ·cases he
   ·injection he with he
    subst he;unfold wgt;have:=qok ih (qbV of m.1) m.2;simp only;omega
  have h2:=qqX v;omega
theorem qpb (v v1:V):szU (dT v v1)≤szU v1:=by
 unfold dT;split
 ·exact qoj _ _ _
 ·exact Nat.le_refl _
theorem qhk {N N':List UInt8→V→V} {x:V} (h:∀ of y,ht y≤ht x→N of y=N' of y) (p:Pr):bQ N p x=bQ N' p x:=by
 unfold bQ;rw [h p.ar x (Nat.le_refl _),h (bK x) x (Nat.le_refl _),List.map_congr_left (f:=N p.ar) (g:=N' p.ar) fun y hy=>h p.ar y (Nat.le_of_lt (qq4 hy)),List.map_congr_left (f:=N p.ar) (g:=N' p.ar) (l:=x.ms) fun y hy=>h p.ar y (Nat.le_of_lt (qdm hy))]
theorem qdc {N N':List UInt8→V→V} {m:List UInt8×V} (h:∀ of y,ht y≤ht m.2→N of y=N' of y) (of:List UInt8):bP N of m=bP N' of m:=by
 unfold bP;rw [qhk h]
theorem eJ {α β : Type} {l:List α} {f g : α →Option β} (h:∀ x∈l,f x=g x):l.filterMap f=l.filterMap g:=by
 induction l with
 | nil=>rfl
 | cons a r ih=>rw [List.filterMap_cons,List.filterMap_cons,h a List.mem_cons_self,ih fun x hx=>h x (List.mem_cons_of_mem _ hx)]
theorem qfA:∀ (f f':Nat) (of:List UInt8) (v:V),ht v≤f→ht v≤f'→dJ f of v=dJ f' of v:=by
 intro f;induction f with
 | zero=>intro f' of v h;have:=qf3 v;omega
 | succ f ih=>
  intro f' of v h h';cases f' with
  | zero=>have:=qf3 v;omega
  | succ f'=>
   rw [dJ,dJ,eJ (f:=bP (dJ f) of) (g:=bP (dJ f') of) fun m hm=>qdc (fun of x hx=>ih f' of x (by have:=qaK hm;omega) (by have:=qaK hm;omega)) of]
def aw (of:List UInt8) (v:V):V:=dJ (ht v) of v
theorem qqa (of:List UInt8) (v:V):aw of v = .mk v.k v.n v.s v.l (((mem v).filterMap (bP aw of)).map Prod.fst) (((mem v).filterMap (bP aw of)).map Prod.snd):=by
 have e:aw of v=dJ (ht v+1) of v:=qfA _ _ _ _ (Nat.le_refl _) (Nat.le_succ _);rw [e,dJ,eJ (f:=bP (dJ (ht v)) of) (g:=bP aw of) fun m hm=>qdc (fun of x hx=>qfA _ _ of x (by have:=qaK hm;omega) (Nat.le_refl _)) of]
