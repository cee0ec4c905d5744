/- Merged: RaMem. -/
import Derived.Test.YtofelafamfckiaaGreatDoorTt7
import Derived.Deep.Slices
import Derived.SizedLaws
namespace Go.Proofs.YtofelafamfckiaaGreatDoor
namespace Re
open Go.RowKit Go.ChangeShapes Go.WideShapes Go.Deep Utf Sc
mutual
/-- In w the five cells cs read as the value v; what it holds lies in blocks from lo on, below hi, wherever in them. -/
def RdA (w:World) (lo hi:Nat):V→List Value→Prop
 | .mk k n s l ns ms,cs=>∃ (A:Option Addr) (c:Nat) (A2:Option Addr) (c2:Nat),cs=[.int .i64 k,.int .i64 n,.string (ae s),.slice A l.length (l.length+c),.slice A2 ms.length (ms.length+c2)]∧ns.length=ms.length∧
   (0<l.length→∃ g o,A=some ⟨g,o,none⟩∧lo≤g∧g<hi∧aN w lo hi g o l)∧(0<ms.length→∃ g o,A2=some ⟨g,o,none⟩∧lo≤g∧g<hi∧aL w lo hi g o ns ms)
def aN (w:World) (lo hi:Nat):Nat→Nat→List V→Prop
 | _,_,[]=>True
 | g,o,v::r=>(∃ cs,(∀ j u,cs[j]? = some u→w.cell? ⟨g,o+j,none⟩=some u)∧RdA w lo hi v cs)∧aN w lo hi g (o+5) r
def aL (w:World) (lo hi:Nat):Nat→Nat→List (List UInt8)→List V→Prop
 | _,_,_,[]=>True
 | g,o,ns,v::r=>∃ nm ns',ns=nm::ns'∧w.cell? ⟨g,o,none⟩=some (.string (ae nm))∧(∃ cs,(∀ j u,cs[j]? = some u→w.cell? ⟨g,o+1+j,none⟩=some u)∧RdA w lo hi v cs)∧aL w lo hi g (o+6) ns' r
end
section
variable {w w':World} {lo hi lo' hi':Nat}
mutual
theorem RdA.keep (hk:∀ p:Addr,lo≤p.block→p.block<hi→w'.cell? p=w.cell? p) (h1:lo'≤lo) (h2:hi≤hi'):∀ (v:V) (cs:List Value),RdA w lo hi v cs→RdA w' lo' hi' v cs
 | .mk k n s l ns ms,cs,h=>by
  rw [RdA] at h ⊢;obtain ⟨A,c,A2,c2,rfl,hn,ha,hb⟩:=h;refine ⟨A,c,A2,c2,rfl,hn,fun h0=>?_,fun h0=>?_⟩
  ·obtain ⟨g,o,e,g1,g2,h⟩:=ha h0;exact ⟨g,o,e,by omega,by omega,aN.keep hk h1 h2 l g o g1 g2 h⟩
  ·obtain ⟨g,o,e,g1,g2,h⟩:=hb h0;exact ⟨g,o,e,by omega,by omega,aL.keep hk h1 h2 ms ns g o g1 g2 h⟩
theorem aN.keep (hk:∀ p:Addr,lo≤p.block→p.block<hi→w'.cell? p=w.cell? p) (h1:lo'≤lo) (h2:hi≤hi'):∀ (l:List V) (g o:Nat),lo≤g→g<hi→aN w lo hi g o l→aN w' lo' hi' g o l
 | [],g,o,_,_,_=>by rw [aN];trivial
 | v::r,g,o,g1,g2,h=>by
  rw [aN] at h ⊢;obtain ⟨⟨cs,hc,hv⟩,hr⟩:=h;exact ⟨⟨cs,fun j u hu=>(hk ⟨g,o+j,none⟩ g1 g2).trans (hc j u hu),RdA.keep hk h1 h2 v cs hv⟩,aN.keep hk h1 h2 r g (o+5) g1 g2 hr⟩
theorem aL.keep (hk:∀ p:Addr,lo≤p.block→p.block<hi→w'.cell? p=w.cell? p) (h1:lo'≤lo) (h2:hi≤hi'):∀ (ms:List V) (ns:List (List UInt8)) (g o:Nat),lo≤g→g<hi→aL w lo hi g o ns ms→aL w' lo' hi' g o ns ms
 | [],ns,g,o,_,_,_=>by rw [aL];trivial
 | v::r,ns,g,o,g1,g2,h=>by
  rw [aL] at h ⊢;obtain ⟨nm,ns',rfl,hm,⟨cs,hc,hv⟩,hr⟩:=h;exact ⟨nm,ns',rfl,(hk ⟨g,o,none⟩ g1 g2).trans hm,⟨cs,fun j u hu=>(hk ⟨g,o+1+j,none⟩ g1 g2).trans (hc j u hu),RdA.keep hk h1 h2 v cs hv⟩,aL.keep hk h1 h2 r ns' g (o+6) g1 g2 hr⟩
end
theorem RdA.below {B:Nat} {v:V} {cs:List Value} (h:RdA w lo hi v cs) (hb:Below B w w') (hB:hi≤B) (hh:hi≤hi'):RdA w' lo hi' v cs:=
 RdA.keep (fun p _ hp=>hb.cell (by omega)) (Nat.le_refl _) hh v cs h
mutual
/-- what is in new memory is in a caller's -/
theorem RdA.of_RdV:∀ (v:V) (cs:List Value),RdV w lo hi v cs→RdA w lo hi v cs
 | .mk k n s l ns ms,cs,h=>by
  rw [RdV] at h;rw [RdA];obtain ⟨vl,vm,rfl,⟨A,c,rfl,ha⟩,⟨A2,c2,rfl,hn,hb⟩⟩:=h;refine ⟨A,c,A2,c2,rfl,hn,fun h0=>?_,fun h0=>?_⟩
  ·obtain ⟨g,e,g1,g2,h⟩:=ha h0;exact ⟨g,0,e,g1,g2,by have:=aN.of_RdL l g 0 h;simpa using this⟩
  ·obtain ⟨g,e,g1,g2,h⟩:=hb h0;exact ⟨g,0,e,g1,g2,by have:=aL.of_RdM ms ns g 0 h;simpa using this⟩
theorem aN.of_RdL:∀ (l:List V) (g i:Nat),RdL w lo hi g i l→aN w lo hi g (i*5) l
 | [],g,i,_=>by rw [aN];trivial
 | v::r,g,i,h=>by
  rw [RdL] at h;rw [aN];obtain ⟨⟨cs,hc,hv⟩,hr⟩:=h;refine ⟨⟨cs,hc,RdA.of_RdV v cs hv⟩,?_⟩;have:=aN.of_RdL r g (i+1) hr;rwa [show (i+1)*5=i*5+5 by omega] at this
theorem aL.of_RdM:∀ (ms:List V) (ns:List (List UInt8)) (g i:Nat),RdM w lo hi g i ns ms→aL w lo hi g (i*6) ns ms
 | [],ns,g,i,_=>by rw [aL];trivial
 | v::r,ns,g,i,h=>by
  rw [RdM] at h;rw [aL];obtain ⟨nm,ns',rfl,hm,⟨cs,hc,hv⟩,hr⟩:=h;refine ⟨nm,ns',rfl,hm,⟨cs,hc,RdA.of_RdV v cs hv⟩,?_⟩;have:=aL.of_RdM r ns' g (i+1) hr;rwa [show (i+1)*6=i*6+6 by omega] at this
end
theorem RdA.cells {v:V} {cs:List Value} (h:RdA w lo hi v cs):∃ A c A2 c2,cs=[.int .i64 v.k,.int .i64 v.n,.string (ae v.s),.slice A v.l.length c,.slice A2 v.ms.length c2]∧v.ns.length=v.ms.length∧
  (0<v.l.length→∃ g o,A=some ⟨g,o,none⟩∧lo≤g∧g<hi∧aN w lo hi g o v.l)∧(0<v.ms.length→∃ g o,A2=some ⟨g,o,none⟩∧lo≤g∧g<hi∧aL w lo hi g o v.ns v.ms):=by
 obtain ⟨k,n,s,l,ns,ms⟩:=v;rw [RdA] at h;obtain ⟨A,c,A2,c2,h⟩:=h;exact ⟨A,_,A2,_,h⟩
theorem aN.at_ {g:Nat}:∀ (l:List V) (o:Nat),aN w lo hi g o l→∀ k (hk:k<l.length),∃ cs,(∀ j u,cs[j]? = some u→w.cell? ⟨g,o+k*5+j,none⟩=some u)∧RdA w lo hi l[k] cs:=by
 intro l;induction l with
 | nil=>intro o _ k hk;simp at hk
 | cons v r ih=>
  intro o h k hk;rw [aN] at h;cases k with
  | zero=>simpa using h.1
  | succ k=>
   obtain ⟨cs,h1,h2⟩:=ih (o+5) h.2 k (by simpa using hk);exact ⟨cs,fun j u hu=>by rw [show o+(k+1)*5+j=o+5+k*5+j by omega];exact h1 j u hu,h2⟩
theorem aL.at_ {g:Nat}:∀ (ms:List V) (ns:List (List UInt8)) (o:Nat),aL w lo hi g o ns ms→∀ k (hk:k<ms.length) (hn:k<ns.length),w.cell? ⟨g,o+k*6,none⟩=some (.string (ae ns[k]))∧∃ cs,(∀ j u,cs[j]? = some u→w.cell? ⟨g,o+k*6+1+j,none⟩=some u)∧RdA w lo hi ms[k] cs:=by
 intro ms;induction ms with
 | nil=>intro ns o _ k hk;simp at hk
 | cons v r ih=>
  intro ns o h k hk hn;rw [aL] at h;obtain ⟨nm,ns',rfl,hm,hv,hr⟩:=h;cases k with
  | zero=>exact ⟨by simpa using hm,by simpa using hv⟩
  | succ k=>
   obtain ⟨h0,cs,h1,h2⟩:=ih ns' (o+6) hr k (by simpa using hk) (by simpa using hn);exact ⟨by rw [show o+(k+1)*6=o+6+k*6 by omega];exact h0,cs,fun j u hu=>by rw [show o+(k+1)*6+1+j=o+6+k*6+1+j by omega];exact h1 j u hu,h2⟩
end
