/- Merged: TrS0 TrS1. -/
import Derived.Test.YtnecfkhbncepnaaGreatDoorTt1
import Derived.Shelf.SlSortCmp.KitK
import Derived.Lib.Bytealg
import Derived.Sort.LotA
import Derived.Sort.Lot0
set_option maxRecDepth 100000
set_option maxHeartbeats 1000000
namespace Go.Proofs.YtnecfkhbncepnaaGreatDoor
namespace Tr
open Go.Proofs Go.RowKit Go.Sort Go.Shelf Go.Lib Utf
structure M6 where
 nm:List UInt8
 k:Int
 n:Int
 s:ByteArray
 A:Option Addr
 l:Nat
 c:Nat
 A2:Option Addr
 m:Nat
 c2:Nat
instance:Inhabited M6:=⟨⟨[],0,0,⟨#[]⟩,none,0,0,none,0,0⟩⟩
def aj (x:M6):List Value:=[.string (aa x.nm),.int .i64 x.k,.int .i64 x.n,.string x.s,.slice x.A x.l x.c,.slice x.A2 x.m x.c2]
theorem qbS (x:M6):(aj x).length=6:=rfl
theorem qis (x:M6):∀ v∈aj x,v.oneCell'=true:=by
 intro v h;simp only [aj,List.mem_cons,List.not_mem_nil,or_false] at h;rcases h with rfl | rfl | rfl | rfl | rfl | rfl <;> rfl
def cfM (x y:M6):Int:=Lib.compareBytes x.nm y.nm
theorem qfJ:∀ a:List UInt8,Lib.compareBytes a a=0
 | []=>by simp [Lib.compareBytes]
 | x::r=>by rw [Lib.compareBytes,if_neg (UInt8.lt_irrefl x),if_neg (UInt8.lt_irrefl x)];exact qfJ r
theorem qcG:∀ a b:List UInt8,Lib.compareBytes b a = - Lib.compareBytes a b
 | [],[]=>by simp [Lib.compareBytes]
 | [],_::_=>by simp [Lib.compareBytes]
 | _::_,[]=>by simp [Lib.compareBytes]
 | x::r,y::t=>by
  rw [Lib.compareBytes,Lib.compareBytes];by_cases h1:x<y
  ·rw [if_pos h1,if_neg (UInt8.lt_asymm h1),if_pos h1];rfl
  ·by_cases h2:y<x
   ·rw [if_pos h2,if_neg h1,if_pos h2]
   ·rw [if_neg h2,if_neg h1,if_neg h1,if_neg h2];exact qcG r t
theorem qf8:∀ a b:List UInt8,Lib.compareBytes a b=0→a=b
 | [],[],_=>rfl
 | [],_::_,h=>by simp [Lib.compareBytes] at h
 | _::_,[],h=>by simp [Lib.compareBytes] at h
 | x::r,y::t,h=>by
  rw [Lib.compareBytes] at h;by_cases h1:x<y
  ·rw [if_pos h1] at h;exact absurd h (by decide)
  ·rw [if_neg h1] at h;by_cases h2:y<x
   ·rw [if_pos h2] at h;exact absurd h (by decide)
   ·rw [if_neg h2] at h;rw [UInt8.le_antisymm (UInt8.not_lt.1 h2) (UInt8.not_lt.1 h1),qf8 r t h]
theorem qbK:∀ a b c:List UInt8,Lib.compareBytes a b<0→Lib.compareBytes b c<0→Lib.compareBytes a c<0
 | [],[],_,h,_=>by simp [Lib.compareBytes] at h
 | [],_::_,[],_,h=>by simp [Lib.compareBytes] at h
 | [],_::_,_::_,_,_=>by simp [Lib.compareBytes]
 | _::_,[],_,h,_=>by simp [Lib.compareBytes] at h
 | _::_,_::_,[],_,h=>by simp [Lib.compareBytes] at h
 | x::r,y::t,z::u,h,h'=>by
  rw [Lib.compareBytes] at h h' ⊢;by_cases h1:x<y
  ·by_cases h2:y<z
   ·rw [if_pos (UInt8.lt_trans h1 h2)];decide
   ·rw [if_neg h2] at h';by_cases h3:z<y
    ·rw [if_pos h3] at h';exact absurd h' (by decide)
    ·have e:=UInt8.le_antisymm (UInt8.not_lt.1 h3) (UInt8.not_lt.1 h2);subst e;rw [if_pos h1];decide
  ·rw [if_neg h1] at h;by_cases h2:y<x
   ·rw [if_pos h2] at h;exact absurd h (by decide)
   ·rw [if_neg h2] at h;have e:=UInt8.le_antisymm (UInt8.not_lt.1 h2) (UInt8.not_lt.1 h1);subst e;by_cases h3:x<z
    ·rw [if_pos h3];decide
    ·rw [if_neg h3] at h' ⊢;by_cases h4:z<x
     ·rw [if_pos h4] at h';exact absurd h' (by decide)
     ·rw [if_neg h4] at h' ⊢;exact qbK r t u h h'
abbrev ltN (a b:List UInt8):Bool:=decide (Lib.compareBytes a b<0)
theorem cD:SWO ltN where
 irrefl x:=by unfold ltN;rw [qfJ];rfl
 trans x y z h1 h2:=by
  unfold ltN at *;exact zT (qbK x y z (of_decide_eq_true h1) (of_decide_eq_true h2))
 ntrans x y z h1 h2:=by
  unfold ltN at *;have a:=of_decide_eq_false h1;have b:=of_decide_eq_false h2;refine decide_eq_false fun h=>?_;by_cases c:Lib.compareBytes x y=0
  ·rw [qf8 x y c] at h;exact b h
  ·have a':Lib.compareBytes y x<0:=by rw [qcG];omega
   exact b (qbK y x z a' h)
theorem qng {x y:List UInt8} (h1:ltN x y=false) (h2:ltN y x=false):x=y:=by
 unfold ltN at *;have a:=of_decide_eq_false h1;have b:=of_decide_eq_false h2;rw [qcG] at b;exact qf8 x y (by omega)
theorem qsh (x y:M6):ltOf cfM x y=ltN x.nm y.nm:=rfl
theorem aK:SWO (ltOf cfM) where
 irrefl x:=cD.irrefl x.nm
 trans _ _ _ h1 h2:=cD.trans _ _ _ h1 h2
 ntrans _ _ _ h1 h2:=cD.ntrans _ _ _ h1 h2
theorem qe3 (a b:ByteArray) (w:World):Calls Tryz.prog 74 #[.string a,.string b] w fun e w'=>e = .returned (.int .i64 (Lib.compareBytes a.data.toList b.data.toList))∧w'=w:=by
 go_enter Tryz.func74,Tryz.ntmps74;go_wp2;rw [run_callFunc_extern Tryz.func138 (by kernel_rfl) (by kernel_rfl) (by kernel_rfl) (e:=Extern.BytealgCompare.compare) (by kernel_rfl),Lib.run_compareString];simp only [Result.andThen];rw [Oper.upon_value];go_wp2;go_ret;exact ⟨rfl,rfl⟩
theorem qdb (a b:ByteArray) (w:World):Calls Tryz.prog 39 #[.string a,.string b] w fun e w'=>e = .returned (.int .i64 (Lib.compareBytes a.data.toList b.data.toList))∧w'=w:=by
 go_enter Tryz.func39,Tryz.ntmps39;go_wp2_with (go_at_call 74;refine (qe3 _ _ _).mono ?_;rintro e w' ⟨rfl,rfl⟩)
 go_ret;exact ⟨rfl,rfl⟩
theorem qbF (x y:M6) (W:World):Calls Tryz.prog 115 #[.agg (aj x).toArray,.agg (aj y).toArray] W fun e w'=>e = .returned (.int .i64 (cfM x y))∧∃ q os',w'=grow (W.drewN q) os':=by
 have hcon:=fun W'=>qdb (aa x.nm) (aa y.nm) W';obtain ⟨xm,xk,xn,xs,xA,xl,xc,xA2,xm2,xc2⟩:=x;obtain ⟨ym,yk,yn,ys,yA,yl,yc,yA2,ym2,yc2⟩:=y;simp only [aj,cfM] at *;rw [aD,aD] at hcon;generalize Lib.compareBytes xm ym=r at *;generalize aa xm=X at *;generalize aa ym=Y at *;go_enter Tryz.func115,Tryz.ntmps115;go_wp2_with (go_at_call 39;refine (hcon _).mono ?_;rintro e w' ⟨rfl,rfl⟩)
 go_ret;exact ⟨rfl,0,_,by rw [alloc_eq_grow,alloc_eq_grow,grow_grow];rfl⟩
theorem bh (blk off size:Nat) (w:World):CmpLays Tryz.prog 115 #[] aj 6 cfM blk off size w:=
 fun _ _ _ _ x y=>qbF x y _
end Tr
namespace Tr
open Go.Proofs Go.Sort
section
variable {α : Type} [Inhabited α]
theorem eH {a b:Array α} (hs:a.size=b.size) (h:∀ t,t<a.size→a[t]! = b[t]!):a=b:=
 Array.ext hs fun t h1 h2=>by have:=h t h1;rwa [getElem!_pos a t h1,getElem!_pos b t h2] at this
def mkA (n:Nat) (f:Nat→ α):Array α :=Array.ofFn (n:=n) fun i=>f i.1
omit [Inhabited α] in
theorem qel (n:Nat) (f:Nat→ α):(mkA n f).size=n:=by simp [mkA]
theorem qkF {n:Nat} {f:Nat→ α} {i:Nat} (h:i<n):(mkA n f)[i]! = f i:=by
 rw [getElem!_pos _ i (by rw [qel];exact h)];simp [mkA]
def qap (d:Array α) (a b n:Nat):Array α :=mkA d.size fun x=>if a≤x∧x<a+n then d[x-a+b]! else if b≤x∧x<b+n then d[x-b+a]! else d[x]!
theorem aP (d:Array α) (a b n:Nat):(qap d a b n).size=d.size:=qel _ _
theorem bm {d:Array α} {a b n x:Nat} (h:x<d.size):(qap d a b n)[x]! = if a≤x∧x<a+n then d[x-a+b]! else if b≤x∧x<b+n then d[x-b+a]! else d[x]!:=qkF h
theorem qex (d:Array α) (a b:Nat):qap d a b 0=d:=by
 refine eH (aP _ _ _ _) fun t ht=>?_;rw [aP] at ht;rw [bm ht,if_neg (by omega),if_neg (by omega)]
theorem qeJ {d:Array α} {a b n:Nat} (h1:a+(n+1)≤b) (h2:b+(n+1)≤d.size):swp (qap d a b n) (a+n) (b+n)=qap d a b (n+1):=by
 refine eH (by rw [size_swp,aP,aP]) fun t ht=>?_;rw [size_swp,aP] at ht;rw [swp_get _ (by rw [aP];omega) (by rw [aP];omega),bm (x:=a+n) (by omega),bm (x:=b+n) (by omega),bm (n:=n) ht,bm (n:=n+1) ht]
 all_goals (repeat' split)
 all_goals first | omega | (congr 1;omega) | rfl
theorem qbx {d:Array α} {a b lo hi:Nat}:∀ n,a+n≤b→b+n≤hi→lo≤a→hi≤d.size→PermIn lo hi d (qap d a b n):=by
 intro n;induction n with
 | zero=>intro _ _ _ _;rw [qex];exact permIn_refl d lo hi
 | succ n ih=>
  intro h1 h2 h3 h4;rw [←qeJ h1 (by omega)];exact permIn_trans _ _ _ _ _ (ih (by omega) (by omega) h3 h4) (swp_permIn _ lo hi (a+n) (b+n) (by omega) (by omega) (by omega) (by omega) (by rw [aP];omega))
def bI (d:Array α) (a m b:Nat):Array α :=mkA d.size fun x=>if x<a∨b≤x then d[x]! else if x<a+(b-m) then d[x+(m-a)]! else d[x-(b-m)]!
theorem ay (d:Array α) (a m b:Nat):(bI d a m b).size=d.size:=qel _ _
theorem aX {d:Array α} {a m b x:Nat} (h:x<d.size):(bI d a m b)[x]! = if x<a∨b≤x then d[x]! else if x<a+(b-m) then d[x+(m-a)]! else d[x-(b-m)]!:=qkF h
theorem qh4 {d:Array α} {m i:Nat} (h1:i≤m):bI d (m-i) m (m+i)=qap d (m-i) m i:=by
 refine eH (by rw [ay,aP]) fun t ht=>?_;rw [ay] at ht;rw [aX ht,bm ht]
 all_goals (repeat' split)
 all_goals first | omega | (congr 1;omega) | rfl
theorem qq7 {d:Array α} {m i j:Nat} (h1:i≤m) (h2:m+j≤d.size) (h3:j<i):bI (qap d (m-i) m j) (m-(i-j)) m (m+j)=bI d (m-i) m (m+j):=by
 refine eH (by rw [ay,aP,ay]) fun t ht=>?_;rw [ay,aP] at ht;rw [aX (by rw [aP];exact ht),aX ht];by_cases c1:t<m-i∨m+j≤t
 ·rw [if_pos (by omega),if_pos c1,bm ht,if_neg (by omega),if_neg (by omega)]
 by_cases c5:t<m-(i-j)
 ·rw [if_pos (by omega),bm ht]
  all_goals (repeat' split)
  all_goals first | omega | (congr 1;omega) | rfl
 by_cases c6:t<m-(i-j)+(m+j-m)
 ·rw [if_neg (by omega),if_pos c6,bm (by omega)]
  all_goals (repeat' split)
  all_goals first | omega | (congr 1;omega) | rfl
 rw [if_neg (by omega),if_neg c6,bm (by omega)]
 all_goals (repeat' split)
 all_goals first | omega | (congr 1;omega) | rfl
theorem qqj {d:Array α} {m i j:Nat} (h1:i≤m) (h2:m+j≤d.size) (h3:i<j):bI (qap d (m-i) (m+j-i) i) (m-i) m (m+(j-i))=bI d (m-i) m (m+j):=by
 refine eH (by rw [ay,aP,ay]) fun t ht=>?_;rw [ay,aP] at ht;rw [aX (by rw [aP];exact ht),aX ht];by_cases c1:t<m-i∨m+j≤t
 ·rw [if_pos (by omega),if_pos c1,bm ht,if_neg (by omega),if_neg (by omega)]
 by_cases c5:m+(j-i)≤t
 ·rw [if_pos (by omega),bm ht]
  all_goals (repeat' split)
  all_goals first | omega | (congr 1;omega) | rfl
 by_cases c6:t<m-i+(m+(j-i)-m)
 ·rw [if_neg (by omega),if_pos c6,bm (by omega)]
  all_goals (repeat' split)
  all_goals first | omega | (congr 1;omega) | rfl
 rw [if_neg (by omega),if_neg c6,bm (by omega)]
 all_goals (repeat' split)
 all_goals first | omega | (congr 1;omega) | rfl
theorem qqw {d:Array α} {a k:Nat} (h1:a≤k) (h2:k+2≤d.size):swp (bI d a (a+1) (k+1)) k (k+1)=bI d a (a+1) (k+2):=by
 refine eH (by rw [size_swp,ay,ay]) fun t ht=>?_;rw [size_swp,ay] at ht;rw [swp_get _ (by rw [ay];omega) (by rw [ay];omega),aX (b:=k+1) (x:=k) (by omega),aX (b:=k+1) (x:=k+1) (by omega),aX (b:=k+1) ht,aX (b:=k+2) ht]
 all_goals (repeat' split)
 all_goals first | omega | (congr 1;omega) | rfl
theorem qm6 (d:Array α) (a:Nat):bI d a (a+1) (a+1)=d:=by
 refine eH (ay _ _ _ _) fun t ht=>?_;rw [ay] at ht;rw [aX ht];by_cases c1:t<a∨a+1≤t
 ·rw [if_pos c1]
 ·rw [if_neg c1,if_neg (by omega)];congr 1;omega
theorem qlO {d:Array α} {k m:Nat} (h1:k<m) (h2:m+1≤d.size):swp (bI d (k+1) m (m+1)) (k+1) k=bI d k m (m+1):=by
 refine eH (by rw [size_swp,ay,ay]) fun t ht=>?_;rw [size_swp,ay] at ht;rw [swp_get _ (by rw [ay];omega) (by rw [ay];omega),aX (a:=k+1) (x:=k) (by omega),aX (a:=k+1) (x:=k+1) (by omega),aX (a:=k+1) ht,aX (a:=k) ht]
 all_goals (repeat' split)
 all_goals first | omega | (congr 1;omega) | rfl
theorem qmx {d:Array α} {m:Nat}:bI d m m (m+1)=d:=by
 refine eH (ay _ _ _ _) fun t ht=>?_;rw [ay] at ht;rw [aX ht];by_cases c1:t<m∨m+1≤t
 ·rw [if_pos c1]
 ·rw [if_neg c1,if_pos (by omega)];congr 1;omega
variable {lt : α → α →Bool}
theorem qct {d:Array α} {a m b x:Nat} (h:x<d.size) (c:x<a∨b≤x):(bI d a m b)[x]! = d[x]!:=by rw [aX h,if_pos c]
theorem qdU {d:Array α} {a m b x:Nat} (h:x<d.size) (c1:a≤x) (c2:x<b) (c3:x<a+(b-m)):(bI d a m b)[x]! = d[x+(m-a)]!:=by rw [aX h,if_neg (by omega),if_pos c3]
theorem qdI {d:Array α} {a m b x:Nat} (h:x<d.size) (c1:a≤x) (c2:x<b) (c3:a+(b-m)≤x):(bI d a m b)[x]! = d[x-(b-m)]!:=by rw [aX h,if_neg (by omega),if_neg (by omega)]
theorem aY (hS:SWO lt) {a b:Nat} {d:Array α} (h:SortedIn lt a b d) {i j:Nat} (h1:a≤i) (h2:i≤j) (h3:j<b):lt d[j]! d[i]! = false:=by
 rcases Nat.lt_or_ge i j with c | c
 ·exact h i j h1 c h3
 ·obtain rfl:i=j:=by omega
  exact hS.irrefl _
theorem qlT (hS:SWO lt) {d:Array α} {a b i:Nat} (hi1:a+1≤i) (hi2:i≤b) (hb:b≤d.size) (h2:SortedIn lt (a+1) b d) (f1:∀ x,a+1≤x→x<i→lt d[x]! d[a]! = true) (f2:∀ x,i≤x→x<b→lt d[x]! d[a]! = false) :
  SortedIn lt a b (bI d a (a+1) i):=by
 intro x y hx hxy hy;have asym:∀ p q,lt p q=true→lt q p=false:=fun p q h=>by
  rcases hq:lt q p with _ | _
  ·rfl
  ·have:=hS.trans _ _ _ h hq;rw [hS.irrefl] at this;cases this
 have X:∀ z,a≤z→z<b→((i≤z∧(bI d a (a+1) i)[z]! = d[z]!)∨(z+1<i∧(bI d a (a+1) i)[z]! = d[z+1]!)∨(z+1=i∧(bI d a (a+1) i)[z]! = d[a]!)):=fun z z1 z2=>by
  rcases Nat.lt_or_ge z i with c | c
  ·rcases Nat.lt_or_ge (z+1) i with e | e
   ·refine .inr (.inl ⟨e,?_⟩);rw [qdU (by omega) z1 c (by omega)];congr 1;omega
   ·refine .inr (.inr ⟨by omega,?_⟩);rw [qdI (by omega) z1 c (by omega)];congr 1;omega
  ·exact .inl ⟨c,qct (by omega) (.inr c)⟩
 rcases X x hx (by omega) with ⟨c1,e1⟩ | ⟨c1,e1⟩ | ⟨c1,e1⟩ <;> rcases X y (by omega) hy with ⟨c2,e2⟩ | ⟨c2,e2⟩ | ⟨c2,e2⟩ <;> rw [e1,e2]
 ·exact h2 x y (by omega) hxy hy
 ·omega
 ·omega
 ·exact h2 (x+1) y (by omega) (by omega) hy
 ·exact h2 (x+1) (y+1) (by omega) (by omega) (by omega)
 ·exact asym _ _ (f1 (x+1) (by omega) (by omega))
 ·exact f2 y (by omega) hy
 ·omega
 ·omega
theorem qg5 (hS:SWO lt) {d:Array α} {a m i:Nat} (hi1:a≤i) (hi2:i≤m) (hb:m+1≤d.size) (h1:SortedIn lt a m d) (f1:∀ x,a≤x→x<i→lt d[m]! d[x]! = false) (f2:∀ x,i≤x→x<m→lt d[m]! d[x]! = true) :
  SortedIn lt a (m+1) (bI d i m (m+1)):=by
 intro x y hx hxy hy;have asym:∀ p q,lt p q=true→lt q p=false:=fun p q h=>by
  rcases hq:lt q p with _ | _
  ·rfl
  ·have:=hS.trans _ _ _ h hq;rw [hS.irrefl] at this;cases this
 have X:∀ z,a≤z→z<m+1→((z<i∧(bI d i m (m+1))[z]! = d[z]!)∨(z=i∧(bI d i m (m+1))[z]! = d[m]!)∨(i<z∧(bI d i m (m+1))[z]! = d[z-1]!)):=fun z z1 z2=>by
  rcases Nat.lt_or_ge z i with c | c
  ·exact .inl ⟨c,qct (by omega) (.inl c)⟩
  ·rcases Nat.lt_or_ge i z with e | e
   ·refine .inr (.inr ⟨e,?_⟩);rw [qdI (by omega) c z2 (by omega)];congr 1;omega
   ·refine .inr (.inl ⟨by omega,?_⟩);rw [qdU (by omega) c z2 (by omega)];congr 1;omega
 rcases X x hx (by omega) with ⟨c1,e1⟩ | ⟨c1,e1⟩ | ⟨c1,e1⟩ <;> rcases X y (by omega) hy with ⟨c2,e2⟩ | ⟨c2,e2⟩ | ⟨c2,e2⟩ <;> rw [e1,e2]
 ·exact h1 x y hx hxy (by omega)
 ·exact f1 x hx c1
 ·exact h1 x (y-1) hx (by omega) (by omega)
 ·omega
 ·omega
 ·exact asym _ _ (f2 (y-1) (by omega) (by omega))
 ·omega
 ·omega
 ·exact h1 (x-1) (y-1) (by omega) (by omega) (by omega)
theorem qla (hS:SWO lt) {d:Array α} {a m b mid s0 r0 st:Nat} (hmid:mid=(a+b) / 2)
  (h1:SortedIn lt a m d) (h2:SortedIn lt m b d) (hs:(m≤mid∧s0=a∧r0=m)∨(mid<m∧s0=mid+m-b∧r0=mid)) (g1:s0≤st) (g2:st≤r0)
  (f1:∀ c,s0≤c→c<st→lt d[mid+m-1-c]! d[c]! = false) (f2:∀ c,st≤c→c<r0→lt d[mid+m-1-c]! d[c]! = true) :
  ∀ x y,((a≤x∧x<st)∨(m≤x∧x<mid+m-st))→((st≤y∧y<m)∨(mid+m-st≤y∧y<b))→lt d[y]! d[x]! = false:=by
 intro x y hx hy;have asym:∀ p q,lt p q=true→lt q p=false:=fun p q h=>by
  rcases hq:lt q p with _ | _
  ·rfl
  ·have:=hS.trans _ _ _ h hq;rw [hS.irrefl] at this;cases this
 rcases hx with hx | hx <;> rcases hy with hy | hy
 ·exact h1 x y hx.1 (by omega) hy.2
 ·have c1:s0<st:=by omega
  have k:=f1 (st-1) (by omega) (by omega);have e:mid+m-1-(st-1)=mid+m-st:=by omega
  rw [e] at k;have k1:=aY hS h1 (show a≤x from hx.1) (show x≤st-1 by omega) (by omega);have k2:=aY hS h2 (show m≤mid+m-st by omega) hy.1 hy.2;exact hS.ntrans _ _ _ k2 (hS.ntrans _ _ _ k k1)
 ·have c1:st<r0:=by omega
  have k:=asym _ _ (f2 st (by omega) c1);have k1:=aY hS h2 (show m≤x from hx.1) (show x≤mid+m-1-st by omega) (by omega);have k2:=aY hS h1 (show a≤st by omega) hy.1 hy.2;exact hS.ntrans _ _ _ k2 (hS.ntrans _ _ _ k k1)
 ·exact h2 x y hx.1 (by omega) hy.2
theorem qbz (hS:SWO lt) {d:Array α} {a m b mid s0 r0 st:Nat} (hmid:mid=(a+b) / 2) (ham:a<m) (hmb:m<b) (hb:b≤d.size)
  (h1:SortedIn lt a m d) (h2:SortedIn lt m b d) (hs:(m≤mid∧s0=a∧r0=m)∨(mid<m∧s0=mid+m-b∧r0=mid)) (g1:s0≤st) (g2:st≤r0)
  (f1:∀ c,s0≤c→c<st→lt d[mid+m-1-c]! d[c]! = false) (f2:∀ c,st≤c→c<r0→lt d[mid+m-1-c]! d[c]! = true) :
  SortedIn lt a st (bI d st m (mid+m-st))∧SortedIn lt st mid (bI d st m (mid+m-st))∧SortedIn lt mid (mid+m-st) (bI d st m (mid+m-st))∧SortedIn lt (mid+m-st) b (bI d st m (mid+m-st))∧
  (∀ x y,a≤x→x<mid→mid≤y→y<b→lt (bI d st m (mid+m-st))[y]! (bI d st m (mid+m-st))[x]! = false):=by
 have hx:=qla hS hmid h1 h2 hs g1 g2 f1 f2;have e1:st+(mid+m-st-m)=mid:=by omega
 have L1:∀ z,a≤z→z<st→(bI d st m (mid+m-st))[z]! = d[z]!:=fun z z1 z2=>qct (by omega) (.inl z2);have L2:∀ z,st≤z→z<mid→(bI d st m (mid+m-st))[z]! = d[z+(m-st)]!:=fun z z1 z2=>qdU (by omega) z1 (by omega) (by omega);have L3:∀ z,mid≤z→z<mid+m-st→(bI d st m (mid+m-st))[z]! = d[z-(mid+m-st-m)]!:=fun z z1 z2=>qdI (by omega) (by omega) z2 (by omega);have L4:∀ z,mid+m-st≤z→z<b→(bI d st m (mid+m-st))[z]! = d[z]!:=fun z z1 z2=>qct (by omega) (.inr z1);refine ⟨fun x y p q r=>?_,fun x y p q r=>?_,fun x y p q r=>?_,fun x y p q r=>?_,fun x y p q r s=>?_⟩
 ·rw [L1 x p (by omega),L1 y (by omega) r];exact h1 x y p q (by omega)
 ·rw [L2 x p (by omega),L2 y (by omega) r];exact h2 _ _ (by omega) (by omega) (by omega)
 ·rw [L3 x p (by omega),L3 y (by omega) r];exact h1 _ _ (by omega) (by omega) (by omega)
 ·rw [L4 x p (by omega),L4 y (by omega) r];exact h2 _ _ (by omega) (by omega) (by omega)
 ·rcases Nat.lt_or_ge x st with c1 | c1 <;> rcases Nat.lt_or_ge y (mid+m-st) with c2 | c2
  ·rw [L1 x p c1,L3 y r c2];exact hx _ _ (by omega) (by omega)
  ·rw [L1 x p c1,L4 y c2 s];exact hx _ _ (by omega) (by omega)
  ·rw [L2 x c1 q,L3 y r c2];exact hx _ _ (by omega) (by omega)
  ·rw [L2 x c1 q,L4 y c2 s];exact hx _ _ (by omega) (by omega)
theorem qe0 {d d1 d2:Array α} {a mid b:Nat} (hb:b≤d.size) (p1:PermIn a mid d d1) (s1:SortedIn lt a mid d1) (p2:PermIn mid b d1 d2) (s2:SortedIn lt mid b d2)
  (hx:∀ x y,a≤x→x<mid→mid≤y→y<b→lt d[y]! d[x]! = false):SortedIn lt a b d2:=by
 have z1:=p1.1;have hx1:∀ x y,a≤x→x<mid→mid≤y→y<b→lt d1[y]! d1[x]! = false:=fun x y a1 a2 a3 a4=>by
  rw [p1.2.1 y (by omega)];exact permIn_all d d1 a mid (fun u=>lt d[y]! u=false) (by omega) p1 (fun i b1 b2=>hx i y b1 b2 a3 a4) x a1 a2
 have hx2:∀ x y,a≤x→x<mid→mid≤y→y<b→lt d2[y]! d2[x]! = false:=fun x y a1 a2 a3 a4=>by
  rw [p2.2.1 x (by omega)];exact permIn_all d1 d2 mid b (fun u=>lt u d1[x]! = false) (by omega) p2 (fun i b1 b2=>hx1 x i a1 a2 b1 b2) y a3 a4
 intro x y p q r;rcases Nat.lt_or_ge y mid with c | c
 ·rw [p2.2.1 x (by omega),p2.2.1 y (by omega)];exact s1 x y p q c
 ·rcases Nat.lt_or_ge x mid with e | e
  ·exact hx2 x y p e c r
  ·exact s2 x y e q r
theorem ab {d d':Array α} {a b:Nat} (h:SortedIn lt a b d) (he:∀ i,a≤i→i<b→d'[i]! = d[i]!):SortedIn lt a b d':=fun x y p q r=>by
 rw [he x p (by omega),he y (by omega) r];exact h x y p q r
theorem qbO {d:Array α} {a m b:Nat} (h:a=m∨m=b) (h1:a≤m) (h2:m≤b):bI d a m b=d:=by
 refine eH (ay _ _ _ _) fun t ht=>?_;rw [ay] at ht;rw [aX ht];by_cases c1:t<a∨b≤t
 ·rw [if_pos c1]
 ·rw [if_neg c1];by_cases c2:t<a+(b-m)
  ·rw [if_pos c2];congr 1;omega
  ·rw [if_neg c2];congr 1;omega
end
