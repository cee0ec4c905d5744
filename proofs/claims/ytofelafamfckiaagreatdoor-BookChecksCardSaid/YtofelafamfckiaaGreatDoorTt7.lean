/- Merged: ChPl ScPl RePl ReMem RePl2 RePl5 EmPl EmPl2 ReAw0. -/
import Derived.Test.YtofelafamfckiaaGreatDoorTt6
import Derived.Lib.AppendStr
namespace Go.Proofs.YtofelafamfckiaaGreatDoor
namespace Ch
open Go.RowKit Utf
def qbC (c:Int):Int:=if 48≤c∧c≤57 then c-48 else if 65≤c∧c≤70 then c-55 else if 97≤c∧c≤102 then c-87 else -1
theorem qk3 (c:Int) : -1≤qbC c:=by unfold qbC;(repeat' split) <;> omega
theorem qg1 (c:Int):qbC c≤15:=by unfold qbC;(repeat' split) <;> omega
def qci (l:List UInt8):Nat→Int
 | 0=>0
 | k+1=>qci l k*16+qbC (byt l (k+2))
def cO (l:List UInt8):Nat→Bool
 | 0=>true
 | k+1=>cO l k&&decide (0≤qbC (byt l (k+2)))
theorem qhr {l:List UInt8} {k:Nat} (h:cO l (k+1)=true):cO l k=true∧0≤qbC (byt l (k+2)):=by
 simpa [cO] using h
theorem qgj (l:List UInt8):∀ k,cO l k=true→0≤qci l k∧qci l k<16 ^ k:=by
 intro k;induction k with
 | zero=>intro _;simp [qci]
 | succ k ih=>
  intro h;obtain ⟨h1,h2⟩:=qhr h;have:=ih h1;have h3:=qg1 (byt l (k+2));simp only [qci,Int.pow_succ];omega
theorem qgf (l:List UInt8) (k:Nat) (h:cO l k=false):∀ n,k≤n→cO l n=false:=by
 intro n hn;induction n with
 | zero=>
  have:k=0:=by omega
  subst this;exact h
 | succ n ih=>
  by_cases e:k=n+1
  ·subst e;exact h
  ·simp [cO,ih (by omega)]
def ao (l:List UInt8):Int:=if 6≤l.length∧byt l 0=92∧byt l 1=117∧cO l 4=true then qci l 4 else -1
theorem b9 {l:List UInt8} (h:0≤ao l):6≤l.length∧byt l 0=92∧byt l 1=117∧cO l 4=true∧ao l=qci l 4:=by
 unfold ao at h ⊢;split at h
 ·rename_i h1
  rw [if_pos h1];exact ⟨h1.1,h1.2.1,h1.2.2.1,h1.2.2.2,rfl⟩
 ·omega
theorem qje {l:List UInt8} (h0:6≤l.length) (h1:byt l 0=92) (h2:byt l 1=117) (h3:cO l 4=true):ao l=qci l 4:=by
 rw [ao,if_pos ⟨h0,h1,h2,h3⟩]
theorem qau {l:List UInt8} (h:¬(6≤l.length∧byt l 0=92∧byt l 1=117∧cO l 4=true)):ao l = -1:=by
 rw [ao,if_neg h]
theorem qcS (l:List UInt8) : -1≤ao l∧ao l≤65535:=by
 by_cases h:0≤ao l
 ·obtain ⟨_,_,_,h4,h5⟩:=b9 h;have:=qgj l 4 h4;omega
 ·unfold ao;split
  ·rename_i h1
   have:=qgj l 4 h1.2.2.2;omega
  ·omega
def bG (c:Int):Int:=if c=34 then 34 else if c=92 then 92 else if c=47 then 47 else if c=98 then 8 else if c=102 then 12 else if c=110 then 10 else if c=114 then 13 else if c=116 then 9 else -1
theorem qeJ (c:Int):bG c≤92:=by unfold bG;(repeat' split) <;> omega
theorem qfG (c:Int) (h:0≤bG c):(bG c=34∨bG c=92∨bG c=47∨bG c=8∨bG c=12∨bG c=10∨bG c=13∨bG c=9)∧c≠117:=by
 unfold bG at h ⊢;(repeat' split at h) <;> simp_all
def cy (u:Int):Bool:=decide (55296≤u∧u<56320)
def bR (u:Int):Bool:=decide (56320≤u∧u<57344)
theorem qa5 {u:Int} (h:cy u=true):55296≤u∧u<56320:=by simpa [cy] using h
theorem qaR {u:Int} (h:bR u=true):56320≤u∧u<57344:=by simpa [bR] using h
theorem qk8 (u:Int) (h0:0≤u) (h1:u≤65535) (hu:cy u=false) (hl:bR u=false):aL u=true:=by
 simp [cy,bR,aL] at *;omega
theorem qeB {u:Int} (h:cy u=true):aL u=false:=by have:=qa5 h;simp [aL];omega
theorem qfk {u:Int} (h:bR u=true):aL u=false:=by have:=qaR h;simp [aL];omega
def dd (u b:Int):Int:=65536+(u-55296)*1024+(b-56320)
theorem qe3 {u b:Int} (hu:cy u=true) (hb:bR b=true):65536≤dd u b∧dd u b≤1114111:=by
 have:=qa5 hu;have:=qaR hb;unfold dd;omega
def qaq (l:List UInt8):Int×Int×Int:=
 if l.length<2 then (0,0,20) else if 0≤bG (byt l 1) then (bG (byt l 1),2,0) else if 0≤ao l then (ao l,6,0) else (0,0,20)
def aQ (l:List UInt8):Int×Int×Int:=
 if (au l).2=0 then (0,0,10) else if (au l).1<32 then (0,0,20) else if (au l).1=92 then qaq l else ((au l).1,(au l).2,0)
def cf (l:List UInt8):Int×Int:=
 if 2≤l.length∧0≤bG (byt l 1) then (bG (byt l 1),2)
 else if ao l<0 then (0,0)
 else if aL (ao l)=true then (ao l,6)
 else if cy (ao l)=true∧bR (ao (l.drop 6))=true then (dd (ao l) (ao (l.drop 6)),12)
 else (0,0)
def aw (l:List UInt8):Int×Int×Int:=
 if l.length=0 then (0,0,20) else if byt l 0=34 then (0,0,0) else if byt l 0<32 then (0,0,20)
 else if byt l 0=92 then (if (cf l).2=0 then (0,0,20) else ((cf l).1,(cf l).2,0))
 else if (au l).2=0 then (0,0,10) else ((au l).1,(au l).2,0)
theorem qal {l:List UInt8} (h0:l.length≠0) (h:byt l 0<128):au l=(byt l 0,1):=by
 unfold au;rw [if_neg h0,if_pos h]
theorem qcN {l:List UInt8} (h:128≤byt l 0) (hn:(au l).2≠0):128≤(au l).1:=by
 rcases cP l with h1 | ⟨h1,h2,h3⟩
 ·rw [h1] at hn;simp at hn
 ·rcases Int.lt_or_le (au l).1 128 with h4 | h4
  ·have e:=bT (au l).1 (l.drop (enc (au l).1).length) 0 (au l).1 (by rw [qbr h1 h4];rfl);rw [h3] at e;omega
  ·exact h4
theorem qmp (l:List UInt8):cf l=(0,0)∨(aL (cf l).1=true∧1≤(cf l).2∧(cf l).2≤12∧(cf l).2≤l.length∧((enc (cf l).1).length:Int)≤(cf l).2):=by
 unfold cf;by_cases h1:2≤l.length∧0≤bG (byt l 1)
 ·rw [if_pos h1]
  right
  have h3:=qeJ (byt l 1);have hp:aL (bG (byt l 1))=true:=by simp [aL];omega
  refine ⟨hp,by simp,by simp,by simp;omega,?_⟩;have:(enc (bG (byt l 1))).length=1:=by rw [qaO,qbr hp (by omega)];rfl
  simp [this]
 ·rw [if_neg h1];by_cases h2:ao l<0
  ·rw [if_pos h2];exact .inl rfl
  ·rw [if_neg h2];obtain ⟨g1,_⟩:=b9 (l:=l) (by omega);have gb:=qcS l;by_cases h3:aL (ao l)=true
   ·rw [if_pos h3]
    right
    refine ⟨h3,by simp,by simp,by simp;omega,?_⟩;have:=qdh (ao l);simp;omega
   ·rw [if_neg h3];by_cases h4:cy (ao l)=true∧bR (ao (l.drop 6))=true
    ·rw [if_pos h4]
     right
     have hb:=qe3 h4.1 h4.2;have hl:=qaR h4.2;obtain ⟨g2,_⟩:=b9 (l:=l.drop 6) (by omega);simp at g2;refine ⟨by simp [aL];omega,by simp,by simp,by simp;omega,?_⟩;have:=qdh (dd (ao l) (ao (l.drop 6)));simp;omega
    ·rw [if_neg h4];exact .inl rfl
theorem qaT (l:List UInt8):((aw l).2.1=0∧(aw l).1=0)∨(aL (aw l).1=true∧1≤(aw l).2.1∧(aw l).2.1≤12∧(aw l).2.1≤l.length∧((enc (aw l).1).length:Int)≤(aw l).2.1∧(aw l).2.2=0):=by
 unfold aw;by_cases h0:l.length=0
 ·rw [if_pos h0];exact .inl ⟨rfl,rfl⟩
 ·rw [if_neg h0];by_cases h1:byt l 0=34
  ·rw [if_pos h1];exact .inl ⟨rfl,rfl⟩
  ·rw [if_neg h1];by_cases h2:byt l 0<32
   ·rw [if_pos h2];exact .inl ⟨rfl,rfl⟩
   ·rw [if_neg h2];by_cases h3:byt l 0=92
    ·rw [if_pos h3];rcases qmp l with h4 | ⟨a,b,c,d,e⟩
     ·rw [h4];exact .inl ⟨rfl,rfl⟩
     ·rw [if_neg (by omega)];exact .inr ⟨a,b,c,d,e,rfl⟩
    ·rw [if_neg h3];rcases qas l with h4 | ⟨a,b,c,d⟩
     ·rw [h4];exact .inl ⟨rfl,rfl⟩
     ·rw [if_neg (by omega)];refine .inr ⟨a,b,by simp only;omega,d,?_,rfl⟩;rcases cP l with h5 | ⟨_,h6,_⟩
      ·rw [h5] at b;simp at b
      ·simp only;omega
def qbe:Nat→List UInt8→List Int×Nat×Int
 | 0,l=>([],0,(aw l).2.2)
 | f+1,l=>if (aw l).2.1=0 then ([],0,(aw l).2.2)
  else ((aw l).1::(qbe f (l.drop (aw l).2.1.toNat)).1,(aw l).2.1.toNat+(qbe f (l.drop (aw l).2.1.toNat)).2.1,(qbe f (l.drop (aw l).2.1.toNat)).2.2)
def aG (l:List UInt8):List Int×Nat×Int:=qbe l.length l
theorem qaY (f:Nat):qbe f []=([],0,20):=by cases f <;> rfl
theorem qgt:∀ (f g:Nat) (l:List UInt8),l.length≤f→l.length≤g→qbe f l=qbe g l:=by
 intro f;induction f with
 | zero=>
  intro g l h _;rw [List.eq_nil_of_length_eq_zero (show l.length=0 by omega),qaY,qaY]
 | succ f ih=>
  intro g l hf hg;cases g with
  | zero=>rw [List.eq_nil_of_length_eq_zero (show l.length=0 by omega),qaY,qaY]
  | succ g=>
   simp only [qbe];by_cases h:(aw l).2.1=0
   ·rw [if_pos h,if_pos h]
   ·rw [if_neg h,if_neg h];rcases qaT l with h1 | ⟨_,h1,_,h2,_⟩
    ·exact absurd h1.1 h
    ·rw [ih g (l.drop (aw l).2.1.toNat) (by simp;omega) (by simp;omega)]
theorem qbq {l:List UInt8} (h:(aw l).2.1=0):aG l=([],0,(aw l).2.2):=by
 unfold aG;cases l with
 | nil=>rfl
 | cons a l=>simp only [List.length_cons,qbe];rw [if_pos h]
theorem qdj {l:List UInt8} (h:(aw l).2.1≠0):aG l=((aw l).1::(aG (l.drop (aw l).2.1.toNat)).1,(aw l).2.1.toNat+(aG (l.drop (aw l).2.1.toNat)).2.1,(aG (l.drop (aw l).2.1.toNat)).2.2):=by
 rcases qaT l with h1 | ⟨_,h1,_,h2,_⟩
 ·exact absurd h1.1 h
 ·obtain ⟨k,hk⟩:∃ k,l.length=k+1:=⟨l.length-1,by omega⟩
  unfold aG;rw [hk,qbe,if_neg h,qgt k _ _ (by simp;omega) (Nat.le_refl _)]
theorem qg4 (l:List UInt8) (h:(aw l).2.1=0):(aw l).2.2=10∨(aw l).2.2=20∨((aw l).2.2=0∧l.length≠0∧byt l 0=34):=by
 unfold aw at h ⊢;by_cases h0:l.length=0
 ·rw [if_pos h0];exact .inr (.inl rfl)
 ·rw [if_neg h0] at h ⊢;by_cases h1:byt l 0=34
  ·rw [if_pos h1];exact .inr (.inr ⟨rfl,h0,h1⟩)
  ·rw [if_neg h1] at h ⊢;by_cases h2:byt l 0<32
   ·rw [if_pos h2];exact .inr (.inl rfl)
   ·rw [if_neg h2] at h ⊢;by_cases h3:byt l 0=92
    ·rw [if_pos h3] at h ⊢;by_cases h4:(cf l).2=0
     ·rw [if_pos h4];exact .inr (.inl rfl)
     ·rw [if_neg h4] at h;exact absurd h h4
    ·rw [if_neg h3] at h ⊢;by_cases h4:(au l).2=0
     ·rw [if_pos h4];exact .inl rfl
     ·rw [if_neg h4] at h;exact absurd h h4
theorem qat (l:List UInt8):(aG l).2.1≤l.length∧(bL (aG l).1).length≤(aG l).2.1∧(∀ p∈(aG l).1,aL p=true)∧
  ((aG l).2.2=10∨(aG l).2.2=20∨((aG l).2.2=0∧(aG l).2.1<l.length∧byt l (aG l).2.1=34)):=by
 induction l using qem with
 | h l ih=>
  by_cases h:(aw l).2.1=0
  ·rw [qbq h];refine ⟨by simp,by simp [bL],by simp,?_⟩;rcases qg4 l h with h1 | h1 | ⟨h1,h2,h3⟩
   ·exact .inl h1
   ·exact .inr (.inl h1)
   ·exact .inr (.inr ⟨h1,by simp only;omega,h3⟩)
  ·rcases qaT l with h1 | ⟨h3,h1,h4,h2,h5,_⟩
   ·exact absurd h1.1 h
   ·have hi:=ih (aw l).2.1.toNat (by omega) (by omega);rw [qdj h];obtain ⟨a,b,c,d⟩:=hi;simp only [List.length_drop] at a;refine ⟨by simp only;omega,by rw [qb0];simp only [List.length_append];omega,?_,?_⟩
    ·intro p hp;simp at hp;rcases hp with rfl | hp
     ·exact h3
     ·exact c p hp
    ·rcases d with d | d | ⟨d1,d2,d3⟩
     ·exact .inl d
     ·exact .inr (.inl d)
     ·refine .inr (.inr ⟨d1,?_,?_⟩)
      ·simp only [List.length_drop] at d2;simp only;omega
      ·rw [bv] at d3;exact d3
theorem qhu {l:List UInt8} (h:byt l 0≠92):ao l = -1:=qau fun x=>h x.2.1
theorem qh3 {l:List UInt8} (h:l.length=0):ao l = -1:=qau fun x=>by omega
theorem qay {l:List UInt8} (h:(au l).2=0):aQ l=(0,0,10):=by unfold aQ;rw [if_pos h]
theorem qax {l:List UInt8} (h0:l.length≠0) (h:byt l 0<32):aQ l=(0,0,20):=by
 have e:=qal h0 (by omega);unfold aQ;rw [e,if_neg (by simp),if_pos h]
theorem qaJ {l:List UInt8} (h0:l.length≠0) (h:byt l 0=92):aQ l=qaq l:=by
 have e:=qal h0 (by omega);unfold aQ;rw [e,h];rfl
theorem qbw {l:List UInt8} (h0:l.length≠0) (h:(au l).2≠0) (h1:¬byt l 0<32) (h2:byt l 0≠92):aQ l=((au l).1,(au l).2,0):=by
 unfold aQ;rw [if_neg h];by_cases h3:byt l 0<128
 ·rw [qal h0 h3,if_neg h1,if_neg h2]
 ·have:=qcN (by omega) h;rw [if_neg (by omega),if_neg (by omega)]
theorem qhZ {l:List UInt8} (h0:l.length≠0) (h:byt l 0<32):aw l=(0,0,20):=by
 unfold aw;rw [if_neg h0,if_neg (by omega),if_pos h]
theorem dq {l:List UInt8} (h0:l.length≠0) (h:byt l 0=92):aw l=if (cf l).2=0 then (0,0,20) else ((cf l).1,(cf l).2,0):=by
 unfold aw;rw [if_neg h0,if_neg (by omega),if_neg (by omega),if_pos h]
theorem qff {l:List UInt8} (h0:l.length≠0) (h1:¬byt l 0<32) (h2:byt l 0≠92) (h3:byt l 0≠34):aw l=if (au l).2=0 then (0,0,10) else ((au l).1,(au l).2,0):=by
 unfold aw;rw [if_neg h0,if_neg h3,if_neg h1,if_neg h2]
theorem qfH {l:List UInt8} (h0:l.length≠0) (h:byt l 0=34):aw l=(0,0,0):=by
 unfold aw;rw [if_neg h0,if_pos h]
theorem qhn {l:List UInt8} (h0:l.length=0):aw l=(0,0,20):=by
 unfold aw;rw [if_pos h0]
theorem qbx {l:List UInt8} (h:2≤l.length) (hl:0≤bG (byt l 1)):qaq l=(bG (byt l 1),2,0)∧cf l=(bG (byt l 1),2):=by
 constructor
 ·unfold qaq;rw [if_neg (by omega),if_pos hl]
 ·unfold cf;rw [if_pos ⟨h,hl⟩]
theorem qgE {l:List UInt8} (h:0≤ao l):¬0≤bG (byt l 1):=by
 obtain ⟨_,_,h3,_⟩:=b9 h;intro hc;exact (qfG _ hc).2 h3
theorem qaP {l:List UInt8} (h:0≤ao l):qaq l=(ao l,6,0):=by
 obtain ⟨h1,_⟩:=b9 h;unfold qaq;rw [if_neg (by omega),if_neg (qgE h),if_pos h]
theorem qcd {l:List UInt8} (h:l.length<2∨¬0≤bG (byt l 1)) (hu:ao l<0):qaq l=(0,0,20)∧cf l=(0,0):=by
 constructor
 ·unfold qaq;by_cases h1:l.length<2
  ·rw [if_pos h1]
  ·rw [if_neg h1,if_neg (by omega),if_neg (by omega)]
 ·unfold cf;rw [if_neg (by omega),if_pos hu]
theorem qaX {l:List UInt8} (h:0≤ao l):cf l=if aL (ao l)=true then (ao l,6) else if cy (ao l)=true∧bR (ao (l.drop 6))=true then (dd (ao l) (ao (l.drop 6)),12) else (0,0):=by
 unfold cf;rw [if_neg (fun x=>qgE h x.2),if_neg (by omega)]
theorem qgK (l:List UInt8):0≤(aQ l).1∧(aQ l).1≤1114111∧0≤(aQ l).2.1∧(aQ l).2.1≤6∧(aQ l).2.1≤l.length∧((aQ l).2.2=0∨(aQ l).2.2=10∨(aQ l).2.2=20):=by
 unfold aQ;rcases qas l with h1 | ⟨a,b,c,d⟩
 ·rw [h1];simp
 ·have a0:=qaV a;have a1:=qaf a;rw [if_neg (by omega)];by_cases h2:(au l).1<32
  ·rw [if_pos h2];simp
  ·rw [if_neg h2];by_cases h3:(au l).1=92
   ·rw [if_pos h3];unfold qaq;by_cases h4:l.length<2
    ·rw [if_pos h4];simp
    ·rw [if_neg h4];by_cases h5:0≤bG (byt l 1)
     ·have:=qeJ (byt l 1);rw [if_pos h5];exact ⟨by simp only;omega,by simp only;omega,by simp only;omega,by simp only;omega,by simp only;omega,.inl rfl⟩
     ·rw [if_neg h5];by_cases h6:0≤ao l
      ·obtain ⟨g,_⟩:=b9 h6;have:=qcS l;rw [if_pos h6];exact ⟨by simp only;omega,by simp only;omega,by simp only;omega,by simp only;omega,by simp only;omega,.inl rfl⟩
      ·rw [if_neg h6];simp
   ·rw [if_neg h3];exact ⟨by simp only;omega,by simp only;omega,by simp only;omega,by simp only;omega,by simp only;omega,.inl rfl⟩
theorem qin {l:List UInt8} (h0:l.length≠0) (hq:byt l 0≠34) (he:(aQ l).2.2≠0):aw l=(0,0,(aQ l).2.2):=by
 by_cases h1:byt l 0<32
 ·rw [qhZ h0 h1,qax h0 h1]
 ·by_cases h2:byt l 0=92
  ·rw [qaJ h0 h2] at he ⊢;rw [dq h0 h2];by_cases h3:2≤l.length∧0≤bG (byt l 1)
   ·rw [(qbx h3.1 h3.2).1] at he;simp at he
   ·by_cases h4:0≤ao l
    ·rw [qaP h4] at he;simp at he
    ·have:=qcd (l:=l) (by omega) (by omega);rw [this.1,this.2];rfl
  ·rw [qff h0 h1 h2 hq];by_cases h3:(au l).2=0
   ·rw [qay h3,if_pos h3]
   ·rw [qbw h0 h3 h1 h2] at he;simp at he
theorem qed {l:List UInt8} (h0:l.length≠0) (hq:byt l 0≠34) (he:(aQ l).2.2=0) (hu:cy (aQ l).1=false) (hl:bR (aQ l).1=false):aw l=aQ l:=by
 by_cases h1:byt l 0<32
 ·rw [qax h0 h1] at he;simp at he
 ·by_cases h2:byt l 0=92
  ·rw [qaJ h0 h2] at he hu hl ⊢;rw [dq h0 h2];by_cases h3:2≤l.length∧0≤bG (byt l 1)
   ·have:=qbx h3.1 h3.2;rw [this.1,this.2];rfl
   ·by_cases h4:0≤ao l
    ·rw [qaP h4] at hu hl ⊢;have gb:=qcS l;rw [qaX h4,if_pos (qk8 _ h4 gb.2 hu hl)];rfl
    ·have:=qcd (l:=l) (by omega) (by omega);rw [this.1] at he;simp at he
  ·rw [qff h0 h1 h2 hq];by_cases h3:(au l).2=0
   ·rw [qay h3] at he;simp at he
   ·rw [qbw h0 h3 h1 h2,if_neg h3]
theorem cJ {l:List UInt8} (h0:l.length≠0) (h:cy (aQ l).1=true∨bR (aQ l).1=true):byt l 0=92∧0≤ao l∧aQ l=(ao l,6,0):=by
 have hp:aL (aQ l).1=false:=by rcases h with h | h;exact qeB h;exact qfk h
 have h92:∀ n:Int,0≤n→n≤92→aL n=true:=by intro n a b;simp [aL];omega
 by_cases h1:byt l 0<32
 ·rw [qax h0 h1] at hp;simp [aL] at hp
 ·by_cases h2:byt l 0=92
  ·refine ⟨h2,?_⟩;rw [qaJ h0 h2] at hp ⊢;by_cases h3:2≤l.length∧0≤bG (byt l 1)
   ·rw [(qbx h3.1 h3.2).1,h92 _ h3.2 (qeJ _)] at hp;simp at hp
   ·by_cases h4:0≤ao l
    ·exact ⟨h4,qaP h4⟩
    ·have:=qcd (l:=l) (by omega) (by omega);rw [this.1] at hp;simp [aL] at hp
  ·by_cases h3:(au l).2=0
   ·rw [qay h3] at hp;simp [aL] at hp
   ·rw [qbw h0 h3 h1 h2,qkA h3] at hp;simp at hp
theorem qis {l:List UInt8} (h0:l.length≠0) (h:bR (aQ l).1=true):aw l=(0,0,20):=by
 obtain ⟨a,b,c⟩:=cJ h0 (.inr h);rw [c] at h;simp only at h;have hu:cy (ao l)=false:=by have:=qaR h;simp [cy];omega
 have e:cf l=(0,0):=by rw [qaX b,if_neg (by rw [qfk h];simp),if_neg (by rw [hu];simp)]
 rw [dq h0 a,e];rfl
theorem qe7 {l:List UInt8} (h0:l.length≠0) (h:cy (aQ l).1=true):aw l=if bR (ao (l.drop 6))=true then (dd (aQ l).1 (ao (l.drop 6)),12,0) else (0,0,20):=by
 obtain ⟨a,b,c⟩:=cJ h0 (.inl h);rw [c] at h ⊢;simp only at h ⊢;by_cases h2:bR (ao (l.drop 6))=true
 ·have e:cf l=(dd (ao l) (ao (l.drop 6)),12):=by rw [qaX b,if_neg (by rw [qeB h];simp),if_pos ⟨h,h2⟩]
  rw [dq h0 a,e,if_pos h2];rfl
 ·have e:cf l=(0,0):=by rw [qaX b,if_neg (by rw [qeB h];simp),if_neg (fun x=>h2 x.2)]
  rw [dq h0 a,e,if_neg h2];rfl
theorem qeu {l:List UInt8} (h0:l.length≠0) (h:bR (ao l)=true):byt l 0=92∧aQ l=(ao l,6,0):=by
 have hb:=qaR h;obtain ⟨h1,h2,_⟩:=b9 (l:=l) (by omega);exact ⟨h2,by rw [qaJ h0 h2,qaP (by omega)]⟩
def qbP (l:List UInt8) (k:Nat) (ps:List Int):Prop:=
 k≤l.length∧(bL ps).length≤k∧aG l=(ps++(aG (l.drop k)).1,k+(aG (l.drop k)).2.1,(aG (l.drop k)).2.2)
theorem qbP.start (l:List UInt8):qbP l 0 []:=⟨by omega,by simp [bL],by simp⟩
theorem qbP.step {l:List UInt8} {k:Nat} {ps:List Int} {p:Int} {m:Nat} (h:qbP l k ps) (hs:aw (l.drop k)=(p,(m:Int),0)) (hm:m≠0):qbP l (k+m) (ps++[p]):=by
 obtain ⟨h1,h2,h3⟩:=h;have hn:=qaT (l.drop k);rw [hs] at hn;simp only [List.length_drop] at hn;have hg:=qdj (l:=l.drop k) (by rw [hs];simpa using hm);rw [hs] at hg;simp only [Int.toNat_natCast,List.drop_drop] at hg;refine ⟨by omega,?_,?_⟩
 ·rw [cW];simp [bL] at h2 ⊢;omega
 ·rw [h3,hg];simp [Nat.add_assoc]
theorem qbP.stop {l:List UInt8} {k:Nat} {ps:List Int} (h:qbP l k ps) (hs:(aw (l.drop k)).2.1=0):aG l=(ps,k,(aw (l.drop k)).2.2):=by
 rw [h.2.2,qbq hs];simp
def bz (l:List UInt8) (a:Int):List UInt8×Int×Int:=
 if a<0∨(l.length:Int)≤a∨byt l a.toNat≠34 then ([],a,20)
 else if (aG (l.drop (a.toNat+1))).2.2=0 then (bL (aG (l.drop (a.toNat+1))).1,a+1+(aG (l.drop (a.toNat+1))).2.1+1,0)
 else ([],a+1+(aG (l.drop (a.toNat+1))).2.1,(aG (l.drop (a.toNat+1))).2.2)
theorem qaZ {l:List UInt8} {a:Int} (h:a<0∨(l.length:Int)≤a∨byt l a.toNat≠34):bz l a=([],a,20):=by rw [bz,if_pos h]
theorem qdt {l:List UInt8} {q:Nat} (h:q<l.length) (hb:byt l q=34):bz l q=if (aG (l.drop (q+1))).2.2=0 then (bL (aG (l.drop (q+1))).1,(q:Int)+1+(aG (l.drop (q+1))).2.1+1,0)
 else ([],(q:Int)+1+(aG (l.drop (q+1))).2.1,(aG (l.drop (q+1))).2.2):=by
 rw [bz,if_neg (by rw [Int.toNat_natCast];omega),Int.toNat_natCast]
theorem qbP.err {l:List UInt8} {k:Nat} {ps:List Int} {e:Int} (h:qbP l k ps) (hs:aw (l.drop k)=(0,0,e)):aG l=(ps,k,e):=by
 have:=h.stop (by rw [hs]);rw [this,hs]
theorem qbP.le {l:List UInt8} {k:Nat} {ps:List Int} (h:qbP l k ps):k≤(aG l).2.1:=by
 rw [h.2.2];simp only;omega
theorem qhE {l:List UInt8} {q k:Nat} {ps:List Int} {e:Int} (h:q<l.length) (hb:byt l q=34) (hr:aG (l.drop (q+1))=(ps,k,e)) (he:e≠0):bz l q=([],(q:Int)+1+k,e):=by
 rw [qdt h hb,hr,if_neg he]
theorem qiN {l:List UInt8} {q k:Nat} {ps:List Int} (h:q<l.length) (hb:byt l q=34) (hr:aG (l.drop (q+1))=(ps,k,0)):bz l q=(bL ps,(q:Int)+1+k+1,0):=by
 rw [qdt h hb,hr,if_pos rfl]
theorem qj8 {l:List UInt8} (h0:l.length≠0) (hq:byt l 0≠34) (he:(aQ l).2.2=0):1≤(aQ l).2.1:=by
 by_cases hu:cy (aQ l).1=true
 ·rw [(cJ h0 (.inl hu)).2.2];simp
 ·by_cases hl:bR (aQ l).1=true
  ·rw [(cJ h0 (.inr hl)).2.2];simp
  ·have e:=qed h0 hq he (by simpa using hu) (by simpa using hl);have hn:=qaT l;have h2:=he;rw [←e] at he ⊢;rcases hn with h | h
   ·exfalso;have h3:=qg4 l h.1;rw [he] at h3;rcases h3 with h3 | h3 | h3
    ·simp at h3
    ·simp at h3
    ·exact hq h3.2.2
   ·exact h.2.1
theorem qjc {l:List UInt8} {p:Int} {m:Nat} (h:au l=(p,(m:Int))) (hm:m≠0):l.take m=enc p:=by
 rcases cP l with h1 | ⟨_,h2,h3⟩
 ·rw [h] at h1;have:=congrArg Prod.snd h1;simp at this;omega
 ·rw [h] at h2 h3;simp only at h2 h3;have e:m=(enc p).length:=by omega
  conv=>lhs;rw [←h3]
  rw [e,List.take_left'];rfl
theorem qjS {l:List UInt8} {p:Int} {m:Nat} (h0:l.length≠0) (h2:byt l 0≠92) (h:aQ l=(p,(m:Int),0)):au l=(p,(m:Int)):=by
 by_cases h1:byt l 0<32
 ·rw [qax h0 h1] at h;have:=congrArg (fun x=>x.2.2) h;simp at this
 ·by_cases h3:(au l).2=0
  ·rw [qay h3] at h;have:=congrArg (fun x=>x.2.2) h;simp at this
  ·rw [qbw h0 h3 h1 h2] at h;have a:=congrArg Prod.fst h;have b:=congrArg (fun x=>x.2.1) h;simp only at a b;rw [Prod.ext_iff];exact ⟨a,b⟩
theorem qji {l:List UInt8} {u:Int} (h:aQ l=(u,6,0)):l.length≠0:=by
 have:=qgK l;rw [h] at this;simp only at this;omega
theorem qcy {l:List UInt8} {j:Nat} {u:Int} (hup:cy u=true) (h:aQ (l.drop j)=(u,6,0)) (hn:bR (ao (l.drop (j+6)))=false):aw (l.drop j)=(0,0,20):=by
 rw [qe7 (qji h) (by rw [h];exact hup),List.drop_drop,if_neg (by rw [hn];simp)]
theorem qm4 {l:List UInt8} {j:Nat} {u:Int} (hup:cy u=true) (h:aQ (l.drop j)=(u,6,0)) (hn:bR (ao (l.drop (j+6)))=true):aw (l.drop j)=(dd u (ao (l.drop (j+6))),12,0):=by
 rw [qe7 (qji h) (by rw [h];exact hup),List.drop_drop,if_pos hn,h]
theorem qdJ {l:List UInt8} {p n e:Int} (h0:l.length≠0) (h:aQ l=(p,n,e)) (hn:e≠0∨bR p=false):bR (ao l)=false:=by
 cases hc:bR (ao l) with
 | false=>rfl
 | true=>
  have:=(qeu h0 hc).2;rw [h] at this;have a:=congrArg Prod.fst this;have b:=congrArg (fun x=>x.2.2) this;simp only at a b;rcases hn with hn | hn
  ·exact absurd b hn
  ·rw [a,hc] at hn;simp at hn
theorem qgq {l:List UInt8} {p n:Int} (h0:l.length≠0) (h:aQ l=(p,n,0)) (hn:bR p=true):ao l=p∧n=6:=by
 have:=(cJ h0 (by rw [h];exact .inr hn)).2.2;rw [h] at this;exact ⟨(congrArg Prod.fst this).symm,congrArg (fun x=>x.2.1) this⟩
theorem qhO {l:List UInt8} {p n:Int} (h0:l.length≠0) (h:aQ l=(p,n,0)) (hn:cy p=true):n=6:=by
 have:=(cJ h0 (by rw [h];exact .inl hn)).2.2;rw [h] at this;exact congrArg (fun x=>x.2.1) this
theorem qcl (l:List UInt8):Lib.strCells (ae l)=Lib.byteCells l:=rfl
theorem qcc (s:ByteArray) (a m:Nat) (p:Int) (h:au (s.data.toList.drop a)=(p,(m:Int))) (hm:m≠0):Lib.strCells (s.extract a (a+m))=Lib.byteCells (enc p):=by
 have e:=qjc h hm;unfold Lib.strCells Lib.byteCells;rw [←e]
 congr 1
 simp [ByteArray.data_extract]
def toB (l:List Int):List UInt8:=l.map fun x=>UInt8.ofNat x.toNat
theorem qep (l:List Int):(toB l).length=l.length:=by simp [toB]
theorem qbc (l:List Int) (h:∀ x∈l,0≤x∧x<256):Lib.byteCells (toB l)=l.map (Value.int .u8):=by
 simp only [Lib.byteCells,toB,List.map_map];apply List.map_congr_left;intro x hx;obtain ⟨h0,h1⟩:=h x hx;simp [Function.comp];omega
def qbK (d:Int):Int:=if d<10 then 48+d else 87+d
theorem qcB {d:Int} (h0:0≤d) (h1:d≤15):48≤qbK d∧qbK d≤102:=by unfold qbK;split <;> omega
def br (p:Int):Bool:=decide (p<32∨p=34∨p=92)
def qfh (p:Int):List Int:=
 if p=34∨p=92 then [92,p] else if p=8 then [92,98] else if p=9 then [92,116] else if p=10 then [92,110] else if p=12 then [92,102] else if p=13 then [92,114]
 else [92,117,48,48,qbK (p / 16),qbK (p % 16)]
def qj3 (p:Int):List Int:=if br p=true then qfh p else co p
def qbZ (c:Int):List Int:=if br c=true then qfh c else [c]
def qpt (p:Int):List UInt8:=toB (qj3 p)
def qb (c:UInt8):List UInt8:=toB (qbZ c.toNat)
def qL (ps:List Int):List UInt8:=(ps.map qpt).flatten
def qbL (l:List UInt8):List UInt8:=(l.map qb).flatten
theorem qgT (p:Int) (ps:List Int):qL (p::ps)=qpt p++qL ps:=by simp [qL]
theorem qai (a b:List UInt8):qbL (a++b)=qbL a++qbL b:=by simp [qbL]
theorem qie {p:Int} (h0:0≤p) (h1:br p=true):∀ x∈qfh p,0≤x∧x<256:=by
 simp [br] at h1;have a:=qcB (d:=p / 16);have b:=qcB (d:=p % 16);intro x hx;unfold qfh at hx;by_cases c1:p=34∨p=92
 ·rw [if_pos c1] at hx;simp at hx;omega
 ·rw [if_neg c1] at hx;have a:=qcB (d:=p / 16) (by omega) (by omega);have b:=qcB (d:=p % 16) (by omega) (by omega)
  (repeat' split at hx) <;> (simp at hx;omega)
theorem qeR (p:Int):2≤(qfh p).length∧(qfh p).length≤6:=by unfold qfh;(repeat' split) <;> simp
theorem qfJ (c:Int) (h0:0≤c) (h1:c≤255):∀ x∈qbZ c,0≤x∧x<256:=by
 unfold qbZ;by_cases h:br c=true
 ·rw [if_pos h];exact qie h0 h
 ·rw [if_neg h];intro x hx;simp at hx;omega
theorem qm6 (c:UInt8):(qb c).length≤6:=by
 unfold qb qbZ;rw [qep];split
 ·exact (qeR _).2
 ·simp
theorem qlS (p:Int):(qpt p).length≤6:=by
 unfold qpt qj3;rw [qep];split
 ·exact (qeR _).2
 ·have:=qgS p;omega
theorem qf5 (l:List UInt8):(qbL l).length≤6*l.length:=by
 induction l with
 | nil=>simp [qbL]
 | cons a l ih=>
  have:=qm6 a;simp [qbL] at ih ⊢;omega
theorem qfq (p:Int):toB (co p)=enc p:=rfl
theorem qho {p:Int} (h:aL p=true) (h1:128≤p):∀ x∈co p,128≤x∧x<256:=by
 have a:=qaf h;intro x hx;by_cases c1:p<2048
 ·rw [qeq h h1 c1] at hx;simp at hx;omega
 ·by_cases c2:p<65536
  ·rw [qeh h (by omega) c2] at hx;simp at hx;omega
  ·rw [qev h (by omega)] at hx;simp at hx;omega
theorem qhP (xs:List Int) (h:∀ x∈xs,128≤x∧x<256):qbL (toB xs)=toB xs:=by
 induction xs with
 | nil=>rfl
 | cons x xs ih=>
  have hx:=h x (by simp);have e:qb (UInt8.ofNat x.toNat)=[UInt8.ofNat x.toNat]:=by
   have:((UInt8.ofNat x.toNat).toNat:Int)=x:=by simp;omega
   unfold qb qbZ;rw [this,if_neg (by simp [br];omega)];rfl
  have:=ih fun y hy=>h y (by simp [hy]);simp [qbL,toB] at this ⊢;rw [e,this];rfl
theorem qkO {p:Int} (h:aL p=true):qbL (enc p)=qpt p:=by
 have a:=qaV h;by_cases h1:p<128
 ·have e:enc p=[UInt8.ofNat p.toNat]:=by unfold enc;rw [qbr h h1];rfl
  have e2:((UInt8.ofNat p.toNat).toNat:Int)=p:=by simp;omega
  rw [e];simp only [qbL,List.map_cons,List.map_nil,List.flatten_cons,List.flatten_nil,List.append_nil];unfold qb qbZ qpt qj3;rw [e2,qbr h h1]
 ·have e:=qhP (co p) (qho h (by omega));rw [qfq] at e;rw [e];unfold qpt qj3;rw [if_neg (by simp [br];omega)];rfl
theorem qjj (ps:List Int) (h:∀ p∈ps,aL p=true):qbL (bL ps)=qL ps:=by
 induction ps with
 | nil=>rfl
 | cons p ps ih=>rw [qb0,qai,qgT,qkO (h p (by simp)),ih fun q hq=>h q (by simp [hq])]
theorem qen (l:List UInt8) (h:(aw l).2.1≠0):((qpt (aw l).1).length:Int)≤(aw l).2.1:=by
 have six:=qlS (aw l).1;unfold aw at h six ⊢;by_cases h0:l.length=0
 ·rw [if_pos h0] at h;simp at h
 ·rw [if_neg h0] at h six ⊢;by_cases h1:byt l 0=34
  ·rw [if_pos h1] at h;simp at h
  ·rw [if_neg h1] at h six ⊢;by_cases h2:byt l 0<32
   ·rw [if_pos h2] at h;simp at h
   ·rw [if_neg h2] at h six ⊢;by_cases h3:byt l 0=92
    ·rw [if_pos h3] at h six ⊢;by_cases h4:(cf l).2=0
     ·rw [if_pos h4] at h;simp at h
     ·rw [if_neg h4] at six ⊢;simp only at six ⊢;clear h;unfold cf at h4 six ⊢;by_cases h5:2≤l.length∧0≤bG (byt l 1)
      ·rw [if_pos h5];simp only;rcases (qfG _ h5.2).1 with e | e | e | e | e | e | e | e <;> (rw [e];decide)
      ·rw [if_neg h5] at h4 six ⊢;by_cases h6:ao l<0
       ·rw [if_pos h6] at h4;simp at h4
       ·rw [if_neg h6] at h4 six ⊢;by_cases h7:aL (ao l)=true
        ·rw [if_pos h7] at six ⊢;simp only at six ⊢;omega
        ·rw [if_neg h7] at h4 six ⊢;by_cases h8:cy (ao l)=true∧bR (ao (l.drop 6))=true
         ·rw [if_pos h8] at six ⊢;simp only at six ⊢;omega
         ·rw [if_neg h8] at h4;simp at h4
    ·rw [if_neg h3] at h six ⊢;by_cases h4:(au l).2=0
     ·rw [if_pos h4] at h;simp at h
     ·rw [if_neg h4];simp only;have hp:br (au l).1=false:=by
       by_cases h5:byt l 0<128
       ·rw [qal h0 h5];simp [br];omega
       ·have:=qcN (by omega) h4;simp [br];omega
      unfold qpt qj3;rw [if_neg (by rw [hp];simp),qfq];rcases cP l with h5 | ⟨_,h6,_⟩
      ·rw [h5] at h4;simp at h4
      ·omega
theorem qgn (l:List UInt8):(qL (aG l).1).length≤(aG l).2.1:=by
 induction l using qem with
 | h l ih=>
  by_cases h:(aw l).2.1=0
  ·rw [qbq h];simp [qL]
  ·rcases qaT l with h1 | ⟨h3,h1,h4,h2,h5,_⟩
   ·exact absurd h1.1 h
   ·have hi:=ih (aw l).2.1.toNat (by omega) (by omega);have hs:=qen l h;rw [qdj h];simp only;rw [qgT,List.length_append];omega
theorem qav (l:List UInt8) (a:Int) (t:List UInt8) (n:Int) (h:bz l a=(t,n,0)) :
  (b7 t).2=t.length∧((qbL t).length:Int)+a+2≤n∧a<n∧1≤n∧n≤l.length∧byt l (n.toNat-1)=34∧∃ q:Nat,a=q∧q<l.length∧byt l q=34:=by
 unfold bz at h;by_cases h1:a<0∨(l.length:Int)≤a∨byt l a.toNat≠34
 ·rw [if_pos h1] at h;have:=congrArg (fun x=>x.2.2) h;simp at this
 ·rw [if_neg h1] at h;obtain ⟨q,rfl⟩:=Int.eq_ofNat_of_zero_le (show 0≤a by omega);rw [Int.toNat_natCast] at h h1;obtain ⟨f1,f2,f3,f4⟩:=qat (l.drop (q+1));have f5:=qgn (l.drop (q+1));by_cases h2:(aG (l.drop (q+1))).2.2=0
  ·rw [if_pos h2] at h;rcases f4 with f4 | f4 | ⟨_,f6,f7⟩
   ·omega
   ·omega
   ·have ht:bL (aG (l.drop (q+1))).1=t:=congrArg Prod.fst h;have hn:(q:Int)+1+(aG (l.drop (q+1))).2.1+1=n:=congrArg (fun x=>x.2.1) h;rw [List.length_drop] at f6;rw [bv] at f7;have e:b7 (bL (aG (l.drop (q+1))).1++[])=_:=qhF _ f3 [];rw [List.append_nil] at e;refine ⟨?_,?_,by omega,by omega,by omega,?_,q,rfl,by omega,?_⟩
    ·rw [←ht,e];simp [b7,qc9]
    ·rw [←ht,qjj _ f3];omega
    ·have:n.toNat-1=q+1+(aG (l.drop (q+1))).2.1:=by omega
     rw [this];exact f7
    ·by_cases h3:byt l q=34
     ·exact h3
     ·exact absurd (.inr (.inr h3)) h1
  ·rw [if_neg h2] at h;exact absurd (congrArg (fun x=>x.2.2) h) h2
end Ch
namespace Sc
open Go.RowKit Utf Nu
open Ch (bz qdt qaZ aG qat qav qbL)
abbrev Tok:=Int×Int×List UInt8×Int
def isW (c:Int):Bool:=decide (c=32∨c=9∨c=10∨c=13)
def qh5 (c:Int):Bool:=decide (c=123∨c=125∨c=91∨c=93∨c=58∨c=44)
def qiv (c:Int):Bool:=decide (c=45∨(48≤c∧c≤57))
def qdp (c:Int):Bool:=decide ((97≤c∧c≤122)∨(65≤c∧c≤90)∨(48≤c∧c≤57)∨c=95)
theorem qg2 (c:Int):isW c=true↔(c=32∨c=9∨c=10∨c=13):=by simp [isW]
theorem qe0 (c:Int):qh5 c=true↔(c=123∨c=125∨c=91∨c=93∨c=58∨c=44):=by simp [qh5]
theorem qe1 (c:Int):qiv c=true↔(c=45∨(48≤c∧c≤57)):=by simp [qiv]
theorem qcR (c:Int):qdp c=true↔((97≤c∧c≤122)∨(65≤c∧c≤90)∨(48≤c∧c≤57)∨c=95):=by simp [qdp]
theorem qkc {b:Bool} {p:Prop} (h:b=true↔p) (hn:¬p):b=false:=by cases b with
 | false=>rfl
 | true=>exact absurd (h.1 rfl) hn
def bX:List UInt8:=[116,114,117,101]
def qae:List UInt8:=[102,97,108,115,101]
def cn:List UInt8:=[110,117,108,108]
def qej (l:List UInt8) (k:Nat) (w:List UInt8):Prop:=(l.drop k).take w.length=w∧qdp (byt l (k+w.length))=false
instance (l:List UInt8) (k:Nat) (w:List UInt8):Decidable (qej l k w):=by unfold qej;infer_instance
def wrd (l:List UInt8) (k:Nat) (w:List UInt8):Option Tok×Int×Int:=
 if qej l k w then (some (2,0,w,(k:Int)),((k+w.length:Nat):Int),0) else (none,(k:Int),40)
def txT (l:List UInt8) (k:Nat):Option Tok×Int×Int:=
 if (bz l k).2.2=0 then (some (4,0,(bz l k).1,(k:Int)),(bz l k).2.1,0) else (none,(bz l k).2.1,(bz l k).2.2)
def nmT (l:List UInt8) (k:Nat):Option Tok×Int×Int:=
 if (rdS l k).2.2=0 then (some (3,(rdS l k).1,[],(k:Int)),(rdS l k).2.1,0) else (none,(rdS l k).2.1,(rdS l k).2.2)
def stp (l:List UInt8) (k:Nat):Option Tok×Int×Int:=
 if isW (byt l k)=true then (none,((k+1:Nat):Int),0)
 else if qh5 (byt l k)=true then (some (1,0,[l.getD k 0],(k:Int)),((k+1:Nat):Int),0)
 else if byt l k=34 then txT l k
 else if qiv (byt l k)=true then nmT l k
 else if byt l k=116 then wrd l k bX
 else if byt l k=102 then wrd l k qae
 else if byt l k=110 then wrd l k cn
 else (none,(k:Int),40)
def dr (ts:List Tok) (r:List Tok×Int×Int):List Tok×Int×Int:=if r.2.2=0 then (ts++r.1,r.2.1,0) else r
theorem qhp (r:List Tok×Int×Int):dr [] r=r:=by
 unfold dr;split
 ·rename_i h;rw [Prod.ext_iff,Prod.ext_iff];exact ⟨rfl,rfl,h.symm⟩
 ·rfl
theorem qib (a b:List Tok) (r:List Tok×Int×Int):dr (a++b) r=dr a (dr b r):=by
 unfold dr;by_cases h:r.2.2=0
 ·rw [if_pos h,if_pos h,if_pos rfl,List.append_assoc]
 ·rw [if_neg h,if_neg h,if_neg h]
def qce (l:List UInt8):Nat→Nat→List Tok×Int×Int
 | 0,_=>([],0,0)
 | f+1,k=>if k<l.length then (if (stp l k).2.2=0 then dr (stp l k).1.toList (qce l f (stp l k).2.1.toNat) else ([],(stp l k).2.1,(stp l k).2.2)) else ([],0,0)
def scn (l:List UInt8) (k:Nat):List Tok×Int×Int:=qce l (l.length-k) k
def cT (l:List UInt8):List Tok×Int×Int:=if 65536<l.length then ([],0,2) else scn l 0
theorem qeZ {l:List UInt8} {k:Nat} (h:(bz l k).2.2=0):∃ m:Nat,(bz l k).2.1=m∧k<m∧m≤l.length:=by
 rcases hr:bz l k with ⟨t,n,e⟩;rw [hr] at h;simp only at h;subst h;obtain ⟨_,_,h3,h4,h5,_⟩:=qav l k t n hr;exact ⟨n.toNat,by show n=_;omega,by omega,by omega⟩
theorem qid {l:List UInt8} {k:Nat} (hk:k<l.length) (h:(rdS l k).2.2=0):∃ m:Nat,(rdS l k).2.1=m∧k<m∧m≤l.length:=by
 have e:rdS l k=rdN l k:=by rw [rdS,if_neg (by omega),Int.toNat_natCast]
 rw [e] at h ⊢;unfold rdN at h ⊢;split
 ·rename_i hb;rw [if_pos hb] at h;simp at h
 ·rename_i hb
  have h1:=qj7 l k hk;have h2:=qgC l (bg l k) h1.2;have h3:bV l (bg l k)≠0:=fun h=>hb (.inl h);exact ⟨_,rfl,by omega,h2⟩
theorem qaU {l:List UInt8} {k:Nat} {w:List UInt8} (hw:w≠[]) (h:(wrd l k w).2.2=0):∃ m:Nat,(wrd l k w).2.1=m∧k<m∧m≤l.length:=by
 unfold wrd at h ⊢;split
 ·rename_i hh
  have h1:=congrArg List.length hh.1;have h2:w.length≠0:=fun h=>hw (List.eq_nil_of_length_eq_zero h);rw [List.length_take,List.length_drop] at h1;exact ⟨_,rfl,by omega,by omega⟩
 ·rename_i hh;rw [if_neg hh] at h;simp at h
theorem qcb {l:List UInt8} {k:Nat} (hk:k<l.length) (h:(stp l k).2.2=0):∃ m:Nat,(stp l k).2.1=m∧k<m∧m≤l.length:=by
 unfold stp at h ⊢;split
 ·exact ⟨k+1,rfl,by omega,by omega⟩
 ·rename_i c1;rw [if_neg c1] at h
  split
  ·exact ⟨k+1,rfl,by omega,by omega⟩
  ·rename_i c2;rw [if_neg c2] at h
   split
   ·rename_i c3;rw [if_pos c3] at h
    unfold txT at h ⊢;by_cases c:(bz l k).2.2=0
    ·rw [if_pos c];exact qeZ c
    ·rw [if_neg c] at h;exact absurd h c
   ·rename_i c3;rw [if_neg c3] at h
    split
    ·rename_i c4;rw [if_pos c4] at h
     unfold nmT at h ⊢;by_cases c:(rdS l k).2.2=0
     ·rw [if_pos c];exact qid hk c
     ·rw [if_neg c] at h;exact absurd h c
    ·rename_i c4;rw [if_neg c4] at h
     split
     ·rename_i c5;rw [if_pos c5] at h;exact qaU (by decide) h
     ·rename_i c5;rw [if_neg c5] at h
      split
      ·rename_i c6;rw [if_pos c6] at h;exact qaU (by decide) h
      ·rename_i c6;rw [if_neg c6] at h
       split
       ·rename_i c7;rw [if_pos c7] at h;exact qaU (by decide) h
       ·rename_i c7;rw [if_neg c7] at h;simp at h
theorem qhB (l:List UInt8):∀ f g k,l.length-k≤f→l.length-k≤g→qce l f k=qce l g k:=by
 intro f;induction f with
 | zero=>
  intro g k h1 h2;cases g with
  | zero=>rfl
  | succ g=>rw [qce,qce,if_neg (by omega)]
 | succ f ih=>
  intro g k h1 h2;cases g with
  | zero=>rw [qce,qce,if_neg (by omega)]
  | succ g=>
   rw [qce,qce];by_cases hk:k<l.length
   ·rw [if_pos hk,if_pos hk];by_cases he:(stp l k).2.2=0
    ·obtain ⟨m,h3,h4,h5⟩:=qcb hk he;rw [if_pos he,if_pos he,h3,Int.toNat_natCast,ih g m (by omega) (by omega)]
    ·rw [if_neg he,if_neg he]
   ·rw [if_neg hk,if_neg hk]
theorem qeK {l:List UInt8} {k:Nat} (h:l.length≤k):scn l k=([],0,0):=by
 rw [scn,show l.length-k=0 by omega,qce]
theorem qgW {l:List UInt8} {k:Nat} (hk:k<l.length) (h:(stp l k).2.2≠0):scn l k=([],(stp l k).2.1,(stp l k).2.2):=by
 rw [scn,show l.length-k=(l.length-k-1)+1 by omega,qce,if_pos hk,if_neg h]
theorem qj0 {l:List UInt8} {k m:Nat} {o:Option Tok} (hk:k<l.length) (h:stp l k=(o,(m:Int),0)):scn l k=dr o.toList (scn l m):=by
 rw [scn,show l.length-k=(l.length-k-1)+1 by omega,qce,if_pos hk,if_pos (by rw [h]),h];have:=qcb hk (by rw [h]);rw [h] at this;obtain ⟨m',e,h4,h5⟩:=this;simp only at e;rw [scn];simp only [Int.toNat_natCast];rw [qhB l (l.length-k-1) (l.length-m) m (by omega) (by omega)]
inductive cU (l:List UInt8):Nat→List Tok→Nat→Prop
 | nil (k:Nat):cU l k [] k
 | cons {k m n:Nat} {o:Option Tok} {ts:List Tok}:k<l.length→stp l k=(o,(m:Int),0)→cU l m ts n→cU l k (o.toList++ts) n
theorem cU.trans {l:List UInt8} {k m n:Nat} {ts us:List Tok} (h1:cU l k ts m) (h2:cU l m us n):cU l k (ts++us) n:=by
 induction h1 with
 | nil k=>exact h2
 | cons hk hs _ ih=>rw [List.append_assoc];exact .cons hk hs (ih h2)
theorem cU.one {l:List UInt8} {k m:Nat} {o:Option Tok} (hk:k<l.length) (h:stp l k=(o,(m:Int),0)):cU l k o.toList m:=by
 have:=cU.cons hk h (.nil m);rwa [List.append_nil] at this
theorem cU.snoc {l:List UInt8} {k m n:Nat} {o:Option Tok} {ts:List Tok} (h1:cU l k ts m) (hm:m<l.length) (h:stp l m=(o,(n:Int),0)):cU l k (ts++o.toList) n:=h1.trans (.one hm h)
theorem cU.scn {l:List UInt8} {k m:Nat} {ts:List Tok} (h:cU l k ts m):scn l k=dr ts (scn l m):=by
 induction h with
 | nil k=>rw [qhp]
 | cons hk hs _ ih=>rw [qj0 hk hs,ih,←qib]
theorem cU.le {l:List UInt8} {k m:Nat} {ts:List Tok} (h:cU l k ts m):k≤m∧ts.length≤m-k∧(k≤l.length→m≤l.length):=by
 induction h with
 | nil k=>simp
 | cons hk hs _ ih=>
  rename_i k m n o ts _
  have:=qcb hk (by rw [hs]);rw [hs] at this;obtain ⟨m',e,h4,h5⟩:=this;simp only at e;have:o.toList.length≤1:=by cases o <;> simp
  rw [List.length_append];omega
theorem qi4 (l:List UInt8):∀ f k,l.length-k≤f→k≤l.length→(scn l k).2.2=0→cU l k (scn l k).1 l.length∧(scn l k).2.1=0:=by
 intro f;induction f with
 | zero=>
  intro k h1 h2 _;obtain rfl:k=l.length:=by omega
  rw [qeK (Nat.le_refl _)];exact ⟨.nil _,rfl⟩
 | succ f ih=>
  intro k h1 h2 h3;by_cases hk:k<l.length
  ·by_cases he:(stp l k).2.2=0
   ·obtain ⟨m,h4,h5,h6⟩:=qcb hk he;have hs:stp l k=((stp l k).1,(m:Int),0):=by rw [Prod.ext_iff,Prod.ext_iff];exact ⟨rfl,h4,he⟩
    rw [qj0 hk hs] at h3 ⊢;have he2:(scn l m).2.2=0:=by
     unfold dr at h3;by_cases h:(scn l m).2.2=0
     ·exact h
     ·rw [if_neg h] at h3;exact h3
    obtain ⟨h7,h8⟩:=ih m (by omega) h6 he2;rw [dr,if_pos he2];exact ⟨.cons hk hs h7,h8⟩
   ·rw [qgW hk he] at h3;exact absurd h3 he
  ·obtain rfl:k=l.length:=by omega
   rw [qeK (Nat.le_refl _)];exact ⟨.nil _,rfl⟩
theorem qh4 {l:List UInt8} (h:(cT l).2.2=0):l.length≤65536∧cT l=scn l 0∧cU l 0 (cT l).1 l.length∧(cT l).2.1=0:=by
 unfold cT at h ⊢;by_cases hl:65536<l.length
 ·rw [if_pos hl] at h;simp at h
 ·rw [if_neg hl] at h ⊢;exact ⟨by omega,rfl,qi4 l _ 0 (Nat.le_refl _) (by omega) h⟩
def qba (k:Nat):List UInt8:=if k=0 then bX else if k=1 then qae else cn
def wdF (l:List UInt8) (p:Nat):Nat→Nat→Nat
 | 0,_=>0
 | f+1,k=>if qej l p (qba k) then (qba k).length else wdF l p f (k+1)
def wdN (l:List UInt8) (p:Nat):Nat:=wdF l p 3 0
theorem qfE (k:Nat):4≤(qba k).length∧(qba k).length≤5:=by 
 unfold qba;split
 ·decide
 ·split <;> decide
theorem qgB (k:Nat):byt (qba k) 0=if k=0 then 116 else if k=1 then 102 else 110:=by 
 unfold qba;split
 ·rfl
 ·split <;> rfl
theorem qkD {l:List UInt8} {p:Nat} {y:List UInt8} (h:qej l p y) (hy:0<y.length):byt y 0=byt l p:=by
 obtain ⟨h,_⟩:=h;have h2:(l.drop p)[0]? = y[0]?:=by rw [←h,List.getElem?_take,if_pos hy]
 unfold byt;rw [List.getD_eq_getElem?_getD,List.getD_eq_getElem?_getD,←h2,List.getElem?_drop,Nat.add_zero]
theorem qnB {l:List UInt8} {p k:Nat} (hk:k<3) (h:byt l p=byt (qba k) 0):wdN l p=if qej l p (qba k) then (qba k).length else 0:=by
 have no:∀ j,j<3→j≠k→¬qej l p (qba j):=by
  intro j hj hjk hh;have h1:=qkD hh (by have:=(qfE j).1;omega);rw [h,qgB,qgB] at h1;rcases (show k=0∨k=1∨k=2 by omega) with rfl | rfl | rfl <;> rcases (show j=0∨j=1∨j=2 by omega) with rfl | rfl | rfl <;> simp at h1 hjk
 unfold wdN;rw [wdF,wdF,wdF,wdF];rcases (show k=0∨k=1∨k=2 by omega) with rfl | rfl | rfl
 ·rw [if_neg (no 1 (by omega) (by omega)),if_neg (no 2 (by omega) (by omega))]
 ·rw [if_neg (no 0 (by omega) (by omega)),if_neg (no 2 (by omega) (by omega))]
 ·rw [if_neg (no 0 (by omega) (by omega)),if_neg (no 1 (by omega) (by omega))]
def qmy (p:Bool) (t u:Tok):Prop:=t.1=u.1∧t.2.1=u.2.1∧t.2.2.1=u.2.2.1∧(p=true→t.2.2.2=u.2.2.2)
def qgP (p:Bool):List Tok→List Tok→Prop
 | [],[]=>True
 | t::r,u::s=>qmy p t u∧qgP p r s
 | _,_=>False
theorem ql4 (c:UInt8):1≤(Ch.qb c).length:=by
 unfold Ch.qb;rw [Ch.qep];unfold Ch.qbZ;split
 ·have:=(Ch.qeR (c.toNat:Int)).1;omega
 ·simp
theorem qkP (l:List UInt8):l.length≤(qbL l).length:=by
 induction l with
 | nil=>simp
 | cons c r ih=>
  have h:=ql4 c;rw [show c::r=[c]++r from rfl,Ch.qai,List.length_append,List.length_append];have:(qbL [c]).length=(Ch.qb c).length:=by simp [qbL]
  simp only [List.length_singleton];omega
def okT (t:Tok):Prop:=
 (t.1=1∧t.2.1=0∧∃ c:UInt8,t.2.2.1=[c]∧qh5 (c.toNat:Int)=true)∨(t.1=2∧t.2.1=0∧∃ i,i<3∧t.2.2.1=qba i)∨
 (t.1=3∧t.2.1.natAbs≤qdB∧t.2.2.1=[])∨(t.1=4∧t.2.1=0∧(b7 t.2.2.1).2=t.2.2.1.length)
def wr (t:Tok):List UInt8:=if t.1=3 then qa9 t.2.1 else if t.1=4 then 34::(qbL t.2.2.1++[34]) else t.2.2.1
theorem qk2 {l:List UInt8} {k:Nat} {m:Int} {t:Tok} (h:stp l k=(some t,m,0)):okT t∧t.2.2.1.length≤l.length+1:=by
 have key:∀ i,i<3→wrd l k (qba i)=(some t,m,0)→okT t∧t.2.2.1.length≤l.length+1:=by
  intro i hi hw;have hle:=qaU (w:=qba i) (l:=l) (k:=k) (fun e=>by have:=(qfE i).1;rw [e] at this;simp at this) (by rw [hw]);unfold wrd at hw;split at hw
  ·rename_i hh
   have e:(2,0,qba i,(k:Int))=t:=Option.some.inj (congrArg Prod.fst hw);subst e;refine ⟨.inr (.inl ⟨rfl,rfl,i,hi,rfl⟩),?_⟩;have h1:=congrArg List.length hh.1;rw [List.length_take,List.length_drop] at h1;show (qba i).length≤l.length+1;omega
  ·exact absurd (congrArg (fun x=>x.2.2) hw) (by simp)
 unfold stp at h;by_cases c1:isW (byt l k)=true
 ·rw [if_pos c1] at h;exact absurd (congrArg Prod.fst h) (by simp)
 rw [if_neg c1] at h;by_cases c2:qh5 (byt l k)=true
 ·rw [if_pos c2] at h;have e:(1,0,[l.getD k 0],(k:Int))=t:=Option.some.inj (congrArg Prod.fst h);subst e;exact ⟨.inl ⟨rfl,rfl,_,rfl,c2⟩,by simp⟩
 rw [if_neg c2] at h;by_cases c3:byt l k=34
 ·rw [if_pos c3] at h;unfold txT at h;split at h
  ·rename_i he
   have e:=Option.some.inj (congrArg Prod.fst h);subst e;rcases hr:bz l k with ⟨tx,n,e⟩;rw [hr] at he;simp only at he;subst he;obtain ⟨f1,f2,f3,f4,f5,_⟩:=qav l k tx n hr;refine ⟨.inr (.inr (.inr ⟨rfl,rfl,f1⟩)),?_⟩;have hq:=qkP tx;show tx.length≤l.length+1;omega
  ·rename_i he;exact absurd (congrArg (fun x=>x.2.2) h) he
 rw [if_neg c3] at h;by_cases c4:qiv (byt l k)=true
 ·rw [if_pos c4] at h;unfold nmT at h;split at h
  ·have e:=Option.some.inj (congrArg Prod.fst h);subst e;have hb:=qgd l k;refine ⟨.inr (.inr (.inl ⟨rfl,?_,rfl⟩)),by simp⟩;show (rdS l k).1.natAbs≤qdB;omega
  ·rename_i he;exact absurd (congrArg (fun x=>x.2.2) h) he
 rw [if_neg c4] at h;by_cases c5:byt l k=116
 ·rw [if_pos c5] at h;exact key 0 (by omega) h
 rw [if_neg c5] at h;by_cases c6:byt l k=102
 ·rw [if_pos c6] at h;exact key 1 (by omega) h
 rw [if_neg c6] at h;by_cases c7:byt l k=110
 ·rw [if_pos c7] at h;exact key 2 (by omega) h
 rw [if_neg c7] at h;exact absurd (congrArg Prod.fst h) (by simp)
theorem cU.okT {l:List UInt8} {k n:Nat} {ts:List Tok} (h:cU l k ts n):∀ t∈ts,okT t∧t.2.2.1.length≤l.length+1:=by
 induction h with
 | nil k=>simp
 | cons hk hs _ ih=>
  rename_i o ts _
  intro t ht;rw [List.mem_append] at ht;rcases ht with ht | ht
  ·cases o with
   | none=>simp at ht
   | some u=>
    simp at ht;subst ht;exact qk2 hs
  ·exact ih t ht
end Sc
namespace Re
open Utf Sc
inductive V:Type
 | mk (k n:Int) (s:List UInt8) (l:List V) (ns:List (List UInt8)) (ms:List V):V
def V.k:V→Int | .mk k _ _ _ _ _=>k
def V.n:V→Int | .mk _ n _ _ _ _=>n
def V.s:V→List UInt8 | .mk _ _ s _ _ _=>s
def V.l:V→List V | .mk _ _ _ l _ _=>l
def V.ns:V→List (List UInt8) | .mk _ _ _ _ ns _=>ns
def V.ms:V→List V | .mk _ _ _ _ _ ms=>ms
theorem V.eta (v:V):V.mk v.k v.n v.s v.l v.ns v.ms=v:=by cases v;rfl
def V0:V:= .mk 0 0 [] [] [] []
def txV (s:List UInt8):V:= .mk 4 0 s [] [] []
def nmV (n:Int):V:= .mk 3 n [] [] [] []
def wdV (s:List UInt8):V:=if s=cn then .mk 1 0 [] [] [] [] else if s=bX then .mk 2 1 [] [] [] [] else .mk 2 0 [] [] [] []
def lsV (l:List V):V:= .mk 5 0 [] l [] []
def mpV (x:List (List UInt8)×List V):V:= .mk 6 0 [] [] x.1 x.2
mutual
/-- how high a value is -/
def ht:V→Nat
 | .mk _ _ _ l _ ms=>max (htL l) (htL ms)+1
def htL:List V→Nat
 | []=>0
 | v::r=>max (ht v) (htL r)
end
theorem bE {v:V} {l:List V} (h:v∈l):ht v≤htL l:=by
 induction l with
 | nil=>cases h
 | cons a r ih=>
  rw [htL];rcases List.mem_cons.1 h with rfl | h
  ·omega
  ·have:=ih h;omega
inductive Rs (α : Type):Type
 | bad (a y:Int):Rs α
 | ok (v : α) (i p:Nat):Rs α
def Rs.map {α β : Type} (f : α → β):Rs α →Rs β
 | .bad a y=> .bad a y
 | .ok v i p=> .ok (f v) i p
def tk (ts:List Tok) (E:Int) (i:Nat):Tok:=ts.getD i (0,0,[],E)
def isM (t:Tok) (c:UInt8):Bool:=decide (t.1=1∧t.2.2.1=[c])
def qbV (t:Tok):Bool:=decide (t.1=0∨(t.1=1∧t.2.2.1≠[91]∧t.2.2.1≠[123]))
mutual
/-- the value that begins with a token -/
def pV (ts:List Tok) (E:Int):Nat→Nat→Nat→Nat→Rs V
 | 0,_,i,_=> .bad (tk ts E i).2.2.2 50
 | f+1,d,i,p=>
  if qbV (tk ts E i)=true then .bad (tk ts E i).2.2.2 50
  else if 16<d then .bad (tk ts E i).2.2.2 51
  else if p=8192 then .bad (tk ts E i).2.2.2 53
  else if (tk ts E i).1=4 then .ok (txV (tk ts E i).2.2.1) (i+1) (p+1)
  else if (tk ts E i).1=3 then .ok (nmV (tk ts E i).2.1) (i+1) (p+1)
  else if (tk ts E i).1=2 then .ok (wdV (tk ts E i).2.2.1) (i+1) (p+1)
  else if (tk ts E i).2.2.1=[91] then
   (if isM (tk ts E (i+1)) 93=true then .ok (lsV []) (i+1+1) (p+1) else (pL ts E f d (i+1) (p+1)).map lsV)
  else
   (if isM (tk ts E (i+1)) 125=true then .ok (mpV ([],[])) (i+1+1) (p+1) else (pM ts E f d (i+1) (p+1) []).map mpV)
/-- the values of a list, from one on -/
def pL (ts:List Tok) (E:Int):Nat→Nat→Nat→Nat→Rs (List V)
 | 0,_,i,_=> .bad (tk ts E i).2.2.2 50
 | f+1,d,i,p=>
  match pV ts E f (d+1) i p with
  | .bad a y=> .bad a y
  | .ok v j q=>
   if isM (tk ts E j) 93=true then .ok [v] (j+1) q
   else if isM (tk ts E j) 44=true then (pL ts E f d (j+1) q).map fun vs=>v::vs
   else .bad (tk ts E j).2.2.2 50
/-- the members of a map, from one on; ns: the names of those ahead -/
def pM (ts:List Tok) (E:Int):Nat→Nat→Nat→Nat→List (List UInt8)→Rs (List (List UInt8)×List V)
 | 0,_,i,_,_=> .bad (tk ts E i).2.2.2 50
 | f+1,d,i,p,ns=>
  if (tk ts E i).1≠4 then .bad (tk ts E i).2.2.2 50
  else if (tk ts E i).2.2.1∈ns then .bad (tk ts E i).2.2.2 52
  else if isM (tk ts E (i+1)) 58=false then .bad (tk ts E (i+1)).2.2.2 50
  else match pV ts E f (d+1) (i+1+1) p with
  | .bad a y=> .bad a y
  | .ok v j q=>
   if isM (tk ts E j) 125=true then .ok ([(tk ts E i).2.2.1],[v]) (j+1) q
   else if isM (tk ts E j) 44=true then (pM ts E f d (j+1) q (ns++[(tk ts E i).2.2.1])).map fun x=>((tk ts E i).2.2.1::x.1,v::x.2)
   else .bad (tk ts E j).2.2.2 50
end
def dh (ts:List Tok):Nat:=2*ts.length+4
def rdT (ts:List Tok) (E:Int):V×Int×Int:=
 match pV ts E (dh ts) 1 0 0 with
 | .bad a y=>(V0,a,y)
 | .ok v i _=>if i<ts.length then (V0,(tk ts E i).2.2.2,50) else (v,0,0)
def rdV (l:List UInt8):V×Int×Int:=
 if (cT l).2.2≠0 then (V0,(cT l).2.1,(cT l).2.2) else rdT (cT l).1 (l.length:Int)
theorem qiX {ts:List Tok} {E:Int} {i:Nat} (h:i<ts.length):tk ts E i=ts[i]:=by
 unfold tk;rw [List.getD_eq_getElem?_getD,List.getElem?_eq_getElem h];rfl
theorem qb9 {ts:List Tok} {E:Int} {i:Nat} (h:ts.length≤i):tk ts E i=(0,0,[],E):=by
 unfold tk;rw [List.getD_eq_getElem?_getD,List.getElem?_eq_none h];rfl
theorem qbl {ts:List Tok} {E:Int} {i:Nat} {c:UInt8} (h:isM (tk ts E i) c=true):i<ts.length:=by
 rcases Nat.lt_or_ge i ts.length with h1 | h1
 ·exact h1
 ·rw [qb9 h1] at h;simp [isM] at h
theorem qgX {ts:List Tok} {E:Int} {i:Nat} (h:qbV (tk ts E i)=false):i<ts.length:=by
 rcases Nat.lt_or_ge i ts.length with h1 | h1
 ·exact h1
 ·rw [qb9 h1] at h;simp [qbV] at h
mutual
/-- how many values there are in one -/
def cnt:V→Nat
 | .mk _ _ _ l _ ms=>1+aR l+aR ms
def aR:List V→Nat
 | []=>0
 | v::r=>cnt v+aR r
end
mutual
/-- how deep values lie -/
def dp:V→Nat→Nat
 | .mk _ _ _ l _ ms,d=>max d (max (dpL l (d+1)) (dpL ms (d+1)))
def dpL:List V→Nat→Nat
 | [],_=>0
 | v::r,d=>max (dp v d) (dpL r d)
end
mutual
/-- no name twice, a value for each name -/
def okV:V→Prop
 | .mk _ _ _ l ns ms=>ns.length=ms.length∧ns.Nodup∧okL l∧okL ms
def okL:List V→Prop
 | []=>True
 | v::r=>okV v∧okL r
end
theorem qgN (v:V):1≤cnt v:=by cases v;rw [cnt];omega
end Re
namespace Re
open Go.RowKit Utf Sc
mutual
/-- In w the five cells cs read as the value v; what it holds lies in blocks from lo on, below hi. -/
def RdV (w:World) (lo hi:Nat):V→List Value→Prop
 | .mk k n s l ns ms,cs=>∃ vl vm:Value,cs=[.int .i64 k,.int .i64 n,.string (ae s),vl,vm]∧
   (∃ A c,vl = .slice A l.length (l.length+c)∧(0<l.length→∃ g,A=some ⟨g,0,none⟩∧lo≤g∧g<hi∧RdL w lo hi g 0 l))∧
   (∃ A c,vm = .slice A ms.length (ms.length+c)∧ns.length=ms.length∧(0<ms.length→∃ g,A=some ⟨g,0,none⟩∧lo≤g∧g<hi∧RdM w lo hi g 0 ns ms))
def RdL (w:World) (lo hi:Nat):Nat→Nat→List V→Prop
 | _,_,[]=>True
 | g,i,v::r=>(∃ cs,(∀ j u,cs[j]? = some u→w.cell? ⟨g,i*5+j,none⟩=some u)∧RdV w lo hi v cs)∧RdL w lo hi g (i+1) r
def RdM (w:World) (lo hi:Nat):Nat→Nat→List (List UInt8)→List V→Prop
 | _,_,_,[]=>True
 | g,i,ns,v::r=>∃ nm ns',ns=nm::ns'∧w.cell? ⟨g,i*6,none⟩=some (.string (ae nm))∧(∃ cs,(∀ j u,cs[j]? = some u→w.cell? ⟨g,i*6+1+j,none⟩=some u)∧RdV w lo hi v cs)∧RdM w lo hi g (i+1) ns' r
end
section
variable {w w':World} {lo hi lo' hi':Nat}
mutual
theorem RdV.keep (hk:∀ p:Addr,lo≤p.block→p.block<hi→w'.cell? p=w.cell? p) (h1:lo'≤lo) (h2:hi≤hi'):∀ (v:V) (cs:List Value),RdV w lo hi v cs→RdV w' lo' hi' v cs
 | .mk k n s l ns ms,cs,h=>by
  rw [RdV] at h ⊢;obtain ⟨vl,vm,rfl,⟨A,c,rfl,ha⟩,⟨A2,c2,rfl,hn,hb⟩⟩:=h;refine ⟨_,_,rfl,⟨A,c,rfl,fun h0=>?_⟩,⟨A2,c2,rfl,hn,fun h0=>?_⟩⟩
  ·obtain ⟨g,e,g1,g2,h⟩:=ha h0;exact ⟨g,e,by omega,by omega,RdL.keep hk h1 h2 l g 0 g1 g2 h⟩
  ·obtain ⟨g,e,g1,g2,h⟩:=hb h0;exact ⟨g,e,by omega,by omega,RdM.keep hk h1 h2 ms ns g 0 g1 g2 h⟩
theorem RdL.keep (hk:∀ p:Addr,lo≤p.block→p.block<hi→w'.cell? p=w.cell? p) (h1:lo'≤lo) (h2:hi≤hi'):∀ (l:List V) (g i:Nat),lo≤g→g<hi→RdL w lo hi g i l→RdL w' lo' hi' g i l
 | [],g,i,_,_,_=>by rw [RdL];trivial
 | v::r,g,i,g1,g2,h=>by
  rw [RdL] at h ⊢;obtain ⟨⟨cs,hc,hv⟩,hr⟩:=h;exact ⟨⟨cs,fun j u hu=>(hk ⟨g,i*5+j,none⟩ g1 g2).trans (hc j u hu),RdV.keep hk h1 h2 v cs hv⟩,RdL.keep hk h1 h2 r g (i+1) g1 g2 hr⟩
theorem RdM.keep (hk:∀ p:Addr,lo≤p.block→p.block<hi→w'.cell? p=w.cell? p) (h1:lo'≤lo) (h2:hi≤hi'):∀ (ms:List V) (ns:List (List UInt8)) (g i:Nat),lo≤g→g<hi→RdM w lo hi g i ns ms→RdM w' lo' hi' g i ns ms
 | [],ns,g,i,_,_,_=>by rw [RdM];trivial
 | v::r,ns,g,i,g1,g2,h=>by
  rw [RdM] at h ⊢;obtain ⟨nm,ns',rfl,hm,⟨cs,hc,hv⟩,hr⟩:=h;exact ⟨nm,ns',rfl,(hk ⟨g,i*6,none⟩ g1 g2).trans hm,⟨cs,fun j u hu=>(hk ⟨g,i*6+1+j,none⟩ g1 g2).trans (hc j u hu),RdV.keep hk h1 h2 v cs hv⟩,RdM.keep hk h1 h2 r ns' g (i+1) g1 g2 hr⟩
end
theorem RdV.cells {v:V} {cs:List Value} (h:RdV w lo hi v cs):∃ A c A2 c2,cs=[.int .i64 v.k,.int .i64 v.n,.string (ae v.s),.slice A v.l.length c,.slice A2 v.ms.length c2]∧v.ns.length=v.ms.length∧
  (0<v.l.length→∃ g,A=some ⟨g,0,none⟩∧lo≤g∧g<hi∧RdL w lo hi g 0 v.l)∧(0<v.ms.length→∃ g,A2=some ⟨g,0,none⟩∧lo≤g∧g<hi∧RdM w lo hi g 0 v.ns v.ms):=by
 obtain ⟨k,n,s,l,ns,ms⟩:=v;rw [RdV] at h;obtain ⟨vl,vm,rfl,⟨A,c,rfl,ha⟩,⟨A2,c2,rfl,hn,hb⟩⟩:=h;exact ⟨A,_,A2,_,rfl,hn,ha,hb⟩
end
theorem qdv (v:V):cnt v=1+aR v.l+aR v.ms:=by cases v;rw [cnt];rfl
theorem qao (v:V):ht v=max (htL v.l) (htL v.ms)+1:=by cases v;rw [ht];rfl
theorem V.ext' {a b:V} (h1:a.k=b.k) (h2:a.n=b.n) (h3:a.s=b.s) (h4:a.l=b.l) (h5:a.ns=b.ns) (h6:a.ms=b.ms):a=b:=by
 rw [←V.eta a,←V.eta b,h1,h2,h3,h4,h5,h6]
end Re
namespace Re
open Utf Sc
theorem qeL {α β : Type} {f : α → β} {r:Rs α} {v : β} {j q:Nat} (h:r.map f = .ok v j q):∃ u,r = .ok u j q∧f u=v:=by
 cases r with
 | bad a y=>cases h
 | ok u i p=>cases h;exact ⟨u,rfl,rfl⟩
theorem qio (k n:Int) (s:List UInt8):cnt (.mk k n s [] [] [])=1∧(∀ d,dp (.mk k n s [] [] []) d=d)∧okV (.mk k n s [] [] []):=by
 refine ⟨by simp [cnt,aR],fun d=>by simp [dp,dpL],by simp [okV,okL]⟩
theorem qjK (s:List UInt8):∃ k n,wdV s = .mk k n [] [] [] []:=by
 unfold wdV;by_cases h:s=cn
 ·rw [if_pos h];exact ⟨_,_,rfl⟩
 ·rw [if_neg h];by_cases h2:s=bX
  ·rw [if_pos h2];exact ⟨_,_,rfl⟩
  ·rw [if_neg h2];exact ⟨_,_,rfl⟩
theorem qkH {ts:List Tok} {E:Int} {i:Nat} (h:(tk ts E i).1≠0):i<ts.length:=by
 rcases Nat.lt_or_ge i ts.length with h1 | h1
 ·exact h1
 ·rw [qb9 h1] at h;exact absurd rfl h
theorem qlP (ts:List Tok) (E:Int):∀ f,
  (∀ d i p v j q,pV ts E f d i p = .ok v j q→p≤8192→i<j∧j≤ts.length∧q=p+cnt v∧q≤8192∧dp v d≤16∧okV v)∧
  (∀ d i p l j q,pL ts E f d i p = .ok l j q→p≤8192→i<j∧j≤ts.length∧q=p+aR l∧q≤8192∧dpL l (d+1)≤16∧okL l∧l≠[])∧
  (∀ d i p ns x j q,pM ts E f d i p ns = .ok x j q→p≤8192→ns.Nodup→i<j∧j≤ts.length∧q=p+aR x.2∧q≤8192∧dpL x.2 (d+1)≤16∧okL x.2∧x.1.length=x.2.length∧(ns++x.1).Nodup∧x.1≠[]):=by
 intro f;induction f with
 | zero=>exact ⟨fun d i p v j q h=>(by rw [pV] at h;cases h),fun d i p v j q h=>(by rw [pL] at h;cases h),fun d i p ns v j q h=>(by rw [pM] at h;cases h)⟩
 | succ f ih=>
  obtain ⟨iV,iL,iM⟩:=ih;refine ⟨fun d i p v j q h hp=>?_,fun d i p l j q h hp=>?_,fun d i p ns x j q h hp hn=>?_⟩
  ·rw [pV] at h;by_cases c1:qbV (tk ts E i)=true
   ·rw [if_pos c1] at h;cases h
   have hi:=qgX (ts:=ts) (E:=E) (i:=i) (by simpa using c1);rw [if_neg c1] at h;by_cases c2:16<d
   ·rw [if_pos c2] at h;cases h
   rw [if_neg c2] at h;by_cases c3:p=8192
   ·rw [if_pos c3] at h;cases h
   rw [if_neg c3] at h;by_cases c4:(tk ts E i).1=4
   ·rw [if_pos c4] at h;cases h;obtain ⟨l1,l2,l3⟩:=qio 4 0 (tk ts E i).2.2.1;exact ⟨by omega,by omega,by rw [txV,l1],by omega,by rw [txV,l2];omega,l3⟩
   rw [if_neg c4] at h;by_cases c5:(tk ts E i).1=3
   ·rw [if_pos c5] at h;cases h;obtain ⟨l1,l2,l3⟩:=qio 3 (tk ts E i).2.1 [];exact ⟨by omega,by omega,by rw [nmV,l1],by omega,by rw [nmV,l2];omega,l3⟩
   rw [if_neg c5] at h;by_cases c6:(tk ts E i).1=2
   ·rw [if_pos c6] at h;cases h;obtain ⟨k,n,hw⟩:=qjK (tk ts E i).2.2.1;obtain ⟨l1,l2,l3⟩:=qio k n [];rw [hw];exact ⟨by omega,by omega,by rw [l1],by omega,by rw [l2];omega,l3⟩
   rw [if_neg c6] at h;by_cases c7:(tk ts E i).2.2.1=[91]
   ·rw [if_pos c7] at h;by_cases c8:isM (tk ts E (i+1)) 93=true
    ·rw [if_pos c8] at h;cases h;have:=qbl c8;obtain ⟨l1,l2,l3⟩:=qio 5 0 [];exact ⟨by omega,by omega,by rw [lsV,l1],by omega,by rw [lsV,l2];omega,l3⟩
    ·rw [if_neg c8] at h;obtain ⟨u,h1,rfl⟩:=qeL h;obtain ⟨a1,a2,a3,a4,a5,a6,a7⟩:=iL d (i+1) (p+1) u j q h1 (by omega);refine ⟨by omega,a2,?_,a4,?_,?_⟩
     ·rw [lsV,cnt,aR];omega
     ·rw [lsV,dp,dpL];omega
     ·rw [lsV,okV,okL];exact ⟨rfl,List.nodup_nil,a6,trivial⟩
   ·rw [if_neg c7] at h;by_cases c8:isM (tk ts E (i+1)) 125=true
    ·rw [if_pos c8] at h;cases h;have:=qbl c8;obtain ⟨l1,l2,l3⟩:=qio 6 0 [];exact ⟨by omega,by omega,by rw [mpV,l1],by omega,by rw [mpV,l2];omega,l3⟩
    ·rw [if_neg c8] at h;obtain ⟨u,h1,rfl⟩:=qeL h;obtain ⟨a1,a2,a3,a4,a5,a6,a7,a8,_⟩:=iM d (i+1) (p+1) [] u j q h1 (by omega) List.nodup_nil;refine ⟨by omega,a2,?_,a4,?_,?_⟩
     ·rw [mpV,cnt,aR];omega
     ·rw [mpV,dp,dpL];omega
     ·rw [mpV,okV,okL];exact ⟨a7,by simpa using a8,trivial,a6⟩
  ·rw [pL] at h;rcases hv:pV ts E f (d+1) i p with ⟨a,y⟩ | ⟨v,j1,q1⟩
   ·rw [hv] at h;cases h
   ·rw [hv] at h;simp only at h;obtain ⟨b1,b2,b3,b4,b5,b6⟩:=iV (d+1) i p v j1 q1 hv hp;by_cases c1:isM (tk ts E j1) 93=true
    ·rw [if_pos c1] at h;cases h;have:=qbl c1;refine ⟨by omega,by omega,by rw [aR,aR];omega,b4,by rw [dpL,dpL];omega,⟨b6,trivial⟩,by simp⟩
    ·rw [if_neg c1] at h;by_cases c2:isM (tk ts E j1) 44=true
     ·rw [if_pos c2] at h;obtain ⟨u,h1,rfl⟩:=qeL h;obtain ⟨a1,a2,a3,a4,a5,a6,a7⟩:=iL d (j1+1) q1 u j q h1 b4;refine ⟨by omega,a2,by rw [aR];omega,a4,by rw [dpL];omega,⟨b6,a6⟩,by simp⟩
     ·rw [if_neg c2] at h;cases h
  ·rw [pM] at h;by_cases c0:(tk ts E i).1≠4
   ·rw [if_pos c0] at h;cases h
   rw [if_neg c0] at h;by_cases c1:(tk ts E i).2.2.1∈ns
   ·rw [if_pos c1] at h;cases h
   rw [if_neg c1] at h;by_cases c2:isM (tk ts E (i+1)) 58=false
   ·rw [if_pos c2] at h;cases h
   rw [if_neg c2] at h;have hn2:(ns++[(tk ts E i).2.2.1]).Nodup:=by
    rw [List.nodup_append];refine ⟨hn,by simp,?_⟩;intro a ha b hb e;simp at hb;subst hb e;exact c1 ha
   rcases hv:pV ts E f (d+1) (i+1+1) p with ⟨a,y⟩ | ⟨v,j1,q1⟩
   ·rw [hv] at h;cases h
   ·rw [hv] at h;simp only at h;obtain ⟨b1,b2,b3,b4,b5,b6⟩:=iV (d+1) (i+1+1) p v j1 q1 hv hp;by_cases c3:isM (tk ts E j1) 125=true
    ·rw [if_pos c3] at h;cases h;have:=qbl c3;refine ⟨by omega,by omega,by rw [aR,aR];omega,b4,by rw [dpL,dpL];omega,⟨b6,trivial⟩,rfl,hn2,by simp⟩
    ·rw [if_neg c3] at h;by_cases c4:isM (tk ts E j1) 44=true
     ·rw [if_pos c4] at h;obtain ⟨u,h1,rfl⟩:=qeL h;obtain ⟨a1,a2,a3,a4,a5,a6,a7,a8,_⟩:=iM d (j1+1) q1 _ u j q h1 b4 hn2;refine ⟨by omega,a2,by simp only [aR];omega,a4,by simp only [dpL];omega,⟨b6,a6⟩,by simp only [List.length_cons];omega,by simpa using a8,by simp⟩
     ·rw [if_neg c4] at h;cases h
def gL (ts:List Tok) (E:Int) (f d j q:Nat) (first:Bool):Rs (List V):=
 if isM (tk ts E j) 93=true then .ok [] (j+1) q else if first=true then pL ts E f d j q
 else if isM (tk ts E j) 44=true then pL ts E f d (j+1) q else .bad (tk ts E j).2.2.2 50
def gM (ts:List Tok) (E:Int) (f d j q:Nat) (ns:List (List UInt8)) (first:Bool):Rs (List (List UInt8)×List V):=
 if isM (tk ts E j) 125=true then .ok ([],[]) (j+1) q else if first=true then pM ts E f d j q ns
 else if isM (tk ts E j) 44=true then pM ts E f d (j+1) q ns else .bad (tk ts E j).2.2.2 50
theorem Rs.map_map {α β γ : Type} (r:Rs α) (f : α → β) (g : β → γ):(r.map f).map g=r.map fun x=>g (f x):=by cases r <;> rfl
theorem Rs.map_id {α : Type} (r:Rs α):(r.map fun x=>x)=r:=by cases r <;> rfl
theorem Rs.map_congr {α β : Type} {f g : α → β} (r:Rs α) (h:∀ x,f x=g x):r.map f=r.map g:=by rw [funext h]
theorem qlA {ts:List Tok} {E:Int} {f d i p:Nat} {a y:Int} (h:pV ts E f (d+1) i p = .bad a y):pL ts E (f+1) d i p = .bad a y:=by rw [pL,h]
theorem qmv {ts:List Tok} {E:Int} {f d i p j q:Nat} {v:V} (h:pV ts E f (d+1) i p = .ok v j q):pL ts E (f+1) d i p=(gL ts E f d j q false).map fun l=>v::l:=by
 rw [pL,h];simp only;unfold gL;by_cases c1:isM (tk ts E j) 93=true
 ·rw [if_pos c1,if_pos c1];rfl
 ·rw [if_neg c1,if_neg c1,if_neg (show ¬(false=true) by decide)];by_cases c2:isM (tk ts E j) 44=true
  ·rw [if_pos c2,if_pos c2]
  ·rw [if_neg c2,if_neg c2];rfl
theorem qlf {ts:List Tok} {E:Int} {f d i p j q:Nat} {v:V} (acc:List V) (h:pV ts E f (d+1) i p = .ok v j q) :
  (pL ts E (f+1) d i p).map (fun l=>acc++l)=(gL ts E f d j q false).map fun l=>(acc++[v])++l:=by
 rw [qmv h,Rs.map_map];exact Rs.map_congr _ fun x=>by simp
theorem qmr {ts:List Tok} {E:Int} {f d i p:Nat} {ns:List (List UInt8)} {a y:Int} (h4:(tk ts E i).1=4) (hn:(tk ts E i).2.2.1∉ns) (hc:isM (tk ts E (i+1)) 58=true)
  (h:pV ts E f (d+1) (i+1+1) p = .bad a y):pM ts E (f+1) d i p ns = .bad a y:=by
 rw [pM,if_neg (by omega),if_neg hn,if_neg (by rw [hc];decide),h]
theorem qmU {ts:List Tok} {E:Int} {f d i p j q:Nat} {ns:List (List UInt8)} {v:V} (h4:(tk ts E i).1=4) (hn:(tk ts E i).2.2.1∉ns) (hc:isM (tk ts E (i+1)) 58=true)
  (h:pV ts E f (d+1) (i+1+1) p = .ok v j q):pM ts E (f+1) d i p ns=(gM ts E f d j q (ns++[(tk ts E i).2.2.1]) false).map fun x=>((tk ts E i).2.2.1::x.1,v::x.2):=by
 rw [pM,if_neg (by omega),if_neg hn,if_neg (by rw [hc];decide),h];simp only;unfold gM;by_cases c1:isM (tk ts E j) 125=true
 ·rw [if_pos c1,if_pos c1];rfl
 ·rw [if_neg c1,if_neg c1,if_neg (show ¬(false=true) by decide)];by_cases c2:isM (tk ts E j) 44=true
  ·rw [if_pos c2,if_pos c2]
  ·rw [if_neg c2,if_neg c2];rfl
theorem qkm {ts:List Tok} {E:Int} {f d i p j q:Nat} {ns:List (List UInt8)} {v:V} (an:List (List UInt8)) (av:List V) (h4:(tk ts E i).1=4) (hn:(tk ts E i).2.2.1∉ns) (hc:isM (tk ts E (i+1)) 58=true)
  (h:pV ts E f (d+1) (i+1+1) p = .ok v j q) :
  (pM ts E (f+1) d i p ns).map (fun x=>(an++x.1,av++x.2))=(gM ts E f d j q (ns++[(tk ts E i).2.2.1]) false).map fun x=>((an++[(tk ts E i).2.2.1])++x.1,(av++[v])++x.2):=by
 rw [qmU h4 hn hc h,Rs.map_map];exact Rs.map_congr _ fun x=>by simp
theorem qlC {ts:List Tok} {E:Int} {f d i p:Nat} {ns:List (List UInt8)} (h4:(tk ts E i).1≠4):pM ts E (f+1) d i p ns = .bad (tk ts E i).2.2.2 50:=by rw [pM,if_pos h4]
theorem qjh {ts:List Tok} {E:Int} {f d i p:Nat} {ns:List (List UInt8)} (h4:(tk ts E i).1=4) (hn:(tk ts E i).2.2.1∈ns):pM ts E (f+1) d i p ns = .bad (tk ts E i).2.2.2 52:=by
 rw [pM,if_neg (by omega),if_pos hn]
theorem qiP {ts:List Tok} {E:Int} {f d i p:Nat} {ns:List (List UInt8)} (h4:(tk ts E i).1=4) (hn:(tk ts E i).2.2.1∉ns) (hc:isM (tk ts E (i+1)) 58=false):pM ts E (f+1) d i p ns = .bad (tk ts E (i+1)).2.2.2 50:=by
 rw [pM,if_neg (by omega),if_neg hn,if_pos hc]
theorem qkK {ts:List Tok} {E:Int} {f d i p:Nat} (h1:qbV (tk ts E i)=false) (h2:¬16<d) (h3:p≠8192) (h4:(tk ts E i).1=1) (h5:(tk ts E i).2.2.1=[91]) :
  pV ts E (f+1) d i p=(gL ts E f d (i+1) (p+1) true).map lsV:=by
 rw [pV,if_neg (by rw [h1];decide),if_neg h2,if_neg h3,if_neg (by omega),if_neg (by omega),if_neg (by omega),if_pos h5];unfold gL;by_cases c1:isM (tk ts E (i+1)) 93=true
 ·rw [if_pos c1,if_pos c1];rfl
 ·rw [if_neg c1,if_neg c1,if_pos rfl]
theorem qma {ts:List Tok} {E:Int} {f d i p:Nat} (h1:qbV (tk ts E i)=false) (h2:¬16<d) (h3:p≠8192) (h4:(tk ts E i).1=1) (h5:(tk ts E i).2.2.1≠[91]) :
  pV ts E (f+1) d i p=(gM ts E f d (i+1) (p+1) [] true).map mpV:=by
 rw [pV,if_neg (by rw [h1];decide),if_neg h2,if_neg h3,if_neg (by omega),if_neg (by omega),if_neg (by omega),if_neg h5];unfold gM;by_cases c1:isM (tk ts E (i+1)) 125=true
 ·rw [if_pos c1,if_pos c1];rfl
 ·rw [if_neg c1,if_neg c1,if_pos rfl]
end Re
namespace Em
open Utf Sc Re Nu
open Ch (qbL qf5)
def okS (s:List UInt8):Prop:=(b7 s).2=s.length
instance (s:List UInt8):Decidable (okS s):=by unfold okS;infer_instance
def qam (ns:List (List UInt8)):Prop:=ns.length≤8192→(∀ x∈ns,okS x)∧ns.Nodup
instance (ns:List (List UInt8)):Decidable (qam ns):=by unfold qam;infer_instance
def own (k n:Int) (s:List UInt8) (a:Nat) (ns:List (List UInt8)) (b:Nat):Prop:=
 ((1≤k∧k≤6)∧((k≠2∧k≠3)→n=0)∧(k≠4→s=[])∧(k≠5→a=0)∧(k≠6→b=0))∧
  (k=2→n=0∨n=1)∧(k=3→ -9007199254740991≤n∧n≤9007199254740991)∧(k=4→okS s)∧(k=6→qam ns)
instance (k n:Int) (s:List UInt8) (a:Nat) (ns:List (List UInt8)) (b:Nat):Decidable (own k n s a ns b):=by unfold own;infer_instance
def qt (s:List UInt8):List UInt8:=34::(qbL s++[34])
mutual
/-- a value's text -/
def emV:V→List UInt8
 | .mk k n s l ns ms=>if k=1 then cn else if k=2 then (if n=1 then bX else qae) else if k=3 then qa9 n else if k=4 then qt s
  else if k=5 then 91::((emT l).drop 1++[93]) else 123::((emM ns ms).drop 1++[125])
/-- the texts of values, each with a comma ahead -/
def emT:List V→List UInt8
 | []=>[]
 | v::r=>44::(emV v++emT r)
/-- the texts of members, each with a comma ahead -/
def emM:List (List UInt8)→List V→List UInt8
 | _,[]=>[]
 | ns,v::r=>44::(qt (ns.headD [])++58::(emV v++emM ns.tail r))
end
mutual
/-- how many values are right from one on, with those ahead; and why no more -/
def wk:V→Nat→Nat→Nat×Int
 | .mk k n s l ns ms,d,p=>if 16<d then (p,51) else if p=8192 then (p,53) else if own k n s l.length ns ms.length then
   (if (wkL l (d+1) (p+1)).2≠0 then wkL l (d+1) (p+1) else wkL ms (d+1) (wkL l (d+1) (p+1)).1) else (p,1)
def wkL:List V→Nat→Nat→Nat×Int
 | [],_,p=>(p,0)
 | v::r,d,p=>if (wk v d p).2≠0 then wk v d p else wkL r d (wk v d p).1
end
mutual
/-- is each value right by itself? -/
def qcu:V→Prop
 | .mk k n s l ns ms=>own k n s l.length ns ms.length∧qbo l∧qbo ms
def qbo:List V→Prop
 | []=>True
 | v::r=>qcu v∧qbo r
end
mutual
/-- can each value be written? -/
def okW:V→Prop
 | .mk k n s l ns ms=>own k n s l.length ns ms.length∧(∀ x∈ns,okS x)∧ct l∧ct ms
def ct:List V→Prop
 | []=>True
 | v::r=>okW v∧ct r
end
mutual
/-- a value for each name -/
def bC:V→Prop
 | .mk _ _ _ l ns ms=>ns.length=ms.length∧cD l∧cD ms
def cD:List V→Prop
 | []=>True
 | v::r=>bC v∧cD r
end
mutual
/-- no map is too great -/
def qfn:V→Prop
 | .mk _ _ _ l ns ms=>ns.length≤8192∧qaM l∧qaM ms
def qaM:List V→Prop
 | []=>True
 | v::r=>qfn v∧qaM r
end
mutual
/-- how large a value is -/
def szU:V→Nat
 | .mk _ _ s l ns ms=>1+s.length+cC l+(ns.map fun x=>1+x.length).sum+cC ms
def cC:List V→Nat
 | []=>0
 | v::r=>szU v+cC r
end
mutual
theorem qjD:∀ (v:V) (d p:Nat),p≤8192→(wk v d p).1≤8192∧((wk v d p).2=0∨(wk v d p).2=1∨(wk v d p).2=51∨(wk v d p).2=53)
 | .mk k n s l ns ms,d,p,hp=>by
  rw [wk];by_cases h1:16<d
  ·rw [if_pos h1];simp;omega
  rw [if_neg h1];by_cases h2:p=8192
  ·rw [if_pos h2];simp;omega
  rw [if_neg h2];by_cases h3:own k n s l.length ns ms.length
  ·rw [if_pos h3];have a:=qex l (d+1) (p+1) (by omega);by_cases h4:(wkL l (d+1) (p+1)).2≠0
   ·rw [if_pos h4];exact a
   ·rw [if_neg h4];exact qex ms (d+1) _ a.1
  ·rw [if_neg h3];simp;omega
theorem qex:∀ (l:List V) (d p:Nat),p≤8192→(wkL l d p).1≤8192∧((wkL l d p).2=0∨(wkL l d p).2=1∨(wkL l d p).2=51∨(wkL l d p).2=53)
 | [],d,p,hp=>by rw [wkL];simp;omega
 | v::r,d,p,hp=>by
  rw [wkL];have a:=qjD v d p hp;by_cases h4:(wk v d p).2≠0
  ·rw [if_pos h4];exact a
  ·rw [if_neg h4];exact qex r d _ a.1
end
mutual
theorem qls:∀ (v:V) (d p:Nat),p≤8192→(wk v d p).2=0→(wk v d p).1=p+cnt v∧p+cnt v≤8192∧dp v d≤16∧qcu v
 | .mk k n s l ns ms,d,p,hp=>by
  rw [wk];by_cases h1:16<d
  ·rw [if_pos h1];intro h;simp at h
  rw [if_neg h1];by_cases h2:p=8192
  ·rw [if_pos h2];intro h;simp at h
  rw [if_neg h2];by_cases h3:own k n s l.length ns ms.length
  ·rw [if_pos h3];by_cases h4:(wkL l (d+1) (p+1)).2≠0
   ·rw [if_pos h4];intro h;exact absurd h h4
   ·rw [if_neg h4];intro h;obtain ⟨a1,a2,a3,a4⟩:=qfY l (d+1) (p+1) (by omega) (by simpa using h4);rw [a1] at h ⊢;obtain ⟨b1,b2,b3,b4⟩:=qfY ms (d+1) (p+1+aR l) (by omega) h;rw [b1,cnt,dp,qcu];exact ⟨by omega,by omega,by omega,h3,a4,b4⟩
  ·rw [if_neg h3];intro h;simp at h
theorem qfY:∀ (l:List V) (d p:Nat),p≤8192→(wkL l d p).2=0→(wkL l d p).1=p+aR l∧p+aR l≤8192∧dpL l d≤16∧qbo l
 | [],d,p,hp=>by rw [wkL,aR,dpL,qbo];simp;omega
 | v::r,d,p,hp=>by
  rw [wkL];by_cases h4:(wk v d p).2≠0
  ·rw [if_pos h4];intro h;exact absurd h h4
  ·rw [if_neg h4];intro h;obtain ⟨a1,a2,a3,a4⟩:=qls v d p hp (by simpa using h4);rw [a1] at h ⊢;obtain ⟨b1,b2,b3,b4⟩:=qfY r d (p+cnt v) (by omega) h;rw [b1,aR,dpL,qbo];exact ⟨by omega,by omega,by omega,a4,b4⟩
end
mutual
theorem qiE:∀ (v:V) (d p:Nat),(wk v d p).2=1→¬qcu v
 | .mk k n s l ns ms,d,p=>by
  rw [wk,qcu];split
  ·intro h;simp at h
  split
  ·intro h;simp at h
  split
  ·rename_i h3
   split
   ·intro h ⟨_,a,_⟩;exact qb1 l _ _ h a
   ·intro h ⟨_,_,b⟩;exact qb1 ms _ _ h b
  ·rename_i h3;intro _ ⟨a,_⟩;exact h3 a
theorem qb1:∀ (l:List V) (d p:Nat),(wkL l d p).2=1→¬qbo l
 | [],d,p=>by rw [wkL];intro h;simp at h
 | v::r,d,p=>by
  rw [wkL,qbo];split
  ·intro h ⟨a,_⟩;exact qiE v _ _ h a
  ·intro h ⟨_,b⟩;exact qb1 r _ _ h b
end
def chk (v:V):Int:=(wk v 1 0).2
theorem qgg {v:V} (h:chk v=0):cnt v≤8192∧dp v 1≤16∧qcu v:=by
 obtain ⟨_,a,b,c⟩:=qls v 1 0 (by omega) h;exact ⟨by omega,b,c⟩
mutual
theorem qbT:∀ v:V,bC v→cnt v≤8192→qfn v
 | .mk k n s l ns ms,h,hc=>by
  rw [bC] at h;rw [cnt] at hc;rw [qfn];have:=qgQ ms;exact ⟨by omega,qbt l h.2.1 (by omega),qbt ms h.2.2 (by omega)⟩
theorem qbt:∀ l:List V,cD l→aR l≤8192→qaM l
 | [],_,_=>by rw [qaM];trivial
 | v::r,h,hc=>by
  rw [cD] at h;rw [aR] at hc;rw [qaM];exact ⟨qbT v h.1 (by omega),qbt r h.2 (by omega)⟩
theorem qgQ:∀ l:List V,l.length≤aR l
 | []=>by simp
 | v::r=>by
  rw [aR,List.length_cons];have:=qgQ r;have:=qgN v;omega
end
mutual
theorem qhc:∀ v:V,qfn v→bC v→(okW v↔qcu v)
 | .mk k n s l ns ms,h,hl=>by
  rw [qfn] at h;rw [bC] at hl;rw [okW,qcu,qcH l h.2.1 hl.2.1,qcH ms h.2.2 hl.2.2];refine ⟨fun ⟨a,_,b,c⟩=>⟨a,b,c⟩,fun ⟨a,b,c⟩=>⟨a,?_,b,c⟩⟩;by_cases hk:k=6
  ·exact (a.2.2.2.2 hk h.1).1
  ·have:=a.1.2.2.2.2 hk;have e:ns=[]:=List.eq_nil_of_length_eq_zero (by omega);subst e;intro x hx;cases hx
theorem qcH:∀ l:List V,qaM l→cD l→(ct l↔qbo l)
 | [],_,_=>by rw [ct,qbo]
 | v::r,h,hl=>by
  rw [qaM] at h;rw [cD] at hl;rw [ct,qbo,qhc v h.1 hl.1,qcH r h.2 hl.2]
end
theorem qkR {v:V} (h:chk v=0) (hl:bC v):okW v:=(qhc v (qbT v hl (qgg h).1) hl).2 (qgg h).2.2
theorem qcJ (s:List UInt8):(qt s).length≤6*s.length+2:=by
 have:=qf5 s;unfold qt;simp only [List.length_cons,List.length_append,List.length_nil];omega
mutual
theorem qeH:∀ v:V,bC v→(emV v).length+1≤24*szU v
 | .mk k n s l ns ms,h=>by
  rw [bC] at h;have a:=qgH l h.2.1;have b:=qgG ms ns h.1 h.2.2;have c:=qcJ s;have d:=(qfr n).2;rw [emV,szU];split
  ·show 4+1≤_;omega
  split
  ·split
   ·show 4+1≤_;omega
   ·show 5+1≤_;omega
  split
  ·omega
  split
  ·omega
  split
  ·simp only [List.length_cons,List.length_append,List.length_drop,List.length_nil];omega
  ·simp only [List.length_cons,List.length_append,List.length_drop,List.length_nil];omega
theorem qgH:∀ l:List V,cD l→(emT l).length≤24*cC l
 | [],_=>by rw [emT];simp
 | v::r,h=>by
  rw [cD] at h;have a:=qeH v h.1;have b:=qgH r h.2;rw [emT,cC];simp only [List.length_cons,List.length_append];omega
theorem qgG:∀ (ms:List V) (ns:List (List UInt8)),ns.length=ms.length→cD ms→(emM ns ms).length≤24*((ns.map fun x=>1+x.length).sum+cC ms)
 | [],ns,_,_=>by rw [emM];simp
 | v::r,ns,hn,h=>by
  rw [cD] at h;cases ns with
  | nil=>simp at hn
  | cons x ns=>
   have a:=qeH v h.1;have b:=qgG r ns (by simpa using hn) h.2;have c:=qcJ x;rw [emM,cC];simp only [List.length_cons,List.length_append,List.headD_cons,List.tail_cons,List.map_cons,List.sum_cons];omega
end
theorem qgJ:∀ a b:List V,emT (a++b)=emT a++emT b:=by
 intro a b;induction a with
 | nil=>rfl
 | cons v r ih=>rw [List.cons_append,emT,emT,ih];simp
theorem qg6:∀ (a b:List V) (na nb:List (List UInt8)),na.length=a.length→emM (na++nb) (a++b)=emM na a++emM nb b:=by
 intro a b;induction a with
 | nil=>intro na nb h;obtain rfl:=List.eq_nil_of_length_eq_zero h;simp [emM]
 | cons v r ih=>
  intro na nb h;cases na with
  | nil=>simp at h
  | cons x na=>
   have:=ih na nb (by simpa using h);rw [List.cons_append,List.cons_append,emM,emM];simp [this]
theorem qj4 (l:List V) (k:Nat) (h:k<l.length):emT (l.take (k+1))=emT (l.take k)++44::emV l[k]:=by
 rw [cS l k h,qgJ,emT,emT,List.append_nil]
theorem qik (ns:List (List UInt8)) (ms:List V) (k:Nat) (h:k<ms.length) (hn:k<ns.length) (hl:ns.length=ms.length) :
  emM (ns.take (k+1)) (ms.take (k+1))=emM (ns.take k) (ms.take k)++44::(qt ns[k]++58::emV ms[k]):=by
 rw [cS ms k h,cS ns k hn,qg6 _ _ _ _ (by simp [List.length_take];omega),emM,emM];simp
theorem qjd {k n:Int} {s:List UInt8} {l ms:List V} {ns:List (List UInt8)} (h:own k n s l.length ns ms.length) (hk:k≠5):l=[]:=List.eq_nil_of_length_eq_zero (h.1.2.2.2.1 hk)
theorem qif {k n:Int} {s:List UInt8} {l ms:List V} {ns:List (List UInt8)} (h:own k n s l.length ns ms.length) (hk:k≠6):ms=[]:=List.eq_nil_of_length_eq_zero (h.1.2.2.2.2 hk)
end Em
namespace Re
open Utf Sc
set_option linter.unusedSimpArgs false
theorem qiW {l:List UInt8} {ts:List Tok} {r:V×Int×Int} (h:cT l=(ts,0,0)) (h2:rdT ts (l.length:Int)=r):rdV l=r:=by
 unfold rdV;rw [h];exact h2
