/- Merged: ChPl ScPl RePl ReMem RePl2 RePl5 EmPl EmPl2 ReAw0. -/
import Derived.Test.YtofelafamfckiaaGreatDoorTt6
import Derived.Lib.AppendStr
namespace Go.Proofs.YtofelafamfckiaaGreatDoor
namespace Ch
open Go.RowKit Utf
def qbG (c:Int):Int:=if 48≤c∧c≤57 then c-48 else if 65≤c∧c≤70 then c-55 else if 97≤c∧c≤102 then c-87 else -1
theorem qkg (c:Int) : -1≤qbG c:=by unfold qbG;(repeat' split) <;> omega
theorem qgM (c:Int):qbG c≤15:=by unfold qbG;(repeat' split) <;> omega
def qbW (l:List UInt8):Nat→Int
 | 0=>0
 | k+1=>qbW l k*16+qbG (byt l (k+2))
def cH (l:List UInt8):Nat→Bool
 | 0=>true
 | k+1=>cH l k&&decide (0≤qbG (byt l (k+2)))
theorem qg5 {l:List UInt8} {k:Nat} (h:cH l (k+1)=true):cH l k=true∧0≤qbG (byt l (k+2)):=by
 simpa [cH] using h
theorem qf4 (l:List UInt8):∀ k,cH l k=true→0≤qbW l k∧qbW l k<16 ^ k:=by
 intro k;induction k with
 | zero=>intro _;simp [qbW]
 | succ k ih=>
  intro h;obtain ⟨h1,h2⟩:=qg5 h;have:=ih h1;have h3:=qgM (byt l (k+2));simp only [qbW,Int.pow_succ];omega
theorem qfJ (l:List UInt8) (k:Nat) (h:cH l k=false):∀ n,k≤n→cH l n=false:=by
 intro n hn;induction n with
 | zero=>
  have:k=0:=by omega
  subst this;exact h
 | succ n ih=>
  by_cases e:k=n+1
  ·subst e;exact h
  ·simp [cH,ih (by omega)]
def aj (l:List UInt8):Int:=if 6≤l.length∧byt l 0=92∧byt l 1=117∧cH l 4=true then qbW l 4 else -1
theorem b9 {l:List UInt8} (h:0≤aj l):6≤l.length∧byt l 0=92∧byt l 1=117∧cH l 4=true∧aj l=qbW l 4:=by
 unfold aj at h ⊢;split at h
 ·rename_i h1
  rw [if_pos h1];exact ⟨h1.1,h1.2.1,h1.2.2.1,h1.2.2.2,rfl⟩
 ·omega
theorem qid {l:List UInt8} (h0:6≤l.length) (h1:byt l 0=92) (h2:byt l 1=117) (h3:cH l 4=true):aj l=qbW l 4:=by
 rw [aj,if_pos ⟨h0,h1,h2,h3⟩]
theorem qaJ {l:List UInt8} (h:¬(6≤l.length∧byt l 0=92∧byt l 1=117∧cH l 4=true)):aj l = -1:=by
 rw [aj,if_neg h]
theorem qcM (l:List UInt8) : -1≤aj l∧aj l≤65535:=by
 by_cases h:0≤aj l
 ·obtain ⟨_,_,_,h4,h5⟩:=b9 h;have:=qf4 l 4 h4;omega
 ·unfold aj;split
  ·rename_i h1
   have:=qf4 l 4 h1.2.2.2;omega
  ·omega
def bA (c:Int):Int:=if c=34 then 34 else if c=92 then 92 else if c=47 then 47 else if c=98 then 8 else if c=102 then 12 else if c=110 then 10 else if c=114 then 13 else if c=116 then 9 else -1
theorem qej (c:Int):bA c≤92:=by unfold bA;(repeat' split) <;> omega
theorem qeS (c:Int) (h:0≤bA c):(bA c=34∨bA c=92∨bA c=47∨bA c=8∨bA c=12∨bA c=10∨bA c=13∨bA c=9)∧c≠117:=by
 unfold bA at h ⊢;(repeat' split at h) <;> simp_all
def cr (u:Int):Bool:=decide (55296≤u∧u<56320)
def bK (u:Int):Bool:=decide (56320≤u∧u<57344)
theorem qaN {u:Int} (h:cr u=true):55296≤u∧u<56320:=by simpa [cr] using h
theorem qaV {u:Int} (h:bK u=true):56320≤u∧u<57344:=by simpa [bK] using h
theorem qkX (u:Int) (h0:0≤u) (h1:u≤65535) (hu:cr u=false) (hl:bK u=false):aH u=true:=by
 simp [cr,bK,aH] at *;omega
theorem qer {u:Int} (h:cr u=true):aH u=false:=by have:=qaN h;simp [aH];omega
theorem qfg {u:Int} (h:bK u=true):aH u=false:=by have:=qaV h;simp [aH];omega
def cP (u b:Int):Int:=65536+(u-55296)*1024+(b-56320)
theorem qfb {u b:Int} (hu:cr u=true) (hb:bK b=true):65536≤cP u b∧cP u b≤1114111:=by
 have:=qaN hu;have:=qaV hb;unfold cP;omega
def qap (l:List UInt8):Int×Int×Int:=
 if l.length<2 then (0,0,20) else if 0≤bA (byt l 1) then (bA (byt l 1),2,0) else if 0≤aj l then (aj l,6,0) else (0,0,20)
def aO (l:List UInt8):Int×Int×Int:=
 if (ao l).2=0 then (0,0,10) else if (ao l).1<32 then (0,0,20) else if (ao l).1=92 then qap l else ((ao l).1,(ao l).2,0)
def ck (l:List UInt8):Int×Int:=
 if 2≤l.length∧0≤bA (byt l 1) then (bA (byt l 1),2)
 else if aj l<0 then (0,0)
 else if aH (aj l)=true then (aj l,6)
 else if cr (aj l)=true∧bK (aj (l.drop 6))=true then (cP (aj l) (aj (l.drop 6)),12)
 else (0,0)
def aq (l:List UInt8):Int×Int×Int:=
 if l.length=0 then (0,0,20) else if byt l 0=34 then (0,0,0) else if byt l 0<32 then (0,0,20)
 else if byt l 0=92 then (if (ck l).2=0 then (0,0,20) else ((ck l).1,(ck l).2,0))
 else if (ao l).2=0 then (0,0,10) else ((ao l).1,(ao l).2,0)
theorem qab {l:List UInt8} (h0:l.length≠0) (h:byt l 0<128):ao l=(byt l 0,1):=by
 unfold ao;rw [if_neg h0,if_pos h]
theorem qcG {l:List UInt8} (h:128≤byt l 0) (hn:(ao l).2≠0):128≤(ao l).1:=by
 rcases cK l with h1 | ⟨h1,h2,h3⟩
 ·rw [h1] at hn;simp at hn
 ·rcases Int.lt_or_le (ao l).1 128 with h4 | h4
  ·have e:=bR (ao l).1 (l.drop (enc (ao l).1).length) 0 (ao l).1 (by rw [qbo h1 h4];rfl);rw [h3] at e;omega
  ·exact h4
theorem qlM (l:List UInt8):ck l=(0,0)∨(aH (ck l).1=true∧1≤(ck l).2∧(ck l).2≤12∧(ck l).2≤l.length∧((enc (ck l).1).length:Int)≤(ck l).2):=by
 unfold ck;by_cases h1:2≤l.length∧0≤bA (byt l 1)
 ·rw [if_pos h1]
  right
  have h3:=qej (byt l 1);have hp:aH (bA (byt l 1))=true:=by simp [aH];omega
  refine ⟨hp,by simp,by simp,by simp;omega,?_⟩;have:(enc (bA (byt l 1))).length=1:=by rw [qaM,qbo hp (by omega)];rfl
  simp [this]
 ·rw [if_neg h1];by_cases h2:aj l<0
  ·rw [if_pos h2];exact .inl rfl
  ·rw [if_neg h2];obtain ⟨g1,_⟩:=b9 (l:=l) (by omega);have gb:=qcM l;by_cases h3:aH (aj l)=true
   ·rw [if_pos h3]
    right
    refine ⟨h3,by simp,by simp,by simp;omega,?_⟩;have:=qcS (aj l);simp;omega
   ·rw [if_neg h3];by_cases h4:cr (aj l)=true∧bK (aj (l.drop 6))=true
    ·rw [if_pos h4]
     right
     have hb:=qfb h4.1 h4.2;have hl:=qaV h4.2;obtain ⟨g2,_⟩:=b9 (l:=l.drop 6) (by omega);simp at g2;refine ⟨by simp [aH];omega,by simp,by simp,by simp;omega,?_⟩;have:=qcS (cP (aj l) (aj (l.drop 6)));simp;omega
    ·rw [if_neg h4];exact .inl rfl
theorem qaY (l:List UInt8):((aq l).2.1=0∧(aq l).1=0)∨(aH (aq l).1=true∧1≤(aq l).2.1∧(aq l).2.1≤12∧(aq l).2.1≤l.length∧((enc (aq l).1).length:Int)≤(aq l).2.1∧(aq l).2.2=0):=by
 unfold aq;by_cases h0:l.length=0
 ·rw [if_pos h0];exact .inl ⟨rfl,rfl⟩
 ·rw [if_neg h0];by_cases h1:byt l 0=34
  ·rw [if_pos h1];exact .inl ⟨rfl,rfl⟩
  ·rw [if_neg h1];by_cases h2:byt l 0<32
   ·rw [if_pos h2];exact .inl ⟨rfl,rfl⟩
   ·rw [if_neg h2];by_cases h3:byt l 0=92
    ·rw [if_pos h3];rcases qlM l with h4 | ⟨a,b,c,d,e⟩
     ·rw [h4];exact .inl ⟨rfl,rfl⟩
     ·rw [if_neg (by omega)];exact .inr ⟨a,b,c,d,e,rfl⟩
    ·rw [if_neg h3];rcases qaq l with h4 | ⟨a,b,c,d⟩
     ·rw [h4];exact .inl ⟨rfl,rfl⟩
     ·rw [if_neg (by omega)];refine .inr ⟨a,b,by simp only;omega,d,?_,rfl⟩;rcases cK l with h5 | ⟨_,h6,_⟩
      ·rw [h5] at b;simp at b
      ·simp only;omega
def qa9:Nat→List UInt8→List Int×Nat×Int
 | 0,l=>([],0,(aq l).2.2)
 | f+1,l=>if (aq l).2.1=0 then ([],0,(aq l).2.2)
  else ((aq l).1::(qa9 f (l.drop (aq l).2.1.toNat)).1,(aq l).2.1.toNat+(qa9 f (l.drop (aq l).2.1.toNat)).2.1,(qa9 f (l.drop (aq l).2.1.toNat)).2.2)
def aD (l:List UInt8):List Int×Nat×Int:=qa9 l.length l
theorem qa0 (f:Nat):qa9 f []=([],0,20):=by cases f <;> rfl
theorem qfS:∀ (f g:Nat) (l:List UInt8),l.length≤f→l.length≤g→qa9 f l=qa9 g l:=by
 intro f;induction f with
 | zero=>
  intro g l h _;rw [List.eq_nil_of_length_eq_zero (show l.length=0 by omega),qa0,qa0]
 | succ f ih=>
  intro g l hf hg;cases g with
  | zero=>rw [List.eq_nil_of_length_eq_zero (show l.length=0 by omega),qa0,qa0]
  | succ g=>
   simp only [qa9];by_cases h:(aq l).2.1=0
   ·rw [if_pos h,if_pos h]
   ·rw [if_neg h,if_neg h];rcases qaY l with h1 | ⟨_,h1,_,h2,_⟩
    ·exact absurd h1.1 h
    ·rw [ih g (l.drop (aq l).2.1.toNat) (by simp;omega) (by simp;omega)]
theorem qbg {l:List UInt8} (h:(aq l).2.1=0):aD l=([],0,(aq l).2.2):=by
 unfold aD;cases l with
 | nil=>rfl
 | cons a l=>simp only [List.length_cons,qa9];rw [if_pos h]
theorem qcN {l:List UInt8} (h:(aq l).2.1≠0):aD l=((aq l).1::(aD (l.drop (aq l).2.1.toNat)).1,(aq l).2.1.toNat+(aD (l.drop (aq l).2.1.toNat)).2.1,(aD (l.drop (aq l).2.1.toNat)).2.2):=by
 rcases qaY l with h1 | ⟨_,h1,_,h2,_⟩
 ·exact absurd h1.1 h
 ·obtain ⟨k,hk⟩:∃ k,l.length=k+1:=⟨l.length-1,by omega⟩
  unfold aD;rw [hk,qa9,if_neg h,qfS k _ _ (by simp;omega) (Nat.le_refl _)]
theorem qgW (l:List UInt8) (h:(aq l).2.1=0):(aq l).2.2=10∨(aq l).2.2=20∨((aq l).2.2=0∧l.length≠0∧byt l 0=34):=by
 unfold aq at h ⊢;by_cases h0:l.length=0
 ·rw [if_pos h0];exact .inr (.inl rfl)
 ·rw [if_neg h0] at h ⊢;by_cases h1:byt l 0=34
  ·rw [if_pos h1];exact .inr (.inr ⟨rfl,h0,h1⟩)
  ·rw [if_neg h1] at h ⊢;by_cases h2:byt l 0<32
   ·rw [if_pos h2];exact .inr (.inl rfl)
   ·rw [if_neg h2] at h ⊢;by_cases h3:byt l 0=92
    ·rw [if_pos h3] at h ⊢;by_cases h4:(ck l).2=0
     ·rw [if_pos h4];exact .inr (.inl rfl)
     ·rw [if_neg h4] at h;exact absurd h h4
    ·rw [if_neg h3] at h ⊢;by_cases h4:(ao l).2=0
     ·rw [if_pos h4];exact .inl rfl
     ·rw [if_neg h4] at h;exact absurd h h4
theorem qaD (l:List UInt8):(aD l).2.1≤l.length∧(bE (aD l).1).length≤(aD l).2.1∧(∀ p∈(aD l).1,aH p=true)∧
  ((aD l).2.2=10∨(aD l).2.2=20∨((aD l).2.2=0∧(aD l).2.1<l.length∧byt l (aD l).2.1=34)):=by
 induction l using qes with
 | h l ih=>
  by_cases h:(aq l).2.1=0
  ·rw [qbg h];refine ⟨by simp,by simp [bE],by simp,?_⟩;rcases qgW l h with h1 | h1 | ⟨h1,h2,h3⟩
   ·exact .inl h1
   ·exact .inr (.inl h1)
   ·exact .inr (.inr ⟨h1,by simp only;omega,h3⟩)
  ·rcases qaY l with h1 | ⟨h3,h1,h4,h2,h5,_⟩
   ·exact absurd h1.1 h
   ·have hi:=ih (aq l).2.1.toNat (by omega) (by omega);rw [qcN h];obtain ⟨a,b,c,d⟩:=hi;simp only [List.length_drop] at a;refine ⟨by simp only;omega,by rw [qb8];simp only [List.length_append];omega,?_,?_⟩
    ·intro p hp;simp at hp;rcases hp with rfl | hp
     ·exact h3
     ·exact c p hp
    ·rcases d with d | d | ⟨d1,d2,d3⟩
     ·exact .inl d
     ·exact .inr (.inl d)
     ·refine .inr (.inr ⟨d1,?_,?_⟩)
      ·simp only [List.length_drop] at d2;simp only;omega
      ·rw [bo] at d3;exact d3
theorem qhV {l:List UInt8} (h:byt l 0≠92):aj l = -1:=qaJ fun x=>h x.2.1
theorem qhD {l:List UInt8} (h:l.length=0):aj l = -1:=qaJ fun x=>by omega
theorem qax {l:List UInt8} (h:(ao l).2=0):aO l=(0,0,10):=by unfold aO;rw [if_pos h]
theorem qau {l:List UInt8} (h0:l.length≠0) (h:byt l 0<32):aO l=(0,0,20):=by
 have e:=qab h0 (by omega);unfold aO;rw [e,if_neg (by simp),if_pos h]
theorem qaB {l:List UInt8} (h0:l.length≠0) (h:byt l 0=92):aO l=qap l:=by
 have e:=qab h0 (by omega);unfold aO;rw [e,h];rfl
theorem qbs {l:List UInt8} (h0:l.length≠0) (h:(ao l).2≠0) (h1:¬byt l 0<32) (h2:byt l 0≠92):aO l=((ao l).1,(ao l).2,0):=by
 unfold aO;rw [if_neg h];by_cases h3:byt l 0<128
 ·rw [qab h0 h3,if_neg h1,if_neg h2]
 ·have:=qcG (by omega) h;rw [if_neg (by omega),if_neg (by omega)]
theorem qhK {l:List UInt8} (h0:l.length≠0) (h:byt l 0<32):aq l=(0,0,20):=by
 unfold aq;rw [if_neg h0,if_neg (by omega),if_pos h]
theorem cY {l:List UInt8} (h0:l.length≠0) (h:byt l 0=92):aq l=if (ck l).2=0 then (0,0,20) else ((ck l).1,(ck l).2,0):=by
 unfold aq;rw [if_neg h0,if_neg (by omega),if_neg (by omega),if_pos h]
theorem qfk {l:List UInt8} (h0:l.length≠0) (h1:¬byt l 0<32) (h2:byt l 0≠92) (h3:byt l 0≠34):aq l=if (ao l).2=0 then (0,0,10) else ((ao l).1,(ao l).2,0):=by
 unfold aq;rw [if_neg h0,if_neg h3,if_neg h1,if_neg h2]
theorem qeQ {l:List UInt8} (h0:l.length≠0) (h:byt l 0=34):aq l=(0,0,0):=by
 unfold aq;rw [if_neg h0,if_pos h]
theorem qg8 {l:List UInt8} (h0:l.length=0):aq l=(0,0,20):=by
 unfold aq;rw [if_pos h0]
theorem qbu {l:List UInt8} (h:2≤l.length) (hl:0≤bA (byt l 1)):qap l=(bA (byt l 1),2,0)∧ck l=(bA (byt l 1),2):=by
 constructor
 ·unfold qap;rw [if_neg (by omega),if_pos hl]
 ·unfold ck;rw [if_pos ⟨h,hl⟩]
theorem qgI {l:List UInt8} (h:0≤aj l):¬0≤bA (byt l 1):=by
 obtain ⟨_,_,h3,_⟩:=b9 h;intro hc;exact (qeS _ hc).2 h3
theorem qaP {l:List UInt8} (h:0≤aj l):qap l=(aj l,6,0):=by
 obtain ⟨h1,_⟩:=b9 h;unfold qap;rw [if_neg (by omega),if_neg (qgI h),if_pos h]
theorem qbP {l:List UInt8} (h:l.length<2∨¬0≤bA (byt l 1)) (hu:aj l<0):qap l=(0,0,20)∧ck l=(0,0):=by
 constructor
 ·unfold qap;by_cases h1:l.length<2
  ·rw [if_pos h1]
  ·rw [if_neg h1,if_neg (by omega),if_neg (by omega)]
 ·unfold ck;rw [if_neg (by omega),if_pos hu]
theorem qaR {l:List UInt8} (h:0≤aj l):ck l=if aH (aj l)=true then (aj l,6) else if cr (aj l)=true∧bK (aj (l.drop 6))=true then (cP (aj l) (aj (l.drop 6)),12) else (0,0):=by
 unfold ck;rw [if_neg (fun x=>qgI h x.2),if_neg (by omega)]
theorem qgt (l:List UInt8):0≤(aO l).1∧(aO l).1≤1114111∧0≤(aO l).2.1∧(aO l).2.1≤6∧(aO l).2.1≤l.length∧((aO l).2.2=0∨(aO l).2.2=10∨(aO l).2.2=20):=by
 unfold aO;rcases qaq l with h1 | ⟨a,b,c,d⟩
 ·rw [h1];simp
 ·have a0:=qaQ a;have a1:=qah a;rw [if_neg (by omega)];by_cases h2:(ao l).1<32
  ·rw [if_pos h2];simp
  ·rw [if_neg h2];by_cases h3:(ao l).1=92
   ·rw [if_pos h3];unfold qap;by_cases h4:l.length<2
    ·rw [if_pos h4];simp
    ·rw [if_neg h4];by_cases h5:0≤bA (byt l 1)
     ·have:=qej (byt l 1);rw [if_pos h5];exact ⟨by simp only;omega,by simp only;omega,by simp only;omega,by simp only;omega,by simp only;omega,.inl rfl⟩
     ·rw [if_neg h5];by_cases h6:0≤aj l
      ·obtain ⟨g,_⟩:=b9 h6;have:=qcM l;rw [if_pos h6];exact ⟨by simp only;omega,by simp only;omega,by simp only;omega,by simp only;omega,by simp only;omega,.inl rfl⟩
      ·rw [if_neg h6];simp
   ·rw [if_neg h3];exact ⟨by simp only;omega,by simp only;omega,by simp only;omega,by simp only;omega,by simp only;omega,.inl rfl⟩
theorem qjo {l:List UInt8} (h0:l.length≠0) (hq:byt l 0≠34) (he:(aO l).2.2≠0):aq l=(0,0,(aO l).2.2):=by
 by_cases h1:byt l 0<32
 ·rw [qhK h0 h1,qau h0 h1]
 ·by_cases h2:byt l 0=92
  ·rw [qaB h0 h2] at he ⊢;rw [cY h0 h2];by_cases h3:2≤l.length∧0≤bA (byt l 1)
   ·rw [(qbu h3.1 h3.2).1] at he;simp at he
   ·by_cases h4:0≤aj l
    ·rw [qaP h4] at he;simp at he
    ·have:=qbP (l:=l) (by omega) (by omega);rw [this.1,this.2];rfl
  ·rw [qfk h0 h1 h2 hq];by_cases h3:(ao l).2=0
   ·rw [qax h3,if_pos h3]
   ·rw [qbs h0 h3 h1 h2] at he;simp at he
theorem qdG {l:List UInt8} (h0:l.length≠0) (hq:byt l 0≠34) (he:(aO l).2.2=0) (hu:cr (aO l).1=false) (hl:bK (aO l).1=false):aq l=aO l:=by
 by_cases h1:byt l 0<32
 ·rw [qau h0 h1] at he;simp at he
 ·by_cases h2:byt l 0=92
  ·rw [qaB h0 h2] at he hu hl ⊢;rw [cY h0 h2];by_cases h3:2≤l.length∧0≤bA (byt l 1)
   ·have:=qbu h3.1 h3.2;rw [this.1,this.2];rfl
   ·by_cases h4:0≤aj l
    ·rw [qaP h4] at hu hl ⊢;have gb:=qcM l;rw [qaR h4,if_pos (qkX _ h4 gb.2 hu hl)];rfl
    ·have:=qbP (l:=l) (by omega) (by omega);rw [this.1] at he;simp at he
  ·rw [qfk h0 h1 h2 hq];by_cases h3:(ao l).2=0
   ·rw [qax h3] at he;simp at he
   ·rw [qbs h0 h3 h1 h2,if_neg h3]
theorem cC {l:List UInt8} (h0:l.length≠0) (h:cr (aO l).1=true∨bK (aO l).1=true):byt l 0=92∧0≤aj l∧aO l=(aj l,6,0):=by
 have hp:aH (aO l).1=false:=by rcases h with h | h;exact qer h;exact qfg h
 have h92:∀ n:Int,0≤n→n≤92→aH n=true:=by intro n a b;simp [aH];omega
 by_cases h1:byt l 0<32
 ·rw [qau h0 h1] at hp;simp [aH] at hp
 ·by_cases h2:byt l 0=92
  ·refine ⟨h2,?_⟩;rw [qaB h0 h2] at hp ⊢;by_cases h3:2≤l.length∧0≤bA (byt l 1)
   ·rw [(qbu h3.1 h3.2).1,h92 _ h3.2 (qej _)] at hp;simp at hp
   ·by_cases h4:0≤aj l
    ·exact ⟨h4,qaP h4⟩
    ·have:=qbP (l:=l) (by omega) (by omega);rw [this.1] at hp;simp [aH] at hp
  ·by_cases h3:(ao l).2=0
   ·rw [qax h3] at hp;simp [aH] at hp
   ·rw [qbs h0 h3 h1 h2,qki h3] at hp;simp at hp
theorem qjv {l:List UInt8} (h0:l.length≠0) (h:bK (aO l).1=true):aq l=(0,0,20):=by
 obtain ⟨a,b,c⟩:=cC h0 (.inr h);rw [c] at h;simp only at h;have hu:cr (aj l)=false:=by have:=qaV h;simp [cr];omega
 have e:ck l=(0,0):=by rw [qaR b,if_neg (by rw [qfg h];simp),if_neg (by rw [hu];simp)]
 rw [cY h0 a,e];rfl
theorem qe3 {l:List UInt8} (h0:l.length≠0) (h:cr (aO l).1=true):aq l=if bK (aj (l.drop 6))=true then (cP (aO l).1 (aj (l.drop 6)),12,0) else (0,0,20):=by
 obtain ⟨a,b,c⟩:=cC h0 (.inl h);rw [c] at h ⊢;simp only at h ⊢;by_cases h2:bK (aj (l.drop 6))=true
 ·have e:ck l=(cP (aj l) (aj (l.drop 6)),12):=by rw [qaR b,if_neg (by rw [qer h];simp),if_pos ⟨h,h2⟩]
  rw [cY h0 a,e,if_pos h2];rfl
 ·have e:ck l=(0,0):=by rw [qaR b,if_neg (by rw [qer h];simp),if_neg (fun x=>h2 x.2)]
  rw [cY h0 a,e,if_neg h2];rfl
theorem qet {l:List UInt8} (h0:l.length≠0) (h:bK (aj l)=true):byt l 0=92∧aO l=(aj l,6,0):=by
 have hb:=qaV h;obtain ⟨h1,h2,_⟩:=b9 (l:=l) (by omega);exact ⟨h2,by rw [qaB h0 h2,qaP (by omega)]⟩
def qbw (l:List UInt8) (k:Nat) (ps:List Int):Prop:=
 k≤l.length∧(bE ps).length≤k∧aD l=(ps++(aD (l.drop k)).1,k+(aD (l.drop k)).2.1,(aD (l.drop k)).2.2)
theorem qbw.start (l:List UInt8):qbw l 0 []:=⟨by omega,by simp [bE],by simp⟩
theorem qbw.step {l:List UInt8} {k:Nat} {ps:List Int} {p:Int} {m:Nat} (h:qbw l k ps) (hs:aq (l.drop k)=(p,(m:Int),0)) (hm:m≠0):qbw l (k+m) (ps++[p]):=by
 obtain ⟨h1,h2,h3⟩:=h;have hn:=qaY (l.drop k);rw [hs] at hn;simp only [List.length_drop] at hn;have hg:=qcN (l:=l.drop k) (by rw [hs];simpa using hm);rw [hs] at hg;simp only [Int.toNat_natCast,List.drop_drop] at hg;refine ⟨by omega,?_,?_⟩
 ·rw [cR];simp [bE] at h2 ⊢;omega
 ·rw [h3,hg];simp [Nat.add_assoc]
theorem qbw.stop {l:List UInt8} {k:Nat} {ps:List Int} (h:qbw l k ps) (hs:(aq (l.drop k)).2.1=0):aD l=(ps,k,(aq (l.drop k)).2.2):=by
 rw [h.2.2,qbg hs];simp
def bq (l:List UInt8) (a:Int):List UInt8×Int×Int:=
 if a<0∨(l.length:Int)≤a∨byt l a.toNat≠34 then ([],a,20)
 else if (aD (l.drop (a.toNat+1))).2.2=0 then (bE (aD (l.drop (a.toNat+1))).1,a+1+(aD (l.drop (a.toNat+1))).2.1+1,0)
 else ([],a+1+(aD (l.drop (a.toNat+1))).2.1,(aD (l.drop (a.toNat+1))).2.2)
theorem qa4 {l:List UInt8} {a:Int} (h:a<0∨(l.length:Int)≤a∨byt l a.toNat≠34):bq l a=([],a,20):=by rw [bq,if_pos h]
theorem qcJ {l:List UInt8} {q:Nat} (h:q<l.length) (hb:byt l q=34):bq l q=if (aD (l.drop (q+1))).2.2=0 then (bE (aD (l.drop (q+1))).1,(q:Int)+1+(aD (l.drop (q+1))).2.1+1,0)
 else ([],(q:Int)+1+(aD (l.drop (q+1))).2.1,(aD (l.drop (q+1))).2.2):=by
 rw [bq,if_neg (by rw [Int.toNat_natCast];omega),Int.toNat_natCast]
theorem qbw.err {l:List UInt8} {k:Nat} {ps:List Int} {e:Int} (h:qbw l k ps) (hs:aq (l.drop k)=(0,0,e)):aD l=(ps,k,e):=by
 have:=h.stop (by rw [hs]);rw [this,hs]
theorem qbw.le {l:List UInt8} {k:Nat} {ps:List Int} (h:qbw l k ps):k≤(aD l).2.1:=by
 rw [h.2.2];simp only;omega
theorem qg6 {l:List UInt8} {q k:Nat} {ps:List Int} {e:Int} (h:q<l.length) (hb:byt l q=34) (hr:aD (l.drop (q+1))=(ps,k,e)) (he:e≠0):bq l q=([],(q:Int)+1+k,e):=by
 rw [qcJ h hb,hr,if_neg he]
theorem qjM {l:List UInt8} {q k:Nat} {ps:List Int} (h:q<l.length) (hb:byt l q=34) (hr:aD (l.drop (q+1))=(ps,k,0)):bq l q=(bE ps,(q:Int)+1+k+1,0):=by
 rw [qcJ h hb,hr,if_pos rfl]
theorem qjK {l:List UInt8} (h0:l.length≠0) (hq:byt l 0≠34) (he:(aO l).2.2=0):1≤(aO l).2.1:=by
 by_cases hu:cr (aO l).1=true
 ·rw [(cC h0 (.inl hu)).2.2];simp
 ·by_cases hl:bK (aO l).1=true
  ·rw [(cC h0 (.inr hl)).2.2];simp
  ·have e:=qdG h0 hq he (by simpa using hu) (by simpa using hl);have hn:=qaY l;have h2:=he;rw [←e] at he ⊢;rcases hn with h | h
   ·exfalso;have h3:=qgW l h.1;rw [he] at h3;rcases h3 with h3 | h3 | h3
    ·simp at h3
    ·simp at h3
    ·exact hq h3.2.2
   ·exact h.2.1
theorem qjR {l:List UInt8} {p:Int} {m:Nat} (h:ao l=(p,(m:Int))) (hm:m≠0):l.take m=enc p:=by
 rcases cK l with h1 | ⟨_,h2,h3⟩
 ·rw [h] at h1;have:=congrArg Prod.snd h1;simp at this;omega
 ·rw [h] at h2 h3;simp only at h2 h3;have e:m=(enc p).length:=by omega
  conv=>lhs;rw [←h3]
  rw [e,List.take_left'];rfl
theorem qjw {l:List UInt8} {p:Int} {m:Nat} (h0:l.length≠0) (h2:byt l 0≠92) (h:aO l=(p,(m:Int),0)):ao l=(p,(m:Int)):=by
 by_cases h1:byt l 0<32
 ·rw [qau h0 h1] at h;have:=congrArg (fun x=>x.2.2) h;simp at this
 ·by_cases h3:(ao l).2=0
  ·rw [qax h3] at h;have:=congrArg (fun x=>x.2.2) h;simp at this
  ·rw [qbs h0 h3 h1 h2] at h;have a:=congrArg Prod.fst h;have b:=congrArg (fun x=>x.2.1) h;simp only at a b;rw [Prod.ext_iff];exact ⟨a,b⟩
theorem qi7 {l:List UInt8} {u:Int} (h:aO l=(u,6,0)):l.length≠0:=by
 have:=qgt l;rw [h] at this;simp only at this;omega
theorem qcq {l:List UInt8} {j:Nat} {u:Int} (hup:cr u=true) (h:aO (l.drop j)=(u,6,0)) (hn:bK (aj (l.drop (j+6)))=false):aq (l.drop j)=(0,0,20):=by
 rw [qe3 (qi7 h) (by rw [h];exact hup),List.drop_drop,if_neg (by rw [hn];simp)]
theorem qmo {l:List UInt8} {j:Nat} {u:Int} (hup:cr u=true) (h:aO (l.drop j)=(u,6,0)) (hn:bK (aj (l.drop (j+6)))=true):aq (l.drop j)=(cP u (aj (l.drop (j+6))),12,0):=by
 rw [qe3 (qi7 h) (by rw [h];exact hup),List.drop_drop,if_pos hn,h]
theorem qdE {l:List UInt8} {p n e:Int} (h0:l.length≠0) (h:aO l=(p,n,e)) (hn:e≠0∨bK p=false):bK (aj l)=false:=by
 cases hc:bK (aj l) with
 | false=>rfl
 | true=>
  have:=(qet h0 hc).2;rw [h] at this;have a:=congrArg Prod.fst this;have b:=congrArg (fun x=>x.2.2) this;simp only at a b;rcases hn with hn | hn
  ·exact absurd b hn
  ·rw [a,hc] at hn;simp at hn
theorem qfE {l:List UInt8} {p n:Int} (h0:l.length≠0) (h:aO l=(p,n,0)) (hn:bK p=true):aj l=p∧n=6:=by
 have:=(cC h0 (by rw [h];exact .inr hn)).2.2;rw [h] at this;exact ⟨(congrArg Prod.fst this).symm,congrArg (fun x=>x.2.1) this⟩
theorem qhS {l:List UInt8} {p n:Int} (h0:l.length≠0) (h:aO l=(p,n,0)) (hn:cr p=true):n=6:=by
 have:=(cC h0 (by rw [h];exact .inl hn)).2.2;rw [h] at this;exact congrArg (fun x=>x.2.1) this
theorem qcd (l:List UInt8):Lib.strCells (ae l)=Lib.byteCells l:=rfl
theorem qb4 (s:ByteArray) (a m:Nat) (p:Int) (h:ao (s.data.toList.drop a)=(p,(m:Int))) (hm:m≠0):Lib.strCells (s.extract a (a+m))=Lib.byteCells (enc p):=by
 have e:=qjR h hm;unfold Lib.strCells Lib.byteCells;rw [←e]
 congr 1
 simp [ByteArray.data_extract]
def toB (l:List Int):List UInt8:=l.map fun x=>UInt8.ofNat x.toNat
theorem qeJ (l:List Int):(toB l).length=l.length:=by simp [toB]
theorem qba (l:List Int) (h:∀ x∈l,0≤x∧x<256):Lib.byteCells (toB l)=l.map (Value.int .u8):=by
 simp only [Lib.byteCells,toB,List.map_map];apply List.map_congr_left;intro x hx;obtain ⟨h0,h1⟩:=h x hx;simp [Function.comp];omega
def qbA (d:Int):Int:=if d<10 then 48+d else 87+d
theorem qcl {d:Int} (h0:0≤d) (h1:d≤15):48≤qbA d∧qbA d≤102:=by unfold qbA;split <;> omega
def bj (p:Int):Bool:=decide (p<32∨p=34∨p=92)
def qeU (p:Int):List Int:=
 if p=34∨p=92 then [92,p] else if p=8 then [92,98] else if p=9 then [92,116] else if p=10 then [92,110] else if p=12 then [92,102] else if p=13 then [92,114]
 else [92,117,48,48,qbA (p / 16),qbA (p % 16)]
def qjq (p:Int):List Int:=if bj p=true then qeU p else cq p
def qbZ (c:Int):List Int:=if bj c=true then qeU c else [c]
def qpt (p:Int):List UInt8:=toB (qjq p)
def qb (c:UInt8):List UInt8:=toB (qbZ c.toNat)
def qL (ps:List Int):List UInt8:=(ps.map qpt).flatten
def qbL (l:List UInt8):List UInt8:=(l.map qb).flatten
theorem qgP (p:Int) (ps:List Int):qL (p::ps)=qpt p++qL ps:=by simp [qL]
theorem qae (a b:List UInt8):qbL (a++b)=qbL a++qbL b:=by simp [qbL]
theorem qh0 {p:Int} (h0:0≤p) (h1:bj p=true):∀ x∈qeU p,0≤x∧x<256:=by
 simp [bj] at h1;have a:=qcl (d:=p / 16);have b:=qcl (d:=p % 16);intro x hx;unfold qeU at hx;by_cases c1:p=34∨p=92
 ·rw [if_pos c1] at hx;simp at hx;omega
 ·rw [if_neg c1] at hx;have a:=qcl (d:=p / 16) (by omega) (by omega);have b:=qcl (d:=p % 16) (by omega) (by omega)
  (repeat' split at hx) <;> (simp at hx;omega)
theorem qez (p:Int):2≤(qeU p).length∧(qeU p).length≤6:=by unfold qeU;(repeat' split) <;> simp
theorem qfw (c:Int) (h0:0≤c) (h1:c≤255):∀ x∈qbZ c,0≤x∧x<256:=by
 unfold qbZ;by_cases h:bj c=true
 ·rw [if_pos h];exact qh0 h0 h
 ·rw [if_neg h];intro x hx;simp at hx;omega
theorem qmK (c:UInt8):(qb c).length≤6:=by
 unfold qb qbZ;rw [qeJ];split
 ·exact (qez _).2
 ·simp
theorem qlf (p:Int):(qpt p).length≤6:=by
 unfold qpt qjq;rw [qeJ];split
 ·exact (qez _).2
 ·have:=qgD p;omega
theorem qgd (l:List UInt8):(qbL l).length≤6*l.length:=by
 induction l with
 | nil=>simp [qbL]
 | cons a l ih=>
  have:=qmK a;simp [qbL] at ih ⊢;omega
theorem qe5 (p:Int):toB (cq p)=enc p:=rfl
theorem qg3 {p:Int} (h:aH p=true) (h1:128≤p):∀ x∈cq p,128≤x∧x<256:=by
 have a:=qah h;intro x hx;by_cases c1:p<2048
 ·rw [qeo h h1 c1] at hx;simp at hx;omega
 ·by_cases c2:p<65536
  ·rw [qem h (by omega) c2] at hx;simp at hx;omega
  ·rw [qeb h (by omega)] at hx;simp at hx;omega
theorem qhT (xs:List Int) (h:∀ x∈xs,128≤x∧x<256):qbL (toB xs)=toB xs:=by
 induction xs with
 | nil=>rfl
 | cons x xs ih=>
  have hx:=h x (by simp);have e:qb (UInt8.ofNat x.toNat)=[UInt8.ofNat x.toNat]:=by
   have:((UInt8.ofNat x.toNat).toNat:Int)=x:=by simp;omega
   unfold qb qbZ;rw [this,if_neg (by simp [bj];omega)];rfl
  have:=ih fun y hy=>h y (by simp [hy]);simp [qbL,toB] at this ⊢;rw [e,this];rfl
theorem qjZ {p:Int} (h:aH p=true):qbL (enc p)=qpt p:=by
 have a:=qaQ h;by_cases h1:p<128
 ·have e:enc p=[UInt8.ofNat p.toNat]:=by unfold enc;rw [qbo h h1];rfl
  have e2:((UInt8.ofNat p.toNat).toNat:Int)=p:=by simp;omega
  rw [e];simp only [qbL,List.map_cons,List.map_nil,List.flatten_cons,List.flatten_nil,List.append_nil];unfold qb qbZ qpt qjq;rw [e2,qbo h h1]
 ·have e:=qhT (cq p) (qg3 h (by omega));rw [qe5] at e;rw [e];unfold qpt qjq;rw [if_neg (by simp [bj];omega)];rfl
theorem qjD (ps:List Int) (h:∀ p∈ps,aH p=true):qbL (bE ps)=qL ps:=by
 induction ps with
 | nil=>rfl
 | cons p ps ih=>rw [qb8,qae,qgP,qjZ (h p (by simp)),ih fun q hq=>h q (by simp [hq])]
theorem qev (l:List UInt8) (h:(aq l).2.1≠0):((qpt (aq l).1).length:Int)≤(aq l).2.1:=by
 have six:=qlf (aq l).1;unfold aq at h six ⊢;by_cases h0:l.length=0
 ·rw [if_pos h0] at h;simp at h
 ·rw [if_neg h0] at h six ⊢;by_cases h1:byt l 0=34
  ·rw [if_pos h1] at h;simp at h
  ·rw [if_neg h1] at h six ⊢;by_cases h2:byt l 0<32
   ·rw [if_pos h2] at h;simp at h
   ·rw [if_neg h2] at h six ⊢;by_cases h3:byt l 0=92
    ·rw [if_pos h3] at h six ⊢;by_cases h4:(ck l).2=0
     ·rw [if_pos h4] at h;simp at h
     ·rw [if_neg h4] at six ⊢;simp only at six ⊢;clear h;unfold ck at h4 six ⊢;by_cases h5:2≤l.length∧0≤bA (byt l 1)
      ·rw [if_pos h5];simp only;rcases (qeS _ h5.2).1 with e | e | e | e | e | e | e | e <;> (rw [e];decide)
      ·rw [if_neg h5] at h4 six ⊢;by_cases h6:aj l<0
       ·rw [if_pos h6] at h4;simp at h4
       ·rw [if_neg h6] at h4 six ⊢;by_cases h7:aH (aj l)=true
        ·rw [if_pos h7] at six ⊢;simp only at six ⊢;omega
        ·rw [if_neg h7] at h4 six ⊢;by_cases h8:cr (aj l)=true∧bK (aj (l.drop 6))=true
         ·rw [if_pos h8] at six ⊢;simp only at six ⊢;omega
         ·rw [if_neg h8] at h4;simp at h4
    ·rw [if_neg h3] at h six ⊢;by_cases h4:(ao l).2=0
     ·rw [if_pos h4] at h;simp at h
     ·rw [if_neg h4];simp only;have hp:bj (ao l).1=false:=by
       by_cases h5:byt l 0<128
       ·rw [qab h0 h5];simp [bj];omega
       ·have:=qcG (by omega) h4;simp [bj];omega
      unfold qpt qjq;rw [if_neg (by rw [hp];simp),qe5];rcases cK l with h5 | ⟨_,h6,_⟩
      ·rw [h5] at h4;simp at h4
      ·omega
theorem qf0 (l:List UInt8):(qL (aD l).1).length≤(aD l).2.1:=by
 induction l using qes with
 | h l ih=>
  by_cases h:(aq l).2.1=0
  ·rw [qbg h];simp [qL]
  ·rcases qaY l with h1 | ⟨h3,h1,h4,h2,h5,_⟩
   ·exact absurd h1.1 h
   ·have hi:=ih (aq l).2.1.toNat (by omega) (by omega);have hs:=qev l h;rw [qcN h];simp only;rw [qgP,List.length_append];omega
theorem qaE (l:List UInt8) (a:Int) (t:List UInt8) (n:Int) (h:bq l a=(t,n,0)) :
  (bZ t).2=t.length∧((qbL t).length:Int)+a+2≤n∧a<n∧1≤n∧n≤l.length∧byt l (n.toNat-1)=34∧∃ q:Nat,a=q∧q<l.length∧byt l q=34:=by
 unfold bq at h;by_cases h1:a<0∨(l.length:Int)≤a∨byt l a.toNat≠34
 ·rw [if_pos h1] at h;have:=congrArg (fun x=>x.2.2) h;simp at this
 ·rw [if_neg h1] at h;obtain ⟨q,rfl⟩:=Int.eq_ofNat_of_zero_le (show 0≤a by omega);rw [Int.toNat_natCast] at h h1;obtain ⟨f1,f2,f3,f4⟩:=qaD (l.drop (q+1));have f5:=qf0 (l.drop (q+1));by_cases h2:(aD (l.drop (q+1))).2.2=0
  ·rw [if_pos h2] at h;rcases f4 with f4 | f4 | ⟨_,f6,f7⟩
   ·omega
   ·omega
   ·have ht:bE (aD (l.drop (q+1))).1=t:=congrArg Prod.fst h;have hn:(q:Int)+1+(aD (l.drop (q+1))).2.1+1=n:=congrArg (fun x=>x.2.1) h;rw [List.length_drop] at f6;rw [bo] at f7;have e:bZ (bE (aD (l.drop (q+1))).1++[])=_:=qhz _ f3 [];rw [List.append_nil] at e;refine ⟨?_,?_,by omega,by omega,by omega,?_,q,rfl,by omega,?_⟩
    ·rw [←ht,e];simp [bZ,qcU]
    ·rw [←ht,qjD _ f3];omega
    ·have:n.toNat-1=q+1+(aD (l.drop (q+1))).2.1:=by omega
     rw [this];exact f7
    ·by_cases h3:byt l q=34
     ·exact h3
     ·exact absurd (.inr (.inr h3)) h1
  ·rw [if_neg h2] at h;exact absurd (congrArg (fun x=>x.2.2) h) h2
end Ch
namespace Sc
open Go.RowKit Utf Nu
open Ch (bq qcJ qa4 aD qaD qaE qbL)
abbrev Tok:=Int×Int×List UInt8×Int
def isW (c:Int):Bool:=decide (c=32∨c=9∨c=10∨c=13)
def qhq (c:Int):Bool:=decide (c=123∨c=125∨c=91∨c=93∨c=58∨c=44)
def qh8 (c:Int):Bool:=decide (c=45∨(48≤c∧c≤57))
def qcH (c:Int):Bool:=decide ((97≤c∧c≤122)∨(65≤c∧c≤90)∨(48≤c∧c≤57)∨c=95)
theorem qgz (c:Int):isW c=true↔(c=32∨c=9∨c=10∨c=13):=by simp [isW]
theorem qe9 (c:Int):qhq c=true↔(c=123∨c=125∨c=91∨c=93∨c=58∨c=44):=by simp [qhq]
theorem qfy (c:Int):qh8 c=true↔(c=45∨(48≤c∧c≤57)):=by simp [qh8]
theorem qc0 (c:Int):qcH c=true↔((97≤c∧c≤122)∨(65≤c∧c≤90)∨(48≤c∧c≤57)∨c=95):=by simp [qcH]
theorem qkk {b:Bool} {p:Prop} (h:b=true↔p) (hn:¬p):b=false:=by cases b with
 | false=>rfl
 | true=>exact absurd (h.1 rfl) hn
def bW:List UInt8:=[116,114,117,101]
def qac:List UInt8:=[102,97,108,115,101]
def ci:List UInt8:=[110,117,108,108]
def qef (l:List UInt8) (k:Nat) (w:List UInt8):Prop:=(l.drop k).take w.length=w∧qcH (byt l (k+w.length))=false
instance (l:List UInt8) (k:Nat) (w:List UInt8):Decidable (qef l k w):=by unfold qef;infer_instance
def wrd (l:List UInt8) (k:Nat) (w:List UInt8):Option Tok×Int×Int:=
 if qef l k w then (some (2,0,w,(k:Int)),((k+w.length:Nat):Int),0) else (none,(k:Int),40)
def txT (l:List UInt8) (k:Nat):Option Tok×Int×Int:=
 if (bq l k).2.2=0 then (some (4,0,(bq l k).1,(k:Int)),(bq l k).2.1,0) else (none,(bq l k).2.1,(bq l k).2.2)
def nmT (l:List UInt8) (k:Nat):Option Tok×Int×Int:=
 if (rdS l k).2.2=0 then (some (3,(rdS l k).1,[],(k:Int)),(rdS l k).2.1,0) else (none,(rdS l k).2.1,(rdS l k).2.2)
def stp (l:List UInt8) (k:Nat):Option Tok×Int×Int:=
 if isW (byt l k)=true then (none,((k+1:Nat):Int),0)
 else if qhq (byt l k)=true then (some (1,0,[l.getD k 0],(k:Int)),((k+1:Nat):Int),0)
 else if byt l k=34 then txT l k
 else if qh8 (byt l k)=true then nmT l k
 else if byt l k=116 then wrd l k bW
 else if byt l k=102 then wrd l k qac
 else if byt l k=110 then wrd l k ci
 else (none,(k:Int),40)
def cX (ts:List Tok) (r:List Tok×Int×Int):List Tok×Int×Int:=if r.2.2=0 then (ts++r.1,r.2.1,0) else r
theorem qhP (r:List Tok×Int×Int):cX [] r=r:=by
 unfold cX;split
 ·rename_i h;rw [Prod.ext_iff,Prod.ext_iff];exact ⟨rfl,rfl,h.symm⟩
 ·rfl
theorem qhG (a b:List Tok) (r:List Tok×Int×Int):cX (a++b) r=cX a (cX b r):=by
 unfold cX;by_cases h:r.2.2=0
 ·rw [if_pos h,if_pos h,if_pos rfl,List.append_assoc]
 ·rw [if_neg h,if_neg h,if_neg h]
def qb3 (l:List UInt8):Nat→Nat→List Tok×Int×Int
 | 0,_=>([],0,0)
 | f+1,k=>if k<l.length then (if (stp l k).2.2=0 then cX (stp l k).1.toList (qb3 l f (stp l k).2.1.toNat) else ([],(stp l k).2.1,(stp l k).2.2)) else ([],0,0)
def scn (l:List UInt8) (k:Nat):List Tok×Int×Int:=qb3 l (l.length-k) k
def cM (l:List UInt8):List Tok×Int×Int:=if 65536<l.length then ([],0,2) else scn l 0
theorem qfm {l:List UInt8} {k:Nat} (h:(bq l k).2.2=0):∃ m:Nat,(bq l k).2.1=m∧k<m∧m≤l.length:=by
 rcases hr:bq l k with ⟨t,n,e⟩;rw [hr] at h;simp only at h;subst h;obtain ⟨_,_,h3,h4,h5,_⟩:=qaE l k t n hr;exact ⟨n.toNat,by show n=_;omega,by omega,by omega⟩
theorem qhj {l:List UInt8} {k:Nat} (hk:k<l.length) (h:(rdS l k).2.2=0):∃ m:Nat,(rdS l k).2.1=m∧k<m∧m≤l.length:=by
 have e:rdS l k=rdN l k:=by rw [rdS,if_neg (by omega),Int.toNat_natCast]
 rw [e] at h ⊢;unfold rdN at h ⊢;split
 ·rename_i hb;rw [if_pos hb] at h;simp at h
 ·rename_i hb
  have h1:=qjW l k hk;have h2:=qgF l (aZ l k) h1.2;have h3:bU l (aZ l k)≠0:=fun h=>hb (.inl h);exact ⟨_,rfl,by omega,h2⟩
theorem qaZ {l:List UInt8} {k:Nat} {w:List UInt8} (hw:w≠[]) (h:(wrd l k w).2.2=0):∃ m:Nat,(wrd l k w).2.1=m∧k<m∧m≤l.length:=by
 unfold wrd at h ⊢;split
 ·rename_i hh
  have h1:=congrArg List.length hh.1;have h2:w.length≠0:=fun h=>hw (List.eq_nil_of_length_eq_zero h);rw [List.length_take,List.length_drop] at h1;exact ⟨_,rfl,by omega,by omega⟩
 ·rename_i hh;rw [if_neg hh] at h;simp at h
theorem qbY {l:List UInt8} {k:Nat} (hk:k<l.length) (h:(stp l k).2.2=0):∃ m:Nat,(stp l k).2.1=m∧k<m∧m≤l.length:=by
 unfold stp at h ⊢;split
 ·exact ⟨k+1,rfl,by omega,by omega⟩
 ·rename_i c1;rw [if_neg c1] at h
  split
  ·exact ⟨k+1,rfl,by omega,by omega⟩
  ·rename_i c2;rw [if_neg c2] at h
   split
   ·rename_i c3;rw [if_pos c3] at h
    unfold txT at h ⊢;by_cases c:(bq l k).2.2=0
    ·rw [if_pos c];exact qfm c
    ·rw [if_neg c] at h;exact absurd h c
   ·rename_i c3;rw [if_neg c3] at h
    split
    ·rename_i c4;rw [if_pos c4] at h
     unfold nmT at h ⊢;by_cases c:(rdS l k).2.2=0
     ·rw [if_pos c];exact qhj hk c
     ·rw [if_neg c] at h;exact absurd h c
    ·rename_i c4;rw [if_neg c4] at h
     split
     ·rename_i c5;rw [if_pos c5] at h;exact qaZ (by decide) h
     ·rename_i c5;rw [if_neg c5] at h
      split
      ·rename_i c6;rw [if_pos c6] at h;exact qaZ (by decide) h
      ·rename_i c6;rw [if_neg c6] at h
       split
       ·rename_i c7;rw [if_pos c7] at h;exact qaZ (by decide) h
       ·rename_i c7;rw [if_neg c7] at h;simp at h
theorem qhm (l:List UInt8):∀ f g k,l.length-k≤f→l.length-k≤g→qb3 l f k=qb3 l g k:=by
 intro f;induction f with
 | zero=>
  intro g k h1 h2;cases g with
  | zero=>rfl
  | succ g=>rw [qb3,qb3,if_neg (by omega)]
 | succ f ih=>
  intro g k h1 h2;cases g with
  | zero=>rw [qb3,qb3,if_neg (by omega)]
  | succ g=>
   rw [qb3,qb3];by_cases hk:k<l.length
   ·rw [if_pos hk,if_pos hk];by_cases he:(stp l k).2.2=0
    ·obtain ⟨m,h3,h4,h5⟩:=qbY hk he;rw [if_pos he,if_pos he,h3,Int.toNat_natCast,ih g m (by omega) (by omega)]
    ·rw [if_neg he,if_neg he]
   ·rw [if_neg hk,if_neg hk]
theorem qeA {l:List UInt8} {k:Nat} (h:l.length≤k):scn l k=([],0,0):=by
 rw [scn,show l.length-k=0 by omega,qb3]
theorem qgL {l:List UInt8} {k:Nat} (hk:k<l.length) (h:(stp l k).2.2≠0):scn l k=([],(stp l k).2.1,(stp l k).2.2):=by
 rw [scn,show l.length-k=(l.length-k-1)+1 by omega,qb3,if_pos hk,if_neg h]
theorem qi8 {l:List UInt8} {k m:Nat} {o:Option Tok} (hk:k<l.length) (h:stp l k=(o,(m:Int),0)):scn l k=cX o.toList (scn l m):=by
 rw [scn,show l.length-k=(l.length-k-1)+1 by omega,qb3,if_pos hk,if_pos (by rw [h]),h];have:=qbY hk (by rw [h]);rw [h] at this;obtain ⟨m',e,h4,h5⟩:=this;simp only at e;rw [scn];simp only [Int.toNat_natCast];rw [qhm l (l.length-k-1) (l.length-m) m (by omega) (by omega)]
inductive cL (l:List UInt8):Nat→List Tok→Nat→Prop
 | nil (k:Nat):cL l k [] k
 | cons {k m n:Nat} {o:Option Tok} {ts:List Tok}:k<l.length→stp l k=(o,(m:Int),0)→cL l m ts n→cL l k (o.toList++ts) n
theorem cL.trans {l:List UInt8} {k m n:Nat} {ts us:List Tok} (h1:cL l k ts m) (h2:cL l m us n):cL l k (ts++us) n:=by
 induction h1 with
 | nil k=>exact h2
 | cons hk hs _ ih=>rw [List.append_assoc];exact .cons hk hs (ih h2)
theorem cL.one {l:List UInt8} {k m:Nat} {o:Option Tok} (hk:k<l.length) (h:stp l k=(o,(m:Int),0)):cL l k o.toList m:=by
 have:=cL.cons hk h (.nil m);rwa [List.append_nil] at this
theorem cL.snoc {l:List UInt8} {k m n:Nat} {o:Option Tok} {ts:List Tok} (h1:cL l k ts m) (hm:m<l.length) (h:stp l m=(o,(n:Int),0)):cL l k (ts++o.toList) n:=h1.trans (.one hm h)
theorem cL.scn {l:List UInt8} {k m:Nat} {ts:List Tok} (h:cL l k ts m):scn l k=cX ts (scn l m):=by
 induction h with
 | nil k=>rw [qhP]
 | cons hk hs _ ih=>rw [qi8 hk hs,ih,←qhG]
theorem cL.le {l:List UInt8} {k m:Nat} {ts:List Tok} (h:cL l k ts m):k≤m∧ts.length≤m-k∧(k≤l.length→m≤l.length):=by
 induction h with
 | nil k=>simp
 | cons hk hs _ ih=>
  rename_i k m n o ts _
  have:=qbY hk (by rw [hs]);rw [hs] at this;obtain ⟨m',e,h4,h5⟩:=this;simp only at e;have:o.toList.length≤1:=by cases o <;> simp
  rw [List.length_append];omega
theorem qiX (l:List UInt8):∀ f k,l.length-k≤f→k≤l.length→(scn l k).2.2=0→cL l k (scn l k).1 l.length∧(scn l k).2.1=0:=by
 intro f;induction f with
 | zero=>
  intro k h1 h2 _;obtain rfl:k=l.length:=by omega
  rw [qeA (Nat.le_refl _)];exact ⟨.nil _,rfl⟩
 | succ f ih=>
  intro k h1 h2 h3;by_cases hk:k<l.length
  ·by_cases he:(stp l k).2.2=0
   ·obtain ⟨m,h4,h5,h6⟩:=qbY hk he;have hs:stp l k=((stp l k).1,(m:Int),0):=by rw [Prod.ext_iff,Prod.ext_iff];exact ⟨rfl,h4,he⟩
    rw [qi8 hk hs] at h3 ⊢;have he2:(scn l m).2.2=0:=by
     unfold cX at h3;by_cases h:(scn l m).2.2=0
     ·exact h
     ·rw [if_neg h] at h3;exact h3
    obtain ⟨h7,h8⟩:=ih m (by omega) h6 he2;rw [cX,if_pos he2];exact ⟨.cons hk hs h7,h8⟩
   ·rw [qgL hk he] at h3;exact absurd h3 he
  ·obtain rfl:k=l.length:=by omega
   rw [qeA (Nat.le_refl _)];exact ⟨.nil _,rfl⟩
theorem qhr {l:List UInt8} (h:(cM l).2.2=0):l.length≤65536∧cM l=scn l 0∧cL l 0 (cM l).1 l.length∧(cM l).2.1=0:=by
 unfold cM at h ⊢;by_cases hl:65536<l.length
 ·rw [if_pos hl] at h;simp at h
 ·rw [if_neg hl] at h ⊢;exact ⟨by omega,rfl,qiX l _ 0 (Nat.le_refl _) (by omega) h⟩
def qa6 (k:Nat):List UInt8:=if k=0 then bW else if k=1 then qac else ci
def wdF (l:List UInt8) (p:Nat):Nat→Nat→Nat
 | 0,_=>0
 | f+1,k=>if qef l p (qa6 k) then (qa6 k).length else wdF l p f (k+1)
def wdN (l:List UInt8) (p:Nat):Nat:=wdF l p 3 0
theorem qfu (k:Nat):4≤(qa6 k).length∧(qa6 k).length≤5:=by 
 unfold qa6;split
 ·decide
 ·split <;> decide
theorem qgC (k:Nat):byt (qa6 k) 0=if k=0 then 116 else if k=1 then 102 else 110:=by 
 unfold qa6;split
 ·rfl
 ·split <;> rfl
theorem qkO {l:List UInt8} {p:Nat} {y:List UInt8} (h:qef l p y) (hy:0<y.length):byt y 0=byt l p:=by
 obtain ⟨h,_⟩:=h;have h2:(l.drop p)[0]? = y[0]?:=by rw [←h,List.getElem?_take,if_pos hy]
 unfold byt;rw [List.getD_eq_getElem?_getD,List.getD_eq_getElem?_getD,←h2,List.getElem?_drop,Nat.add_zero]
theorem qm7 {l:List UInt8} {p k:Nat} (hk:k<3) (h:byt l p=byt (qa6 k) 0):wdN l p=if qef l p (qa6 k) then (qa6 k).length else 0:=by
 have no:∀ j,j<3→j≠k→¬qef l p (qa6 j):=by
  intro j hj hjk hh;have h1:=qkO hh (by have:=(qfu j).1;omega);rw [h,qgC,qgC] at h1;rcases (show k=0∨k=1∨k=2 by omega) with rfl | rfl | rfl <;> rcases (show j=0∨j=1∨j=2 by omega) with rfl | rfl | rfl <;> simp at h1 hjk
 unfold wdN;rw [wdF,wdF,wdF,wdF];rcases (show k=0∨k=1∨k=2 by omega) with rfl | rfl | rfl
 ·rw [if_neg (no 1 (by omega) (by omega)),if_neg (no 2 (by omega) (by omega))]
 ·rw [if_neg (no 0 (by omega) (by omega)),if_neg (no 2 (by omega) (by omega))]
 ·rw [if_neg (no 0 (by omega) (by omega)),if_neg (no 1 (by omega) (by omega))]
theorem ql5 (c:UInt8):1≤(Ch.qb c).length:=by
 unfold Ch.qb;rw [Ch.qeJ];unfold Ch.qbZ;split
 ·have:=(Ch.qez (c.toNat:Int)).1;omega
 ·simp
theorem qks (l:List UInt8):l.length≤(qbL l).length:=by
 induction l with
 | nil=>simp
 | cons c r ih=>
  have h:=ql5 c;rw [show c::r=[c]++r from rfl,Ch.qae,List.length_append,List.length_append];have:(qbL [c]).length=(Ch.qb c).length:=by simp [qbL]
  simp only [List.length_singleton];omega
def okT (t:Tok):Prop:=
 (t.1=1∧t.2.1=0∧∃ c:UInt8,t.2.2.1=[c]∧qhq (c.toNat:Int)=true)∨(t.1=2∧t.2.1=0∧∃ i,i<3∧t.2.2.1=qa6 i)∨
 (t.1=3∧t.2.1.natAbs≤qdp∧t.2.2.1=[])∨(t.1=4∧t.2.1=0∧(bZ t.2.2.1).2=t.2.2.1.length)
def wr (t:Tok):List UInt8:=if t.1=3 then qa7 t.2.1 else if t.1=4 then 34::(qbL t.2.2.1++[34]) else t.2.2.1
theorem qk2 {l:List UInt8} {k:Nat} {m:Int} {t:Tok} (h:stp l k=(some t,m,0)):okT t∧t.2.2.1.length≤l.length+1:=by
 have key:∀ i,i<3→wrd l k (qa6 i)=(some t,m,0)→okT t∧t.2.2.1.length≤l.length+1:=by
  intro i hi hw;have hle:=qaZ (w:=qa6 i) (l:=l) (k:=k) (fun e=>by have:=(qfu i).1;rw [e] at this;simp at this) (by rw [hw]);unfold wrd at hw;split at hw
  ·rename_i hh
   have e:(2,0,qa6 i,(k:Int))=t:=Option.some.inj (congrArg Prod.fst hw);subst e;refine ⟨.inr (.inl ⟨rfl,rfl,i,hi,rfl⟩),?_⟩;have h1:=congrArg List.length hh.1;rw [List.length_take,List.length_drop] at h1;show (qa6 i).length≤l.length+1;omega
  ·exact absurd (congrArg (fun x=>x.2.2) hw) (by simp)
 unfold stp at h;by_cases c1:isW (byt l k)=true
 ·rw [if_pos c1] at h;exact absurd (congrArg Prod.fst h) (by simp)
 rw [if_neg c1] at h;by_cases c2:qhq (byt l k)=true
 ·rw [if_pos c2] at h;have e:(1,0,[l.getD k 0],(k:Int))=t:=Option.some.inj (congrArg Prod.fst h);subst e;exact ⟨.inl ⟨rfl,rfl,_,rfl,c2⟩,by simp⟩
 rw [if_neg c2] at h;by_cases c3:byt l k=34
 ·rw [if_pos c3] at h;unfold txT at h;split at h
  ·rename_i he
   have e:=Option.some.inj (congrArg Prod.fst h);subst e;rcases hr:bq l k with ⟨tx,n,e⟩;rw [hr] at he;simp only at he;subst he;obtain ⟨f1,f2,f3,f4,f5,_⟩:=qaE l k tx n hr;refine ⟨.inr (.inr (.inr ⟨rfl,rfl,f1⟩)),?_⟩;have hq:=qks tx;show tx.length≤l.length+1;omega
  ·rename_i he;exact absurd (congrArg (fun x=>x.2.2) h) he
 rw [if_neg c3] at h;by_cases c4:qh8 (byt l k)=true
 ·rw [if_pos c4] at h;unfold nmT at h;split at h
  ·have e:=Option.some.inj (congrArg Prod.fst h);subst e;have hb:=qfP l k;refine ⟨.inr (.inr (.inl ⟨rfl,?_,rfl⟩)),by simp⟩;show (rdS l k).1.natAbs≤qdp;omega
  ·rename_i he;exact absurd (congrArg (fun x=>x.2.2) h) he
 rw [if_neg c4] at h;by_cases c5:byt l k=116
 ·rw [if_pos c5] at h;exact key 0 (by omega) h
 rw [if_neg c5] at h;by_cases c6:byt l k=102
 ·rw [if_pos c6] at h;exact key 1 (by omega) h
 rw [if_neg c6] at h;by_cases c7:byt l k=110
 ·rw [if_pos c7] at h;exact key 2 (by omega) h
 rw [if_neg c7] at h;exact absurd (congrArg Prod.fst h) (by simp)
theorem cL.okT {l:List UInt8} {k n:Nat} {ts:List Tok} (h:cL l k ts n):∀ t∈ts,okT t∧t.2.2.1.length≤l.length+1:=by
 induction h with
 | nil k=>simp
 | cons hk hs _ ih=>
  rename_i o ts _
  intro t ht;rw [List.mem_append] at ht;rcases ht with ht | ht
  ·cases o with
   | none=>simp at ht
   | some u=>
    simp at ht;subst ht;exact qk2 hs
  ·exact ih t ht
end Sc
namespace Re
open Utf Sc
inductive V:Type
 | mk (k n:Int) (s:List UInt8) (l:List V) (ns:List (List UInt8)) (ms:List V):V
def V.k:V→Int | .mk k _ _ _ _ _=>k
def V.n:V→Int | .mk _ n _ _ _ _=>n
def V.s:V→List UInt8 | .mk _ _ s _ _ _=>s
def V.l:V→List V | .mk _ _ _ l _ _=>l
def V.ns:V→List (List UInt8) | .mk _ _ _ _ ns _=>ns
def V.ms:V→List V | .mk _ _ _ _ _ ms=>ms
theorem V.eta (v:V):V.mk v.k v.n v.s v.l v.ns v.ms=v:=by cases v;rfl
def V0:V:= .mk 0 0 [] [] [] []
def txV (s:List UInt8):V:= .mk 4 0 s [] [] []
def nmV (n:Int):V:= .mk 3 n [] [] [] []
def wdV (s:List UInt8):V:=if s=ci then .mk 1 0 [] [] [] [] else if s=bW then .mk 2 1 [] [] [] [] else .mk 2 0 [] [] [] []
def lsV (l:List V):V:= .mk 5 0 [] l [] []
def mpV (x:List (List UInt8)×List V):V:= .mk 6 0 [] [] x.1 x.2
mutual
/-- how high a value is -/
def ht:V→Nat
 | .mk _ _ _ l _ ms=>max (htL l) (htL ms)+1
def htL:List V→Nat
 | []=>0
 | v::r=>max (ht v) (htL r)
end
theorem bx {v:V} {l:List V} (h:v∈l):ht v≤htL l:=by
 induction l with
 | nil=>cases h
 | cons a r ih=>
  rw [htL];rcases List.mem_cons.1 h with rfl | h
  ·omega
  ·have:=ih h;omega
inductive Rs (α : Type):Type
 | bad (a y:Int):Rs α
 | ok (v : α) (i p:Nat):Rs α
def Rs.map {α β : Type} (f : α → β):Rs α →Rs β
 | .bad a y=> .bad a y
 | .ok v i p=> .ok (f v) i p
def tk (ts:List Tok) (E:Int) (i:Nat):Tok:=ts.getD i (0,0,[],E)
def isM (t:Tok) (c:UInt8):Bool:=decide (t.1=1∧t.2.2.1=[c])
def qb7 (t:Tok):Bool:=decide (t.1=0∨(t.1=1∧t.2.2.1≠[91]∧t.2.2.1≠[123]))
mutual
/-- the value that begins with a token -/
def pV (ts:List Tok) (E:Int):Nat→Nat→Nat→Nat→Rs V
 | 0,_,i,_=> .bad (tk ts E i).2.2.2 50
 | f+1,d,i,p=>
  if qb7 (tk ts E i)=true then .bad (tk ts E i).2.2.2 50
  else if 16<d then .bad (tk ts E i).2.2.2 51
  else if p=8192 then .bad (tk ts E i).2.2.2 53
  else if (tk ts E i).1=4 then .ok (txV (tk ts E i).2.2.1) (i+1) (p+1)
  else if (tk ts E i).1=3 then .ok (nmV (tk ts E i).2.1) (i+1) (p+1)
  else if (tk ts E i).1=2 then .ok (wdV (tk ts E i).2.2.1) (i+1) (p+1)
  else if (tk ts E i).2.2.1=[91] then
   (if isM (tk ts E (i+1)) 93=true then .ok (lsV []) (i+1+1) (p+1) else (pL ts E f d (i+1) (p+1)).map lsV)
  else
   (if isM (tk ts E (i+1)) 125=true then .ok (mpV ([],[])) (i+1+1) (p+1) else (pM ts E f d (i+1) (p+1) []).map mpV)
/-- the values of a list, from one on -/
def pL (ts:List Tok) (E:Int):Nat→Nat→Nat→Nat→Rs (List V)
 | 0,_,i,_=> .bad (tk ts E i).2.2.2 50
 | f+1,d,i,p=>
  match pV ts E f (d+1) i p with
  | .bad a y=> .bad a y
  | .ok v j q=>
   if isM (tk ts E j) 93=true then .ok [v] (j+1) q
   else if isM (tk ts E j) 44=true then (pL ts E f d (j+1) q).map fun vs=>v::vs
   else .bad (tk ts E j).2.2.2 50
/-- the members of a map, from one on; ns: the names of those ahead -/
def pM (ts:List Tok) (E:Int):Nat→Nat→Nat→Nat→List (List UInt8)→Rs (List (List UInt8)×List V)
 | 0,_,i,_,_=> .bad (tk ts E i).2.2.2 50
 | f+1,d,i,p,ns=>
  if (tk ts E i).1≠4 then .bad (tk ts E i).2.2.2 50
  else if (tk ts E i).2.2.1∈ns then .bad (tk ts E i).2.2.2 52
  else if isM (tk ts E (i+1)) 58=false then .bad (tk ts E (i+1)).2.2.2 50
  else match pV ts E f (d+1) (i+1+1) p with
  | .bad a y=> .bad a y
  | .ok v j q=>
   if isM (tk ts E j) 125=true then .ok ([(tk ts E i).2.2.1],[v]) (j+1) q
   else if isM (tk ts E j) 44=true then (pM ts E f d (j+1) q (ns++[(tk ts E i).2.2.1])).map fun x=>((tk ts E i).2.2.1::x.1,v::x.2)
   else .bad (tk ts E j).2.2.2 50
end
def cU (ts:List Tok):Nat:=2*ts.length+4
def rdT (ts:List Tok) (E:Int):V×Int×Int:=
 match pV ts E (cU ts) 1 0 0 with
 | .bad a y=>(V0,a,y)
 | .ok v i _=>if i<ts.length then (V0,(tk ts E i).2.2.2,50) else (v,0,0)
def rdV (l:List UInt8):V×Int×Int:=
 if (cM l).2.2≠0 then (V0,(cM l).2.1,(cM l).2.2) else rdT (cM l).1 (l.length:Int)
theorem qjz {ts:List Tok} {E:Int} {i:Nat} (h:i<ts.length):tk ts E i=ts[i]:=by
 unfold tk;rw [List.getD_eq_getElem?_getD,List.getElem?_eq_getElem h];rfl
theorem qbX {ts:List Tok} {E:Int} {i:Nat} (h:ts.length≤i):tk ts E i=(0,0,[],E):=by
 unfold tk;rw [List.getD_eq_getElem?_getD,List.getElem?_eq_none h];rfl
theorem qbl {ts:List Tok} {E:Int} {i:Nat} {c:UInt8} (h:isM (tk ts E i) c=true):i<ts.length:=by
 rcases Nat.lt_or_ge i ts.length with h1 | h1
 ·exact h1
 ·rw [qbX h1] at h;simp [isM] at h
theorem qgB {ts:List Tok} {E:Int} {i:Nat} (h:qb7 (tk ts E i)=false):i<ts.length:=by
 rcases Nat.lt_or_ge i ts.length with h1 | h1
 ·exact h1
 ·rw [qbX h1] at h;simp [qb7] at h
mutual
/-- how many values there are in one -/
def cnt:V→Nat
 | .mk _ _ _ l _ ms=>1+aN l+aN ms
def aN:List V→Nat
 | []=>0
 | v::r=>cnt v+aN r
end
mutual
/-- how deep values lie -/
def dp:V→Nat→Nat
 | .mk _ _ _ l _ ms,d=>max d (max (dpL l (d+1)) (dpL ms (d+1)))
def dpL:List V→Nat→Nat
 | [],_=>0
 | v::r,d=>max (dp v d) (dpL r d)
end
mutual
/-- no name twice, a value for each name -/
def okV:V→Prop
 | .mk _ _ _ l ns ms=>ns.length=ms.length∧ns.Nodup∧okL l∧okL ms
def okL:List V→Prop
 | []=>True
 | v::r=>okV v∧okL r
end
theorem qgX (v:V):1≤cnt v:=by cases v;rw [cnt];omega
end Re
namespace Re
open Go.RowKit Utf Sc
mutual
/-- In w the five cells cs read as the value v; what it holds lies in blocks from lo on, below hi. -/
def RdV (w:World) (lo hi:Nat):V→List Value→Prop
 | .mk k n s l ns ms,cs=>∃ vl vm:Value,cs=[.int .i64 k,.int .i64 n,.string (ae s),vl,vm]∧
   (∃ A c,vl = .slice A l.length (l.length+c)∧(0<l.length→∃ g,A=some ⟨g,0,none⟩∧lo≤g∧g<hi∧RdL w lo hi g 0 l))∧
   (∃ A c,vm = .slice A ms.length (ms.length+c)∧ns.length=ms.length∧(0<ms.length→∃ g,A=some ⟨g,0,none⟩∧lo≤g∧g<hi∧RdM w lo hi g 0 ns ms))
def RdL (w:World) (lo hi:Nat):Nat→Nat→List V→Prop
 | _,_,[]=>True
 | g,i,v::r=>(∃ cs,(∀ j u,cs[j]? = some u→w.cell? ⟨g,i*5+j,none⟩=some u)∧RdV w lo hi v cs)∧RdL w lo hi g (i+1) r
def RdM (w:World) (lo hi:Nat):Nat→Nat→List (List UInt8)→List V→Prop
 | _,_,_,[]=>True
 | g,i,ns,v::r=>∃ nm ns',ns=nm::ns'∧w.cell? ⟨g,i*6,none⟩=some (.string (ae nm))∧(∃ cs,(∀ j u,cs[j]? = some u→w.cell? ⟨g,i*6+1+j,none⟩=some u)∧RdV w lo hi v cs)∧RdM w lo hi g (i+1) ns' r
end
section
variable {w w':World} {lo hi lo' hi':Nat}
mutual
theorem RdV.keep (hk:∀ p:Addr,lo≤p.block→p.block<hi→w'.cell? p=w.cell? p) (h1:lo'≤lo) (h2:hi≤hi'):∀ (v:V) (cs:List Value),RdV w lo hi v cs→RdV w' lo' hi' v cs
 | .mk k n s l ns ms,cs,h=>by
  rw [RdV] at h ⊢;obtain ⟨vl,vm,rfl,⟨A,c,rfl,ha⟩,⟨A2,c2,rfl,hn,hb⟩⟩:=h;refine ⟨_,_,rfl,⟨A,c,rfl,fun h0=>?_⟩,⟨A2,c2,rfl,hn,fun h0=>?_⟩⟩
  ·obtain ⟨g,e,g1,g2,h⟩:=ha h0;exact ⟨g,e,by omega,by omega,RdL.keep hk h1 h2 l g 0 g1 g2 h⟩
  ·obtain ⟨g,e,g1,g2,h⟩:=hb h0;exact ⟨g,e,by omega,by omega,RdM.keep hk h1 h2 ms ns g 0 g1 g2 h⟩
theorem RdL.keep (hk:∀ p:Addr,lo≤p.block→p.block<hi→w'.cell? p=w.cell? p) (h1:lo'≤lo) (h2:hi≤hi'):∀ (l:List V) (g i:Nat),lo≤g→g<hi→RdL w lo hi g i l→RdL w' lo' hi' g i l
 | [],g,i,_,_,_=>by rw [RdL];trivial
 | v::r,g,i,g1,g2,h=>by
  rw [RdL] at h ⊢;obtain ⟨⟨cs,hc,hv⟩,hr⟩:=h;exact ⟨⟨cs,fun j u hu=>(hk ⟨g,i*5+j,none⟩ g1 g2).trans (hc j u hu),RdV.keep hk h1 h2 v cs hv⟩,RdL.keep hk h1 h2 r g (i+1) g1 g2 hr⟩
theorem RdM.keep (hk:∀ p:Addr,lo≤p.block→p.block<hi→w'.cell? p=w.cell? p) (h1:lo'≤lo) (h2:hi≤hi'):∀ (ms:List V) (ns:List (List UInt8)) (g i:Nat),lo≤g→g<hi→RdM w lo hi g i ns ms→RdM w' lo' hi' g i ns ms
 | [],ns,g,i,_,_,_=>by rw [RdM];trivial
 | v::r,ns,g,i,g1,g2,h=>by
  rw [RdM] at h ⊢;obtain ⟨nm,ns',rfl,hm,⟨cs,hc,hv⟩,hr⟩:=h;exact ⟨nm,ns',rfl,(hk ⟨g,i*6,none⟩ g1 g2).trans hm,⟨cs,fun j u hu=>(hk ⟨g,i*6+1+j,none⟩ g1 g2).trans (hc j u hu),RdV.keep hk h1 h2 v cs hv⟩,RdM.keep hk h1 h2 r ns' g (i+1) g1 g2 hr⟩
end
theorem RdV.cells {v:V} {cs:List Value} (h:RdV w lo hi v cs):∃ A c A2 c2,cs=[.int .i64 v.k,.int .i64 v.n,.string (ae v.s),.slice A v.l.length c,.slice A2 v.ms.length c2]∧v.ns.length=v.ms.length∧
  (0<v.l.length→∃ g,A=some ⟨g,0,none⟩∧lo≤g∧g<hi∧RdL w lo hi g 0 v.l)∧(0<v.ms.length→∃ g,A2=some ⟨g,0,none⟩∧lo≤g∧g<hi∧RdM w lo hi g 0 v.ns v.ms):=by
 obtain ⟨k,n,s,l,ns,ms⟩:=v;rw [RdV] at h;obtain ⟨vl,vm,rfl,⟨A,c,rfl,ha⟩,⟨A2,c2,rfl,hn,hb⟩⟩:=h;exact ⟨A,_,A2,_,rfl,hn,ha,hb⟩
end
theorem qcW (v:V):cnt v=1+aN v.l+aN v.ms:=by cases v;rw [cnt];rfl
theorem qam (v:V):ht v=max (htL v.l) (htL v.ms)+1:=by cases v;rw [ht];rfl
theorem V.ext' {a b:V} (h1:a.k=b.k) (h2:a.n=b.n) (h3:a.s=b.s) (h4:a.l=b.l) (h5:a.ns=b.ns) (h6:a.ms=b.ms):a=b:=by
 rw [←V.eta a,←V.eta b,h1,h2,h3,h4,h5,h6]
end Re
namespace Re
open Utf Sc
theorem qew {α β : Type} {f : α → β} {r:Rs α} {v : β} {j q:Nat} (h:r.map f = .ok v j q):∃ u,r = .ok u j q∧f u=v:=by
 cases r with
 | bad a y=>cases h
 | ok u i p=>cases h;exact ⟨u,rfl,rfl⟩
theorem qiW (k n:Int) (s:List UInt8):cnt (.mk k n s [] [] [])=1∧(∀ d,dp (.mk k n s [] [] []) d=d)∧okV (.mk k n s [] [] []):=by
 refine ⟨by simp [cnt,aN],fun d=>by simp [dp,dpL],by simp [okV,okL]⟩
theorem qiK (s:List UInt8):∃ k n,wdV s = .mk k n [] [] [] []:=by
 unfold wdV;by_cases h:s=ci
 ·rw [if_pos h];exact ⟨_,_,rfl⟩
 ·rw [if_neg h];by_cases h2:s=bW
  ·rw [if_pos h2];exact ⟨_,_,rfl⟩
  ·rw [if_neg h2];exact ⟨_,_,rfl⟩
theorem qj2 {ts:List Tok} {E:Int} {i:Nat} (h:(tk ts E i).1≠0):i<ts.length:=by
 rcases Nat.lt_or_ge i ts.length with h1 | h1
 ·exact h1
 ·rw [qbX h1] at h;exact absurd rfl h
theorem qlQ (ts:List Tok) (E:Int):∀ f,
  (∀ d i p v j q,pV ts E f d i p = .ok v j q→p≤8192→i<j∧j≤ts.length∧q=p+cnt v∧q≤8192∧dp v d≤16∧okV v)∧
  (∀ d i p l j q,pL ts E f d i p = .ok l j q→p≤8192→i<j∧j≤ts.length∧q=p+aN l∧q≤8192∧dpL l (d+1)≤16∧okL l∧l≠[])∧
  (∀ d i p ns x j q,pM ts E f d i p ns = .ok x j q→p≤8192→ns.Nodup→i<j∧j≤ts.length∧q=p+aN x.2∧q≤8192∧dpL x.2 (d+1)≤16∧okL x.2∧x.1.length=x.2.length∧(ns++x.1).Nodup∧x.1≠[]):=by
 intro f;induction f with
 | zero=>exact ⟨fun d i p v j q h=>(by rw [pV] at h;cases h),fun d i p v j q h=>(by rw [pL] at h;cases h),fun d i p ns v j q h=>(by rw [pM] at h;cases h)⟩
 | succ f ih=>
  obtain ⟨iV,iL,iM⟩:=ih;refine ⟨fun d i p v j q h hp=>?_,fun d i p l j q h hp=>?_,fun d i p ns x j q h hp hn=>?_⟩
  ·rw [pV] at h;by_cases c1:qb7 (tk ts E i)=true
   ·rw [if_pos c1] at h;cases h
   have hi:=qgB (ts:=ts) (E:=E) (i:=i) (by simpa using c1);rw [if_neg c1] at h;by_cases c2:16<d
   ·rw [if_pos c2] at h;cases h
   rw [if_neg c2] at h;by_cases c3:p=8192
   ·rw [if_pos c3] at h;cases h
   rw [if_neg c3] at h;by_cases c4:(tk ts E i).1=4
   ·rw [if_pos c4] at h;cases h;obtain ⟨l1,l2,l3⟩:=qiW 4 0 (tk ts E i).2.2.1;exact ⟨by omega,by omega,by rw [txV,l1],by omega,by rw [txV,l2];omega,l3⟩
   rw [if_neg c4] at h;by_cases c5:(tk ts E i).1=3
   ·rw [if_pos c5] at h;cases h;obtain ⟨l1,l2,l3⟩:=qiW 3 (tk ts E i).2.1 [];exact ⟨by omega,by omega,by rw [nmV,l1],by omega,by rw [nmV,l2];omega,l3⟩
   rw [if_neg c5] at h;by_cases c6:(tk ts E i).1=2
   ·rw [if_pos c6] at h;cases h;obtain ⟨k,n,hw⟩:=qiK (tk ts E i).2.2.1;obtain ⟨l1,l2,l3⟩:=qiW k n [];rw [hw];exact ⟨by omega,by omega,by rw [l1],by omega,by rw [l2];omega,l3⟩
   rw [if_neg c6] at h;by_cases c7:(tk ts E i).2.2.1=[91]
   ·rw [if_pos c7] at h;by_cases c8:isM (tk ts E (i+1)) 93=true
    ·rw [if_pos c8] at h;cases h;have:=qbl c8;obtain ⟨l1,l2,l3⟩:=qiW 5 0 [];exact ⟨by omega,by omega,by rw [lsV,l1],by omega,by rw [lsV,l2];omega,l3⟩
    ·rw [if_neg c8] at h;obtain ⟨u,h1,rfl⟩:=qew h;obtain ⟨a1,a2,a3,a4,a5,a6,a7⟩:=iL d (i+1) (p+1) u j q h1 (by omega);refine ⟨by omega,a2,?_,a4,?_,?_⟩
     ·rw [lsV,cnt,aN];omega
     ·rw [lsV,dp,dpL];omega
     ·rw [lsV,okV,okL];exact ⟨rfl,List.nodup_nil,a6,trivial⟩
   ·rw [if_neg c7] at h;by_cases c8:isM (tk ts E (i+1)) 125=true
    ·rw [if_pos c8] at h;cases h;have:=qbl c8;obtain ⟨l1,l2,l3⟩:=qiW 6 0 [];exact ⟨by omega,by omega,by rw [mpV,l1],by omega,by rw [mpV,l2];omega,l3⟩
    ·rw [if_neg c8] at h;obtain ⟨u,h1,rfl⟩:=qew h;obtain ⟨a1,a2,a3,a4,a5,a6,a7,a8,_⟩:=iM d (i+1) (p+1) [] u j q h1 (by omega) List.nodup_nil;refine ⟨by omega,a2,?_,a4,?_,?_⟩
     ·rw [mpV,cnt,aN];omega
     ·rw [mpV,dp,dpL];omega
     ·rw [mpV,okV,okL];exact ⟨a7,by simpa using a8,trivial,a6⟩
  ·rw [pL] at h;rcases hv:pV ts E f (d+1) i p with ⟨a,y⟩ | ⟨v,j1,q1⟩
   ·rw [hv] at h;cases h
   ·rw [hv] at h;simp only at h;obtain ⟨b1,b2,b3,b4,b5,b6⟩:=iV (d+1) i p v j1 q1 hv hp;by_cases c1:isM (tk ts E j1) 93=true
    ·rw [if_pos c1] at h;cases h;have:=qbl c1;refine ⟨by omega,by omega,by rw [aN,aN];omega,b4,by rw [dpL,dpL];omega,⟨b6,trivial⟩,by simp⟩
    ·rw [if_neg c1] at h;by_cases c2:isM (tk ts E j1) 44=true
     ·rw [if_pos c2] at h;obtain ⟨u,h1,rfl⟩:=qew h;obtain ⟨a1,a2,a3,a4,a5,a6,a7⟩:=iL d (j1+1) q1 u j q h1 b4;refine ⟨by omega,a2,by rw [aN];omega,a4,by rw [dpL];omega,⟨b6,a6⟩,by simp⟩
     ·rw [if_neg c2] at h;cases h
  ·rw [pM] at h;by_cases c0:(tk ts E i).1≠4
   ·rw [if_pos c0] at h;cases h
   rw [if_neg c0] at h;by_cases c1:(tk ts E i).2.2.1∈ns
   ·rw [if_pos c1] at h;cases h
   rw [if_neg c1] at h;by_cases c2:isM (tk ts E (i+1)) 58=false
   ·rw [if_pos c2] at h;cases h
   rw [if_neg c2] at h;have hn2:(ns++[(tk ts E i).2.2.1]).Nodup:=by
    rw [List.nodup_append];refine ⟨hn,by simp,?_⟩;intro a ha b hb e;simp at hb;subst hb e;exact c1 ha
   rcases hv:pV ts E f (d+1) (i+1+1) p with ⟨a,y⟩ | ⟨v,j1,q1⟩
   ·rw [hv] at h;cases h
   ·rw [hv] at h;simp only at h;obtain ⟨b1,b2,b3,b4,b5,b6⟩:=iV (d+1) (i+1+1) p v j1 q1 hv hp;by_cases c3:isM (tk ts E j1) 125=true
    ·rw [if_pos c3] at h;cases h;have:=qbl c3;refine ⟨by omega,by omega,by rw [aN,aN];omega,b4,by rw [dpL,dpL];omega,⟨b6,trivial⟩,rfl,hn2,by simp⟩
    ·rw [if_neg c3] at h;by_cases c4:isM (tk ts E j1) 44=true
     ·rw [if_pos c4] at h;obtain ⟨u,h1,rfl⟩:=qew h;obtain ⟨a1,a2,a3,a4,a5,a6,a7,a8,_⟩:=iM d (j1+1) q1 _ u j q h1 b4 hn2;refine ⟨by omega,a2,by simp only [aN];omega,a4,by simp only [dpL];omega,⟨b6,a6⟩,by simp only [List.length_cons];omega,by simpa using a8,by simp⟩
     ·rw [if_neg c4] at h;cases h
def gL (ts:List Tok) (E:Int) (f d j q:Nat) (first:Bool):Rs (List V):=
 if isM (tk ts E j) 93=true then .ok [] (j+1) q else if first=true then pL ts E f d j q
 else if isM (tk ts E j) 44=true then pL ts E f d (j+1) q else .bad (tk ts E j).2.2.2 50
def gM (ts:List Tok) (E:Int) (f d j q:Nat) (ns:List (List UInt8)) (first:Bool):Rs (List (List UInt8)×List V):=
 if isM (tk ts E j) 125=true then .ok ([],[]) (j+1) q else if first=true then pM ts E f d j q ns
 else if isM (tk ts E j) 44=true then pM ts E f d (j+1) q ns else .bad (tk ts E j).2.2.2 50
theorem Rs.map_map {α β γ : Type} (r:Rs α) (f : α → β) (g : β → γ):(r.map f).map g=r.map fun x=>g (f x):=by cases r <;> rfl
theorem Rs.map_id {α : Type} (r:Rs α):(r.map fun x=>x)=r:=by cases r <;> rfl
theorem Rs.map_congr {α β : Type} {f g : α → β} (r:Rs α) (h:∀ x,f x=g x):r.map f=r.map g:=by rw [funext h]
theorem qlT {ts:List Tok} {E:Int} {f d i p:Nat} {a y:Int} (h:pV ts E f (d+1) i p = .bad a y):pL ts E (f+1) d i p = .bad a y:=by rw [pL,h]
theorem qmk {ts:List Tok} {E:Int} {f d i p j q:Nat} {v:V} (h:pV ts E f (d+1) i p = .ok v j q):pL ts E (f+1) d i p=(gL ts E f d j q false).map fun l=>v::l:=by
 rw [pL,h];simp only;unfold gL;by_cases c1:isM (tk ts E j) 93=true
 ·rw [if_pos c1,if_pos c1];rfl
 ·rw [if_neg c1,if_neg c1,if_neg (show ¬(false=true) by decide)];by_cases c2:isM (tk ts E j) 44=true
  ·rw [if_pos c2,if_pos c2]
  ·rw [if_neg c2,if_neg c2];rfl
theorem qkZ {ts:List Tok} {E:Int} {f d i p j q:Nat} {v:V} (acc:List V) (h:pV ts E f (d+1) i p = .ok v j q) :
  (pL ts E (f+1) d i p).map (fun l=>acc++l)=(gL ts E f d j q false).map fun l=>(acc++[v])++l:=by
 rw [qmk h,Rs.map_map];exact Rs.map_congr _ fun x=>by simp
theorem qlu {ts:List Tok} {E:Int} {f d i p:Nat} {ns:List (List UInt8)} {a y:Int} (h4:(tk ts E i).1=4) (hn:(tk ts E i).2.2.1∉ns) (hc:isM (tk ts E (i+1)) 58=true)
  (h:pV ts E f (d+1) (i+1+1) p = .bad a y):pM ts E (f+1) d i p ns = .bad a y:=by
 rw [pM,if_neg (by omega),if_neg hn,if_neg (by rw [hc];decide),h]
theorem qmW {ts:List Tok} {E:Int} {f d i p j q:Nat} {ns:List (List UInt8)} {v:V} (h4:(tk ts E i).1=4) (hn:(tk ts E i).2.2.1∉ns) (hc:isM (tk ts E (i+1)) 58=true)
  (h:pV ts E f (d+1) (i+1+1) p = .ok v j q):pM ts E (f+1) d i p ns=(gM ts E f d j q (ns++[(tk ts E i).2.2.1]) false).map fun x=>((tk ts E i).2.2.1::x.1,v::x.2):=by
 rw [pM,if_neg (by omega),if_neg hn,if_neg (by rw [hc];decide),h];simp only;unfold gM;by_cases c1:isM (tk ts E j) 125=true
 ·rw [if_pos c1,if_pos c1];rfl
 ·rw [if_neg c1,if_neg c1,if_neg (show ¬(false=true) by decide)];by_cases c2:isM (tk ts E j) 44=true
  ·rw [if_pos c2,if_pos c2]
  ·rw [if_neg c2,if_neg c2];rfl
theorem qkJ {ts:List Tok} {E:Int} {f d i p j q:Nat} {ns:List (List UInt8)} {v:V} (an:List (List UInt8)) (av:List V) (h4:(tk ts E i).1=4) (hn:(tk ts E i).2.2.1∉ns) (hc:isM (tk ts E (i+1)) 58=true)
  (h:pV ts E f (d+1) (i+1+1) p = .ok v j q) :
  (pM ts E (f+1) d i p ns).map (fun x=>(an++x.1,av++x.2))=(gM ts E f d j q (ns++[(tk ts E i).2.2.1]) false).map fun x=>((an++[(tk ts E i).2.2.1])++x.1,(av++[v])++x.2):=by
 rw [qmW h4 hn hc h,Rs.map_map];exact Rs.map_congr _ fun x=>by simp
theorem qlg {ts:List Tok} {E:Int} {f d i p:Nat} {ns:List (List UInt8)} (h4:(tk ts E i).1≠4):pM ts E (f+1) d i p ns = .bad (tk ts E i).2.2.2 50:=by rw [pM,if_pos h4]
theorem qji {ts:List Tok} {E:Int} {f d i p:Nat} {ns:List (List UInt8)} (h4:(tk ts E i).1=4) (hn:(tk ts E i).2.2.1∈ns):pM ts E (f+1) d i p ns = .bad (tk ts E i).2.2.2 52:=by
 rw [pM,if_neg (by omega),if_pos hn]
theorem qig {ts:List Tok} {E:Int} {f d i p:Nat} {ns:List (List UInt8)} (h4:(tk ts E i).1=4) (hn:(tk ts E i).2.2.1∉ns) (hc:isM (tk ts E (i+1)) 58=false):pM ts E (f+1) d i p ns = .bad (tk ts E (i+1)).2.2.2 50:=by
 rw [pM,if_neg (by omega),if_neg hn,if_pos hc]
theorem qkn {ts:List Tok} {E:Int} {f d i p:Nat} (h1:qb7 (tk ts E i)=false) (h2:¬16<d) (h3:p≠8192) (h4:(tk ts E i).1=1) (h5:(tk ts E i).2.2.1=[91]) :
  pV ts E (f+1) d i p=(gL ts E f d (i+1) (p+1) true).map lsV:=by
 rw [pV,if_neg (by rw [h1];decide),if_neg h2,if_neg h3,if_neg (by omega),if_neg (by omega),if_neg (by omega),if_pos h5];unfold gL;by_cases c1:isM (tk ts E (i+1)) 93=true
 ·rw [if_pos c1,if_pos c1];rfl
 ·rw [if_neg c1,if_neg c1,if_pos rfl]
theorem qma {ts:List Tok} {E:Int} {f d i p:Nat} (h1:qb7 (tk ts E i)=false) (h2:¬16<d) (h3:p≠8192) (h4:(tk ts E i).1=1) (h5:(tk ts E i).2.2.1≠[91]) :
  pV ts E (f+1) d i p=(gM ts E f d (i+1) (p+1) [] true).map mpV:=by
 rw [pV,if_neg (by rw [h1];decide),if_neg h2,if_neg h3,if_neg (by omega),if_neg (by omega),if_neg (by omega),if_neg h5];unfold gM;by_cases c1:isM (tk ts E (i+1)) 125=true
 ·rw [if_pos c1,if_pos c1];rfl
 ·rw [if_neg c1,if_neg c1,if_pos rfl]
end Re
namespace Em
open Utf Sc Re Nu
open Ch (qbL qgd)
def okS (s:List UInt8):Prop:=(bZ s).2=s.length
instance (s:List UInt8):Decidable (okS s):=by unfold okS;infer_instance
def qal (ns:List (List UInt8)):Prop:=ns.length≤8192→(∀ x∈ns,okS x)∧ns.Nodup
instance (ns:List (List UInt8)):Decidable (qal ns):=by unfold qal;infer_instance
def own (k n:Int) (s:List UInt8) (a:Nat) (ns:List (List UInt8)) (b:Nat):Prop:=
 ((1≤k∧k≤6)∧((k≠2∧k≠3)→n=0)∧(k≠4→s=[])∧(k≠5→a=0)∧(k≠6→b=0))∧
  (k=2→n=0∨n=1)∧(k=3→ -9007199254740991≤n∧n≤9007199254740991)∧(k=4→okS s)∧(k=6→qal ns)
instance (k n:Int) (s:List UInt8) (a:Nat) (ns:List (List UInt8)) (b:Nat):Decidable (own k n s a ns b):=by unfold own;infer_instance
def qt (s:List UInt8):List UInt8:=34::(qbL s++[34])
mutual
/-- a value's text -/
def emV:V→List UInt8
 | .mk k n s l ns ms=>if k=1 then ci else if k=2 then (if n=1 then bW else qac) else if k=3 then qa7 n else if k=4 then qt s
  else if k=5 then 91::((emT l).drop 1++[93]) else 123::((emM ns ms).drop 1++[125])
/-- the texts of values, each with a comma ahead -/
def emT:List V→List UInt8
 | []=>[]
 | v::r=>44::(emV v++emT r)
/-- the texts of members, each with a comma ahead -/
def emM:List (List UInt8)→List V→List UInt8
 | _,[]=>[]
 | ns,v::r=>44::(qt (ns.headD [])++58::(emV v++emM ns.tail r))
end
mutual
/-- how many values are right from one on, with those ahead; and why no more -/
def wk:V→Nat→Nat→Nat×Int
 | .mk k n s l ns ms,d,p=>if 16<d then (p,51) else if p=8192 then (p,53) else if own k n s l.length ns ms.length then
   (if (wkL l (d+1) (p+1)).2≠0 then wkL l (d+1) (p+1) else wkL ms (d+1) (wkL l (d+1) (p+1)).1) else (p,1)
def wkL:List V→Nat→Nat→Nat×Int
 | [],_,p=>(p,0)
 | v::r,d,p=>if (wk v d p).2≠0 then wk v d p else wkL r d (wk v d p).1
end
mutual
/-- is each value right by itself? -/
def qci:V→Prop
 | .mk k n s l ns ms=>own k n s l.length ns ms.length∧qbn l∧qbn ms
def qbn:List V→Prop
 | []=>True
 | v::r=>qci v∧qbn r
end
mutual
/-- can each value be written? -/
def okW:V→Prop
 | .mk k n s l ns ms=>own k n s l.length ns ms.length∧(∀ x∈ns,okS x)∧cu l∧cu ms
def cu:List V→Prop
 | []=>True
 | v::r=>okW v∧cu r
end
mutual
/-- a value for each name -/
def bu:V→Prop
 | .mk _ _ _ l ns ms=>ns.length=ms.length∧cA l∧cA ms
def cA:List V→Prop
 | []=>True
 | v::r=>bu v∧cA r
end
mutual
/-- no map is too great -/
def qfc:V→Prop
 | .mk _ _ _ l ns ms=>ns.length≤8192∧qaK l∧qaK ms
def qaK:List V→Prop
 | []=>True
 | v::r=>qfc v∧qaK r
end
mutual
/-- how large a value is -/
def szU:V→Nat
 | .mk _ _ s l ns ms=>1+s.length+cz l+(ns.map fun x=>1+x.length).sum+cz ms
def cz:List V→Nat
 | []=>0
 | v::r=>szU v+cz r
end
mutual
theorem qiS:∀ (v:V) (d p:Nat),p≤8192→(wk v d p).1≤8192∧((wk v d p).2=0∨(wk v d p).2=1∨(wk v d p).2=51∨(wk v d p).2=53)
 | .mk k n s l ns ms,d,p,hp=>by
  rw [wk];by_cases h1:16<d
  ·rw [if_pos h1];simp;omega
  rw [if_neg h1];by_cases h2:p=8192
  ·rw [if_pos h2];simp;omega
  rw [if_neg h2];by_cases h3:own k n s l.length ns ms.length
  ·rw [if_pos h3];have a:=qeF l (d+1) (p+1) (by omega);by_cases h4:(wkL l (d+1) (p+1)).2≠0
   ·rw [if_pos h4];exact a
   ·rw [if_neg h4];exact qeF ms (d+1) _ a.1
  ·rw [if_neg h3];simp;omega
theorem qeF:∀ (l:List V) (d p:Nat),p≤8192→(wkL l d p).1≤8192∧((wkL l d p).2=0∨(wkL l d p).2=1∨(wkL l d p).2=51∨(wkL l d p).2=53)
 | [],d,p,hp=>by rw [wkL];simp;omega
 | v::r,d,p,hp=>by
  rw [wkL];have a:=qiS v d p hp;by_cases h4:(wk v d p).2≠0
  ·rw [if_pos h4];exact a
  ·rw [if_neg h4];exact qeF r d _ a.1
end
mutual
theorem qk6:∀ (v:V) (d p:Nat),p≤8192→(wk v d p).2=0→(wk v d p).1=p+cnt v∧p+cnt v≤8192∧dp v d≤16∧qci v
 | .mk k n s l ns ms,d,p,hp=>by
  rw [wk];by_cases h1:16<d
  ·rw [if_pos h1];intro h;simp at h
  rw [if_neg h1];by_cases h2:p=8192
  ·rw [if_pos h2];intro h;simp at h
  rw [if_neg h2];by_cases h3:own k n s l.length ns ms.length
  ·rw [if_pos h3];by_cases h4:(wkL l (d+1) (p+1)).2≠0
   ·rw [if_pos h4];intro h;exact absurd h h4
   ·rw [if_neg h4];intro h;obtain ⟨a1,a2,a3,a4⟩:=qgc l (d+1) (p+1) (by omega) (by simpa using h4);rw [a1] at h ⊢;obtain ⟨b1,b2,b3,b4⟩:=qgc ms (d+1) (p+1+aN l) (by omega) h;rw [b1,cnt,dp,qci];exact ⟨by omega,by omega,by omega,h3,a4,b4⟩
  ·rw [if_neg h3];intro h;simp at h
theorem qgc:∀ (l:List V) (d p:Nat),p≤8192→(wkL l d p).2=0→(wkL l d p).1=p+aN l∧p+aN l≤8192∧dpL l d≤16∧qbn l
 | [],d,p,hp=>by rw [wkL,aN,dpL,qbn];simp;omega
 | v::r,d,p,hp=>by
  rw [wkL];by_cases h4:(wk v d p).2≠0
  ·rw [if_pos h4];intro h;exact absurd h h4
  ·rw [if_neg h4];intro h;obtain ⟨a1,a2,a3,a4⟩:=qk6 v d p hp (by simpa using h4);rw [a1] at h ⊢;obtain ⟨b1,b2,b3,b4⟩:=qgc r d (p+cnt v) (by omega) h;rw [b1,aN,dpL,qbn];exact ⟨by omega,by omega,by omega,a4,b4⟩
end
mutual
theorem qjs:∀ (v:V) (d p:Nat),(wk v d p).2=1→¬qci v
 | .mk k n s l ns ms,d,p=>by
  rw [wk,qci];split
  ·intro h;simp at h
  split
  ·intro h;simp at h
  split
  ·rename_i h3
   split
   ·intro h ⟨_,a,_⟩;exact qbN l _ _ h a
   ·intro h ⟨_,_,b⟩;exact qbN ms _ _ h b
  ·rename_i h3;intro _ ⟨a,_⟩;exact h3 a
theorem qbN:∀ (l:List V) (d p:Nat),(wkL l d p).2=1→¬qbn l
 | [],d,p=>by rw [wkL];intro h;simp at h
 | v::r,d,p=>by
  rw [wkL,qbn];split
  ·intro h ⟨a,_⟩;exact qjs v _ _ h a
  ·intro h ⟨_,b⟩;exact qbN r _ _ h b
end
def chk (v:V):Int:=(wk v 1 0).2
theorem qfC {v:V} (h:chk v=0):cnt v≤8192∧dp v 1≤16∧qci v:=by
 obtain ⟨_,a,b,c⟩:=qk6 v 1 0 (by omega) h;exact ⟨by omega,b,c⟩
mutual
theorem qbU:∀ v:V,bu v→cnt v≤8192→qfc v
 | .mk k n s l ns ms,h,hc=>by
  rw [bu] at h;rw [cnt] at hc;rw [qfc];have:=qgy ms;exact ⟨by omega,qbh l h.2.1 (by omega),qbh ms h.2.2 (by omega)⟩
theorem qbh:∀ l:List V,cA l→aN l≤8192→qaK l
 | [],_,_=>by rw [qaK];trivial
 | v::r,h,hc=>by
  rw [cA] at h;rw [aN] at hc;rw [qaK];exact ⟨qbU v h.1 (by omega),qbh r h.2 (by omega)⟩
theorem qgy:∀ l:List V,l.length≤aN l
 | []=>by simp
 | v::r=>by
  rw [aN,List.length_cons];have:=qgy r;have:=qgX v;omega
end
mutual
theorem qgw:∀ v:V,qfc v→bu v→(okW v↔qci v)
 | .mk k n s l ns ms,h,hl=>by
  rw [qfc] at h;rw [bu] at hl;rw [okW,qci,qcz l h.2.1 hl.2.1,qcz ms h.2.2 hl.2.2];refine ⟨fun ⟨a,_,b,c⟩=>⟨a,b,c⟩,fun ⟨a,b,c⟩=>⟨a,?_,b,c⟩⟩;by_cases hk:k=6
  ·exact (a.2.2.2.2 hk h.1).1
  ·have:=a.1.2.2.2.2 hk;have e:ns=[]:=List.eq_nil_of_length_eq_zero (by omega);subst e;intro x hx;cases hx
theorem qcz:∀ l:List V,qaK l→cA l→(cu l↔qbn l)
 | [],_,_=>by rw [cu,qbn]
 | v::r,h,hl=>by
  rw [qaK] at h;rw [cA] at hl;rw [cu,qbn,qgw v h.1 hl.1,qcz r h.2 hl.2]
end
theorem qka {v:V} (h:chk v=0) (hl:bu v):okW v:=(qgw v (qbU v hl (qfC h).1) hl).2 (qfC h).2.2
theorem qcY (s:List UInt8):(qt s).length≤6*s.length+2:=by
 have:=qgd s;unfold qt;simp only [List.length_cons,List.length_append,List.length_nil];omega
mutual
theorem qd9:∀ v:V,bu v→(emV v).length+1≤24*szU v
 | .mk k n s l ns ms,h=>by
  rw [bu] at h;have a:=qgJ l h.2.1;have b:=qgU ms ns h.1 h.2.2;have c:=qcY s;have d:=(qft n).2;rw [emV,szU];split
  ·show 4+1≤_;omega
  split
  ·split
   ·show 4+1≤_;omega
   ·show 5+1≤_;omega
  split
  ·omega
  split
  ·omega
  split
  ·simp only [List.length_cons,List.length_append,List.length_drop,List.length_nil];omega
  ·simp only [List.length_cons,List.length_append,List.length_drop,List.length_nil];omega
theorem qgJ:∀ l:List V,cA l→(emT l).length≤24*cz l
 | [],_=>by rw [emT];simp
 | v::r,h=>by
  rw [cA] at h;have a:=qd9 v h.1;have b:=qgJ r h.2;rw [emT,cz];simp only [List.length_cons,List.length_append];omega
theorem qgU:∀ (ms:List V) (ns:List (List UInt8)),ns.length=ms.length→cA ms→(emM ns ms).length≤24*((ns.map fun x=>1+x.length).sum+cz ms)
 | [],ns,_,_=>by rw [emM];simp
 | v::r,ns,hn,h=>by
  rw [cA] at h;cases ns with
  | nil=>simp at hn
  | cons x ns=>
   have a:=qd9 v h.1;have b:=qgU r ns (by simpa using hn) h.2;have c:=qcY x;rw [emM,cz];simp only [List.length_cons,List.length_append,List.headD_cons,List.tail_cons,List.map_cons,List.sum_cons];omega
end
theorem qgo:∀ a b:List V,emT (a++b)=emT a++emT b:=by
 intro a b;induction a with
 | nil=>rfl
 | cons v r ih=>rw [List.cons_append,emT,emT,ih];simp
theorem qgi:∀ (a b:List V) (na nb:List (List UInt8)),na.length=a.length→emM (na++nb) (a++b)=emM na a++emM nb b:=by
 intro a b;induction a with
 | nil=>intro na nb h;obtain rfl:=List.eq_nil_of_length_eq_zero h;simp [emM]
 | cons v r ih=>
  intro na nb h;cases na with
  | nil=>simp at h
  | cons x na=>
   have:=ih na nb (by simpa using h);rw [List.cons_append,List.cons_append,emM,emM];simp [this]
theorem qiz (l:List V) (k:Nat) (h:k<l.length):emT (l.take (k+1))=emT (l.take k)++44::emV l[k]:=by
 rw [cJ l k h,qgo,emT,emT,List.append_nil]
theorem qju (ns:List (List UInt8)) (ms:List V) (k:Nat) (h:k<ms.length) (hn:k<ns.length) (hl:ns.length=ms.length) :
  emM (ns.take (k+1)) (ms.take (k+1))=emM (ns.take k) (ms.take k)++44::(qt ns[k]++58::emV ms[k]):=by
 rw [cJ ms k h,cJ ns k hn,qgi _ _ _ _ (by simp [List.length_take];omega),emM,emM];simp
theorem qiB {k n:Int} {s:List UInt8} {l ms:List V} {ns:List (List UInt8)} (h:own k n s l.length ns ms.length) (hk:k≠5):l=[]:=List.eq_nil_of_length_eq_zero (h.1.2.2.2.1 hk)
theorem qio {k n:Int} {s:List UInt8} {l ms:List V} {ns:List (List UInt8)} (h:own k n s l.length ns ms.length) (hk:k≠6):ms=[]:=List.eq_nil_of_length_eq_zero (h.1.2.2.2.2 hk)
end Em
namespace Re
open Utf Sc
set_option linter.unusedSimpArgs false
theorem qjy {l:List UInt8} {ts:List Tok} {r:V×Int×Int} (h:cM l=(ts,0,0)) (h2:rdT ts (l.length:Int)=r):rdV l=r:=by
 unfold rdV;rw [h];exact h2
