/- Merged: ChPl ScPl RePl ReMem RePl2 RePl5 EmPl EmPl2 ReAw0. -/
import Derived.Test.YtofelafamfckiaaGreatDoorTt6
import Derived.Lib.AppendStr
namespace Go.Proofs.YtofelafamfckiaaGreatDoor
namespace Ch
open Go.RowKit Utf
def qbB (c:Int):Int:=if 48≤c∧c≤57 then c-48 else if 65≤c∧c≤70 then c-55 else if 97≤c∧c≤102 then c-87 else -1
theorem qkY (c:Int) : -1≤qbB c:=by unfold qbB;(repeat' split) <;> omega
theorem qgw (c:Int):qbB c≤15:=by unfold qbB;(repeat' split) <;> omega
def qbW (l:List UInt8):Nat→Int
 | 0=>0
 | k+1=>qbW l k*16+qbB (byt l (k+2))
def cD (l:List UInt8):Nat→Bool
 | 0=>true
 | k+1=>cD l k&&decide (0≤qbB (byt l (k+2)))
theorem qg5 {l:List UInt8} {k:Nat} (h:cD l (k+1)=true):cD l k=true∧0≤qbB (byt l (k+2)):=by
 simpa [cD] using h
theorem qfx (l:List UInt8):∀ k,cD l k=true→0≤qbW l k∧qbW l k<16 ^ k:=by
 intro k;induction k with
 | zero=>intro _;simp [qbW]
 | succ k ih=>
  intro h;obtain ⟨h1,h2⟩:=qg5 h;have:=ih h1;have h3:=qgw (byt l (k+2));simp only [qbW,Int.pow_succ];omega
theorem qfJ (l:List UInt8) (k:Nat) (h:cD l k=false):∀ n,k≤n→cD l n=false:=by
 intro n hn;induction n with
 | zero=>
  have:k=0:=by omega
  subst this;exact h
 | succ n ih=>
  by_cases e:k=n+1
  ·subst e;exact h
  ·simp [cD,ih (by omega)]
def ah (l:List UInt8):Int:=if 6≤l.length∧byt l 0=92∧byt l 1=117∧cD l 4=true then qbW l 4 else -1
theorem bV {l:List UInt8} (h:0≤ah l):6≤l.length∧byt l 0=92∧byt l 1=117∧cD l 4=true∧ah l=qbW l 4:=by
 unfold ah at h ⊢;split at h
 ·rename_i h1
  rw [if_pos h1];exact ⟨h1.1,h1.2.1,h1.2.2.1,h1.2.2.2,rfl⟩
 ·omega
theorem qjp {l:List UInt8} (h0:6≤l.length) (h1:byt l 0=92) (h2:byt l 1=117) (h3:cD l 4=true):ah l=qbW l 4:=by
 rw [ah,if_pos ⟨h0,h1,h2,h3⟩]
theorem qaJ {l:List UInt8} (h:¬(6≤l.length∧byt l 0=92∧byt l 1=117∧cD l 4=true)):ah l = -1:=by
 rw [ah,if_neg h]
theorem qcB (l:List UInt8) : -1≤ah l∧ah l≤65535:=by
 by_cases h:0≤ah l
 ·obtain ⟨_,_,_,h4,h5⟩:=bV h;have:=qfx l 4 h4;omega
 ·unfold ah;split
  ·rename_i h1
   have:=qfx l 4 h1.2.2.2;omega
  ·omega
def bz (c:Int):Int:=if c=34 then 34 else if c=92 then 92 else if c=47 then 47 else if c=98 then 8 else if c=102 then 12 else if c=110 then 10 else if c=114 then 13 else if c=116 then 9 else -1
theorem qd7 (c:Int):bz c≤92:=by unfold bz;(repeat' split) <;> omega
theorem qfp (c:Int) (h:0≤bz c):(bz c=34∨bz c=92∨bz c=47∨bz c=8∨bz c=12∨bz c=10∨bz c=13∨bz c=9)∧c≠117:=by
 unfold bz at h ⊢;(repeat' split at h) <;> simp_all
def ci (u:Int):Bool:=decide (55296≤u∧u<56320)
def bI (u:Int):Bool:=decide (56320≤u∧u<57344)
theorem qaK {u:Int} (h:ci u=true):55296≤u∧u<56320:=by simpa [ci] using h
theorem qa0 {u:Int} (h:bI u=true):56320≤u∧u<57344:=by simpa [bI] using h
theorem qkT (u:Int) (h0:0≤u) (h1:u≤65535) (hu:ci u=false) (hl:bI u=false):aH u=true:=by
 simp [ci,bI,aH] at *;omega
theorem qek {u:Int} (h:ci u=true):aH u=false:=by have:=qaK h;simp [aH];omega
theorem qeM {u:Int} (h:bI u=true):aH u=false:=by have:=qa0 h;simp [aH];omega
def cK (u b:Int):Int:=65536+(u-55296)*1024+(b-56320)
theorem qfm {u b:Int} (hu:ci u=true) (hb:bI b=true):65536≤cK u b∧cK u b≤1114111:=by
 have:=qaK hu;have:=qa0 hb;unfold cK;omega
def qan (l:List UInt8):Int×Int×Int:=
 if l.length<2 then (0,0,20) else if 0≤bz (byt l 1) then (bz (byt l 1),2,0) else if 0≤ah l then (ah l,6,0) else (0,0,20)
def aO (l:List UInt8):Int×Int×Int:=
 if (ao l).2=0 then (0,0,10) else if (ao l).1<32 then (0,0,20) else if (ao l).1=92 then qan l else ((ao l).1,(ao l).2,0)
def b9 (l:List UInt8):Int×Int:=
 if 2≤l.length∧0≤bz (byt l 1) then (bz (byt l 1),2)
 else if ah l<0 then (0,0)
 else if aH (ah l)=true then (ah l,6)
 else if ci (ah l)=true∧bI (ah (l.drop 6))=true then (cK (ah l) (ah (l.drop 6)),12)
 else (0,0)
def aq (l:List UInt8):Int×Int×Int:=
 if l.length=0 then (0,0,20) else if byt l 0=34 then (0,0,0) else if byt l 0<32 then (0,0,20)
 else if byt l 0=92 then (if (b9 l).2=0 then (0,0,20) else ((b9 l).1,(b9 l).2,0))
 else if (ao l).2=0 then (0,0,10) else ((ao l).1,(ao l).2,0)
theorem qab {l:List UInt8} (h0:l.length≠0) (h:byt l 0<128):ao l=(byt l 0,1):=by
 unfold ao;rw [if_neg h0,if_pos h]
theorem qcN {l:List UInt8} (h:128≤byt l 0) (hn:(ao l).2≠0):128≤(ao l).1:=by
 rcases cE l with h1 | ⟨h1,h2,h3⟩
 ·rw [h1] at hn;simp at hn
 ·rcases Int.lt_or_le (ao l).1 128 with h4 | h4
  ·have e:=bN (ao l).1 (l.drop (enc (ao l).1).length) 0 (ao l).1 (by rw [qba h1 h4];rfl);rw [h3] at e;omega
  ·exact h4
theorem qli (l:List UInt8):b9 l=(0,0)∨(aH (b9 l).1=true∧1≤(b9 l).2∧(b9 l).2≤12∧(b9 l).2≤l.length∧((enc (b9 l).1).length:Int)≤(b9 l).2):=by
 unfold b9;by_cases h1:2≤l.length∧0≤bz (byt l 1)
 ·rw [if_pos h1]
  right
  have h3:=qd7 (byt l 1);have hp:aH (bz (byt l 1))=true:=by simp [aH];omega
  refine ⟨hp,by simp,by simp,by simp;omega,?_⟩;have:(enc (bz (byt l 1))).length=1:=by rw [qaU,qba hp (by omega)];rfl
  simp [this]
 ·rw [if_neg h1];by_cases h2:ah l<0
  ·rw [if_pos h2];exact .inl rfl
  ·rw [if_neg h2];obtain ⟨g1,_⟩:=bV (l:=l) (by omega);have gb:=qcB l;by_cases h3:aH (ah l)=true
   ·rw [if_pos h3]
    right
    refine ⟨h3,by simp,by simp,by simp;omega,?_⟩;have:=qcq (ah l);simp;omega
   ·rw [if_neg h3];by_cases h4:ci (ah l)=true∧bI (ah (l.drop 6))=true
    ·rw [if_pos h4]
     right
     have hb:=qfm h4.1 h4.2;have hl:=qa0 h4.2;obtain ⟨g2,_⟩:=bV (l:=l.drop 6) (by omega);simp at g2;refine ⟨by simp [aH];omega,by simp,by simp,by simp;omega,?_⟩;have:=qcq (cK (ah l) (ah (l.drop 6)));simp;omega
    ·rw [if_neg h4];exact .inl rfl
theorem qaN (l:List UInt8):((aq l).2.1=0∧(aq l).1=0)∨(aH (aq l).1=true∧1≤(aq l).2.1∧(aq l).2.1≤12∧(aq l).2.1≤l.length∧((enc (aq l).1).length:Int)≤(aq l).2.1∧(aq l).2.2=0):=by
 unfold aq;by_cases h0:l.length=0
 ·rw [if_pos h0];exact .inl ⟨rfl,rfl⟩
 ·rw [if_neg h0];by_cases h1:byt l 0=34
  ·rw [if_pos h1];exact .inl ⟨rfl,rfl⟩
  ·rw [if_neg h1];by_cases h2:byt l 0<32
   ·rw [if_pos h2];exact .inl ⟨rfl,rfl⟩
   ·rw [if_neg h2];by_cases h3:byt l 0=92
    ·rw [if_pos h3];rcases qli l with h4 | ⟨a,b,c,d,e⟩
     ·rw [h4];exact .inl ⟨rfl,rfl⟩
     ·rw [if_neg (by omega)];exact .inr ⟨a,b,c,d,e,rfl⟩
    ·rw [if_neg h3];rcases qat l with h4 | ⟨a,b,c,d⟩
     ·rw [h4];exact .inl ⟨rfl,rfl⟩
     ·rw [if_neg (by omega)];refine .inr ⟨a,b,by simp only;omega,d,?_,rfl⟩;rcases cE l with h5 | ⟨_,h6,_⟩
      ·rw [h5] at b;simp at b
      ·simp only;omega
def qa8:Nat→List UInt8→List Int×Nat×Int
 | 0,l=>([],0,(aq l).2.2)
 | f+1,l=>if (aq l).2.1=0 then ([],0,(aq l).2.2)
  else ((aq l).1::(qa8 f (l.drop (aq l).2.1.toNat)).1,(aq l).2.1.toNat+(qa8 f (l.drop (aq l).2.1.toNat)).2.1,(qa8 f (l.drop (aq l).2.1.toNat)).2.2)
def aC (l:List UInt8):List Int×Nat×Int:=qa8 l.length l
theorem qaS (f:Nat):qa8 f []=([],0,20):=by cases f <;> rfl
theorem qfT:∀ (f g:Nat) (l:List UInt8),l.length≤f→l.length≤g→qa8 f l=qa8 g l:=by
 intro f;induction f with
 | zero=>
  intro g l h _;rw [List.eq_nil_of_length_eq_zero (show l.length=0 by omega),qaS,qaS]
 | succ f ih=>
  intro g l hf hg;cases g with
  | zero=>rw [List.eq_nil_of_length_eq_zero (show l.length=0 by omega),qaS,qaS]
  | succ g=>
   simp only [qa8];by_cases h:(aq l).2.1=0
   ·rw [if_pos h,if_pos h]
   ·rw [if_neg h,if_neg h];rcases qaN l with h1 | ⟨_,h1,_,h2,_⟩
    ·exact absurd h1.1 h
    ·rw [ih g (l.drop (aq l).2.1.toNat) (by simp;omega) (by simp;omega)]
theorem qbb {l:List UInt8} (h:(aq l).2.1=0):aC l=([],0,(aq l).2.2):=by
 unfold aC;cases l with
 | nil=>rfl
 | cons a l=>simp only [List.length_cons,qa8];rw [if_pos h]
theorem qcE {l:List UInt8} (h:(aq l).2.1≠0):aC l=((aq l).1::(aC (l.drop (aq l).2.1.toNat)).1,(aq l).2.1.toNat+(aC (l.drop (aq l).2.1.toNat)).2.1,(aC (l.drop (aq l).2.1.toNat)).2.2):=by
 rcases qaN l with h1 | ⟨_,h1,_,h2,_⟩
 ·exact absurd h1.1 h
 ·obtain ⟨k,hk⟩:∃ k,l.length=k+1:=⟨l.length-1,by omega⟩
  unfold aC;rw [hk,qa8,if_neg h,qfT k _ _ (by simp;omega) (Nat.le_refl _)]
theorem qgF (l:List UInt8) (h:(aq l).2.1=0):(aq l).2.2=10∨(aq l).2.2=20∨((aq l).2.2=0∧l.length≠0∧byt l 0=34):=by
 unfold aq at h ⊢;by_cases h0:l.length=0
 ·rw [if_pos h0];exact .inr (.inl rfl)
 ·rw [if_neg h0] at h ⊢;by_cases h1:byt l 0=34
  ·rw [if_pos h1];exact .inr (.inr ⟨rfl,h0,h1⟩)
  ·rw [if_neg h1] at h ⊢;by_cases h2:byt l 0<32
   ·rw [if_pos h2];exact .inr (.inl rfl)
   ·rw [if_neg h2] at h ⊢;by_cases h3:byt l 0=92
    ·rw [if_pos h3] at h ⊢;by_cases h4:(b9 l).2=0
     ·rw [if_pos h4];exact .inr (.inl rfl)
     ·rw [if_neg h4] at h;exact absurd h h4
    ·rw [if_neg h3] at h ⊢;by_cases h4:(ao l).2=0
     ·rw [if_pos h4];exact .inl rfl
     ·rw [if_neg h4] at h;exact absurd h h4
theorem qaF (l:List UInt8):(aC l).2.1≤l.length∧(bE (aC l).1).length≤(aC l).2.1∧(∀ p∈(aC l).1,aH p=true)∧
  ((aC l).2.2=10∨(aC l).2.2=20∨((aC l).2.2=0∧(aC l).2.1<l.length∧byt l (aC l).2.1=34)):=by
 induction l using qes with
 | h l ih=>
  by_cases h:(aq l).2.1=0
  ·rw [qbb h];refine ⟨by simp,by simp [bE],by simp,?_⟩;rcases qgF l h with h1 | h1 | ⟨h1,h2,h3⟩
   ·exact .inl h1
   ·exact .inr (.inl h1)
   ·exact .inr (.inr ⟨h1,by simp only;omega,h3⟩)
  ·rcases qaN l with h1 | ⟨h3,h1,h4,h2,h5,_⟩
   ·exact absurd h1.1 h
   ·have hi:=ih (aq l).2.1.toNat (by omega) (by omega);rw [qcE h];obtain ⟨a,b,c,d⟩:=hi;simp only [List.length_drop] at a;refine ⟨by simp only;omega,by rw [qb1];simp only [List.length_append];omega,?_,?_⟩
    ·intro p hp;simp at hp;rcases hp with rfl | hp
     ·exact h3
     ·exact c p hp
    ·rcases d with d | d | ⟨d1,d2,d3⟩
     ·exact .inl d
     ·exact .inr (.inl d)
     ·refine .inr (.inr ⟨d1,?_,?_⟩)
      ·simp only [List.length_drop] at d2;simp only;omega
      ·rw [bm] at d3;exact d3
theorem qgW {l:List UInt8} (h:byt l 0≠92):ah l = -1:=qaJ fun x=>h x.2.1
theorem qho {l:List UInt8} (h:l.length=0):ah l = -1:=qaJ fun x=>by omega
theorem qaG {l:List UInt8} (h:(ao l).2=0):aO l=(0,0,10):=by unfold aO;rw [if_pos h]
theorem qar {l:List UInt8} (h0:l.length≠0) (h:byt l 0<32):aO l=(0,0,20):=by
 have e:=qab h0 (by omega);unfold aO;rw [e,if_neg (by simp),if_pos h]
theorem qaH {l:List UInt8} (h0:l.length≠0) (h:byt l 0=92):aO l=qan l:=by
 have e:=qab h0 (by omega);unfold aO;rw [e,h];rfl
theorem qby {l:List UInt8} (h0:l.length≠0) (h:(ao l).2≠0) (h1:¬byt l 0<32) (h2:byt l 0≠92):aO l=((ao l).1,(ao l).2,0):=by
 unfold aO;rw [if_neg h];by_cases h3:byt l 0<128
 ·rw [qab h0 h3,if_neg h1,if_neg h2]
 ·have:=qcN (by omega) h;rw [if_neg (by omega),if_neg (by omega)]
theorem qhm {l:List UInt8} (h0:l.length≠0) (h:byt l 0<32):aq l=(0,0,20):=by
 unfold aq;rw [if_neg h0,if_neg (by omega),if_pos h]
theorem cX {l:List UInt8} (h0:l.length≠0) (h:byt l 0=92):aq l=if (b9 l).2=0 then (0,0,20) else ((b9 l).1,(b9 l).2,0):=by
 unfold aq;rw [if_neg h0,if_neg (by omega),if_neg (by omega),if_pos h]
theorem qfh {l:List UInt8} (h0:l.length≠0) (h1:¬byt l 0<32) (h2:byt l 0≠92) (h3:byt l 0≠34):aq l=if (ao l).2=0 then (0,0,10) else ((ao l).1,(ao l).2,0):=by
 unfold aq;rw [if_neg h0,if_neg h3,if_neg h1,if_neg h2]
theorem qfq {l:List UInt8} (h0:l.length≠0) (h:byt l 0=34):aq l=(0,0,0):=by
 unfold aq;rw [if_neg h0,if_pos h]
theorem qhK {l:List UInt8} (h0:l.length=0):aq l=(0,0,20):=by
 unfold aq;rw [if_pos h0]
theorem qbo {l:List UInt8} (h:2≤l.length) (hl:0≤bz (byt l 1)):qan l=(bz (byt l 1),2,0)∧b9 l=(bz (byt l 1),2):=by
 constructor
 ·unfold qan;rw [if_neg (by omega),if_pos hl]
 ·unfold b9;rw [if_pos ⟨h,hl⟩]
theorem qgs {l:List UInt8} (h:0≤ah l):¬0≤bz (byt l 1):=by
 obtain ⟨_,_,h3,_⟩:=bV h;intro hc;exact (qfp _ hc).2 h3
theorem qaX {l:List UInt8} (h:0≤ah l):qan l=(ah l,6,0):=by
 obtain ⟨h1,_⟩:=bV h;unfold qan;rw [if_neg (by omega),if_neg (qgs h),if_pos h]
theorem qbS {l:List UInt8} (h:l.length<2∨¬0≤bz (byt l 1)) (hu:ah l<0):qan l=(0,0,20)∧b9 l=(0,0):=by
 constructor
 ·unfold qan;by_cases h1:l.length<2
  ·rw [if_pos h1]
  ·rw [if_neg h1,if_neg (by omega),if_neg (by omega)]
 ·unfold b9;rw [if_neg (by omega),if_pos hu]
theorem qaO {l:List UInt8} (h:0≤ah l):b9 l=if aH (ah l)=true then (ah l,6) else if ci (ah l)=true∧bI (ah (l.drop 6))=true then (cK (ah l) (ah (l.drop 6)),12) else (0,0):=by
 unfold b9;rw [if_neg (fun x=>qgs h x.2),if_neg (by omega)]
theorem qgl (l:List UInt8):0≤(aO l).1∧(aO l).1≤1114111∧0≤(aO l).2.1∧(aO l).2.1≤6∧(aO l).2.1≤l.length∧((aO l).2.2=0∨(aO l).2.2=10∨(aO l).2.2=20):=by
 unfold aO;rcases qat l with h1 | ⟨a,b,c,d⟩
 ·rw [h1];simp
 ·have a0:=qaT a;have a1:=qai a;rw [if_neg (by omega)];by_cases h2:(ao l).1<32
  ·rw [if_pos h2];simp
  ·rw [if_neg h2];by_cases h3:(ao l).1=92
   ·rw [if_pos h3];unfold qan;by_cases h4:l.length<2
    ·rw [if_pos h4];simp
    ·rw [if_neg h4];by_cases h5:0≤bz (byt l 1)
     ·have:=qd7 (byt l 1);rw [if_pos h5];exact ⟨by simp only;omega,by simp only;omega,by simp only;omega,by simp only;omega,by simp only;omega,.inl rfl⟩
     ·rw [if_neg h5];by_cases h6:0≤ah l
      ·obtain ⟨g,_⟩:=bV h6;have:=qcB l;rw [if_pos h6];exact ⟨by simp only;omega,by simp only;omega,by simp only;omega,by simp only;omega,by simp only;omega,.inl rfl⟩
      ·rw [if_neg h6];simp
   ·rw [if_neg h3];exact ⟨by simp only;omega,by simp only;omega,by simp only;omega,by simp only;omega,by simp only;omega,.inl rfl⟩
theorem qiq {l:List UInt8} (h0:l.length≠0) (hq:byt l 0≠34) (he:(aO l).2.2≠0):aq l=(0,0,(aO l).2.2):=by
 by_cases h1:byt l 0<32
 ·rw [qhm h0 h1,qar h0 h1]
 ·by_cases h2:byt l 0=92
  ·rw [qaH h0 h2] at he ⊢;rw [cX h0 h2];by_cases h3:2≤l.length∧0≤bz (byt l 1)
   ·rw [(qbo h3.1 h3.2).1] at he;simp at he
   ·by_cases h4:0≤ah l
    ·rw [qaX h4] at he;simp at he
    ·have:=qbS (l:=l) (by omega) (by omega);rw [this.1,this.2];rfl
  ·rw [qfh h0 h1 h2 hq];by_cases h3:(ao l).2=0
   ·rw [qaG h3,if_pos h3]
   ·rw [qby h0 h3 h1 h2] at he;simp at he
theorem qdJ {l:List UInt8} (h0:l.length≠0) (hq:byt l 0≠34) (he:(aO l).2.2=0) (hu:ci (aO l).1=false) (hl:bI (aO l).1=false):aq l=aO l:=by
 by_cases h1:byt l 0<32
 ·rw [qar h0 h1] at he;simp at he
 ·by_cases h2:byt l 0=92
  ·rw [qaH h0 h2] at he hu hl ⊢;rw [cX h0 h2];by_cases h3:2≤l.length∧0≤bz (byt l 1)
   ·have:=qbo h3.1 h3.2;rw [this.1,this.2];rfl
   ·by_cases h4:0≤ah l
    ·rw [qaX h4] at hu hl ⊢;have gb:=qcB l;rw [qaO h4,if_pos (qkT _ h4 gb.2 hu hl)];rfl
    ·have:=qbS (l:=l) (by omega) (by omega);rw [this.1] at he;simp at he
  ·rw [qfh h0 h1 h2 hq];by_cases h3:(ao l).2=0
   ·rw [qaG h3] at he;simp at he
   ·rw [qby h0 h3 h1 h2,if_neg h3]
theorem cA {l:List UInt8} (h0:l.length≠0) (h:ci (aO l).1=true∨bI (aO l).1=true):byt l 0=92∧0≤ah l∧aO l=(ah l,6,0):=by
 have hp:aH (aO l).1=false:=by rcases h with h | h;exact qek h;exact qeM h
 have h92:∀ n:Int,0≤n→n≤92→aH n=true:=by intro n a b;simp [aH];omega
 by_cases h1:byt l 0<32
 ·rw [qar h0 h1] at hp;simp [aH] at hp
 ·by_cases h2:byt l 0=92
  ·refine ⟨h2,?_⟩;rw [qaH h0 h2] at hp ⊢;by_cases h3:2≤l.length∧0≤bz (byt l 1)
   ·rw [(qbo h3.1 h3.2).1,h92 _ h3.2 (qd7 _)] at hp;simp at hp
   ·by_cases h4:0≤ah l
    ·exact ⟨h4,qaX h4⟩
    ·have:=qbS (l:=l) (by omega) (by omega);rw [this.1] at hp;simp [aH] at hp
  ·by_cases h3:(ao l).2=0
   ·rw [qaG h3] at hp;simp [aH] at hp
   ·rw [qby h0 h3 h1 h2,qks h3] at hp;simp at hp
theorem qi5 {l:List UInt8} (h0:l.length≠0) (h:bI (aO l).1=true):aq l=(0,0,20):=by
 obtain ⟨a,b,c⟩:=cA h0 (.inr h);rw [c] at h;simp only at h;have hu:ci (ah l)=false:=by have:=qa0 h;simp [ci];omega
 have e:b9 l=(0,0):=by rw [qaO b,if_neg (by rw [qeM h];simp),if_neg (by rw [hu];simp)]
 rw [cX h0 a,e];rfl
theorem qfr {l:List UInt8} (h0:l.length≠0) (h:ci (aO l).1=true):aq l=if bI (ah (l.drop 6))=true then (cK (aO l).1 (ah (l.drop 6)),12,0) else (0,0,20):=by
 obtain ⟨a,b,c⟩:=cA h0 (.inl h);rw [c] at h ⊢;simp only at h ⊢;by_cases h2:bI (ah (l.drop 6))=true
 ·have e:b9 l=(cK (ah l) (ah (l.drop 6)),12):=by rw [qaO b,if_neg (by rw [qek h];simp),if_pos ⟨h,h2⟩]
  rw [cX h0 a,e,if_pos h2];rfl
 ·have e:b9 l=(0,0):=by rw [qaO b,if_neg (by rw [qek h];simp),if_neg (fun x=>h2 x.2)]
  rw [cX h0 a,e,if_neg h2];rfl
theorem qec {l:List UInt8} (h0:l.length≠0) (h:bI (ah l)=true):byt l 0=92∧aO l=(ah l,6,0):=by
 have hb:=qa0 h;obtain ⟨h1,h2,_⟩:=bV (l:=l) (by omega);exact ⟨h2,by rw [qaH h0 h2,qaX (by omega)]⟩
def qbt (l:List UInt8) (k:Nat) (ps:List Int):Prop:=
 k≤l.length∧(bE ps).length≤k∧aC l=(ps++(aC (l.drop k)).1,k+(aC (l.drop k)).2.1,(aC (l.drop k)).2.2)
theorem qbt.start (l:List UInt8):qbt l 0 []:=⟨by omega,by simp [bE],by simp⟩
theorem qbt.step {l:List UInt8} {k:Nat} {ps:List Int} {p:Int} {m:Nat} (h:qbt l k ps) (hs:aq (l.drop k)=(p,(m:Int),0)) (hm:m≠0):qbt l (k+m) (ps++[p]):=by
 obtain ⟨h1,h2,h3⟩:=h;have hn:=qaN (l.drop k);rw [hs] at hn;simp only [List.length_drop] at hn;have hg:=qcE (l:=l.drop k) (by rw [hs];simpa using hm);rw [hs] at hg;simp only [Int.toNat_natCast,List.drop_drop] at hg;refine ⟨by omega,?_,?_⟩
 ·rw [cM];simp [bE] at h2 ⊢;omega
 ·rw [h3,hg];simp [Nat.add_assoc]
theorem qbt.stop {l:List UInt8} {k:Nat} {ps:List Int} (h:qbt l k ps) (hs:(aq (l.drop k)).2.1=0):aC l=(ps,k,(aq (l.drop k)).2.2):=by
 rw [h.2.2,qbb hs];simp
def bj (l:List UInt8) (a:Int):List UInt8×Int×Int:=
 if a<0∨(l.length:Int)≤a∨byt l a.toNat≠34 then ([],a,20)
 else if (aC (l.drop (a.toNat+1))).2.2=0 then (bE (aC (l.drop (a.toNat+1))).1,a+1+(aC (l.drop (a.toNat+1))).2.1+1,0)
 else ([],a+1+(aC (l.drop (a.toNat+1))).2.1,(aC (l.drop (a.toNat+1))).2.2)
theorem qaR {l:List UInt8} {a:Int} (h:a<0∨(l.length:Int)≤a∨byt l a.toNat≠34):bj l a=([],a,20):=by rw [bj,if_pos h]
theorem qcC {l:List UInt8} {q:Nat} (h:q<l.length) (hb:byt l q=34):bj l q=if (aC (l.drop (q+1))).2.2=0 then (bE (aC (l.drop (q+1))).1,(q:Int)+1+(aC (l.drop (q+1))).2.1+1,0)
 else ([],(q:Int)+1+(aC (l.drop (q+1))).2.1,(aC (l.drop (q+1))).2.2):=by
 rw [bj,if_neg (by rw [Int.toNat_natCast];omega),Int.toNat_natCast]
theorem qbt.err {l:List UInt8} {k:Nat} {ps:List Int} {e:Int} (h:qbt l k ps) (hs:aq (l.drop k)=(0,0,e)):aC l=(ps,k,e):=by
 have:=h.stop (by rw [hs]);rw [this,hs]
theorem qbt.le {l:List UInt8} {k:Nat} {ps:List Int} (h:qbt l k ps):k≤(aC l).2.1:=by
 rw [h.2.2];simp only;omega
theorem qgU {l:List UInt8} {q k:Nat} {ps:List Int} {e:Int} (h:q<l.length) (hb:byt l q=34) (hr:aC (l.drop (q+1))=(ps,k,e)) (he:e≠0):bj l q=([],(q:Int)+1+k,e):=by
 rw [qcC h hb,hr,if_neg he]
theorem qjd {l:List UInt8} {q k:Nat} {ps:List Int} (h:q<l.length) (hb:byt l q=34) (hr:aC (l.drop (q+1))=(ps,k,0)):bj l q=(bE ps,(q:Int)+1+k+1,0):=by
 rw [qcC h hb,hr,if_pos rfl]
theorem qjG {l:List UInt8} (h0:l.length≠0) (hq:byt l 0≠34) (he:(aO l).2.2=0):1≤(aO l).2.1:=by
 by_cases hu:ci (aO l).1=true
 ·rw [(cA h0 (.inl hu)).2.2];simp
 ·by_cases hl:bI (aO l).1=true
  ·rw [(cA h0 (.inr hl)).2.2];simp
  ·have e:=qdJ h0 hq he (by simpa using hu) (by simpa using hl);have hn:=qaN l;have h2:=he;rw [←e] at he ⊢;rcases hn with h | h
   ·exfalso;have h3:=qgF l h.1;rw [he] at h3;rcases h3 with h3 | h3 | h3
    ·simp at h3
    ·simp at h3
    ·exact hq h3.2.2
   ·exact h.2.1
theorem qig {l:List UInt8} {p:Int} {m:Nat} (h:ao l=(p,(m:Int))) (hm:m≠0):l.take m=enc p:=by
 rcases cE l with h1 | ⟨_,h2,h3⟩
 ·rw [h] at h1;have:=congrArg Prod.snd h1;simp at this;omega
 ·rw [h] at h2 h3;simp only at h2 h3;have e:m=(enc p).length:=by omega
  conv=>lhs;rw [←h3]
  rw [e,List.take_left'];rfl
theorem qjs {l:List UInt8} {p:Int} {m:Nat} (h0:l.length≠0) (h2:byt l 0≠92) (h:aO l=(p,(m:Int),0)):ao l=(p,(m:Int)):=by
 by_cases h1:byt l 0<32
 ·rw [qar h0 h1] at h;have:=congrArg (fun x=>x.2.2) h;simp at this
 ·by_cases h3:(ao l).2=0
  ·rw [qaG h3] at h;have:=congrArg (fun x=>x.2.2) h;simp at this
  ·rw [qby h0 h3 h1 h2] at h;have a:=congrArg Prod.fst h;have b:=congrArg (fun x=>x.2.1) h;simp only at a b;rw [Prod.ext_iff];exact ⟨a,b⟩
theorem qiU {l:List UInt8} {u:Int} (h:aO l=(u,6,0)):l.length≠0:=by
 have:=qgl l;rw [h] at this;simp only at this;omega
theorem qcf {l:List UInt8} {j:Nat} {u:Int} (hup:ci u=true) (h:aO (l.drop j)=(u,6,0)) (hn:bI (ah (l.drop (j+6)))=false):aq (l.drop j)=(0,0,20):=by
 rw [qfr (qiU h) (by rw [h];exact hup),List.drop_drop,if_neg (by rw [hn];simp)]
theorem qmq {l:List UInt8} {j:Nat} {u:Int} (hup:ci u=true) (h:aO (l.drop j)=(u,6,0)) (hn:bI (ah (l.drop (j+6)))=true):aq (l.drop j)=(cK u (ah (l.drop (j+6))),12,0):=by
 rw [qfr (qiU h) (by rw [h];exact hup),List.drop_drop,if_pos hn,h]
theorem qdy {l:List UInt8} {p n e:Int} (h0:l.length≠0) (h:aO l=(p,n,e)) (hn:e≠0∨bI p=false):bI (ah l)=false:=by
 cases hc:bI (ah l) with
 | false=>rfl
 | true=>
  have:=(qec h0 hc).2;rw [h] at this;have a:=congrArg Prod.fst this;have b:=congrArg (fun x=>x.2.2) this;simp only at a b;rcases hn with hn | hn
  ·exact absurd b hn
  ·rw [a,hc] at hn;simp at hn
theorem qfX {l:List UInt8} {p n:Int} (h0:l.length≠0) (h:aO l=(p,n,0)) (hn:bI p=true):ah l=p∧n=6:=by
 have:=(cA h0 (by rw [h];exact .inr hn)).2.2;rw [h] at this;exact ⟨(congrArg Prod.fst this).symm,congrArg (fun x=>x.2.1) this⟩
theorem qg7 {l:List UInt8} {p n:Int} (h0:l.length≠0) (h:aO l=(p,n,0)) (hn:ci p=true):n=6:=by
 have:=(cA h0 (by rw [h];exact .inl hn)).2.2;rw [h] at this;exact congrArg (fun x=>x.2.1) this
theorem qb6 (l:List UInt8):Lib.strCells (ae l)=Lib.byteCells l:=rfl
theorem qbQ (s:ByteArray) (a m:Nat) (p:Int) (h:ao (s.data.toList.drop a)=(p,(m:Int))) (hm:m≠0):Lib.strCells (s.extract a (a+m))=Lib.byteCells (enc p):=by
 have e:=qig h hm;unfold Lib.strCells Lib.byteCells;rw [←e]
 congr 1
 simp [ByteArray.data_extract]
def toB (l:List Int):List UInt8:=l.map fun x=>UInt8.ofNat x.toNat
theorem qdU (l:List Int):(toB l).length=l.length:=by simp [toB]
theorem qa6 (l:List Int) (h:∀ x∈l,0≤x∧x<256):Lib.byteCells (toB l)=l.map (Value.int .u8):=by
 simp only [Lib.byteCells,toB,List.map_map];apply List.map_congr_left;intro x hx;obtain ⟨h0,h1⟩:=h x hx;simp [Function.comp];omega
def qbC (d:Int):Int:=if d<10 then 48+d else 87+d
theorem qci {d:Int} (h0:0≤d) (h1:d≤15):48≤qbC d∧qbC d≤102:=by unfold qbC;split <;> omega
def bh (p:Int):Bool:=decide (p<32∨p=34∨p=92)
def qfc (p:Int):List Int:=
 if p=34∨p=92 then [92,p] else if p=8 then [92,98] else if p=9 then [92,116] else if p=10 then [92,110] else if p=12 then [92,102] else if p=13 then [92,114]
 else [92,117,48,48,qbC (p / 16),qbC (p % 16)]
def qh9 (p:Int):List Int:=if bh p=true then qfc p else cn p
def qbZ (c:Int):List Int:=if bh c=true then qfc c else [c]
def qpt (p:Int):List UInt8:=toB (qh9 p)
def qb (c:UInt8):List UInt8:=toB (qbZ c.toNat)
def qL (ps:List Int):List UInt8:=(ps.map qpt).flatten
def qbL (l:List UInt8):List UInt8:=(l.map qb).flatten
theorem qgQ (p:Int) (ps:List Int):qL (p::ps)=qpt p++qL ps:=by simp [qL]
theorem qaa (a b:List UInt8):qbL (a++b)=qbL a++qbL b:=by simp [qbL]
theorem qhh {p:Int} (h0:0≤p) (h1:bh p=true):∀ x∈qfc p,0≤x∧x<256:=by
 simp [bh] at h1;have a:=qci (d:=p / 16);have b:=qci (d:=p % 16);intro x hx;unfold qfc at hx;by_cases c1:p=34∨p=92
 ·rw [if_pos c1] at hx;simp at hx;omega
 ·rw [if_neg c1] at hx;have a:=qci (d:=p / 16) (by omega) (by omega);have b:=qci (d:=p % 16) (by omega) (by omega)
  (repeat' split at hx) <;> (simp at hx;omega)
theorem qew (p:Int):2≤(qfc p).length∧(qfc p).length≤6:=by unfold qfc;(repeat' split) <;> simp
theorem qe7 (c:Int) (h0:0≤c) (h1:c≤255):∀ x∈qbZ c,0≤x∧x<256:=by
 unfold qbZ;by_cases h:bh c=true
 ·rw [if_pos h];exact qhh h0 h
 ·rw [if_neg h];intro x hx;simp at hx;omega
theorem qmp (c:UInt8):(qb c).length≤6:=by
 unfold qb qbZ;rw [qdU];split
 ·exact (qew _).2
 ·simp
theorem qlv (p:Int):(qpt p).length≤6:=by
 unfold qpt qh9;rw [qdU];split
 ·exact (qew _).2
 ·have:=qgS p;omega
theorem qf0 (l:List UInt8):(qbL l).length≤6*l.length:=by
 induction l with
 | nil=>simp [qbL]
 | cons a l ih=>
  have:=qmp a;simp [qbL] at ih ⊢;omega
theorem qeP (p:Int):toB (cn p)=enc p:=rfl
theorem qhs {p:Int} (h:aH p=true) (h1:128≤p):∀ x∈cn p,128≤x∧x<256:=by
 have a:=qai h;intro x hx;by_cases c1:p<2048
 ·rw [qeD h h1 c1] at hx;simp at hx;omega
 ·by_cases c2:p<65536
  ·rw [qdX h (by omega) c2] at hx;simp at hx;omega
  ·rw [qd1 h (by omega)] at hx;simp at hx;omega
theorem qhG (xs:List Int) (h:∀ x∈xs,128≤x∧x<256):qbL (toB xs)=toB xs:=by
 induction xs with
 | nil=>rfl
 | cons x xs ih=>
  have hx:=h x (by simp);have e:qb (UInt8.ofNat x.toNat)=[UInt8.ofNat x.toNat]:=by
   have:((UInt8.ofNat x.toNat).toNat:Int)=x:=by simp;omega
   unfold qb qbZ;rw [this,if_neg (by simp [bh];omega)];rfl
  have:=ih fun y hy=>h y (by simp [hy]);simp [qbL,toB] at this ⊢;rw [e,this];rfl
theorem qjX {p:Int} (h:aH p=true):qbL (enc p)=qpt p:=by
 have a:=qaT h;by_cases h1:p<128
 ·have e:enc p=[UInt8.ofNat p.toNat]:=by unfold enc;rw [qba h h1];rfl
  have e2:((UInt8.ofNat p.toNat).toNat:Int)=p:=by simp;omega
  rw [e];simp only [qbL,List.map_cons,List.map_nil,List.flatten_cons,List.flatten_nil,List.append_nil];unfold qb qbZ qpt qh9;rw [e2,qba h h1]
 ·have e:=qhG (cn p) (qhs h (by omega));rw [qeP] at e;rw [e];unfold qpt qh9;rw [if_neg (by simp [bh];omega)];rfl
theorem qh3 (ps:List Int) (h:∀ p∈ps,aH p=true):qbL (bE ps)=qL ps:=by
 induction ps with
 | nil=>rfl
 | cons p ps ih=>rw [qb1,qaa,qgQ,qjX (h p (by simp)),ih fun q hq=>h q (by simp [hq])]
theorem qey (l:List UInt8) (h:(aq l).2.1≠0):((qpt (aq l).1).length:Int)≤(aq l).2.1:=by
 have six:=qlv (aq l).1;unfold aq at h six ⊢;by_cases h0:l.length=0
 ·rw [if_pos h0] at h;simp at h
 ·rw [if_neg h0] at h six ⊢;by_cases h1:byt l 0=34
  ·rw [if_pos h1] at h;simp at h
  ·rw [if_neg h1] at h six ⊢;by_cases h2:byt l 0<32
   ·rw [if_pos h2] at h;simp at h
   ·rw [if_neg h2] at h six ⊢;by_cases h3:byt l 0=92
    ·rw [if_pos h3] at h six ⊢;by_cases h4:(b9 l).2=0
     ·rw [if_pos h4] at h;simp at h
     ·rw [if_neg h4] at six ⊢;simp only at six ⊢;clear h;unfold b9 at h4 six ⊢;by_cases h5:2≤l.length∧0≤bz (byt l 1)
      ·rw [if_pos h5];simp only;rcases (qfp _ h5.2).1 with e | e | e | e | e | e | e | e <;> (rw [e];decide)
      ·rw [if_neg h5] at h4 six ⊢;by_cases h6:ah l<0
       ·rw [if_pos h6] at h4;simp at h4
       ·rw [if_neg h6] at h4 six ⊢;by_cases h7:aH (ah l)=true
        ·rw [if_pos h7] at six ⊢;simp only at six ⊢;omega
        ·rw [if_neg h7] at h4 six ⊢;by_cases h8:ci (ah l)=true∧bI (ah (l.drop 6))=true
         ·rw [if_pos h8] at six ⊢;simp only at six ⊢;omega
         ·rw [if_neg h8] at h4;simp at h4
    ·rw [if_neg h3] at h six ⊢;by_cases h4:(ao l).2=0
     ·rw [if_pos h4] at h;simp at h
     ·rw [if_neg h4];simp only;have hp:bh (ao l).1=false:=by
       by_cases h5:byt l 0<128
       ·rw [qab h0 h5];simp [bh];omega
       ·have:=qcN (by omega) h4;simp [bh];omega
      unfold qpt qh9;rw [if_neg (by rw [hp];simp),qeP];rcases cE l with h5 | ⟨_,h6,_⟩
      ·rw [h5] at h4;simp at h4
      ·omega
theorem qfw (l:List UInt8):(qL (aC l).1).length≤(aC l).2.1:=by
 induction l using qes with
 | h l ih=>
  by_cases h:(aq l).2.1=0
  ·rw [qbb h];simp [qL]
  ·rcases qaN l with h1 | ⟨h3,h1,h4,h2,h5,_⟩
   ·exact absurd h1.1 h
   ·have hi:=ih (aq l).2.1.toNat (by omega) (by omega);have hs:=qey l h;rw [qcE h];simp only;rw [qgQ,List.length_append];omega
theorem qax (l:List UInt8) (a:Int) (t:List UInt8) (n:Int) (h:bj l a=(t,n,0)) :
  (bU t).2=t.length∧((qbL t).length:Int)+a+2≤n∧a<n∧1≤n∧n≤l.length∧byt l (n.toNat-1)=34∧∃ q:Nat,a=q∧q<l.length∧byt l q=34:=by
 unfold bj at h;by_cases h1:a<0∨(l.length:Int)≤a∨byt l a.toNat≠34
 ·rw [if_pos h1] at h;have:=congrArg (fun x=>x.2.2) h;simp at this
 ·rw [if_neg h1] at h;obtain ⟨q,rfl⟩:=Int.eq_ofNat_of_zero_le (show 0≤a by omega);rw [Int.toNat_natCast] at h h1;obtain ⟨f1,f2,f3,f4⟩:=qaF (l.drop (q+1));have f5:=qfw (l.drop (q+1));by_cases h2:(aC (l.drop (q+1))).2.2=0
  ·rw [if_pos h2] at h;rcases f4 with f4 | f4 | ⟨_,f6,f7⟩
   ·omega
   ·omega
   ·have ht:bE (aC (l.drop (q+1))).1=t:=congrArg Prod.fst h;have hn:(q:Int)+1+(aC (l.drop (q+1))).2.1+1=n:=congrArg (fun x=>x.2.1) h;rw [List.length_drop] at f6;rw [bm] at f7;have e:bU (bE (aC (l.drop (q+1))).1++[])=_:=qhc _ f3 [];rw [List.append_nil] at e;refine ⟨?_,?_,by omega,by omega,by omega,?_,q,rfl,by omega,?_⟩
    ·rw [←ht,e];simp [bU,qcn]
    ·rw [←ht,qh3 _ f3];omega
    ·have:n.toNat-1=q+1+(aC (l.drop (q+1))).2.1:=by omega
     rw [this];exact f7
    ·by_cases h3:byt l q=34
     ·exact h3
     ·exact absurd (.inr (.inr h3)) h1
  ·rw [if_neg h2] at h;exact absurd (congrArg (fun x=>x.2.2) h) h2
end Ch
namespace Sc
open Go.RowKit Utf Nu
open Ch (bj qcC qaR aC qaF qax qbL)
abbrev Tok:=Int×Int×List UInt8×Int
def isW (c:Int):Bool:=decide (c=32∨c=9∨c=10∨c=13)
def qhH (c:Int):Bool:=decide (c=123∨c=125∨c=91∨c=93∨c=58∨c=44)
def qiH (c:Int):Bool:=decide (c=45∨(48≤c∧c≤57))
def qcW (c:Int):Bool:=decide ((97≤c∧c≤122)∨(65≤c∧c≤90)∨(48≤c∧c≤57)∨c=95)
theorem qgL (c:Int):isW c=true↔(c=32∨c=9∨c=10∨c=13):=by simp [isW]
theorem qfi (c:Int):qhH c=true↔(c=123∨c=125∨c=91∨c=93∨c=58∨c=44):=by simp [qhH]
theorem qe0 (c:Int):qiH c=true↔(c=45∨(48≤c∧c≤57)):=by simp [qiH]
theorem qcz (c:Int):qcW c=true↔((97≤c∧c≤122)∨(65≤c∧c≤90)∨(48≤c∧c≤57)∨c=95):=by simp [qcW]
theorem qkz {b:Bool} {p:Prop} (h:b=true↔p) (hn:¬p):b=false:=by cases b with
 | false=>rfl
 | true=>exact absurd (h.1 rfl) hn
def bS:List UInt8:=[116,114,117,101]
def qad:List UInt8:=[102,97,108,115,101]
def ce:List UInt8:=[110,117,108,108]
def qdV (l:List UInt8) (k:Nat) (w:List UInt8):Prop:=(l.drop k).take w.length=w∧qcW (byt l (k+w.length))=false
instance (l:List UInt8) (k:Nat) (w:List UInt8):Decidable (qdV l k w):=by unfold qdV;infer_instance
def wrd (l:List UInt8) (k:Nat) (w:List UInt8):Option Tok×Int×Int:=
 if qdV l k w then (some (2,0,w,(k:Int)),((k+w.length:Nat):Int),0) else (none,(k:Int),40)
def txT (l:List UInt8) (k:Nat):Option Tok×Int×Int:=
 if (bj l k).2.2=0 then (some (4,0,(bj l k).1,(k:Int)),(bj l k).2.1,0) else (none,(bj l k).2.1,(bj l k).2.2)
def nmT (l:List UInt8) (k:Nat):Option Tok×Int×Int:=
 if (rdS l k).2.2=0 then (some (3,(rdS l k).1,[],(k:Int)),(rdS l k).2.1,0) else (none,(rdS l k).2.1,(rdS l k).2.2)
def stp (l:List UInt8) (k:Nat):Option Tok×Int×Int:=
 if isW (byt l k)=true then (none,((k+1:Nat):Int),0)
 else if qhH (byt l k)=true then (some (1,0,[l.getD k 0],(k:Int)),((k+1:Nat):Int),0)
 else if byt l k=34 then txT l k
 else if qiH (byt l k)=true then nmT l k
 else if byt l k=116 then wrd l k bS
 else if byt l k=102 then wrd l k qad
 else if byt l k=110 then wrd l k ce
 else (none,(k:Int),40)
def dd (ts:List Tok) (r:List Tok×Int×Int):List Tok×Int×Int:=if r.2.2=0 then (ts++r.1,r.2.1,0) else r
theorem qhO (r:List Tok×Int×Int):dd [] r=r:=by
 unfold dd;split
 ·rename_i h;rw [Prod.ext_iff,Prod.ext_iff];exact ⟨rfl,rfl,h.symm⟩
 ·rfl
theorem qhl (a b:List Tok) (r:List Tok×Int×Int):dd (a++b) r=dd a (dd b r):=by
 unfold dd;by_cases h:r.2.2=0
 ·rw [if_pos h,if_pos h,if_pos rfl,List.append_assoc]
 ·rw [if_neg h,if_neg h,if_neg h]
def qbU (l:List UInt8):Nat→Nat→List Tok×Int×Int
 | 0,_=>([],0,0)
 | f+1,k=>if k<l.length then (if (stp l k).2.2=0 then dd (stp l k).1.toList (qbU l f (stp l k).2.1.toNat) else ([],(stp l k).2.1,(stp l k).2.2)) else ([],0,0)
def scn (l:List UInt8) (k:Nat):List Tok×Int×Int:=qbU l (l.length-k) k
def cI (l:List UInt8):List Tok×Int×Int:=if 65536<l.length then ([],0,2) else scn l 0
theorem qeR {l:List UInt8} {k:Nat} (h:(bj l k).2.2=0):∃ m:Nat,(bj l k).2.1=m∧k<m∧m≤l.length:=by
 rcases hr:bj l k with ⟨t,n,e⟩;rw [hr] at h;simp only at h;subst h;obtain ⟨_,_,h3,h4,h5,_⟩:=qax l k t n hr;exact ⟨n.toNat,by show n=_;omega,by omega,by omega⟩
theorem qgZ {l:List UInt8} {k:Nat} (hk:k<l.length) (h:(rdS l k).2.2=0):∃ m:Nat,(rdS l k).2.1=m∧k<m∧m≤l.length:=by
 have e:rdS l k=rdN l k:=by rw [rdS,if_neg (by omega),Int.toNat_natCast]
 rw [e] at h ⊢;unfold rdN at h ⊢;split
 ·rename_i hb;rw [if_pos hb] at h;simp at h
 ·rename_i hb
  have h1:=qjC l k hk;have h2:=qgz l (aZ l k) h1.2;have h3:bR l (aZ l k)≠0:=fun h=>hb (.inl h);exact ⟨_,rfl,by omega,h2⟩
theorem qaM {l:List UInt8} {k:Nat} {w:List UInt8} (hw:w≠[]) (h:(wrd l k w).2.2=0):∃ m:Nat,(wrd l k w).2.1=m∧k<m∧m≤l.length:=by
 unfold wrd at h ⊢;split
 ·rename_i hh
  have h1:=congrArg List.length hh.1;have h2:w.length≠0:=fun h=>hw (List.eq_nil_of_length_eq_zero h);rw [List.length_take,List.length_drop] at h1;exact ⟨_,rfl,by omega,by omega⟩
 ·rename_i hh;rw [if_neg hh] at h;simp at h
theorem qbH {l:List UInt8} {k:Nat} (hk:k<l.length) (h:(stp l k).2.2=0):∃ m:Nat,(stp l k).2.1=m∧k<m∧m≤l.length:=by
 unfold stp at h ⊢;split
 ·exact ⟨k+1,rfl,by omega,by omega⟩
 ·rename_i c1;rw [if_neg c1] at h
  split
  ·exact ⟨k+1,rfl,by omega,by omega⟩
  ·rename_i c2;rw [if_neg c2] at h
   split
   ·rename_i c3;rw [if_pos c3] at h
    unfold txT at h ⊢;by_cases c:(bj l k).2.2=0
    ·rw [if_pos c];exact qeR c
    ·rw [if_neg c] at h;exact absurd h c
   ·rename_i c3;rw [if_neg c3] at h
    split
    ·rename_i c4;rw [if_pos c4] at h
     unfold nmT at h ⊢;by_cases c:(rdS l k).2.2=0
     ·rw [if_pos c];exact qgZ hk c
     ·rw [if_neg c] at h;exact absurd h c
    ·rename_i c4;rw [if_neg c4] at h
     split
     ·rename_i c5;rw [if_pos c5] at h;exact qaM (by decide) h
     ·rename_i c5;rw [if_neg c5] at h
      split
      ·rename_i c6;rw [if_pos c6] at h;exact qaM (by decide) h
      ·rename_i c6;rw [if_neg c6] at h
       split
       ·rename_i c7;rw [if_pos c7] at h;exact qaM (by decide) h
       ·rename_i c7;rw [if_neg c7] at h;simp at h
theorem qhe (l:List UInt8):∀ f g k,l.length-k≤f→l.length-k≤g→qbU l f k=qbU l g k:=by
 intro f;induction f with
 | zero=>
  intro g k h1 h2;cases g with
  | zero=>rfl
  | succ g=>rw [qbU,qbU,if_neg (by omega)]
 | succ f ih=>
  intro g k h1 h2;cases g with
  | zero=>rw [qbU,qbU,if_neg (by omega)]
  | succ g=>
   rw [qbU,qbU];by_cases hk:k<l.length
   ·rw [if_pos hk,if_pos hk];by_cases he:(stp l k).2.2=0
    ·obtain ⟨m,h3,h4,h5⟩:=qbH hk he;rw [if_pos he,if_pos he,h3,Int.toNat_natCast,ih g m (by omega) (by omega)]
    ·rw [if_neg he,if_neg he]
   ·rw [if_neg hk,if_neg hk]
theorem qed {l:List UInt8} {k:Nat} (h:l.length≤k):scn l k=([],0,0):=by
 rw [scn,show l.length-k=0 by omega,qbU]
theorem qgq {l:List UInt8} {k:Nat} (hk:k<l.length) (h:(stp l k).2.2≠0):scn l k=([],(stp l k).2.1,(stp l k).2.2):=by
 rw [scn,show l.length-k=(l.length-k-1)+1 by omega,qbU,if_pos hk,if_neg h]
theorem qjL {l:List UInt8} {k m:Nat} {o:Option Tok} (hk:k<l.length) (h:stp l k=(o,(m:Int),0)):scn l k=dd o.toList (scn l m):=by
 rw [scn,show l.length-k=(l.length-k-1)+1 by omega,qbU,if_pos hk,if_pos (by rw [h]),h];have:=qbH hk (by rw [h]);rw [h] at this;obtain ⟨m',e,h4,h5⟩:=this;simp only at e;rw [scn];simp only [Int.toNat_natCast];rw [qhe l (l.length-k-1) (l.length-m) m (by omega) (by omega)]
inductive cJ (l:List UInt8):Nat→List Tok→Nat→Prop
 | nil (k:Nat):cJ l k [] k
 | cons {k m n:Nat} {o:Option Tok} {ts:List Tok}:k<l.length→stp l k=(o,(m:Int),0)→cJ l m ts n→cJ l k (o.toList++ts) n
theorem cJ.trans {l:List UInt8} {k m n:Nat} {ts us:List Tok} (h1:cJ l k ts m) (h2:cJ l m us n):cJ l k (ts++us) n:=by
 induction h1 with
 | nil k=>exact h2
 | cons hk hs _ ih=>rw [List.append_assoc];exact .cons hk hs (ih h2)
theorem cJ.one {l:List UInt8} {k m:Nat} {o:Option Tok} (hk:k<l.length) (h:stp l k=(o,(m:Int),0)):cJ l k o.toList m:=by
 have:=cJ.cons hk h (.nil m);rwa [List.append_nil] at this
theorem cJ.snoc {l:List UInt8} {k m n:Nat} {o:Option Tok} {ts:List Tok} (h1:cJ l k ts m) (hm:m<l.length) (h:stp l m=(o,(n:Int),0)):cJ l k (ts++o.toList) n:=h1.trans (.one hm h)
theorem cJ.scn {l:List UInt8} {k m:Nat} {ts:List Tok} (h:cJ l k ts m):scn l k=dd ts (scn l m):=by
 induction h with
 | nil k=>rw [qhO]
 | cons hk hs _ ih=>rw [qjL hk hs,ih,←qhl]
theorem cJ.le {l:List UInt8} {k m:Nat} {ts:List Tok} (h:cJ l k ts m):k≤m∧ts.length≤m-k∧(k≤l.length→m≤l.length):=by
 induction h with
 | nil k=>simp
 | cons hk hs _ ih=>
  rename_i k m n o ts _
  have:=qbH hk (by rw [hs]);rw [hs] at this;obtain ⟨m',e,h4,h5⟩:=this;simp only at e;have:o.toList.length≤1:=by cases o <;> simp
  rw [List.length_append];omega
theorem qiu (l:List UInt8):∀ f k,l.length-k≤f→k≤l.length→(scn l k).2.2=0→cJ l k (scn l k).1 l.length∧(scn l k).2.1=0:=by
 intro f;induction f with
 | zero=>
  intro k h1 h2 _;obtain rfl:k=l.length:=by omega
  rw [qed (Nat.le_refl _)];exact ⟨.nil _,rfl⟩
 | succ f ih=>
  intro k h1 h2 h3;by_cases hk:k<l.length
  ·by_cases he:(stp l k).2.2=0
   ·obtain ⟨m,h4,h5,h6⟩:=qbH hk he;have hs:stp l k=((stp l k).1,(m:Int),0):=by rw [Prod.ext_iff,Prod.ext_iff];exact ⟨rfl,h4,he⟩
    rw [qjL hk hs] at h3 ⊢;have he2:(scn l m).2.2=0:=by
     unfold dd at h3;by_cases h:(scn l m).2.2=0
     ·exact h
     ·rw [if_neg h] at h3;exact h3
    obtain ⟨h7,h8⟩:=ih m (by omega) h6 he2;rw [dd,if_pos he2];exact ⟨.cons hk hs h7,h8⟩
   ·rw [qgq hk he] at h3;exact absurd h3 he
  ·obtain rfl:k=l.length:=by omega
   rw [qed (Nat.le_refl _)];exact ⟨.nil _,rfl⟩
theorem qhx {l:List UInt8} (h:(cI l).2.2=0):l.length≤65536∧cI l=scn l 0∧cJ l 0 (cI l).1 l.length∧(cI l).2.1=0:=by
 unfold cI at h ⊢;by_cases hl:65536<l.length
 ·rw [if_pos hl] at h;simp at h
 ·rw [if_neg hl] at h ⊢;exact ⟨by omega,rfl,qiu l _ 0 (Nat.le_refl _) (by omega) h⟩
def qa5 (k:Nat):List UInt8:=if k=0 then bS else if k=1 then qad else ce
def wdF (l:List UInt8) (p:Nat):Nat→Nat→Nat
 | 0,_=>0
 | f+1,k=>if qdV l p (qa5 k) then (qa5 k).length else wdF l p f (k+1)
def wdN (l:List UInt8) (p:Nat):Nat:=wdF l p 3 0
theorem qfb (k:Nat):4≤(qa5 k).length∧(qa5 k).length≤5:=by 
 unfold qa5;split
 ·decide
 ·split <;> decide
theorem qgy (k:Nat):byt (qa5 k) 0=if k=0 then 116 else if k=1 then 102 else 110:=by 
 unfold qa5;split
 ·rfl
 ·split <;> rfl
theorem qkc {l:List UInt8} {p:Nat} {y:List UInt8} (h:qdV l p y) (hy:0<y.length):byt y 0=byt l p:=by
 obtain ⟨h,_⟩:=h;have h2:(l.drop p)[0]? = y[0]?:=by rw [←h,List.getElem?_take,if_pos hy]
 unfold byt;rw [List.getD_eq_getElem?_getD,List.getD_eq_getElem?_getD,←h2,List.getElem?_drop,Nat.add_zero]
theorem qnr {l:List UInt8} {p k:Nat} (hk:k<3) (h:byt l p=byt (qa5 k) 0):wdN l p=if qdV l p (qa5 k) then (qa5 k).length else 0:=by
 have no:∀ j,j<3→j≠k→¬qdV l p (qa5 j):=by
  intro j hj hjk hh;have h1:=qkc hh (by have:=(qfb j).1;omega);rw [h,qgy,qgy] at h1;rcases (show k=0∨k=1∨k=2 by omega) with rfl | rfl | rfl <;> rcases (show j=0∨j=1∨j=2 by omega) with rfl | rfl | rfl <;> simp at h1 hjk
 unfold wdN;rw [wdF,wdF,wdF,wdF];rcases (show k=0∨k=1∨k=2 by omega) with rfl | rfl | rfl
 ·rw [if_neg (no 1 (by omega) (by omega)),if_neg (no 2 (by omega) (by omega))]
 ·rw [if_neg (no 0 (by omega) (by omega)),if_neg (no 2 (by omega) (by omega))]
 ·rw [if_neg (no 0 (by omega) (by omega)),if_neg (no 1 (by omega) (by omega))]
theorem ql1 (c:UInt8):1≤(Ch.qb c).length:=by
 unfold Ch.qb;rw [Ch.qdU];unfold Ch.qbZ;split
 ·have:=(Ch.qew (c.toNat:Int)).1;omega
 ·simp
theorem qkV (l:List UInt8):l.length≤(qbL l).length:=by
 induction l with
 | nil=>simp
 | cons c r ih=>
  have h:=ql1 c;rw [show c::r=[c]++r from rfl,Ch.qaa,List.length_append,List.length_append];have:(qbL [c]).length=(Ch.qb c).length:=by simp [qbL]
  simp only [List.length_singleton];omega
def okT (t:Tok):Prop:=
 (t.1=1∧t.2.1=0∧∃ c:UInt8,t.2.2.1=[c]∧qhH (c.toNat:Int)=true)∨(t.1=2∧t.2.1=0∧∃ i,i<3∧t.2.2.1=qa5 i)∨
 (t.1=3∧t.2.1.natAbs≤qdi∧t.2.2.1=[])∨(t.1=4∧t.2.1=0∧(bU t.2.2.1).2=t.2.2.1.length)
def wr (t:Tok):List UInt8:=if t.1=3 then qa3 t.2.1 else if t.1=4 then 34::(qbL t.2.2.1++[34]) else t.2.2.1
theorem qjU {l:List UInt8} {k:Nat} {m:Int} {t:Tok} (h:stp l k=(some t,m,0)):okT t∧t.2.2.1.length≤l.length+1:=by
 have key:∀ i,i<3→wrd l k (qa5 i)=(some t,m,0)→okT t∧t.2.2.1.length≤l.length+1:=by
  intro i hi hw;have hle:=qaM (w:=qa5 i) (l:=l) (k:=k) (fun e=>by have:=(qfb i).1;rw [e] at this;simp at this) (by rw [hw]);unfold wrd at hw;split at hw
  ·rename_i hh
   have e:(2,0,qa5 i,(k:Int))=t:=Option.some.inj (congrArg Prod.fst hw);subst e;refine ⟨.inr (.inl ⟨rfl,rfl,i,hi,rfl⟩),?_⟩;have h1:=congrArg List.length hh.1;rw [List.length_take,List.length_drop] at h1;show (qa5 i).length≤l.length+1;omega
  ·exact absurd (congrArg (fun x=>x.2.2) hw) (by simp)
 unfold stp at h;by_cases c1:isW (byt l k)=true
 ·rw [if_pos c1] at h;exact absurd (congrArg Prod.fst h) (by simp)
 rw [if_neg c1] at h;by_cases c2:qhH (byt l k)=true
 ·rw [if_pos c2] at h;have e:(1,0,[l.getD k 0],(k:Int))=t:=Option.some.inj (congrArg Prod.fst h);subst e;exact ⟨.inl ⟨rfl,rfl,_,rfl,c2⟩,by simp⟩
 rw [if_neg c2] at h;by_cases c3:byt l k=34
 ·rw [if_pos c3] at h;unfold txT at h;split at h
  ·rename_i he
   have e:=Option.some.inj (congrArg Prod.fst h);subst e;rcases hr:bj l k with ⟨tx,n,e⟩;rw [hr] at he;simp only at he;subst he;obtain ⟨f1,f2,f3,f4,f5,_⟩:=qax l k tx n hr;refine ⟨.inr (.inr (.inr ⟨rfl,rfl,f1⟩)),?_⟩;have hq:=qkV tx;show tx.length≤l.length+1;omega
  ·rename_i he;exact absurd (congrArg (fun x=>x.2.2) h) he
 rw [if_neg c3] at h;by_cases c4:qiH (byt l k)=true
 ·rw [if_pos c4] at h;unfold nmT at h;split at h
  ·have e:=Option.some.inj (congrArg Prod.fst h);subst e;have hb:=qfV l k;refine ⟨.inr (.inr (.inl ⟨rfl,?_,rfl⟩)),by simp⟩;show (rdS l k).1.natAbs≤qdi;omega
  ·rename_i he;exact absurd (congrArg (fun x=>x.2.2) h) he
 rw [if_neg c4] at h;by_cases c5:byt l k=116
 ·rw [if_pos c5] at h;exact key 0 (by omega) h
 rw [if_neg c5] at h;by_cases c6:byt l k=102
 ·rw [if_pos c6] at h;exact key 1 (by omega) h
 rw [if_neg c6] at h;by_cases c7:byt l k=110
 ·rw [if_pos c7] at h;exact key 2 (by omega) h
 rw [if_neg c7] at h;exact absurd (congrArg Prod.fst h) (by simp)
theorem cJ.okT {l:List UInt8} {k n:Nat} {ts:List Tok} (h:cJ l k ts n):∀ t∈ts,okT t∧t.2.2.1.length≤l.length+1:=by
 induction h with
 | nil k=>simp
 | cons hk hs _ ih=>
  rename_i o ts _
  intro t ht;rw [List.mem_append] at ht;rcases ht with ht | ht
  ·cases o with
   | none=>simp at ht
   | some u=>
    simp at ht;subst ht;exact qjU hs
  ·exact ih t ht
end Sc
namespace Re
open Utf Sc
inductive V:Type
 | mk (k n:Int) (s:List UInt8) (l:List V) (ns:List (List UInt8)) (ms:List V):V
def V.k:V→Int | .mk k _ _ _ _ _=>k
def V.n:V→Int | .mk _ n _ _ _ _=>n
def V.s:V→List UInt8 | .mk _ _ s _ _ _=>s
def V.l:V→List V | .mk _ _ _ l _ _=>l
def V.ns:V→List (List UInt8) | .mk _ _ _ _ ns _=>ns
def V.ms:V→List V | .mk _ _ _ _ _ ms=>ms
theorem V.eta (v:V):V.mk v.k v.n v.s v.l v.ns v.ms=v:=by cases v;rfl
def V0:V:= .mk 0 0 [] [] [] []
def txV (s:List UInt8):V:= .mk 4 0 s [] [] []
def nmV (n:Int):V:= .mk 3 n [] [] [] []
def wdV (s:List UInt8):V:=if s=ce then .mk 1 0 [] [] [] [] else if s=bS then .mk 2 1 [] [] [] [] else .mk 2 0 [] [] [] []
def lsV (l:List V):V:= .mk 5 0 [] l [] []
def mpV (x:List (List UInt8)×List V):V:= .mk 6 0 [] [] x.1 x.2
mutual
/-- how high a value is -/
def ht:V→Nat
 | .mk _ _ _ l _ ms=>max (htL l) (htL ms)+1
def htL:List V→Nat
 | []=>0
 | v::r=>max (ht v) (htL r)
end
theorem bt {v:V} {l:List V} (h:v∈l):ht v≤htL l:=by
 induction l with
 | nil=>cases h
 | cons a r ih=>
  rw [htL];rcases List.mem_cons.1 h with rfl | h
  ·omega
  ·have:=ih h;omega
inductive Rs (α : Type):Type
 | bad (a y:Int):Rs α
 | ok (v : α) (i p:Nat):Rs α
def Rs.map {α β : Type} (f : α → β):Rs α →Rs β
 | .bad a y=> .bad a y
 | .ok v i p=> .ok (f v) i p
def tk (ts:List Tok) (E:Int) (i:Nat):Tok:=ts.getD i (0,0,[],E)
def isM (t:Tok) (c:UInt8):Bool:=decide (t.1=1∧t.2.2.1=[c])
def qbY (t:Tok):Bool:=decide (t.1=0∨(t.1=1∧t.2.2.1≠[91]∧t.2.2.1≠[123]))
mutual
/-- the value that begins with a token -/
def pV (ts:List Tok) (E:Int):Nat→Nat→Nat→Nat→Rs V
 | 0,_,i,_=> .bad (tk ts E i).2.2.2 50
 | f+1,d,i,p=>
  if qbY (tk ts E i)=true then .bad (tk ts E i).2.2.2 50
  else if 16<d then .bad (tk ts E i).2.2.2 51
  else if p=8192 then .bad (tk ts E i).2.2.2 53
  else if (tk ts E i).1=4 then .ok (txV (tk ts E i).2.2.1) (i+1) (p+1)
  else if (tk ts E i).1=3 then .ok (nmV (tk ts E i).2.1) (i+1) (p+1)
  else if (tk ts E i).1=2 then .ok (wdV (tk ts E i).2.2.1) (i+1) (p+1)
  else if (tk ts E i).2.2.1=[91] then
   (if isM (tk ts E (i+1)) 93=true then .ok (lsV []) (i+1+1) (p+1) else (pL ts E f d (i+1) (p+1)).map lsV)
  else
   (if isM (tk ts E (i+1)) 125=true then .ok (mpV ([],[])) (i+1+1) (p+1) else (pM ts E f d (i+1) (p+1) []).map mpV)
/-- the values of a list, from one on -/
def pL (ts:List Tok) (E:Int):Nat→Nat→Nat→Nat→Rs (List V)
 | 0,_,i,_=> .bad (tk ts E i).2.2.2 50
 | f+1,d,i,p=>
  match pV ts E f (d+1) i p with
  | .bad a y=> .bad a y
  | .ok v j q=>
   if isM (tk ts E j) 93=true then .ok [v] (j+1) q
   else if isM (tk ts E j) 44=true then (pL ts E f d (j+1) q).map fun vs=>v::vs
   else .bad (tk ts E j).2.2.2 50
/-- the members of a map, from one on; ns: the names of those ahead -/
def pM (ts:List Tok) (E:Int):Nat→Nat→Nat→Nat→List (List UInt8)→Rs (List (List UInt8)×List V)
 | 0,_,i,_,_=> .bad (tk ts E i).2.2.2 50
 | f+1,d,i,p,ns=>
  if (tk ts E i).1≠4 then .bad (tk ts E i).2.2.2 50
  else if (tk ts E i).2.2.1∈ns then .bad (tk ts E i).2.2.2 52
  else if isM (tk ts E (i+1)) 58=false then .bad (tk ts E (i+1)).2.2.2 50
  else match pV ts E f (d+1) (i+1+1) p with
  | .bad a y=> .bad a y
  | .ok v j q=>
   if isM (tk ts E j) 125=true then .ok ([(tk ts E i).2.2.1],[v]) (j+1) q
   else if isM (tk ts E j) 44=true then (pM ts E f d (j+1) q (ns++[(tk ts E i).2.2.1])).map fun x=>((tk ts E i).2.2.1::x.1,v::x.2)
   else .bad (tk ts E j).2.2.2 50
end
def cU (ts:List Tok):Nat:=2*ts.length+4
def rdT (ts:List Tok) (E:Int):V×Int×Int:=
 match pV ts E (cU ts) 1 0 0 with
 | .bad a y=>(V0,a,y)
 | .ok v i _=>if i<ts.length then (V0,(tk ts E i).2.2.2,50) else (v,0,0)
def rdV (l:List UInt8):V×Int×Int:=
 if (cI l).2.2≠0 then (V0,(cI l).2.1,(cI l).2.2) else rdT (cI l).1 (l.length:Int)
theorem qiI {ts:List Tok} {E:Int} {i:Nat} (h:i<ts.length):tk ts E i=ts[i]:=by
 unfold tk;rw [List.getD_eq_getElem?_getD,List.getElem?_eq_getElem h];rfl
theorem qbI {ts:List Tok} {E:Int} {i:Nat} (h:ts.length≤i):tk ts E i=(0,0,[],E):=by
 unfold tk;rw [List.getD_eq_getElem?_getD,List.getElem?_eq_none h];rfl
theorem qbc {ts:List Tok} {E:Int} {i:Nat} {c:UInt8} (h:isM (tk ts E i) c=true):i<ts.length:=by
 rcases Nat.lt_or_ge i ts.length with h1 | h1
 ·exact h1
 ·rw [qbI h1] at h;simp [isM] at h
theorem qgi {ts:List Tok} {E:Int} {i:Nat} (h:qbY (tk ts E i)=false):i<ts.length:=by
 rcases Nat.lt_or_ge i ts.length with h1 | h1
 ·exact h1
 ·rw [qbI h1] at h;simp [qbY] at h
mutual
/-- how many values there are in one -/
def cnt:V→Nat
 | .mk _ _ _ l _ ms=>1+aK l+aK ms
def aK:List V→Nat
 | []=>0
 | v::r=>cnt v+aK r
end
mutual
/-- how deep values lie -/
def dp:V→Nat→Nat
 | .mk _ _ _ l _ ms,d=>max d (max (dpL l (d+1)) (dpL ms (d+1)))
def dpL:List V→Nat→Nat
 | [],_=>0
 | v::r,d=>max (dp v d) (dpL r d)
end
mutual
/-- no name twice, a value for each name -/
def okV:V→Prop
 | .mk _ _ _ l ns ms=>ns.length=ms.length∧ns.Nodup∧okL l∧okL ms
def okL:List V→Prop
 | []=>True
 | v::r=>okV v∧okL r
end
theorem qge (v:V):1≤cnt v:=by cases v;rw [cnt];omega
end Re
namespace Re
open Go.RowKit Utf Sc
mutual
/-- In w the five cells cs read as the value v; what it holds lies in blocks from lo on, below hi. -/
def RdV (w:World) (lo hi:Nat):V→List Value→Prop
 | .mk k n s l ns ms,cs=>∃ vl vm:Value,cs=[.int .i64 k,.int .i64 n,.string (ae s),vl,vm]∧
   (∃ A c,vl = .slice A l.length (l.length+c)∧(0<l.length→∃ g,A=some ⟨g,0,none⟩∧lo≤g∧g<hi∧RdL w lo hi g 0 l))∧
   (∃ A c,vm = .slice A ms.length (ms.length+c)∧ns.length=ms.length∧(0<ms.length→∃ g,A=some ⟨g,0,none⟩∧lo≤g∧g<hi∧RdM w lo hi g 0 ns ms))
def RdL (w:World) (lo hi:Nat):Nat→Nat→List V→Prop
 | _,_,[]=>True
 | g,i,v::r=>(∃ cs,(∀ j u,cs[j]? = some u→w.cell? ⟨g,i*5+j,none⟩=some u)∧RdV w lo hi v cs)∧RdL w lo hi g (i+1) r
def RdM (w:World) (lo hi:Nat):Nat→Nat→List (List UInt8)→List V→Prop
 | _,_,_,[]=>True
 | g,i,ns,v::r=>∃ nm ns',ns=nm::ns'∧w.cell? ⟨g,i*6,none⟩=some (.string (ae nm))∧(∃ cs,(∀ j u,cs[j]? = some u→w.cell? ⟨g,i*6+1+j,none⟩=some u)∧RdV w lo hi v cs)∧RdM w lo hi g (i+1) ns' r
end
section
variable {w w':World} {lo hi lo' hi':Nat}
mutual
theorem RdV.keep (hk:∀ p:Addr,lo≤p.block→p.block<hi→w'.cell? p=w.cell? p) (h1:lo'≤lo) (h2:hi≤hi'):∀ (v:V) (cs:List Value),RdV w lo hi v cs→RdV w' lo' hi' v cs
 | .mk k n s l ns ms,cs,h=>by
  rw [RdV] at h ⊢;obtain ⟨vl,vm,rfl,⟨A,c,rfl,ha⟩,⟨A2,c2,rfl,hn,hb⟩⟩:=h;refine ⟨_,_,rfl,⟨A,c,rfl,fun h0=>?_⟩,⟨A2,c2,rfl,hn,fun h0=>?_⟩⟩
  ·obtain ⟨g,e,g1,g2,h⟩:=ha h0;exact ⟨g,e,by omega,by omega,RdL.keep hk h1 h2 l g 0 g1 g2 h⟩
  ·obtain ⟨g,e,g1,g2,h⟩:=hb h0;exact ⟨g,e,by omega,by omega,RdM.keep hk h1 h2 ms ns g 0 g1 g2 h⟩
theorem RdL.keep (hk:∀ p:Addr,lo≤p.block→p.block<hi→w'.cell? p=w.cell? p) (h1:lo'≤lo) (h2:hi≤hi'):∀ (l:List V) (g i:Nat),lo≤g→g<hi→RdL w lo hi g i l→RdL w' lo' hi' g i l
 | [],g,i,_,_,_=>by rw [RdL];trivial
 | v::r,g,i,g1,g2,h=>by
  rw [RdL] at h ⊢;obtain ⟨⟨cs,hc,hv⟩,hr⟩:=h;exact ⟨⟨cs,fun j u hu=>(hk ⟨g,i*5+j,none⟩ g1 g2).trans (hc j u hu),RdV.keep hk h1 h2 v cs hv⟩,RdL.keep hk h1 h2 r g (i+1) g1 g2 hr⟩
theorem RdM.keep (hk:∀ p:Addr,lo≤p.block→p.block<hi→w'.cell? p=w.cell? p) (h1:lo'≤lo) (h2:hi≤hi'):∀ (ms:List V) (ns:List (List UInt8)) (g i:Nat),lo≤g→g<hi→RdM w lo hi g i ns ms→RdM w' lo' hi' g i ns ms
 | [],ns,g,i,_,_,_=>by rw [RdM];trivial
 | v::r,ns,g,i,g1,g2,h=>by
  rw [RdM] at h ⊢;obtain ⟨nm,ns',rfl,hm,⟨cs,hc,hv⟩,hr⟩:=h;exact ⟨nm,ns',rfl,(hk ⟨g,i*6,none⟩ g1 g2).trans hm,⟨cs,fun j u hu=>(hk ⟨g,i*6+1+j,none⟩ g1 g2).trans (hc j u hu),RdV.keep hk h1 h2 v cs hv⟩,RdM.keep hk h1 h2 r ns' g (i+1) g1 g2 hr⟩
end
theorem RdV.cells {v:V} {cs:List Value} (h:RdV w lo hi v cs):∃ A c A2 c2,cs=[.int .i64 v.k,.int .i64 v.n,.string (ae v.s),.slice A v.l.length c,.slice A2 v.ms.length c2]∧v.ns.length=v.ms.length∧
  (0<v.l.length→∃ g,A=some ⟨g,0,none⟩∧lo≤g∧g<hi∧RdL w lo hi g 0 v.l)∧(0<v.ms.length→∃ g,A2=some ⟨g,0,none⟩∧lo≤g∧g<hi∧RdM w lo hi g 0 v.ns v.ms):=by
 obtain ⟨k,n,s,l,ns,ms⟩:=v;rw [RdV] at h;obtain ⟨vl,vm,rfl,⟨A,c,rfl,ha⟩,⟨A2,c2,rfl,hn,hb⟩⟩:=h;exact ⟨A,_,A2,_,rfl,hn,ha,hb⟩
end
theorem qcA (v:V):cnt v=1+aK v.l+aK v.ms:=by cases v;rw [cnt];rfl
theorem qam (v:V):ht v=max (htL v.l) (htL v.ms)+1:=by cases v;rw [ht];rfl
theorem V.ext' {a b:V} (h1:a.k=b.k) (h2:a.n=b.n) (h3:a.s=b.s) (h4:a.l=b.l) (h5:a.ns=b.ns) (h6:a.ms=b.ms):a=b:=by
 rw [←V.eta a,←V.eta b,h1,h2,h3,h4,h5,h6]
end Re
namespace Re
open Utf Sc
theorem qeb {α β : Type} {f : α → β} {r:Rs α} {v : β} {j q:Nat} (h:r.map f = .ok v j q):∃ u,r = .ok u j q∧f u=v:=by
 cases r with
 | bad a y=>cases h
 | ok u i p=>cases h;exact ⟨u,rfl,rfl⟩
theorem qjo (k n:Int) (s:List UInt8):cnt (.mk k n s [] [] [])=1∧(∀ d,dp (.mk k n s [] [] []) d=d)∧okV (.mk k n s [] [] []):=by
 refine ⟨by simp [cnt,aK],fun d=>by simp [dp,dpL],by simp [okV,okL]⟩
theorem qiL (s:List UInt8):∃ k n,wdV s = .mk k n [] [] [] []:=by
 unfold wdV;by_cases h:s=ce
 ·rw [if_pos h];exact ⟨_,_,rfl⟩
 ·rw [if_neg h];by_cases h2:s=bS
  ·rw [if_pos h2];exact ⟨_,_,rfl⟩
  ·rw [if_neg h2];exact ⟨_,_,rfl⟩
theorem qkE {ts:List Tok} {E:Int} {i:Nat} (h:(tk ts E i).1≠0):i<ts.length:=by
 rcases Nat.lt_or_ge i ts.length with h1 | h1
 ·exact h1
 ·rw [qbI h1] at h;exact absurd rfl h
theorem ql6 (ts:List Tok) (E:Int):∀ f,
  (∀ d i p v j q,pV ts E f d i p = .ok v j q→p≤8192→i<j∧j≤ts.length∧q=p+cnt v∧q≤8192∧dp v d≤16∧okV v)∧
  (∀ d i p l j q,pL ts E f d i p = .ok l j q→p≤8192→i<j∧j≤ts.length∧q=p+aK l∧q≤8192∧dpL l (d+1)≤16∧okL l∧l≠[])∧
  (∀ d i p ns x j q,pM ts E f d i p ns = .ok x j q→p≤8192→ns.Nodup→i<j∧j≤ts.length∧q=p+aK x.2∧q≤8192∧dpL x.2 (d+1)≤16∧okL x.2∧x.1.length=x.2.length∧(ns++x.1).Nodup∧x.1≠[]):=by
 intro f;induction f with
 | zero=>exact ⟨fun d i p v j q h=>(by rw [pV] at h;cases h),fun d i p v j q h=>(by rw [pL] at h;cases h),fun d i p ns v j q h=>(by rw [pM] at h;cases h)⟩
 | succ f ih=>
  obtain ⟨iV,iL,iM⟩:=ih;refine ⟨fun d i p v j q h hp=>?_,fun d i p l j q h hp=>?_,fun d i p ns x j q h hp hn=>?_⟩
  ·rw [pV] at h;by_cases c1:qbY (tk ts E i)=true
   ·rw [if_pos c1] at h;cases h
   have hi:=qgi (ts:=ts) (E:=E) (i:=i) (by simpa using c1);rw [if_neg c1] at h;by_cases c2:16<d
   ·rw [if_pos c2] at h;cases h
   rw [if_neg c2] at h;by_cases c3:p=8192
   ·rw [if_pos c3] at h;cases h
   rw [if_neg c3] at h;by_cases c4:(tk ts E i).1=4
   ·rw [if_pos c4] at h;cases h;obtain ⟨l1,l2,l3⟩:=qjo 4 0 (tk ts E i).2.2.1;exact ⟨by omega,by omega,by rw [txV,l1],by omega,by rw [txV,l2];omega,l3⟩
   rw [if_neg c4] at h;by_cases c5:(tk ts E i).1=3
   ·rw [if_pos c5] at h;cases h;obtain ⟨l1,l2,l3⟩:=qjo 3 (tk ts E i).2.1 [];exact ⟨by omega,by omega,by rw [nmV,l1],by omega,by rw [nmV,l2];omega,l3⟩
   rw [if_neg c5] at h;by_cases c6:(tk ts E i).1=2
   ·rw [if_pos c6] at h;cases h;obtain ⟨k,n,hw⟩:=qiL (tk ts E i).2.2.1;obtain ⟨l1,l2,l3⟩:=qjo k n [];rw [hw];exact ⟨by omega,by omega,by rw [l1],by omega,by rw [l2];omega,l3⟩
   rw [if_neg c6] at h;by_cases c7:(tk ts E i).2.2.1=[91]
   ·rw [if_pos c7] at h;by_cases c8:isM (tk ts E (i+1)) 93=true
    ·rw [if_pos c8] at h;cases h;have:=qbc c8;obtain ⟨l1,l2,l3⟩:=qjo 5 0 [];exact ⟨by omega,by omega,by rw [lsV,l1],by omega,by rw [lsV,l2];omega,l3⟩
    ·rw [if_neg c8] at h;obtain ⟨u,h1,rfl⟩:=qeb h;obtain ⟨a1,a2,a3,a4,a5,a6,a7⟩:=iL d (i+1) (p+1) u j q h1 (by omega);refine ⟨by omega,a2,?_,a4,?_,?_⟩
     ·rw [lsV,cnt,aK];omega
     ·rw [lsV,dp,dpL];omega
     ·rw [lsV,okV,okL];exact ⟨rfl,List.nodup_nil,a6,trivial⟩
   ·rw [if_neg c7] at h;by_cases c8:isM (tk ts E (i+1)) 125=true
    ·rw [if_pos c8] at h;cases h;have:=qbc c8;obtain ⟨l1,l2,l3⟩:=qjo 6 0 [];exact ⟨by omega,by omega,by rw [mpV,l1],by omega,by rw [mpV,l2];omega,l3⟩
    ·rw [if_neg c8] at h;obtain ⟨u,h1,rfl⟩:=qeb h;obtain ⟨a1,a2,a3,a4,a5,a6,a7,a8,_⟩:=iM d (i+1) (p+1) [] u j q h1 (by omega) List.nodup_nil;refine ⟨by omega,a2,?_,a4,?_,?_⟩
     ·rw [mpV,cnt,aK];omega
     ·rw [mpV,dp,dpL];omega
     ·rw [mpV,okV,okL];exact ⟨a7,by simpa using a8,trivial,a6⟩
  ·rw [pL] at h;rcases hv:pV ts E f (d+1) i p with ⟨a,y⟩ | ⟨v,j1,q1⟩
   ·rw [hv] at h;cases h
   ·rw [hv] at h;simp only at h;obtain ⟨b1,b2,b3,b4,b5,b6⟩:=iV (d+1) i p v j1 q1 hv hp;by_cases c1:isM (tk ts E j1) 93=true
    ·rw [if_pos c1] at h;cases h;have:=qbc c1;refine ⟨by omega,by omega,by rw [aK,aK];omega,b4,by rw [dpL,dpL];omega,⟨b6,trivial⟩,by simp⟩
    ·rw [if_neg c1] at h;by_cases c2:isM (tk ts E j1) 44=true
     ·rw [if_pos c2] at h;obtain ⟨u,h1,rfl⟩:=qeb h;obtain ⟨a1,a2,a3,a4,a5,a6,a7⟩:=iL d (j1+1) q1 u j q h1 b4;refine ⟨by omega,a2,by rw [aK];omega,a4,by rw [dpL];omega,⟨b6,a6⟩,by simp⟩
     ·rw [if_neg c2] at h;cases h
  ·rw [pM] at h;by_cases c0:(tk ts E i).1≠4
   ·rw [if_pos c0] at h;cases h
   rw [if_neg c0] at h;by_cases c1:(tk ts E i).2.2.1∈ns
   ·rw [if_pos c1] at h;cases h
   rw [if_neg c1] at h;by_cases c2:isM (tk ts E (i+1)) 58=false
   ·rw [if_pos c2] at h;cases h
   rw [if_neg c2] at h;have hn2:(ns++[(tk ts E i).2.2.1]).Nodup:=by
    rw [List.nodup_append];refine ⟨hn,by simp,?_⟩;intro a ha b hb e;simp at hb;subst hb e;exact c1 ha
   rcases hv:pV ts E f (d+1) (i+1+1) p with ⟨a,y⟩ | ⟨v,j1,q1⟩
   ·rw [hv] at h;cases h
   ·rw [hv] at h;simp only at h;obtain ⟨b1,b2,b3,b4,b5,b6⟩:=iV (d+1) (i+1+1) p v j1 q1 hv hp;by_cases c3:isM (tk ts E j1) 125=true
    ·rw [if_pos c3] at h;cases h;have:=qbc c3;refine ⟨by omega,by omega,by rw [aK,aK];omega,b4,by rw [dpL,dpL];omega,⟨b6,trivial⟩,rfl,hn2,by simp⟩
    ·rw [if_neg c3] at h;by_cases c4:isM (tk ts E j1) 44=true
     ·rw [if_pos c4] at h;obtain ⟨u,h1,rfl⟩:=qeb h;obtain ⟨a1,a2,a3,a4,a5,a6,a7,a8,_⟩:=iM d (j1+1) q1 _ u j q h1 b4 hn2;refine ⟨by omega,a2,by simp only [aK];omega,a4,by simp only [dpL];omega,⟨b6,a6⟩,by simp only [List.length_cons];omega,by simpa using a8,by simp⟩
     ·rw [if_neg c4] at h;cases h
def gL (ts:List Tok) (E:Int) (f d j q:Nat) (first:Bool):Rs (List V):=
 if isM (tk ts E j) 93=true then .ok [] (j+1) q else if first=true then pL ts E f d j q
 else if isM (tk ts E j) 44=true then pL ts E f d (j+1) q else .bad (tk ts E j).2.2.2 50
def gM (ts:List Tok) (E:Int) (f d j q:Nat) (ns:List (List UInt8)) (first:Bool):Rs (List (List UInt8)×List V):=
 if isM (tk ts E j) 125=true then .ok ([],[]) (j+1) q else if first=true then pM ts E f d j q ns
 else if isM (tk ts E j) 44=true then pM ts E f d (j+1) q ns else .bad (tk ts E j).2.2.2 50
theorem Rs.map_map {α β γ : Type} (r:Rs α) (f : α → β) (g : β → γ):(r.map f).map g=r.map fun x=>g (f x):=by cases r <;> rfl
theorem Rs.map_id {α : Type} (r:Rs α):(r.map fun x=>x)=r:=by cases r <;> rfl
theorem Rs.map_congr {α β : Type} {f g : α → β} (r:Rs α) (h:∀ x,f x=g x):r.map f=r.map g:=by rw [funext h]
theorem qlz {ts:List Tok} {E:Int} {f d i p:Nat} {a y:Int} (h:pV ts E f (d+1) i p = .bad a y):pL ts E (f+1) d i p = .bad a y:=by rw [pL,h]
theorem qmz {ts:List Tok} {E:Int} {f d i p j q:Nat} {v:V} (h:pV ts E f (d+1) i p = .ok v j q):pL ts E (f+1) d i p=(gL ts E f d j q false).map fun l=>v::l:=by
 rw [pL,h];simp only;unfold gL;by_cases c1:isM (tk ts E j) 93=true
 ·rw [if_pos c1,if_pos c1];rfl
 ·rw [if_neg c1,if_neg c1,if_neg (show ¬(false=true) by decide)];by_cases c2:isM (tk ts E j) 44=true
  ·rw [if_pos c2,if_pos c2]
  ·rw [if_neg c2,if_neg c2];rfl
theorem qkq {ts:List Tok} {E:Int} {f d i p j q:Nat} {v:V} (acc:List V) (h:pV ts E f (d+1) i p = .ok v j q) :
  (pL ts E (f+1) d i p).map (fun l=>acc++l)=(gL ts E f d j q false).map fun l=>(acc++[v])++l:=by
 rw [qmz h,Rs.map_map];exact Rs.map_congr _ fun x=>by simp
theorem ql4 {ts:List Tok} {E:Int} {f d i p:Nat} {ns:List (List UInt8)} {a y:Int} (h4:(tk ts E i).1=4) (hn:(tk ts E i).2.2.1∉ns) (hc:isM (tk ts E (i+1)) 58=true)
  (h:pV ts E f (d+1) (i+1+1) p = .bad a y):pM ts E (f+1) d i p ns = .bad a y:=by
 rw [pM,if_neg (by omega),if_neg hn,if_neg (by rw [hc];decide),h]
theorem qmD {ts:List Tok} {E:Int} {f d i p j q:Nat} {ns:List (List UInt8)} {v:V} (h4:(tk ts E i).1=4) (hn:(tk ts E i).2.2.1∉ns) (hc:isM (tk ts E (i+1)) 58=true)
  (h:pV ts E f (d+1) (i+1+1) p = .ok v j q):pM ts E (f+1) d i p ns=(gM ts E f d j q (ns++[(tk ts E i).2.2.1]) false).map fun x=>((tk ts E i).2.2.1::x.1,v::x.2):=by
 rw [pM,if_neg (by omega),if_neg hn,if_neg (by rw [hc];decide),h];simp only;unfold gM;by_cases c1:isM (tk ts E j) 125=true
 ·rw [if_pos c1,if_pos c1];rfl
 ·rw [if_neg c1,if_neg c1,if_neg (show ¬(false=true) by decide)];by_cases c2:isM (tk ts E j) 44=true
  ·rw [if_pos c2,if_pos c2]
  ·rw [if_neg c2,if_neg c2];rfl
theorem qkM {ts:List Tok} {E:Int} {f d i p j q:Nat} {ns:List (List UInt8)} {v:V} (an:List (List UInt8)) (av:List V) (h4:(tk ts E i).1=4) (hn:(tk ts E i).2.2.1∉ns) (hc:isM (tk ts E (i+1)) 58=true)
  (h:pV ts E f (d+1) (i+1+1) p = .ok v j q) :
  (pM ts E (f+1) d i p ns).map (fun x=>(an++x.1,av++x.2))=(gM ts E f d j q (ns++[(tk ts E i).2.2.1]) false).map fun x=>((an++[(tk ts E i).2.2.1])++x.1,(av++[v])++x.2):=by
 rw [qmD h4 hn hc h,Rs.map_map];exact Rs.map_congr _ fun x=>by simp
theorem qlJ {ts:List Tok} {E:Int} {f d i p:Nat} {ns:List (List UInt8)} (h4:(tk ts E i).1≠4):pM ts E (f+1) d i p ns = .bad (tk ts E i).2.2.2 50:=by rw [pM,if_pos h4]
theorem qi8 {ts:List Tok} {E:Int} {f d i p:Nat} {ns:List (List UInt8)} (h4:(tk ts E i).1=4) (hn:(tk ts E i).2.2.1∈ns):pM ts E (f+1) d i p ns = .bad (tk ts E i).2.2.2 52:=by
 rw [pM,if_neg (by omega),if_pos hn]
theorem qje {ts:List Tok} {E:Int} {f d i p:Nat} {ns:List (List UInt8)} (h4:(tk ts E i).1=4) (hn:(tk ts E i).2.2.1∉ns) (hc:isM (tk ts E (i+1)) 58=false):pM ts E (f+1) d i p ns = .bad (tk ts E (i+1)).2.2.2 50:=by
 rw [pM,if_neg (by omega),if_neg hn,if_pos hc]
theorem qkb {ts:List Tok} {E:Int} {f d i p:Nat} (h1:qbY (tk ts E i)=false) (h2:¬16<d) (h3:p≠8192) (h4:(tk ts E i).1=1) (h5:(tk ts E i).2.2.1=[91]) :
  pV ts E (f+1) d i p=(gL ts E f d (i+1) (p+1) true).map lsV:=by
 rw [pV,if_neg (by rw [h1];decide),if_neg h2,if_neg h3,if_neg (by omega),if_neg (by omega),if_neg (by omega),if_pos h5];unfold gL;by_cases c1:isM (tk ts E (i+1)) 93=true
 ·rw [if_pos c1,if_pos c1];rfl
 ·rw [if_neg c1,if_neg c1,if_pos rfl]
theorem qly {ts:List Tok} {E:Int} {f d i p:Nat} (h1:qbY (tk ts E i)=false) (h2:¬16<d) (h3:p≠8192) (h4:(tk ts E i).1=1) (h5:(tk ts E i).2.2.1≠[91]) :
  pV ts E (f+1) d i p=(gM ts E f d (i+1) (p+1) [] true).map mpV:=by
 rw [pV,if_neg (by rw [h1];decide),if_neg h2,if_neg h3,if_neg (by omega),if_neg (by omega),if_neg (by omega),if_neg h5];unfold gM;by_cases c1:isM (tk ts E (i+1)) 125=true
 ·rw [if_pos c1,if_pos c1];rfl
 ·rw [if_neg c1,if_neg c1,if_pos rfl]
end Re
namespace Em
open Utf Sc Re Nu
open Ch (qbL qf0)
def okS (s:List UInt8):Prop:=(bU s).2=s.length
instance (s:List UInt8):Decidable (okS s):=by unfold okS;infer_instance
def qal (ns:List (List UInt8)):Prop:=ns.length≤8192→(∀ x∈ns,okS x)∧ns.Nodup
instance (ns:List (List UInt8)):Decidable (qal ns):=by unfold qal;infer_instance
def own (k n:Int) (s:List UInt8) (a:Nat) (ns:List (List UInt8)) (b:Nat):Prop:=
 ((1≤k∧k≤6)∧((k≠2∧k≠3)→n=0)∧(k≠4→s=[])∧(k≠5→a=0)∧(k≠6→b=0))∧
  (k=2→n=0∨n=1)∧(k=3→ -9007199254740991≤n∧n≤9007199254740991)∧(k=4→okS s)∧(k=6→qal ns)
instance (k n:Int) (s:List UInt8) (a:Nat) (ns:List (List UInt8)) (b:Nat):Decidable (own k n s a ns b):=by unfold own;infer_instance
def qt (s:List UInt8):List UInt8:=34::(qbL s++[34])
mutual
/-- a value's text -/
def emV:V→List UInt8
 | .mk k n s l ns ms=>if k=1 then ce else if k=2 then (if n=1 then bS else qad) else if k=3 then qa3 n else if k=4 then qt s
  else if k=5 then 91::((emT l).drop 1++[93]) else 123::((emM ns ms).drop 1++[125])
/-- the texts of values, each with a comma ahead -/
def emT:List V→List UInt8
 | []=>[]
 | v::r=>44::(emV v++emT r)
/-- the texts of members, each with a comma ahead -/
def emM:List (List UInt8)→List V→List UInt8
 | _,[]=>[]
 | ns,v::r=>44::(qt (ns.headD [])++58::(emV v++emM ns.tail r))
end
mutual
/-- how many values are right from one on, with those ahead; and why no more -/
def wk:V→Nat→Nat→Nat×Int
 | .mk k n s l ns ms,d,p=>if 16<d then (p,51) else if p=8192 then (p,53) else if own k n s l.length ns ms.length then
   (if (wkL l (d+1) (p+1)).2≠0 then wkL l (d+1) (p+1) else wkL ms (d+1) (wkL l (d+1) (p+1)).1) else (p,1)
def wkL:List V→Nat→Nat→Nat×Int
 | [],_,p=>(p,0)
 | v::r,d,p=>if (wk v d p).2≠0 then wk v d p else wkL r d (wk v d p).1
end
mutual
/-- is each value right by itself? -/
def qcd:V→Prop
 | .mk k n s l ns ms=>own k n s l.length ns ms.length∧qbh l∧qbh ms
def qbh:List V→Prop
 | []=>True
 | v::r=>qcd v∧qbh r
end
mutual
/-- can each value be written? -/
def okW:V→Prop
 | .mk k n s l ns ms=>own k n s l.length ns ms.length∧(∀ x∈ns,okS x)∧co l∧co ms
def co:List V→Prop
 | []=>True
 | v::r=>okW v∧co r
end
mutual
/-- a value for each name -/
def bv:V→Prop
 | .mk _ _ _ l ns ms=>ns.length=ms.length∧cq l∧cq ms
def cq:List V→Prop
 | []=>True
 | v::r=>bv v∧cq r
end
mutual
/-- no map is too great -/
def qfa:V→Prop
 | .mk _ _ _ l ns ms=>ns.length≤8192∧qau l∧qau ms
def qau:List V→Prop
 | []=>True
 | v::r=>qfa v∧qau r
end
mutual
/-- how large a value is -/
def szU:V→Nat
 | .mk _ _ s l ns ms=>1+s.length+cr l+(ns.map fun x=>1+x.length).sum+cr ms
def cr:List V→Nat
 | []=>0
 | v::r=>szU v+cr r
end
mutual
theorem qi6:∀ (v:V) (d p:Nat),p≤8192→(wk v d p).1≤8192∧((wk v d p).2=0∨(wk v d p).2=1∨(wk v d p).2=51∨(wk v d p).2=53)
 | .mk k n s l ns ms,d,p,hp=>by
  rw [wk];by_cases h1:16<d
  ·rw [if_pos h1];simp;omega
  rw [if_neg h1];by_cases h2:p=8192
  ·rw [if_pos h2];simp;omega
  rw [if_neg h2];by_cases h3:own k n s l.length ns ms.length
  ·rw [if_pos h3];have a:=qel l (d+1) (p+1) (by omega);by_cases h4:(wkL l (d+1) (p+1)).2≠0
   ·rw [if_pos h4];exact a
   ·rw [if_neg h4];exact qel ms (d+1) _ a.1
  ·rw [if_neg h3];simp;omega
theorem qel:∀ (l:List V) (d p:Nat),p≤8192→(wkL l d p).1≤8192∧((wkL l d p).2=0∨(wkL l d p).2=1∨(wkL l d p).2=51∨(wkL l d p).2=53)
 | [],d,p,hp=>by rw [wkL];simp;omega
 | v::r,d,p,hp=>by
  rw [wkL];have a:=qi6 v d p hp;by_cases h4:(wk v d p).2≠0
  ·rw [if_pos h4];exact a
  ·rw [if_neg h4];exact qel r d _ a.1
end
mutual
theorem qk9:∀ (v:V) (d p:Nat),p≤8192→(wk v d p).2=0→(wk v d p).1=p+cnt v∧p+cnt v≤8192∧dp v d≤16∧qcd v
 | .mk k n s l ns ms,d,p,hp=>by
  rw [wk];by_cases h1:16<d
  ·rw [if_pos h1];intro h;simp at h
  rw [if_neg h1];by_cases h2:p=8192
  ·rw [if_pos h2];intro h;simp at h
  rw [if_neg h2];by_cases h3:own k n s l.length ns ms.length
  ·rw [if_pos h3];by_cases h4:(wkL l (d+1) (p+1)).2≠0
   ·rw [if_pos h4];intro h;exact absurd h h4
   ·rw [if_neg h4];intro h;obtain ⟨a1,a2,a3,a4⟩:=qf3 l (d+1) (p+1) (by omega) (by simpa using h4);rw [a1] at h ⊢;obtain ⟨b1,b2,b3,b4⟩:=qf3 ms (d+1) (p+1+aK l) (by omega) h;rw [b1,cnt,dp,qcd];exact ⟨by omega,by omega,by omega,h3,a4,b4⟩
  ·rw [if_neg h3];intro h;simp at h
theorem qf3:∀ (l:List V) (d p:Nat),p≤8192→(wkL l d p).2=0→(wkL l d p).1=p+aK l∧p+aK l≤8192∧dpL l d≤16∧qbh l
 | [],d,p,hp=>by rw [wkL,aK,dpL,qbh];simp;omega
 | v::r,d,p,hp=>by
  rw [wkL];by_cases h4:(wk v d p).2≠0
  ·rw [if_pos h4];intro h;exact absurd h h4
  ·rw [if_neg h4];intro h;obtain ⟨a1,a2,a3,a4⟩:=qk9 v d p hp (by simpa using h4);rw [a1] at h ⊢;obtain ⟨b1,b2,b3,b4⟩:=qf3 r d (p+cnt v) (by omega) h;rw [b1,aK,dpL,qbh];exact ⟨by omega,by omega,by omega,a4,b4⟩
end
mutual
theorem qh2:∀ (v:V) (d p:Nat),(wk v d p).2=1→¬qcd v
 | .mk k n s l ns ms,d,p=>by
  rw [wk,qcd];split
  ·intro h;simp at h
  split
  ·intro h;simp at h
  split
  ·rename_i h3
   split
   ·intro h ⟨_,a,_⟩;exact qbK l _ _ h a
   ·intro h ⟨_,_,b⟩;exact qbK ms _ _ h b
  ·rename_i h3;intro _ ⟨a,_⟩;exact h3 a
theorem qbK:∀ (l:List V) (d p:Nat),(wkL l d p).2=1→¬qbh l
 | [],d,p=>by rw [wkL];intro h;simp at h
 | v::r,d,p=>by
  rw [wkL,qbh];split
  ·intro h ⟨a,_⟩;exact qh2 v _ _ h a
  ·intro h ⟨_,b⟩;exact qbK r _ _ h b
end
def chk (v:V):Int:=(wk v 1 0).2
theorem qfs {v:V} (h:chk v=0):cnt v≤8192∧dp v 1≤16∧qcd v:=by
 obtain ⟨_,a,b,c⟩:=qk9 v 1 0 (by omega) h;exact ⟨by omega,b,c⟩
mutual
theorem qbV:∀ v:V,bv v→cnt v≤8192→qfa v
 | .mk k n s l ns ms,h,hc=>by
  rw [bv] at h;rw [cnt] at hc;rw [qfa];have:=qgv ms;exact ⟨by omega,qbk l h.2.1 (by omega),qbk ms h.2.2 (by omega)⟩
theorem qbk:∀ l:List V,cq l→aK l≤8192→qau l
 | [],_,_=>by rw [qau];trivial
 | v::r,h,hc=>by
  rw [cq] at h;rw [aK] at hc;rw [qau];exact ⟨qbV v h.1 (by omega),qbk r h.2 (by omega)⟩
theorem qgv:∀ l:List V,l.length≤aK l
 | []=>by simp
 | v::r=>by
  rw [aK,List.length_cons];have:=qgv r;have:=qge v;omega
end
mutual
theorem qgf:∀ v:V,qfa v→bv v→(okW v↔qcd v)
 | .mk k n s l ns ms,h,hl=>by
  rw [qfa] at h;rw [bv] at hl;rw [okW,qcd,qcD l h.2.1 hl.2.1,qcD ms h.2.2 hl.2.2];refine ⟨fun ⟨a,_,b,c⟩=>⟨a,b,c⟩,fun ⟨a,b,c⟩=>⟨a,?_,b,c⟩⟩;by_cases hk:k=6
  ·exact (a.2.2.2.2 hk h.1).1
  ·have:=a.1.2.2.2.2 hk;have e:ns=[]:=List.eq_nil_of_length_eq_zero (by omega);subst e;intro x hx;cases hx
theorem qcD:∀ l:List V,qau l→cq l→(co l↔qbh l)
 | [],_,_=>by rw [co,qbh]
 | v::r,h,hl=>by
  rw [qau] at h;rw [cq] at hl;rw [co,qbh,qgf v h.1 hl.1,qcD r h.2 hl.2]
end
theorem qkX {v:V} (h:chk v=0) (hl:bv v):okW v:=(qgf v (qbV v hl (qfs h).1) hl).2 (qfs h).2.2
theorem qcs (s:List UInt8):(qt s).length≤6*s.length+2:=by
 have:=qf0 s;unfold qt;simp only [List.length_cons,List.length_append,List.length_nil];omega
mutual
theorem qeA:∀ v:V,bv v→(emV v).length+1≤24*szU v
 | .mk k n s l ns ms,h=>by
  rw [bv] at h;have a:=qgt l h.2.1;have b:=qgd ms ns h.1 h.2.2;have c:=qcs s;have d:=(qfo n).2;rw [emV,szU];split
  ·show 4+1≤_;omega
  split
  ·split
   ·show 4+1≤_;omega
   ·show 5+1≤_;omega
  split
  ·omega
  split
  ·omega
  split
  ·simp only [List.length_cons,List.length_append,List.length_drop,List.length_nil];omega
  ·simp only [List.length_cons,List.length_append,List.length_drop,List.length_nil];omega
theorem qgt:∀ l:List V,cq l→(emT l).length≤24*cr l
 | [],_=>by rw [emT];simp
 | v::r,h=>by
  rw [cq] at h;have a:=qeA v h.1;have b:=qgt r h.2;rw [emT,cr];simp only [List.length_cons,List.length_append];omega
theorem qgd:∀ (ms:List V) (ns:List (List UInt8)),ns.length=ms.length→cq ms→(emM ns ms).length≤24*((ns.map fun x=>1+x.length).sum+cr ms)
 | [],ns,_,_=>by rw [emM];simp
 | v::r,ns,hn,h=>by
  rw [cq] at h;cases ns with
  | nil=>simp at hn
  | cons x ns=>
   have a:=qeA v h.1;have b:=qgd r ns (by simpa using hn) h.2;have c:=qcs x;rw [emM,cr];simp only [List.length_cons,List.length_append,List.headD_cons,List.tail_cons,List.map_cons,List.sum_cons];omega
end
theorem qgc:∀ a b:List V,emT (a++b)=emT a++emT b:=by
 intro a b;induction a with
 | nil=>rfl
 | cons v r ih=>rw [List.cons_append,emT,emT,ih];simp
theorem qgx:∀ (a b:List V) (na nb:List (List UInt8)),na.length=a.length→emM (na++nb) (a++b)=emM na a++emM nb b:=by
 intro a b;induction a with
 | nil=>intro na nb h;obtain rfl:=List.eq_nil_of_length_eq_zero h;simp [emM]
 | cons v r ih=>
  intro na nb h;cases na with
  | nil=>simp at h
  | cons x na=>
   have:=ih na nb (by simpa using h);rw [List.cons_append,List.cons_append,emM,emM];simp [this]
theorem qiS (l:List V) (k:Nat) (h:k<l.length):emT (l.take (k+1))=emT (l.take k)++44::emV l[k]:=by
 rw [cH l k h,qgc,emT,emT,List.append_nil]
theorem qiA (ns:List (List UInt8)) (ms:List V) (k:Nat) (h:k<ms.length) (hn:k<ns.length) (hl:ns.length=ms.length) :
  emM (ns.take (k+1)) (ms.take (k+1))=emM (ns.take k) (ms.take k)++44::(qt ns[k]++58::emV ms[k]):=by
 rw [cH ms k h,cH ns k hn,qgx _ _ _ _ (by simp [List.length_take];omega),emM,emM];simp
theorem qia {k n:Int} {s:List UInt8} {l ms:List V} {ns:List (List UInt8)} (h:own k n s l.length ns ms.length) (hk:k≠5):l=[]:=List.eq_nil_of_length_eq_zero (h.1.2.2.2.1 hk)
theorem qiw {k n:Int} {s:List UInt8} {l ms:List V} {ns:List (List UInt8)} (h:own k n s l.length ns ms.length) (hk:k≠6):ms=[]:=List.eq_nil_of_length_eq_zero (h.1.2.2.2.2 hk)
end Em
namespace Re
open Utf Sc
set_option linter.unusedSimpArgs false
theorem qii {l:List UInt8} {ts:List Tok} {r:V×Int×Int} (h:cI l=(ts,0,0)) (h2:rdT ts (l.length:Int)=r):rdV l=r:=by
 unfold rdV;rw [h];exact h2
