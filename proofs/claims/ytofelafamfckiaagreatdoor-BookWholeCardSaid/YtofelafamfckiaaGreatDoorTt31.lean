/- Merged: BkPl. -/
import Derived.Test.YtofelafamfckiaaGreatDoorTt9
import Derived.Test.YtofelafamfckiaaGreatDoorTt30
namespace Go.Proofs.YtofelafamfckiaaGreatDoor
namespace Bk
open Go.Proofs Go.RowKit Utf
open Cd (mem fst isT btw qbE qgH)
open Re (V V0 mpV)
def bb:List UInt8:=[100,101,115,99,114,105,112,116,105,111,110]
def bO:List UInt8:=[105,115,83,117,98,115,99,114,105,98,101,100]
def ay:List UInt8:=[110,97,109,101]
def bK:List UInt8:=[115,111,114,116,79,114,100,101,114]
def aP (n:List UInt8) (v:V):Bool:=
 decide (n=bb∧(v.k=1∨v.k=4∧v.s.length≤1024)) || decide (n=bO∧v.k=2) || decide (n=ay∧v.k=4∧1≤v.s.length∧v.s.length≤255) || decide (n=bK∧v.k=3∧0≤v.n∧v.n≤2147483647)
def bQ (v:V) (n:List UInt8):Bool:=
 if v.k=6 then (mem v).any (fun m=>decide (m.1=n)&& !aP m.1 m.2) || (decide (n=ay)&& !v.ns.contains ay)
 else decide (n=ay)
def qcc:V:= .mk 1 0 [] [] [] []
def qcU:V:= .mk 2 1 [] [] [] []
def qcL:V:= .mk 3 0 [] [] [] []
def orV (v:V) (n:List UInt8) (x:V):V:=(fst (mem v) n).getD x
def bW:List (List UInt8):=[bb,bO,ay,bK]
def bD (v:V):List V:=[orV v bb qcc,orV v bO qcU,orV v ay V0,orV v bK qcL]
def aD (v:V):V:=mpV (bW,bD v)
theorem qaV {v:V} (hk:v.k=6) (n:List UInt8):bQ v n=true↔(∃ m∈mem v,m.1=n∧aP m.1 m.2=false)∨(n=ay∧ay∉v.ns):=by
 unfold bQ;rw [if_pos hk,Bool.or_eq_true];refine or_congr ?_ ?_
 ·rw [List.any_eq_true];refine exists_congr fun m=>and_congr_right fun _=>?_;simp
 ·simp
theorem qgT {v:V} (hk:v.k≠6) (n:List UInt8):bQ v n=true↔n=ay:=by
 unfold bQ;rw [if_neg hk];simp
theorem de (v:V):(∀ n,bQ v n=false)↔v.k=6∧(∀ m∈mem v,aP m.1 m.2=true)∧ay∈v.ns:=by
 constructor
 ·intro h;have hk:v.k=6:=by
   by_cases hk:v.k=6
   ·exact hk
   ·have:=(qgT hk ay).2 rfl;rw [h] at this;cases this
  refine ⟨hk,fun m hm=>?_,?_⟩
  ·cases hb:aP m.1 m.2 with
   | true=>rfl
   | false=>
    have:=(qaV hk m.1).2 (.inl ⟨m,hm,rfl,hb⟩);rw [h] at this;cases this
  ·by_cases hx:ay∈v.ns
   ·exact hx
   ·have:=(qaV hk ay).2 (.inr ⟨rfl,hx⟩);rw [h] at this;cases this
 ·rintro ⟨hk,h1,h2⟩ n;rw [←Bool.not_eq_true,qaV hk];rintro (⟨m,hm, -,hb⟩ | ⟨rfl,hx⟩)
  ·rw [h1 m hm] at hb;cases hb
  ·exact hx h2
theorem qfd {l:List (List UInt8×V)} {n:List UInt8} {x:V} (h:fst l n=some x):(n,x)∈l:=by
 unfold fst at h;cases hf:l.find? (fun m=>decide (m.1=n)) with
 | none=>rw [hf] at h;cases h
 | some m=>
  rw [hf] at h;injection h with h
  have h1:=List.mem_of_find?_eq_some hf;have h2:m.1=n:=by simpa using List.find?_some hf
  subst h h2;exact h1
theorem qeE {l:List (List UInt8×V)} {n:List UInt8}:fst l n=none↔∀ m∈l,m.1≠n:=by
 unfold fst;rw [Option.map_eq_none_iff,List.find?_eq_none];simp
theorem qhN {v:V} (hl:v.ns.length=v.ms.length) {n:List UInt8}:n∈v.ns↔∃ m∈mem v,m.1=n:=by
 constructor
 ·intro h;obtain ⟨i,hi,rfl⟩:=List.getElem_of_mem h;have hz:i<(v.ns.zip v.ms).length:=by rw [List.length_zip];omega
  exact ⟨(v.ns.zip v.ms)[i],List.getElem_mem hz,by rw [List.getElem_zip]⟩
 ·rintro ⟨m,hm,rfl⟩;exact qbE hm
theorem qix:aP bb qcc=true:=by decide +kernel
theorem qkf:aP bO qcU=true:=by decide +kernel
theorem qkI:aP bK qcL=true:=by decide +kernel
theorem qd8 {v:V} (h:∀ m∈mem v,aP m.1 m.2=true) {n:List UInt8} {x:V} (hx:fst (mem v) n=none→aP n x=true):aP n (orV v n x)=true:=by
 unfold orV;cases hf:fst (mem v) n with
 | none=>exact hx hf
 | some y=>exact h _ (qfd hf)
theorem qhP {v:V} (hl:v.ns.length=v.ms.length) (h:ay∈v.ns):fst (mem v) ay≠none:=by
 obtain ⟨m,hm,e⟩:=(qhN hl).1 h;exact fun hn=>qeE.1 hn m hm e
theorem di (v:V):mem (aD v)=[(bb,orV v bb qcc),(bO,orV v bO qcU),(ay,orV v ay V0),(bK,orV v bK qcL)]:=rfl
theorem qfB {v:V} (hl:v.ns.length=v.ms.length) (h:∀ n,bQ v n=false):∀ n,bQ (aD v) n=false:=by
 obtain ⟨-,h1,h2⟩:=(de v).1 h;refine (de _).2 ⟨rfl,fun m hm=>?_,by show ay∈bW;unfold bW;simp⟩;rw [di] at hm;simp only [List.mem_cons,List.not_mem_nil,or_false] at hm;rcases hm with rfl | rfl | rfl | rfl
 ·exact qd8 h1 fun _=>qix
 ·exact qd8 h1 fun _=>qkf
 ·exact qd8 h1 fun hn=>absurd hn (qhP hl h2)
 ·exact qd8 h1 fun _=>qkI
theorem qeF (v:V):aD (aD v)=aD v:=by
 have e1:orV (aD v) bb qcc=orV v bb qcc:=by unfold orV;rw [di];rfl
 have e2:orV (aD v) bO qcU=orV v bO qcU:=by unfold orV;rw [di];rfl
 have e3:orV (aD v) ay V0=orV v ay V0:=by unfold orV;rw [di];rfl
 have e4:orV (aD v) bK qcL=orV v bK qcL:=by unfold orV;rw [di];rfl
 show mpV (bW,bD (aD v))=_;unfold bD;rw [e1,e2,e3,e4];rfl
