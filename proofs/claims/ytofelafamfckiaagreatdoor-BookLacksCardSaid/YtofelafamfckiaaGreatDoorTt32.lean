/- Merged: BkPl. -/
import Derived.Test.YtofelafamfckiaaGreatDoorTt9
import Derived.Test.YtofelafamfckiaaGreatDoorTt31
namespace Go.Proofs.YtofelafamfckiaaGreatDoor
namespace Bk
open Go.Proofs Go.RowKit Utf
open Cd (mem fst isT btw qcs qgS)
open Re (V V0 mpV)
def be:List UInt8:=[100,101,115,99,114,105,112,116,105,111,110]
def bN:List UInt8:=[105,115,83,117,98,115,99,114,105,98,101,100]
def ay:List UInt8:=[110,97,109,101]
def bP:List UInt8:=[115,111,114,116,79,114,100,101,114]
def bf (n:List UInt8) (v:V):Bool:=
 decide (n=be∧(v.k=1∨v.k=4∧v.s.length≤1024)) || decide (n=bN∧v.k=2) || decide (n=ay∧v.k=4∧1≤v.s.length∧v.s.length≤255) || decide (n=bP∧v.k=3∧0≤v.n∧v.n≤2147483647)
def bL (v:V) (n:List UInt8):Bool:=
 if v.k=6 then (mem v).any (fun m=>decide (m.1=n)&& !bf m.1 m.2) || (decide (n=ay)&& !v.ns.contains ay)
 else decide (n=ay)
def qcx:V:= .mk 1 0 [] [] [] []
def qds:V:= .mk 2 1 [] [] [] []
def qdo:V:= .mk 3 0 [] [] [] []
def orV (v:V) (n:List UInt8) (x:V):V:=(fst (mem v) n).getD x
def bM:List (List UInt8):=[be,bN,ay,bP]
def cp (v:V):List V:=[orV v be qcx,orV v bN qds,orV v ay V0,orV v bP qdo]
def aL (v:V):V:=mpV (bM,cp v)
theorem qak {v:V} (hk:v.k=6) (n:List UInt8):bL v n=true↔(∃ m∈mem v,m.1=n∧bf m.1 m.2=false)∨(n=ay∧ay∉v.ns):=by
 unfold bL;rw [if_pos hk,Bool.or_eq_true];refine or_congr ?_ ?_
 ·rw [List.any_eq_true];refine exists_congr fun m=>and_congr_right fun _=>?_;simp
 ·simp
theorem qgj {v:V} (hk:v.k≠6) (n:List UInt8):bL v n=true↔n=ay:=by
 unfold bL;rw [if_neg hk];simp
theorem cG (v:V):(∀ n,bL v n=false)↔v.k=6∧(∀ m∈mem v,bf m.1 m.2=true)∧ay∈v.ns:=by
 constructor
 ·intro h;have hk:v.k=6:=by
   by_cases hk:v.k=6
   ·exact hk
   ·have:=(qgj hk ay).2 rfl;rw [h] at this;cases this
  refine ⟨hk,fun m hm=>?_,?_⟩
  ·cases hb:bf m.1 m.2 with
   | true=>rfl
   | false=>
    have:=(qak hk m.1).2 (.inl ⟨m,hm,rfl,hb⟩);rw [h] at this;cases this
  ·by_cases hx:ay∈v.ns
   ·exact hx
   ·have:=(qak hk ay).2 (.inr ⟨rfl,hx⟩);rw [h] at this;cases this
 ·rintro ⟨hk,h1,h2⟩ n;rw [←Bool.not_eq_true,qak hk];rintro (⟨m,hm, -,hb⟩ | ⟨rfl,hx⟩)
  ·rw [h1 m hm] at hb;cases hb
  ·exact hx h2
theorem qic {l:List (List UInt8×V)} {n:List UInt8} {x:V} (h:fst l n=some x):(n,x)∈l:=by
 unfold fst at h;cases hf:l.find? (fun m=>decide (m.1=n)) with
 | none=>rw [hf] at h;cases h
 | some m=>
  rw [hf] at h;injection h with h
  have h1:=List.mem_of_find?_eq_some hf;have h2:m.1=n:=by simpa using List.find?_some hf
  subst h h2;exact h1
theorem qeV {l:List (List UInt8×V)} {n:List UInt8}:fst l n=none↔∀ m∈l,m.1≠n:=by
 unfold fst;rw [Option.map_eq_none_iff,List.find?_eq_none];simp
theorem qcR (l:List (List UInt8×V)) (b:List UInt8):fst (l.filter fun m=>decide (m.1≠b)) b=none:=
 qeV.2 fun m hm=>by simpa using (List.mem_filter.1 hm).2
theorem qaW {v w:V} (h:∀ n,bL v n=false) {nm:List UInt8} (hnm:nm≠ay) (hk:w.k=6) (hm:mem w=(mem v).filter fun m=>decide (m.1≠nm)) (hn:∀ n,n∈w.ns↔n∈v.ns∧n≠nm):∀ n,bL w n=false:=by
 obtain ⟨-,h1,h2⟩:=(cG v).1 h;refine (cG w).2 ⟨hk,fun m hm'=>?_,(hn _).2 ⟨h2,Ne.symm hnm⟩⟩;rw [hm] at hm';exact h1 m (List.mem_filter.1 hm').1
theorem qdJ {v w:V} (h:∀ n,bL v n=false) (hk:w.k=6) (hm:mem w=(mem v).filter fun m=>decide (m.1≠ay)) (hn:∀ n,n∈w.ns↔n∈v.ns∧n≠ay) (n:List UInt8):bL w n=true↔n=ay:=by
 obtain ⟨-,h1,h2⟩:=(cG v).1 h;rw [qak hk];constructor
 ·rintro (⟨m,hm', -,hb⟩ | ⟨rfl, -⟩)
  ·rw [hm] at hm';rw [h1 m (List.mem_filter.1 hm').1] at hb;cases hb
  ·rfl
 ·rintro rfl;exact .inr ⟨rfl,fun hx=>((hn _).1 hx).2 rfl⟩
