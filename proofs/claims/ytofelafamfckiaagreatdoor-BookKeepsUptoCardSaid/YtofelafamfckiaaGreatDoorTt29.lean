/- Merged: BkPl. -/
import Derived.Test.YtofelafamfckiaaGreatDoorTt10
import Derived.Test.YtofelafamfckiaaGreatDoorTt28
namespace Go.Proofs.YtofelafamfckiaaGreatDoor
namespace Bk
open Go.Proofs Go.RowKit Utf
open Cd (mem fst isT btw qcn)
open Re (V V0 mpV)
def bf:List UInt8:=[100,101,115,99,114,105,112,116,105,111,110]
def b8:List UInt8:=[105,115,83,117,98,115,99,114,105,98,101,100]
def az:List UInt8:=[110,97,109,101]
def bX:List UInt8:=[115,111,114,116,79,114,100,101,114]
def aU (n:List UInt8) (v:V):Bool:=
 decide (n=bf∧(v.k=1∨v.k=4∧v.s.length≤1024)) || decide (n=b8∧v.k=2) || decide (n=az∧v.k=4∧1≤v.s.length∧v.s.length≤255) || decide (n=bX∧v.k=3∧0≤v.n∧v.n≤2147483647)
def cL (v:V) (n:List UInt8):Bool:=
 if v.k=6 then (mem v).any (fun m=>decide (m.1=n)&& !aU m.1 m.2) || (decide (n=az)&& !v.ns.contains az)
 else decide (n=az)
def qhm:V:= .mk 1 0 [] [] [] []
def qiY:V:= .mk 2 1 [] [] [] []
def qiW:V:= .mk 3 0 [] [] [] []
def orV (v:V) (n:List UInt8) (x:V):V:=(fst (mem v) n).getD x
def qbf:List (List UInt8):=[bf,b8,az,bX]
def cC (v:V):List V:=[orV v bf qhm,orV v b8 qiY,orV v az V0,orV v bX qiW]
def qas (v:V):V:=mpV (qbf,cC v)
theorem qaS {v:V} (hk:v.k=6) (n:List UInt8):cL v n=true↔(∃ m∈mem v,m.1=n∧aU m.1 m.2=false)∨(n=az∧az∉v.ns):=by
 unfold cL;rw [if_pos hk,Bool.or_eq_true];refine or_congr ?_ ?_
 ·rw [List.any_eq_true];refine exists_congr fun m=>and_congr_right fun _=>?_;simp
 ·simp
theorem qgq {v:V} (hk:v.k≠6) (n:List UInt8):cL v n=true↔n=az:=by
 unfold cL;rw [if_neg hk];simp
theorem qcx (v:V):(∀ n,cL v n=false)↔v.k=6∧(∀ m∈mem v,aU m.1 m.2=true)∧az∈v.ns:=by
 constructor
 ·intro h;have hk:v.k=6:=by
   by_cases hk:v.k=6
   ·exact hk
   ·have:=(qgq hk az).2 rfl;rw [h] at this;cases this
  refine ⟨hk,fun m hm=>?_,?_⟩
  ·cases hb:aU m.1 m.2 with
   | true=>rfl
   | false=>
    have:=(qaS hk m.1).2 (.inl ⟨m,hm,rfl,hb⟩);rw [h] at this;cases this
  ·by_cases hx:az∈v.ns
   ·exact hx
   ·have:=(qaS hk az).2 (.inr ⟨rfl,hx⟩);rw [h] at this;cases this
 ·rintro ⟨hk,h1,h2⟩ n;rw [←Bool.not_eq_true,qaS hk];rintro (⟨m,hm, -,hb⟩ | ⟨rfl,hx⟩)
  ·rw [h1 m hm] at hb;cases hb
  ·exact hx h2
theorem qij {l:List (List UInt8×V)} {n:List UInt8}:fst l n=none↔∀ m∈l,m.1≠n:=by
 unfold fst;rw [Option.map_eq_none_iff,List.find?_eq_none];simp
