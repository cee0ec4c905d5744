/- Merged: SmPl2 TrS0. -/
import Derived.Test.YtofelafamfckiaaGreatDoorTt1
import GoSem.Op.String
import Derived.Shelf.SlSortCmp.KitK
import Derived.Sort.LotA
namespace Go.Proofs.YtofelafamfckiaaGreatDoor
namespace Sm
open Go.RowKit Utf Nu Wo
def qml (x:Pr):Prop:=
 (12≤x.fm∧x.fm≤15∧qaA x.ar≠[]∧x.ar≠[]∧x.df=[])∨
 (x.fm=11∧x.ar≠[]∧x.df=[])∨(x.fm=11∧x.ar≠[]∧x.df≠[]∧inS x.ar x.df=true)∨
 (x.fm=17∧x.ar≠[]∧x.df=[])∨
 (¬(11≤x.fm∧x.fm≤15)∧x.fm≠17∧x.ar=[]∧x.df=[])∨
 (x.fm=3∧x.ar=[]∧x.df=[102,97,108,115,101])
instance (x:Pr):Decidable (qml x):=by unfold qml;infer_instance
end Sm
namespace Tr
open Go.Proofs Go.RowKit Go.Sort Go.Shelf Go.Lib Utf
structure M6 where
 nm:List UInt8
 k:Int
 n:Int
 s:ByteArray
 A:Option Addr
 l:Nat
 c:Nat
 A2:Option Addr
 m:Nat
 c2:Nat
instance:Inhabited M6:=⟨⟨[],0,0,⟨#[]⟩,none,0,0,none,0,0⟩⟩
def qjR (x:M6):List Value:=[.string (ae x.nm),.int .i64 x.k,.int .i64 x.n,.string x.s,.slice x.A x.l x.c,.slice x.A2 x.m x.c2]
theorem qdG:∀ a:List UInt8,Lib.compareBytes a a=0
 | []=>by simp [Lib.compareBytes]
 | x::r=>by rw [Lib.compareBytes,if_neg (UInt8.lt_irrefl x),if_neg (UInt8.lt_irrefl x)];exact qdG r
theorem qbO:∀ a b:List UInt8,Lib.compareBytes b a = - Lib.compareBytes a b
 | [],[]=>by simp [Lib.compareBytes]
 | [],_::_=>by simp [Lib.compareBytes]
 | _::_,[]=>by simp [Lib.compareBytes]
 | x::r,y::t=>by
  rw [Lib.compareBytes,Lib.compareBytes];by_cases h1:x<y
  ·rw [if_pos h1,if_neg (UInt8.lt_asymm h1),if_pos h1];rfl
  ·by_cases h2:y<x
   ·rw [if_pos h2,if_neg h1,if_pos h2]
   ·rw [if_neg h2,if_neg h1,if_neg h1,if_neg h2];exact qbO r t
theorem qeC:∀ a b:List UInt8,Lib.compareBytes a b=0→a=b
 | [],[],_=>rfl
 | [],_::_,h=>by simp [Lib.compareBytes] at h
 | _::_,[],h=>by simp [Lib.compareBytes] at h
 | x::r,y::t,h=>by
  rw [Lib.compareBytes] at h;by_cases h1:x<y
  ·rw [if_pos h1] at h;exact absurd h (by decide)
  ·rw [if_neg h1] at h;by_cases h2:y<x
   ·rw [if_pos h2] at h;exact absurd h (by decide)
   ·rw [if_neg h2] at h;rw [UInt8.le_antisymm (UInt8.not_lt.1 h2) (UInt8.not_lt.1 h1),qeC r t h]
theorem qbl:∀ a b c:List UInt8,Lib.compareBytes a b<0→Lib.compareBytes b c<0→Lib.compareBytes a c<0
 | [],[],_,h,_=>by simp [Lib.compareBytes] at h
 | [],_::_,[],_,h=>by simp [Lib.compareBytes] at h
 | [],_::_,_::_,_,_=>by simp [Lib.compareBytes]
 | _::_,[],_,h,_=>by simp [Lib.compareBytes] at h
 | _::_,_::_,[],_,h=>by simp [Lib.compareBytes] at h
 | x::r,y::t,z::u,h,h'=>by
  rw [Lib.compareBytes] at h h' ⊢;by_cases h1:x<y
  ·by_cases h2:y<z
   ·rw [if_pos (UInt8.lt_trans h1 h2)];decide
   ·rw [if_neg h2] at h';by_cases h3:z<y
    ·rw [if_pos h3] at h';exact absurd h' (by decide)
    ·have e:=UInt8.le_antisymm (UInt8.not_lt.1 h3) (UInt8.not_lt.1 h2);subst e;rw [if_pos h1];decide
  ·rw [if_neg h1] at h;by_cases h2:y<x
   ·rw [if_pos h2] at h;exact absurd h (by decide)
   ·rw [if_neg h2] at h;have e:=UInt8.le_antisymm (UInt8.not_lt.1 h2) (UInt8.not_lt.1 h1);subst e;by_cases h3:x<z
    ·rw [if_pos h3];decide
    ·rw [if_neg h3] at h' ⊢;by_cases h4:z<x
     ·rw [if_pos h4] at h';exact absurd h' (by decide)
     ·rw [if_neg h4] at h' ⊢;exact qbl r t u h h'
abbrev ltN (a b:List UInt8):Bool:=decide (Lib.compareBytes a b<0)
theorem qej:SWO ltN where
 irrefl x:=by unfold ltN;rw [qdG];rfl
 trans x y z h1 h2:=by
  unfold ltN at *;exact zT (qbl x y z (of_decide_eq_true h1) (of_decide_eq_true h2))
 ntrans x y z h1 h2:=by
  unfold ltN at *;have a:=of_decide_eq_false h1;have b:=of_decide_eq_false h2;refine decide_eq_false fun h=>?_;by_cases c:Lib.compareBytes x y=0
  ·rw [qeC x y c] at h;exact b h
  ·have a':Lib.compareBytes y x<0:=by rw [qbO];omega
   exact b (qbl y x z a' h)
theorem qlC {x y:List UInt8} (h1:ltN x y=false) (h2:ltN y x=false):x=y:=by
 unfold ltN at *;have a:=of_decide_eq_false h1;have b:=of_decide_eq_false h2;rw [qbO] at b;exact qeC x y (by omega)
