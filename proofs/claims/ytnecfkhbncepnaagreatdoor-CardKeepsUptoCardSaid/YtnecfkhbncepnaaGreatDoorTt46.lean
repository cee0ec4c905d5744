/- Merged: CdA. -/
import Derived.Test.YtnecfkhbncepnaaGreatDoorTt28
import Derived.Test.YtnecfkhbncepnaaGreatDoorTt18
import Derived.Test.YtnecfkhbncepnaaGreatDoorTt40
import Derived.Test.YtnecfkhbncepnaaGreatDoorTt19
set_option maxRecDepth 100000
set_option maxHeartbeats 1000000
namespace Go.Proofs.YtnecfkhbncepnaaGreatDoor
namespace Cd
open Go.Proofs Go.RowKit Go.Lib Utf Sc Re Tr
open Wo (Tl)
theorem aO (w:World) (o:Obj):Below w.heap.size w (w.alloc o):=(Below.refl _ _).alloc (Nat.le_refl _) _
def FnS (w:World) (n:FuncId) (caps:Array Value) (p:List UInt8→Bool):Prop:=
 (∀ args w,(callFunc n args).run Tryz.prog w = .ok (.enter n args) w)∧∀ (S:ByteArray) (W:World),S.size≤9223372036854775807→Below w.heap.size w W→Calls Tryz.prog n (#[.string S]++caps) W (Tl (p S.data.toList) W)
theorem qbD (k n:Int) (S:ByteArray) (A A2:Option Addr) (l c m d:Nat) (T:ByteArray) (w:World) :
  Calls Tryz.prog 41 #[.agg #[.int .i64 k,.int .i64 n,.string S,.slice A l c,.slice A2 m d],.string T] w (Tl (decide (k=4)&&(S.toList==T.toList)) w):=by
 by_cases hk:k=4
 ·subst hk;obtain ⟨q,hq⟩:∃ q,(S.toList==T.toList)=q:=⟨_,rfl⟩
  have HQ:=zh (show (decide ((4:Int)=4)&&q)=q by simp);rw [hq];rw [HQ.out];go_enter Tryz.func41,Tryz.ntmps41;go_wp2;go_ret;exact ⟨rfl,aO _ _⟩
 ·have HQ:=zh (show (decide (k=4)&&(S.toList==T.toList))=false by rw [zF hk];rfl);have t1:(k==4)=false:=beq_eq_false_iff_ne.2 hk;rw [HQ.out];go_enter Tryz.func41,Tryz.ntmps41;go_wp2;go_ret;exact ⟨rfl,aO _ _⟩
theorem qmc (S:ByteArray) (w:World):Calls Tryz.prog 78 #[.string S] w (Tl true w):=by
 go_enter Tryz.func78,Tryz.ntmps78;go_wp2;go_ret;exact ⟨rfl,Below.refl _ _⟩
theorem qg1 (S:ByteArray) (w:World):Calls Tryz.prog 79 #[.string S] w (Tl (bU S.data.toList) w):=by
 have hL:S.data.toList.length=S.size:=ac S;by_cases h1:1≤S.size
 ·by_cases h2:S.size≤255
  ·have HQ:=zh (show bU S.data.toList=true by unfold bU;rw [hL];exact decide_eq_true ⟨h1,h2⟩);rw [HQ.out];have t1:decide ((1:Int)≤(S.size:Int))=true:=zT (by omega);have t2:decide ((S.size:Int)≤255)=true:=zT (by omega);have t3:decide (1≤S.size)=true:=zT h1;have t4:decide (S.size≤255)=true:=zT h2;clear hL h1 h2;go_enter Tryz.func79,Tryz.ntmps79;go_wp2;go_ret;exact ⟨rfl,Below.refl _ _⟩
  ·have HQ:=zh (show bU S.data.toList=false by unfold bU;rw [hL];exact decide_eq_false fun h=>h2 h.2);rw [HQ.out];have t1:decide ((1:Int)≤(S.size:Int))=true:=zT (by omega);have t2:decide ((S.size:Int)≤255)=false:=zF (by omega);have t3:decide (1≤S.size)=true:=zT h1;have t4:decide (S.size≤255)=false:=zF h2;clear hL h1 h2;go_enter Tryz.func79,Tryz.ntmps79;go_wp2;go_ret;exact ⟨rfl,Below.refl _ _⟩
 ·have HQ:=zh (show bU S.data.toList=false by unfold bU;rw [hL];exact decide_eq_false fun h=>h1 h.1);rw [HQ.out];have t1:decide ((1:Int)≤(S.size:Int))=false:=zF (by omega);have t3:decide (1≤S.size)=false:=zF h1;clear hL h1;go_enter Tryz.func79,Tryz.ntmps79;go_wp2;go_ret;exact ⟨rfl,Below.refl _ _⟩
theorem qjq (k n:Int) (S:ByteArray) (A A2:Option Addr) (l c m d:Nat) (w:World) :
  Calls Tryz.prog 89 #[.agg #[.int .i64 k,.int .i64 n,.string S,.slice A l c,.slice A2 m d]] w (Tl (decide (k=2∧n=1)) w):=by
 by_cases hk:k=2
 ·subst hk;by_cases hn:n=1
  ·subst hn;rw [zT (show (2:Int)=2∧(1:Int)=1 from ⟨rfl,rfl⟩)];go_enter Tryz.func89,Tryz.ntmps89;go_wp2;go_ret;exact ⟨rfl,aO _ _⟩
  ·rw [zF (show ¬((2:Int)=2∧n=1) from fun h=>hn h.2)];have t1:(n==1)=false:=beq_eq_false_iff_ne.2 hn;go_enter Tryz.func89,Tryz.ntmps89;go_wp2;go_ret;exact ⟨rfl,aO _ _⟩
 ·rw [zF (show ¬(k=2∧n=1) from fun h=>hk h.1)];have t1:(k==2)=false:=beq_eq_false_iff_ne.2 hk;go_enter Tryz.func89,Tryz.ntmps89;go_wp2;go_ret;exact ⟨rfl,aO _ _⟩
theorem bO {w:World} {f:FuncId} {caps:Array Value} {p:List UInt8→Bool} (hf:FnS w f caps p) (k n:Int) (S:ByteArray) (A A2:Option Addr) (l c m d:Nat) (hS:S.size≤9223372036854775807) (W:World) (hW:Below w.heap.size w W) :
  Calls Tryz.prog 77 #[.agg #[.int .i64 k,.int .i64 n,.string S,.slice A l c,.slice A2 m d],.func (.func f) #[] caps] W (Tl (decide (k=4∧S.size≤1024)&&p S.data.toList) W):=by
 have en:=hf.1;have HC:=zh (fun (U:World) (hU:Below W.heap.size W U)=>hf.2 S U hS (hW.trans (hU.mono hW.size)));clear hf hW;by_cases hk:k=4
 ·subst hk;by_cases hs:S.size≤1024
  ·rw [zT (show (4:Int)=4∧S.size≤1024 from ⟨rfl,hs⟩),Bool.true_and];have t1:decide ((S.size:Int)≤1024)=true:=zT (by omega);have t2:decide (S.size≤1024)=true:=zT hs;generalize p S.data.toList=q at *;clear hs hS;go_enter Tryz.func77,Tryz.ntmps77;go_wp2_with fail;refine (HC.out _ (aO _ _)).mono ?_;rintro e w1 ⟨rfl,hb⟩;go_wp2;go_ret;exact ⟨rfl,(aO _ _).trans (hb.mono (by simp))⟩
  ·rw [zF (show ¬((4:Int)=4∧S.size≤1024) from fun h=>hs h.2),Bool.false_and];have t1:decide ((S.size:Int)≤1024)=false:=zF (by omega);have t2:decide (S.size≤1024)=false:=zF hs;clear hs hS;go_enter Tryz.func77,Tryz.ntmps77;go_wp2;go_ret;exact ⟨rfl,aO _ _⟩
 ·rw [zF (show ¬(k=4∧S.size≤1024) from fun h=>hk h.1),Bool.false_and];have t1:(k==4)=false:=beq_eq_false_iff_ne.2 hk;clear hS;go_enter Tryz.func77,Tryz.ntmps77;go_wp2;go_ret;exact ⟨rfl,aO _ _⟩
