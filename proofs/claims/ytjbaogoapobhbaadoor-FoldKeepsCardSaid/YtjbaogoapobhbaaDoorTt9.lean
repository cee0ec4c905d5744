/- Merged: StS. -/
import Derived.Test.YtjbaogoapobhbaaDoorTt0
import Derived.Deep.QuietTactic
import Derived.BigQuiet
import Derived.WalkLawsBesides
import Derived.WalkSpells
import Derived.IntWalk
import Derived.Deep.DeepCutAuto
import Derived.Deep.RegionWith
import Derived.Laws.Concat
import Derived.Test.YtjbaogoapobhbaaDoorProg
import Derived.Test.YtjbaogoapobhbaaDoorTt1
import Derived.Lib.ConvBytes
import Derived.Lib.Bytealg
namespace Go.Proofs.YtjbaogoapobhbaaDoor.St
open Go.RowKit
open Go.Proofs.YtjbaogoapobhbaaDoor.Utf
open Go.Proofs.YtjbaogoapobhbaaDoor.Nu

def pfxL (p l : List UInt8) : Bool := decide (p.length ≤ l.length) && (l.take p.length == p)
theorem exT (s : ByteArray) (n : Nat) : (s.extract 0 n).data.toList = s.data.toList.take n := by
  rw [ByteArray.data_extract]; simp
theorem pfx_1 (c : UInt8) (l : List UInt8) : pfxL [c] l = decide (0 < l.length ∧ byt l 0 = (c.toNat : Int)) := by
  unfold pfxL
  cases l with
  | nil => rfl
  | cons a r =>
    have h1 : decide ([c].length ≤ (a :: r).length) = true := decide_eq_true (by simp)
    have h2 : (a :: r).take [c].length = [a] := rfl
    rw [h1, h2, Bool.true_and, Bool.eq_iff_iff, beq_iff_eq, decide_eq_true_eq, byt_cons_0]
    constructor
    · intro h
      obtain rfl := (List.cons.inj h).1
      exact ⟨by simp, rfl⟩
    · rintro ⟨_, h⟩
      rw [UInt8.toNat.inj (show a.toNat = c.toNat by omega)]
set_option maxRecDepth 100000 in
set_option maxHeartbeats 1000000 in
theorem hasPre_any (s p : ByteArray) (w : World) :
    Calls Tryd.prog 59 #[.string s, .string p] w fun e w' => e = .returned (.bool (pfxL p.data.toList s.data.toList)) ∧ w = w' := by
  unfold pfxL
  rw [len_data, len_data]
  by_cases h : p.size ≤ s.size
  · have t1 : decide ((p.size : Int) ≤ (s.size : Int)) = true := decide_eq_true (by omega)
    have t2 : decide (p.size ≤ s.size) = true := decide_eq_true h
    have k0 : (0 : Int) ≤ (p.size : Int) := by omega
    have k1 : (p.size : Int) ≤ (s.size : Int) := by omega
    go_enter Tryd.func59, Tryd.ntmps59
    go_wp2
    go_ret
    refine ⟨?_, rfl⟩
    rw [t2, Bool.true_and]
    refine ret_bool ?_
    rw [ByteArray.toList_eq, ByteArray.toList_eq, exT]
  · have t1 : decide ((p.size : Int) ≤ (s.size : Int)) = false := decide_eq_false (by omega)
    have t2 : decide (p.size ≤ s.size) = false := decide_eq_false h
    go_enter Tryd.func59, Tryd.ntmps59
    go_wp2
    go_ret
    refine ⟨?_, rfl⟩
    rw [t2, Bool.false_and]
    rfl

set_option maxRecDepth 100000 in
set_option maxHeartbeats 1000000 in
theorem cutPre0_any (s p : ByteArray) (w : World) :
    Calls Tryd.prog 50 #[.string s, .string p] w fun e w' => e = .returned (.tuple #[.string (if pfxL p.data.toList s.data.toList = true then s.extract p.size s.size else s), .bool (pfxL p.data.toList s.data.toList)]) ∧ w = w' := by
  have HH := Lib.hid (fun (W : World) => hasPre_any s p W)
  have HP := Lib.hid (show pfxL p.data.toList s.data.toList = true → p.size ≤ s.size from fun h => by
    have := (Bool.and_eq_true_iff.1 h).1
    rw [len_data, len_data] at this; exact of_decide_eq_true this)
  generalize pfxL p.data.toList s.data.toList = b at *
  cases b with
  | false =>
    go_enter Tryd.func50, Tryd.ntmps50
    go_wp2_with fail
    refine (HH.out _).mono ?_
    rintro e w1 ⟨rfl, rfl⟩
    go_wp2
    go_ret2
    exact ⟨rfl, rfl⟩
  | true =>
    have h := HP.out rfl
    have k0 : (0 : Int) ≤ (p.size : Int) := by omega
    have k1 : (p.size : Int) ≤ (s.size : Int) := by omega
    clear h
    go_enter Tryd.func50, Tryd.ntmps50
    go_wp2_with fail
    refine (HH.out _).mono ?_
    rintro e w1 ⟨rfl, rfl⟩
    go_wp2
    go_ret2
    exact ⟨rfl, rfl⟩

set_option maxRecDepth 100000 in
set_option maxHeartbeats 1000000 in
theorem cutPre_any (s p : ByteArray) (w : World) :
    Calls Tryd.prog 39 #[.string s, .string p] w fun e w' => e = .returned (.tuple #[.string (if pfxL p.data.toList s.data.toList = true then s.extract p.size s.size else s), .bool (pfxL p.data.toList s.data.toList)]) ∧ w = w' := by
  have HH := Lib.hid (fun (W : World) => cutPre0_any s p W)
  generalize (if pfxL p.data.toList s.data.toList = true then s.extract p.size s.size else s) = X at *
  generalize pfxL p.data.toList s.data.toList = b at *
  go_enter Tryd.func39, Tryd.ntmps39
  go_wp2_with fail
  refine (HH.out _).mono ?_
  rintro e w1 ⟨rfl, rfl⟩
  go_wp2
  go_ret2
  exact ⟨rfl, rfl⟩

end Go.Proofs.YtjbaogoapobhbaaDoor.St
