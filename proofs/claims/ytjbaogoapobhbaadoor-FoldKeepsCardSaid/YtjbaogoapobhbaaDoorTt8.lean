/- Merged: WoA WoB WoD. -/
import Derived.Test.YtjbaogoapobhbaaDoorProg
import Derived.Test.YtjbaogoapobhbaaDoorTt0
import Derived.Test.YtjbaogoapobhbaaDoorTt1
import Derived.WalkKit
import Derived.Deep.QuietTactic
import Derived.BigQuiet
import Derived.WalkLawsBesides
import Derived.WalkSpells
import Derived.Lib.Hide
import Derived.IntWalk
import Derived.Shelf.Abstract
import Derived.Deep.LoopGhost
namespace Go.Proofs.YtjbaogoapobhbaaDoor.Wo
open Go.Proofs Go.RowKit
open Go.Proofs.YtjbaogoapobhbaaDoor.Utf
open Go.Proofs.YtjbaogoapobhbaaDoor.Nu

set_option maxRecDepth 100000 in
set_option maxHeartbeats 1000000 in
theorem litIdx_any (s : ByteArray) (c : Int) (w : World) : Calls Tryd.prog 42 #[.string s, .int .u8 c] w fun e w' => e = .returned (.int .i64 (Lib.indexByte s.data.toList c.toNat.toUInt8)) ∧ w = w' := by
  go_enter Tryd.func42, Tryd.ntmps42
  go_wp2
  rw [run_callFunc_extern Tryd.func55 (by kernel_rfl) (by kernel_rfl) (by kernel_rfl) (e := Extern.BytealgIndexByte.indexByte) (by kernel_rfl), Lib.run_indexByteString]
  simp only [Result.andThen]
  rw [Oper.upon_value]
  go_wp2
  go_ret
  exact ⟨rfl, rfl⟩
set_option maxRecDepth 100000 in
set_option maxHeartbeats 1000000 in
theorem litIndex_any (s : ByteArray) (c : UInt8) (w : World) : Calls Tryd.prog 37 #[.string s, .string ⟨#[c]⟩] w fun e w' => e = .returned (.int .i64 (Lib.indexByte s.data.toList c)) ∧ w = w' := by
  have hcc : ((c.toNat : Int)).toNat.toUInt8 = c := by simp
  have HC := Lib.hid (fun W => hcc ▸ litIdx_any s (c.toNat : Int) W)
  clear hcc
  by_cases hs : ([c] == s.toList) = true
  · have he : s.data.toList = [c] := by rw [← ByteArray.toList_eq]; exact (beq_iff_eq.1 hs).symm
    have HE := Lib.hid he
    clear he
    go_enter Tryd.func37, Tryd.ntmps37
    go_wp2_with fail
    go_ret
    exact ⟨by rw [HE.out]; simp [Lib.indexByte], rfl⟩
  · have hs' : ([c] == s.toList) = false := by simpa using hs
    clear hs
    go_enter Tryd.func37, Tryd.ntmps37
    go_wp2_with (go_at_call 42; refine (HC.out _).mono ?_; rintro e w' ⟨rfl, rfl⟩)
    go_ret
    exact ⟨rfl, rfl⟩
end Go.Proofs.YtjbaogoapobhbaaDoor.Wo
namespace Go.Proofs.YtjbaogoapobhbaaDoor.Wo
open Go.Proofs Go.RowKit
open Go.Proofs.YtjbaogoapobhbaaDoor.Utf
open Go.Proofs.YtjbaogoapobhbaaDoor.Nu

theorem drwN {B : Nat} {a w : World} (h : Below B a w) (n : Nat) : Below B a (w.drewN n) := ⟨h.os, h.tape, h.output, h.size, h.block⟩
theorem ext_take (s : ByteArray) (n : Nat) : s.extract 0 n = strOf (s.data.toList.take n) := by
  apply ByteArray.ext
  rw [ByteArray.data_extract]
  apply Array.toList_inj.1
  simp [strOf]
theorem ext_drop (s : ByteArray) (n : Nat) : s.extract n s.size = strOf (s.data.toList.drop n) := by
  apply ByteArray.ext
  rw [ByteArray.data_extract]
  apply Array.toList_inj.1
  simp only [Array.toList_extract, List.extract, strOf]
  exact List.take_of_length_le (by rw [List.length_drop, len_data]; exact Nat.le_refl _)

set_option maxRecDepth 100000 in
set_option maxHeartbeats 1000000 in
theorem litCut_q (s : ByteArray) (c : UInt8) (w : World) (hs : s.size ≤ 9223372036854775807) : Calls Tryd.prog 51 #[.string s, .string ⟨#[c]⟩] w fun e w' =>
    e = .returned (.tuple #[.string (strOf (hdP c s.data.toList)), .string (strOf (tlP c s.data.toList)), .bool (decide (c ∈ s.data.toList))]) ∧ ∃ m, w' = w.drewN m := by
  have HC := Lib.hid (fun W => litIndex_any s c W)
  rcases idx_cases c s.data.toList with ⟨h1, h2⟩ | ⟨i, h1, h2, h3, h4, h5⟩
  · rw [h1] at HC
    rw [hd_all h2, tl_all h2, decide_eq_false h2]
    clear h1 h2
    go_enter Tryd.func51, Tryd.ntmps51
    go_wp2_with (go_at_call 37; refine (HC.out _).mono ?_; rintro e w' ⟨rfl, rfl⟩)
    go_ret3
    exact ⟨by rfl, 0, rfl⟩
  · rw [h1] at HC
    rw [len_data] at h3
    have HH := Lib.hid (ext_take s i)
    have HT := Lib.hid (ext_drop s (i + 1))
    rw [h4, h5, decide_eq_true h2]
    have k0 : (0 : Int) ≤ (i : Int) := by omega
    have k1 : (i : Int) ≤ (s.size : Int) := by omega
    have k2 : ((i : Int)).toNat = i := by omega
    have k3 : (0 : Int) ≤ (i : Int) + 1 := by omega
    have k4 : (i : Int) + 1 ≤ (s.size : Int) := by omega
    have k5 : ((i : Int) + 1).toNat = i + 1 := by omega
    have t1 : decide ((i : Int) ≥ 0) = true := decide_eq_true k0
    clear h1 h2 h4 h5
    go_enter Tryd.func51, Tryd.ntmps51
    go_wp2_with (first | (go_at_call 37; refine (HC.out _).mono ?_; rintro e w' ⟨rfl, rfl⟩) | (go_quiet (fail)))
    go_ret3
    exact ⟨by rw [HH.out, HT.out]; rfl, _, rfl⟩
set_option maxRecDepth 100000 in
set_option maxHeartbeats 1000000 in
theorem Cut_q (s : ByteArray) (c : UInt8) (w : World) (hs : s.size ≤ 9223372036854775807) : Calls Tryd.prog 40 #[.string s, .string ⟨#[c]⟩] w fun e w' =>
    e = .returned (.tuple #[.string (strOf (hdP c s.data.toList)), .string (strOf (tlP c s.data.toList)), .bool (decide (c ∈ s.data.toList))]) ∧ ∃ m, w' = w.drewN m := by
  have HC := Lib.hid (fun W => litCut_q s c W hs)
  generalize decide (c ∈ s.data.toList) = f at *
  generalize strOf (hdP c s.data.toList) = A at *
  generalize strOf (tlP c s.data.toList) = B at *
  go_enter Tryd.func40, Tryd.ntmps40
  go_wp2_with fail
  refine (HC.out _).mono ?_
  rintro e w1 ⟨rfl, m, rfl⟩
  go_wp2_with fail
  go_ret3
  exact ⟨by rfl, m, rfl⟩
theorem Cut_any (s : ByteArray) (c : UInt8) (w : World) (hs : s.size ≤ 9223372036854775807) : Calls Tryd.prog 40 #[.string s, .string ⟨#[c]⟩] w fun e w' =>
    e = .returned (.tuple #[.string (strOf (hdP c s.data.toList)), .string (strOf (tlP c s.data.toList)), .bool (decide (c ∈ s.data.toList))]) ∧ Below w.heap.size w w' :=
  (Cut_q s c w hs).mono fun e w' ⟨h1, m, h2⟩ => ⟨h1, by rw [h2]; exact drwN (Below.refl _ _) _⟩

end Go.Proofs.YtjbaogoapobhbaaDoor.Wo
namespace Go.Proofs.YtjbaogoapobhbaaDoor.Wo
open Go.Proofs Go.RowKit
open Go.Proofs.YtjbaogoapobhbaaDoor.Utf
open Go.Proofs.YtjbaogoapobhbaaDoor.Nu

def Tl (x : Bool) (w : World) (e : Ending) (w' : World) : Prop := e = .returned (.bool x) ∧ Below w.heap.size w w'

end Go.Proofs.YtjbaogoapobhbaaDoor.Wo
