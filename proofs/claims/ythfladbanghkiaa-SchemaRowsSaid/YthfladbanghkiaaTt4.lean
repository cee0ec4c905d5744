/- Merged: WoA WoB WoD WoE. -/
import Derived.Test.YthfladbanghkiaaProg
import Derived.Test.YthfladbanghkiaaTt0
import Derived.Test.YthfladbanghkiaaTt1
import Derived.WalkKit
import Derived.Deep.QuietTactic
import Derived.BigQuiet
import Derived.WalkLawsBesides
import Derived.WalkSpells
import Derived.Lib.Hide
import Derived.IntWalk
import Derived.Shelf.Abstract
import Derived.Deep.LoopGhost
namespace Go.Proofs.Ythfladbanghkiaa.Wo
open Go.Proofs Go.RowKit
open Go.Proofs.Ythfladbanghkiaa.Utf
open Go.Proofs.Ythfladbanghkiaa.Nu

set_option maxRecDepth 100000 in
set_option maxHeartbeats 1000000 in
theorem litIdx_any (s : ByteArray) (c : Int) (w : World) : Calls Try.prog 57 #[.string s, .int .u8 c] w fun e w' => e = .returned (.int .i64 (Lib.indexByte s.data.toList c.toNat.toUInt8)) ∧ w = w' := by
  go_enter Try.func57, Try.ntmps57
  go_wp2
  rw [run_callFunc_extern Try.func62 (by kernel_rfl) (by kernel_rfl) (by kernel_rfl) (e := Extern.BytealgIndexByte.indexByte) (by kernel_rfl), Lib.run_indexByteString]
  simp only [Result.andThen]
  rw [Oper.upon_value]
  go_wp2
  go_ret
  exact ⟨rfl, rfl⟩
set_option maxRecDepth 100000 in
set_option maxHeartbeats 1000000 in
theorem litIndex_any (s : ByteArray) (c : UInt8) (w : World) : Calls Try.prog 51 #[.string s, .string ⟨#[c]⟩] w fun e w' => e = .returned (.int .i64 (Lib.indexByte s.data.toList c)) ∧ w = w' := by
  have hcc : ((c.toNat : Int)).toNat.toUInt8 = c := by simp
  have HC := Lib.hid (fun W => hcc ▸ litIdx_any s (c.toNat : Int) W)
  clear hcc
  by_cases hs : ([c] == s.toList) = true
  · have he : s.data.toList = [c] := by rw [← ByteArray.toList_eq]; exact (beq_iff_eq.1 hs).symm
    have HE := Lib.hid he
    clear he
    go_enter Try.func51, Try.ntmps51
    go_wp2_with fail
    go_ret
    exact ⟨by rw [HE.out]; simp [Lib.indexByte], rfl⟩
  · have hs' : ([c] == s.toList) = false := by simpa using hs
    clear hs
    go_enter Try.func51, Try.ntmps51
    go_wp2_with (go_at_call 57; refine (HC.out _).mono ?_; rintro e w' ⟨rfl, rfl⟩)
    go_ret
    exact ⟨rfl, rfl⟩
end Go.Proofs.Ythfladbanghkiaa.Wo
namespace Go.Proofs.Ythfladbanghkiaa.Wo
open Go.Proofs Go.RowKit
open Go.Proofs.Ythfladbanghkiaa.Utf
open Go.Proofs.Ythfladbanghkiaa.Nu

theorem drwN {B : Nat} {a w : World} (h : Below B a w) (n : Nat) : Below B a (w.drewN n) := ⟨h.os, h.tape, h.output, h.size, h.block⟩
theorem ext_take (s : ByteArray) (n : Nat) : s.extract 0 n = strOf (s.data.toList.take n) := by
  apply ByteArray.ext
  rw [ByteArray.data_extract]
  apply Array.toList_inj.1
  simp [strOf]
theorem ext_drop (s : ByteArray) (n : Nat) : s.extract n s.size = strOf (s.data.toList.drop n) := by
  apply ByteArray.ext
  rw [ByteArray.data_extract]
  apply Array.toList_inj.1
  simp only [Array.toList_extract, List.extract, strOf]
  exact List.take_of_length_le (by rw [List.length_drop, len_data]; exact Nat.le_refl _)

set_option maxRecDepth 100000 in
set_option maxHeartbeats 1000000 in
theorem litCut_q (s : ByteArray) (c : UInt8) (w : World) (hs : s.size ≤ 9223372036854775807) : Calls Try.prog 38 #[.string s, .string ⟨#[c]⟩] w fun e w' =>
    e = .returned (.tuple #[.string (strOf (hdP c s.data.toList)), .string (strOf (tlP c s.data.toList)), .bool (decide (c ∈ s.data.toList))]) ∧ ∃ m, w' = w.drewN m := by
  have HC := Lib.hid (fun W => litIndex_any s c W)
  rcases idx_cases c s.data.toList with ⟨h1, h2⟩ | ⟨i, h1, h2, h3, h4, h5⟩
  · rw [h1] at HC
    rw [hd_all h2, tl_all h2, decide_eq_false h2]
    clear h1 h2
    go_enter Try.func38, Try.ntmps38
    go_wp2_with (go_at_call 51; refine (HC.out _).mono ?_; rintro e w' ⟨rfl, rfl⟩)
    go_ret3
    exact ⟨by rfl, 0, rfl⟩
  · rw [h1] at HC
    rw [len_data] at h3
    have HH := Lib.hid (ext_take s i)
    have HT := Lib.hid (ext_drop s (i + 1))
    rw [h4, h5, decide_eq_true h2]
    have k0 : (0 : Int) ≤ (i : Int) := by omega
    have k1 : (i : Int) ≤ (s.size : Int) := by omega
    have k2 : ((i : Int)).toNat = i := by omega
    have k3 : (0 : Int) ≤ (i : Int) + 1 := by omega
    have k4 : (i : Int) + 1 ≤ (s.size : Int) := by omega
    have k5 : ((i : Int) + 1).toNat = i + 1 := by omega
    have t1 : decide ((i : Int) ≥ 0) = true := decide_eq_true k0
    clear h1 h2 h4 h5
    go_enter Try.func38, Try.ntmps38
    go_wp2_with (first | (go_at_call 51; refine (HC.out _).mono ?_; rintro e w' ⟨rfl, rfl⟩) | (go_quiet (fail)))
    go_ret3
    exact ⟨by rw [HH.out, HT.out]; rfl, _, rfl⟩
set_option maxRecDepth 100000 in
set_option maxHeartbeats 1000000 in
theorem Cut_q (s : ByteArray) (c : UInt8) (w : World) (hs : s.size ≤ 9223372036854775807) : Calls Try.prog 23 #[.string s, .string ⟨#[c]⟩] w fun e w' =>
    e = .returned (.tuple #[.string (strOf (hdP c s.data.toList)), .string (strOf (tlP c s.data.toList)), .bool (decide (c ∈ s.data.toList))]) ∧ ∃ m, w' = w.drewN m := by
  have HC := Lib.hid (fun W => litCut_q s c W hs)
  generalize decide (c ∈ s.data.toList) = f at *
  generalize strOf (hdP c s.data.toList) = A at *
  generalize strOf (tlP c s.data.toList) = B at *
  go_enter Try.func23, Try.ntmps23
  go_wp2_with fail
  refine (HC.out _).mono ?_
  rintro e w1 ⟨rfl, m, rfl⟩
  go_wp2_with fail
  go_ret3
  exact ⟨by rfl, m, rfl⟩
theorem Cut_any (s : ByteArray) (c : UInt8) (w : World) (hs : s.size ≤ 9223372036854775807) : Calls Try.prog 23 #[.string s, .string ⟨#[c]⟩] w fun e w' =>
    e = .returned (.tuple #[.string (strOf (hdP c s.data.toList)), .string (strOf (tlP c s.data.toList)), .bool (decide (c ∈ s.data.toList))]) ∧ Below w.heap.size w w' :=
  (Cut_q s c w hs).mono fun e w' ⟨h1, m, h2⟩ => ⟨h1, by rw [h2]; exact drwN (Below.refl _ _) _⟩

end Go.Proofs.Ythfladbanghkiaa.Wo
namespace Go.Proofs.Ythfladbanghkiaa.Wo
open Go.Proofs Go.RowKit
open Go.Proofs.Ythfladbanghkiaa.Utf
open Go.Proofs.Ythfladbanghkiaa.Nu

def Tl (x : Bool) (w : World) (e : Ending) (w' : World) : Prop := e = .returned (.bool x) ∧ Below w.heap.size w w'

end Go.Proofs.Ythfladbanghkiaa.Wo
namespace Go.Proofs.Ythfladbanghkiaa.Wo
open Go.Proofs Go.RowKit
open Go.Proofs.Ythfladbanghkiaa.Utf
open Go.Proofs.Ythfladbanghkiaa.Nu

def szOf : Value → Nat | .string s => s.size | _ => 0
def one1 : Value → Nat | .bool true => 1 | _ => 0
theorem tl_less (c : UInt8) (l : List UInt8) : (tlP c l).length + one1 (.bool (decide (c ∈ l))) < l.length + 1 := by
  by_cases hm : c ∈ l
  · have := cut_len hm
    rw [decide_eq_true hm]
    show _ + 1 < _
    omega
  · rw [tl_all hm, decide_eq_false hm]
    show 0 + 0 < _
    omega

set_option maxRecDepth 100000 in
set_option maxHeartbeats 1000000 in
theorem In_any (s t : ByteArray) (w : World) (hs : s.size ≤ 9223372036854775807) : Calls Try.prog 15 #[.string s, .string t] w (Tl (inS s.data.toList t.data.toList) w) := by
  obtain ⟨L, hL⟩ : ∃ L, s.data.toList = L := ⟨_, rfl⟩
  have HN := Lib.hid (show L.length ≤ 9223372036854775807 by rw [← hL, len_data]; exact hs)
  obtain rfl : s = strOf L := by rw [← hL]; rfl
  clear hL hs
  rw [strOf_data]
  unfold Tl
  by_cases h0 : t.data.toList = []
  · have HE := Lib.hid (show inS L t.data.toList = false by rw [h0]; rfl)
    have t0 : (t.toList == []) = true := by rw [ByteArray.toList_eq, h0]; rfl
    have t1 : t.toList = [] := by rw [ByteArray.toList_eq, h0]
    clear h0
    rw [HE.out]
    go_enter Try.func15, Try.ntmps15
    go_wp2_with fail
    go_ret
    exact ⟨rfl, Below.refl _ _⟩
  · have t0 : (t.toList == []) = false := by rw [ByteArray.toList_eq, beq_eq_false_iff_ne]; exact h0
    have t1 : ¬ t.toList = [] := by rw [ByteArray.toList_eq]; exact h0
    have H0 := Lib.hid h0
    clear h0
    obtain ⟨tl, htl⟩ : ∃ tl, t.data.toList = tl := ⟨_, rfl⟩
    rw [htl] at H0 ⊢
    have HTT := Lib.hid (show t.toList = tl by rw [ByteArray.toList_eq]; exact htl)
    clear htl
    go_enter Try.func15, Try.ntmps15
    go_wp2_with fail
    clear t0 t1
    go_loopw [0, 5] (fun sv mv wr => ∃ (r : List UInt8) (more : Bool), sv = .string (strOf r) ∧ mv = .bool more ∧ r.length ≤ L.length ∧ Aside ((more = true ∧ inS L tl = inS r tl) ∨ (more = false ∧ inS L tl = false)) ∧ Aside (Below w.heap.size w wr)) (fun sv mv _ => szOf sv + one1 mv)
    case atStart => exact ⟨L, true, rfl, rfl, Nat.le_refl _, (show _ ∨ _ from .inl ⟨rfl, rfl⟩), (show Below _ _ _ from Below.refl _ _)⟩
    case round =>
      obtain ⟨r, more, rfl, rfl, hr, hst, hbel⟩ := hrel
      have HST := Lib.hid hst.out
      have HBE := Lib.hid hbel.out
      clear hst hbel
      cases more with
      | false =>
        have HE := Lib.hid (show inS L tl = false by
          rcases HST.out with ⟨h, _⟩ | ⟨_, h⟩
          · cases h
          · exact h)
        go_wp2_with fail
        go_ret
        exact ⟨by rw [HE.out]; rfl, HBE.out⟩
      | true =>
        have HE := Lib.hid (show inS L tl = inS r tl by
          rcases HST.out with ⟨_, h⟩ | ⟨h, _⟩
          · exact h
          · cases h)
        have hrs : (strOf r).size ≤ 9223372036854775807 := by have := HN.out; rw [strOf_size]; omega
        have HTL := Lib.hid (tl_le 32 r)
        have HLS := Lib.hid (tl_less 32 r)
        have HC := Lib.hid (fun W => Cut_any (strOf r) 32 W hrs)
        rw [strOf_data] at HC
        by_cases c1 : hdP 32 r = tl
        · have t2 : ((strOf (hdP 32 r)).toList == t.toList) = true := by rw [strOf_list, HTT.out, c1]; simp
          have t3 : (strOf (hdP 32 r)).toList = t.toList := by rw [strOf_list, HTT.out, c1]
          have HY := Lib.hid (show inS L tl = true by
            rw [HE.out]
            by_cases hm : (32 : UInt8) ∈ r
            · rw [in_cut H0.out hm, decide_eq_true c1]; rfl
            · rw [in_no H0.out hm, decide_eq_true c1])
          generalize strOf (hdP 32 r) = A at *
          generalize strOf (tlP 32 r) = B at *
          generalize decide ((32 : UInt8) ∈ r) = f at *
          clear c1 hrs
          go_wp2_with fail
          refine (HC.out _).mono ?_
          rintro e w1 ⟨rfl, hb⟩
          have HBE2 := Lib.hid (HBE.out.trans (hb.mono HBE.out.size))
          clear hb
          go_wp2_with fail
          go_ret
          exact ⟨by rw [HY.out]; rfl, HBE2.out⟩
        · have t2 : ((strOf (hdP 32 r)).toList == t.toList) = false := by rw [strOf_list, HTT.out]; exact beq_eq_false_iff_ne.2 c1
          have t3 : ¬ (strOf (hdP 32 r)).toList = t.toList := by rw [strOf_list, HTT.out]; exact c1
          have HY := Lib.hid (show (decide ((32 : UInt8) ∈ r) = true ∧ inS L tl = inS (tlP 32 r) tl) ∨ (decide ((32 : UInt8) ∈ r) = false ∧ inS L tl = false) by
            rw [HE.out]
            by_cases hm : (32 : UInt8) ∈ r
            · exact .inl ⟨decide_eq_true hm, by rw [in_cut H0.out hm, decide_eq_false c1]; rfl⟩
            · exact .inr ⟨decide_eq_false hm, by rw [in_no H0.out hm, decide_eq_false c1]⟩)
          generalize strOf (hdP 32 r) = A at *
          obtain ⟨B, hB⟩ : ∃ B, strOf (tlP 32 r) = B := ⟨_, rfl⟩
          rw [hB] at HC
          have HB := Lib.hid hB
          clear hB
          generalize decide ((32 : UInt8) ∈ r) = f at *
          clear c1 hrs
          go_wp2_with fail
          refine (HC.out _).mono ?_
          rintro e w1 ⟨rfl, hb⟩
          have HBE2 := Lib.hid (HBE.out.trans (hb.mono HBE.out.size))
          clear hb
          go_wp2_with fail
          go_roundw
          case rel => exact ⟨tlP 32 r, f, by rw [HB.out], rfl, by have := HTL.out; omega, (show _ ∨ _ from HY.out), HBE2.out⟩
          case measure =>
            show B.size + one1 (.bool f) < (strOf r).size + 1
            have := HLS.out
            rw [← HB.out, strOf_size, strOf_size]; exact this
end Go.Proofs.Ythfladbanghkiaa.Wo
