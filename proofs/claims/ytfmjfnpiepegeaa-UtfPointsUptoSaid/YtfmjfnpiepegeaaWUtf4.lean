import Derived.Test.YtfmjfnpiepegeaaUtfG
import Derived.IntWalk
/- The walk of the law UtfPoints. -/
namespace Go.Proofs.Ytfmjfnpiepegeaa.Utf
open Go.RowKit

set_option maxHeartbeats 1000000 in
theorem points_walk (s : ByteArray) (w : World) (hs : s.size ≤ 1048576) :
    Calls Try.prog 5 #[.string s] w fun e w' => e = .returned (.bool true) ∧ Below w.heap.size w w' := by
  have hs1 : s.size < 17592186044416 := by omega
  have hs' : s.size ≤ maxLen := by unfold maxLen; omega
  have c1 := Points_any s
  have c2 := rPoints_any s
  have c3 := Bad_any s
  have hall := ptsL_all s.data.toList
  have hle := ptsL_le s.data.toList
  have hnum := ptsL_num s.data.toList
  rw [len_data] at hle
  generalize (ptsL s.data.toList).1 = ps at *
  generalize (ptsL s.data.toList).2 = m at *
  have C1 := Lib.hid c1; clear c1
  have C2 := Lib.hid c2; clear c2
  have C3 := Lib.hid c3; clear c3
  have HALL := Lib.hid hall; clear hall
  go_enter Try.func5, Try.ntmps5
  go_wp2_with fail
  refine (C1.out w hs1).mono ?_
  rintro e w1 ⟨v1, rfl, hown1, hb1⟩
  go_wp2_with fail
  refine (C2.out w1 hs1).mono ?_
  rintro e w2 ⟨v2, rfl, hown2, hb2⟩
  go_wp2_with fail
  refine (awake_any w2).mono ?_
  rintro e w3 ⟨rfl, hb3⟩
  have r1 := (((Rd.of_own hown1).below hb2).below' hb3 hb2.size)
  have r2 := (Rd.of_own hown2).below hb3
  clear hown1 hown2
  have B3 : Below w.heap.size w w3 := hb1.trans ((hb2.mono hb1.size).trans (hb3.mono (Nat.le_trans hb1.size hb2.size)))
  have R1 : Rd w3 w3.heap.size v1 (ps.map (Value.int .i32)) := r1.more (Nat.le_trans hb2.size hb3.size)
  have R2 : Rd w3 w3.heap.size v2 (ps.map (Value.int .i64)) := r2.more hb3.size
  clear r1 r2 hb1 hb2 hb3
  obtain ⟨A1, n1, rfl, hc1⟩ := R1
  obtain ⟨A2, n2, rfl, hc2⟩ := R2
  rw [List.length_map] at hc1 hc2 ⊢
  have HC1 := Lib.hid hc1; clear hc1
  have HC2 := Lib.hid hc2; clear hc2
  go_wp2_with fail
  refine (C3.out w3 hs').mono ?_
  rintro e w' ⟨rfl, rfl⟩
  go_wp2_with fail
  go_loopw [7] (fun i wr => ∃ k : Nat, k ≤ ps.length ∧ i = .int .i64 k ∧ Below w3.heap.size w3 wr) (fun i _ => ps.length - (intOf i).toNat)
  case atStart => exact ⟨0, by omega, rfl, Below.refl _ _⟩
  case round =>
    obtain ⟨k, hk, rfl, hbel⟩ := hrel
    by_cases hlt : k < ps.length
    · obtain ⟨a1, rfl, hblk1, hx1⟩ := HC1.out (by omega)
      obtain ⟨a2, rfl, hblk2, hx2⟩ := HC2.out (by omega)
      have hck1 : wr.cell? (a1.add k) = some (.int .i32 ps[k]) := (hbel.cell (by rw [blk_add]; exact hblk1)).trans (hx1 k _ (by simp [List.getElem?_eq_getElem hlt]))
      have hck2 : wr.cell? (a2.add k) = some (.int .i64 ps[k]) := (hbel.cell (by rw [blk_add]; exact hblk2)).trans (hx2 k _ (by simp [List.getElem?_eq_getElem hlt]))
      clear hx1 hx2
      have hp := HALL.out ps[k] (List.getElem_mem hlt)
      have p0 := isPt_lo hp
      have p1 := isPt_hi hp
      clear hp
      generalize ps[k] = x at *
      have e1 : IntKind.i64.wrap x = x := IntWalk.i64_in _ (by omega)
      have hi1 : (k : Int) < (ps.length : Int) := by omega
      go_wp2_with fail
      go_quiet (fail)
      go_wp2_with fail
      go_roundw
      case rel => exact ⟨k + 1, by omega, by go_num, below_drewN hbel _⟩
      case measure => simp [intOf]; omega
    · have hd : decide (k < ps.length) = false := by simpa using hlt
      obtain rfl : k = ps.length := by omega
      go_wp2_with fail
      go_ret
      exact ⟨rfl, B3.trans (hbel.mono B3.size)⟩
end Go.Proofs.Ytfmjfnpiepegeaa.Utf
