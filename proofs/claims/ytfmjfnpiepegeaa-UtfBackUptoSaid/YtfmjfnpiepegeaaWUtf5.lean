import Derived.Test.YtfmjfnpiepegeaaUtfG
import Derived.IntWalk
import Derived.WalkSmall
/- The walk of the law UtfBack. -/
namespace Go.Proofs.Ytfmjfnpiepegeaa.Utf
open Go.RowKit

theorem takeWhile_all_pt (xs : List Int) : ∀ p ∈ xs.takeWhile isPt, isPt p = true := by
  induction xs with
  | nil => simp
  | cons a r ih =>
    intro p hp
    rw [List.takeWhile_cons] at hp
    split at hp
    · rename_i ha
      rcases List.mem_cons.1 hp with rfl | hp
      · exact ha
      · exact ih p hp
    · cases hp
theorem takeWhile_get (xs : List Int) (k : Nat) (h : k < (xs.takeWhile isPt).length) : xs[k]? = some (xs.takeWhile isPt)[k] := by
  have := List.takeWhile_append_dropWhile (p := isPt) (l := xs)
  conv => lhs; rw [← this]
  rw [List.getElem?_append_left h, List.getElem?_eq_getElem h]

set_option maxHeartbeats 2000000 in
theorem back_walk (v : Value) (xs : List Int) (s : ByteArray) (w : World) (hv : Rd w w.heap.size v (xs.map (Value.int .i32))) (_hw : ∀ n ∈ xs, (Lit.int .i32 n).wf = true) (hx : xs.length ≤ 1048576) (hs : s.size ≤ 1048576) :
    Calls Try.prog 7 #[v, .string s] w fun e w' => e = .returned (.bool true) ∧ Below w.heap.size w w' := by
  have hs1 : s.size < 17592186044416 := by omega
  have hs2 : s.size ≤ 9223372036854775807 := by omega
  have c1 := Join_any v xs
  have hall := takeWhile_all_pt xs
  have hget := takeWhile_get xs
  unfold joinB joinN at c1
  generalize xs.takeWhile isPt = ps at *
  have hpl : ps.length ≤ xs.length := by
    rcases Nat.lt_or_ge xs.length ps.length with h | h
    · have := hget xs.length h
      simp at this
    · exact h
  have hpts : ptsL (encL ps) = (ps, (encL ps).length) := by
    have := ptsL_encL ps hall []
    rw [List.append_nil] at this
    rw [this]; simp [ptsL, ptsF]
  have hel := encL_le ps
  have c2 := Points_any (strOf (encL ps))
  rw [strOf_data, hpts] at c2
  clear hpts
  have hz2 : (strOf (encL ps)).size < 17592186044416 := by rw [strOf_size]; omega
  have c3 := Points_any s
  have hall2 := ptsL_all s.data.toList
  have hle2 := ptsL_le s.data.toList
  have hnum2 := ptsL_num s.data.toList
  have henc := encL_ptsL s.data.toList
  rw [len_data] at hle2
  generalize (ptsL s.data.toList).1 = qs at *
  generalize (ptsL s.data.toList).2 = m at *
  have c4 : ∀ v w, _ := fun v w => Join_any v qs w
  have htw : qs.takeWhile isPt = qs := by
    have := takeWhile_all isPt qs [] hall2
    simpa using this
  unfold joinB joinN at c4
  rw [htw, henc] at c4
  clear htw henc hall2
  have hu := strOf_list (s.data.toList.take m)
  have hex : (s.extract 0 m).toList = s.data.toList.take m := by rw [Lib.extract_toList]; simp
  have hsz : (strOf (encL ps)).size = (encL ps).length := rfl
  have C1 := Lib.hid c1; clear c1
  have C2 := Lib.hid c2; clear c2
  have C3 := Lib.hid c3; clear c3
  have C4 := Lib.hid c4; clear c4
  have HALL := Lib.hid hall; clear hall
  have HGET := Lib.hid hget; clear hget
  have HU := Lib.hid hu; clear hu
  have HEX := Lib.hid hex; clear hex
  go_enter Try.func7, Try.ntmps7
  go_wp2_with fail
  refine (C1.out w hv (by omega)).mono ?_
  rintro e w1 ⟨rfl, hb1⟩
  go_wp2_with fail
  refine (C2.out w1 hz2).mono ?_
  rintro e w2 ⟨v2, rfl, hown2, hb2⟩
  go_wp2_with fail
  refine (awake_any w2).mono ?_
  rintro e w3 ⟨rfl, hb3⟩
  have r1 := ((hv.below hb1).below' hb2 hb1.size).below' hb3 (Nat.le_trans hb1.size hb2.size)
  have r2 := (Rd.of_own hown2).below hb3
  clear hown2 hv
  have B3 : Below w.heap.size w w3 := hb1.trans ((hb2.mono hb1.size).trans (hb3.mono (Nat.le_trans hb1.size hb2.size)))
  have R1 : Rd w3 w3.heap.size v (xs.map (Value.int .i32)) := r1.more B3.size
  have R2 : Rd w3 w3.heap.size v2 (ps.map (Value.int .i32)) := r2.more hb3.size
  clear r1 r2 hb1 hb2 hb3
  obtain ⟨A1, n1, rfl, hc1⟩ := R1
  obtain ⟨A2, n2, rfl, hc2⟩ := R2
  rw [List.length_map] at hc1 hc2 ⊢
  have HC1 := Lib.hid hc1; clear hc1
  have HC2 := Lib.hid hc2; clear hc2
  go_wp2_with fail
  go_loopw [9] (fun i wr => ∃ k : Nat, k ≤ ps.length ∧ i = .int .i64 k ∧ Below w3.heap.size w3 wr) (fun i _ => ps.length - (intOf i).toNat)
  case atStart => exact ⟨0, by omega, rfl, Below.refl _ _⟩
  case round =>
    obtain ⟨k, hk, rfl, hbel⟩ := hrel
    by_cases hlt : k < ps.length
    · obtain ⟨a1, rfl, hblk1, hx1⟩ := HC1.out (by omega)
      obtain ⟨a2, rfl, hblk2, hx2⟩ := HC2.out (by omega)
      have hck1 : wr.cell? (a1.add k) = some (.int .i32 ps[k]) := (hbel.cell (by rw [blk_add]; exact hblk1)).trans (hx1 k _ (by rw [List.getElem?_map, HGET.out k hlt]; rfl))
      have hck2 : wr.cell? (a2.add k) = some (.int .i32 ps[k]) := (hbel.cell (by rw [blk_add]; exact hblk2)).trans (hx2 k _ (by simp [List.getElem?_eq_getElem hlt]))
      clear hx1 hx2
      generalize ps[k] = x at *
      have hi1 : (k : Int) < (ps.length : Int) := by omega
      have hi2 : (k : Int) < (xs.length : Int) := by omega
      go_wp2_with fail
      go_quiet (fail)
      go_wp2_with fail
      go_roundw
      case rel => exact ⟨k + 1, by omega, by go_num, below_drewN hbel _⟩
      case measure => simp [intOf]; omega
    · have hd : decide (k < ps.length) = false := by simpa using hlt
      obtain rfl : k = ps.length := by omega
      go_wp2_with fail
      refine (C3.out wr hs1).mono ?_
      rintro e w4 ⟨v4, rfl, hown4, hb4⟩
      have r4 := Rd.of_own hown4
      go_wp2_with fail
      refine (C4.out v4 w4 r4 (by omega)).mono ?_
      rintro e w5 ⟨rfl, hb5⟩
      have hu := HU.out
      have hex := HEX.out
      have B4 := B3.trans (hbel.mono B3.size)
      have B5 := B4.trans (hb4.mono B4.size)
      have B6 := B5.trans (hb5.mono B5.size)
      obtain ⟨A4, n4, rfl, _⟩ := r4
      go_wp2_with fail
      go_ret
      exact ⟨rfl, B6⟩
end Go.Proofs.Ytfmjfnpiepegeaa.Utf
