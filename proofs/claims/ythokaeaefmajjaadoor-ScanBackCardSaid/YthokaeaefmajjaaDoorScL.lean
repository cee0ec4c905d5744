import Derived.Test.YthokaeaefmajjaaDoorScK
import Derived.Laws.Concat
/- Walk of ScanBack. -/
namespace Go.Proofs.YthokaeaefmajjaaDoor.Sc
open Go.RowKit
open Go.Proofs.YthokaeaefmajjaaDoor.Utf

/-- the white space between the tokens -/
def gapB (r : Nat) : List UInt8 := if r = 0 then [32] else if r = 1 then [9] else if r = 2 then [10, 13] else [32, 32]
theorem gapB_w (r : Nat) : (∀ j, j < (gapB r).length → isW (byt (gapB r) j) = true) ∧ 0 < (gapB r).length ∧ (gapB r).length ≤ 2 := by
  unfold gapB
  by_cases h0 : r = 0
  · rw [if_pos h0]; decide
  · rw [if_neg h0]
    by_cases h1 : r = 1
    · rw [if_pos h1]; decide
    · rw [if_neg h1]
      by_cases h2 : r = 2
      · rw [if_pos h2]; decide
      · rw [if_neg h2]; decide
theorem strOf_app (a b : List UInt8) : strOf a ++ strOf b = strOf (a ++ b) := ByteArray.mk_append_mk a b

set_option maxHeartbeats 2000000 in
theorem back_skip (s : ByteArray) (gap : Int) (w : World) (hs : s.size ≤ 9223372036854775807) (h : (scnS s.data.toList).2.2 ≠ 0 ∨ 8000 < s.size) :
    Calls Tryd.prog 4 #[.string s, .int .u8 gap] w fun e w' => e = .returned (.bool true) ∧ Below w.heap.size w w' := by
  have HT := fun w => Tokens_any s w hs
  rcases hR : scnS s.data.toList with ⟨ts, at_, er⟩
  rw [hR] at HT h
  simp only at h
  clear hR
  have HTT := Lib.hid HT; clear HT
  by_cases he : er = 0
  · subst he
    have h2 : 8000 < s.size := by omega
    have d2 : decide ((8000 : Int) < (s.size : Int)) = true := decide_eq_true (by omega)
    have d2b : decide (8000 < s.size) = true := decide_eq_true h2
    go_enter Tryd.func4, Tryd.ntmps4
    go_wp2_with fail
    refine (HTT.out _).mono ?_
    rintro e w1 ⟨v1, rfl, _, hb1⟩
    go_wp2_with fail
    refine (awake_any _).mono ?_
    rintro e w2 ⟨rfl, hb2⟩
    go_wp2_with fail
    refine (awake_any _).mono ?_
    rintro e w3 ⟨rfl, hb3⟩
    go_wp2_with fail
    go_ret
    have s1 := hb1.size
    have s2 := hb2.size
    exact ⟨rfl, hb1.trans ((hb2.mono s1).trans (hb3.mono (by omega)))⟩
  · have hne : (er != 0) = true := by rw [bne_iff_ne]; exact he
    go_enter Tryd.func4, Tryd.ntmps4
    go_wp2_with fail
    refine (HTT.out _).mono ?_
    rintro e w1 ⟨v1, rfl, _, hb1⟩
    go_wp2_with fail
    refine (awake_any _).mono ?_
    rintro e w2 ⟨rfl, hb2⟩
    go_wp2_with fail
    refine (awake_any _).mono ?_
    rintro e w3 ⟨rfl, hb3⟩
    go_wp2_with fail
    go_ret
    have s1 := hb1.size
    have s2 := hb2.size
    exact ⟨rfl, hb1.trans ((hb2.mono s1).trans (hb3.mono (by omega)))⟩

set_option maxHeartbeats 8000000 in
theorem back_ok (s : ByteArray) (gap : Int) (w : World) (hs : s.size ≤ 8000) (h : (scnS s.data.toList).2.2 = 0) (hg : 0 ≤ gap ∧ gap ≤ 255) (ht : Ch.Tab w) :
    Calls Tryd.prog 4 #[.string s, .int .u8 gap] w fun e w' => e = .returned (.bool true) ∧ Below w.heap.size w w' := by
  have HT1 := fun w => Tokens_any s w (by omega)
  obtain ⟨_, _, hsc, hp⟩ := scnS_Scan h
  have hn := hsc.le.2.1
  have hok := hsc.okT
  rw [len_data] at hn
  rcases hR : scnS s.data.toList with ⟨ts, at_, er⟩
  rw [hR] at HT1 h hp hn hok
  simp only at h hp hn hok
  subst h hp
  clear hR hsc
  have hlen : ∀ t ∈ ts, t.2.2.1.length ≤ 8001 := fun t h => by have := (hok t h).2; rw [len_data] at this; omega
  have hokT : ∀ t ∈ ts, okT t := fun t h => (hok t h).1
  clear hok
  obtain ⟨r, hr, hr4⟩ : ∃ r : Nat, gap % 4 = r ∧ r < 4 := ⟨(gap % 4).toNat, by omega, by omega⟩
  obtain ⟨gw1, gw2, gw3⟩ := gapB_w r
  have hback := back_S (gapB r) gw1 gw2 ts hokT
  have htl : ∀ k, (txt (gapB r) (ts.take k)).length ≤ 400000000 := fun k => by
    have h1 := txt_len (gapB r) 8001 (ts.take k) (fun t h => hlen t (List.mem_of_mem_take h))
    have h2 : (ts.take k).length ≤ 8000 := by rw [List.length_take]; omega
    have h3 : (ts.take k).length * (6 * 8001 + 30 + (gapB r).length) ≤ 8000 * (6 * 8001 + 30 + 2) := Nat.mul_le_mul h2 (by omega)
    omega
  have htb : ∀ w', Below w.heap.size w w' → Ch.Tab w' := fun w' hb => ht.below hb ht.1 hb.size
  have HTB := Lib.hid htb; clear htb ht
  have HTL := Lib.hid htl; clear htl
  have HLN := Lib.hid hlen; clear hlen
  have HOK := Lib.hid hokT; clear hokT
  have HBK := Lib.hid hback; clear hback
  have H1 := Lib.hid HT1; clear HT1
  clear gw1
  have d2 : decide ((8000 : Int) < (s.size : Int)) = false := decide_eq_false (by omega)
  have d2b : decide (8000 < s.size) = false := decide_eq_false (by omega)
  have g1 : gap.tmod 4 = (r : Int) := by rw [Int.tmod_eq_emod_of_nonneg hg.1]; exact hr
  go_enter Tryd.func4, Tryd.ntmps4
  go_wp2_with fail
  refine (H1.out _).mono ?_
  rintro e w1 ⟨v1, rfl, hown1, hb1⟩
  have hr1 := RdT.of_own hown1
  clear hown1
  go_wp2_with fail
  refine (awake_any _).mono ?_
  rintro e w2 ⟨rfl, hb2⟩
  have s1 := hb1.size
  have s2 := hb2.size
  have hr2 := (hr1.below hb2 (Nat.le_refl _)).more s2
  have B2 := hb1.trans (hb2.mono s1)
  clear hr1 hb1 hb2
  obtain ⟨A1, c1, hv1, _⟩ := id hr2
  subst hv1
  go_wp2_with fail
  go_loopw [9, 10] (fun t i wr => ∃ k : Nat, i = .int .i64 k ∧ k ≤ ts.length ∧ t = .string (strOf (txt (gapB r) (ts.take k))) ∧ wr.cell? ⟨w2.heap.size, r, none⟩ = some (.string (strOf (gapB r))) ∧ Below w2.heap.size w2 wr) (fun _ i _ => ts.length - (intOf i).toNat)
  case atStart =>
    refine ⟨0, rfl, by omega, rfl, ?_, (Below.refl _ _).alloc (Nat.le_refl _) _⟩
    rw [cell_of_row _ _ r _ _ _ (heap_alloc_new w2 _)]
    rcases (show r = 0 ∨ r = 1 ∨ r = 2 ∨ r = 3 by omega) with rfl | rfl | rfl | rfl <;> rfl
  case round =>
    obtain ⟨k, rfl, hk, rfl, hgc, hbel⟩ := hrel
    by_cases hlt : k < ts.length
    · have hlb : decide ((k : Int) < (ts.length : Int)) = true := decide_eq_true (by omega)
      have hlb2 : decide (k < ts.length) = true := decide_eq_true hlt
      have k0 : (0 : Int) ≤ (k : Int) := by omega
      have k1 : (k : Int) < (ts.length : Int) := by omega
      have r0 : (0 : Int) ≤ (r : Int) := by omega
      have r1 : (r : Int) < 4 := by omega
      have hgl : w2.heap.size < wr.heap.size := World.block_lt_of_cell? wr _ hgc
      obtain ⟨g, c, hv, hgb, a0, a1, a2, a3⟩ := (hr2.below hbel (Nat.le_refl _)).at_ k hlt
      have e1 : A1 = some ⟨g, 0, none⟩ := by injection hv
      clear hv
      subst e1
      have hmem : ts[k] ∈ ts := List.getElem_mem hlt
      have hwr := fun w0 h0 => write_any ts[k] w0 (HOK.out _ hmem) (by have := HLN.out _ hmem; omega) h0
      have hwl := wr_len (HLN.out _ hmem)
      have htl := HTL.out k
      have hnx : strOf (txt (gapB r) (ts.take k)) ++ strOf (Sc.wr ts[k]) ++ strOf (gapB r) = strOf (txt (gapB r) (ts.take (k + 1))) := by
        rw [strOf_app, strOf_app, take_succ' ts k hlt, txt_app, txt_one, List.append_assoc]
      rw [← strOf_size] at hwl htl gw3
      generalize strOf (txt (gapB r) (ts.take k)) = X at *
      generalize strOf (Sc.wr ts[k]) = Y at *
      generalize strOf (gapB r) = G at *
      have hadd1 : ∀ w, (Op.stringOp .add X Y).run Tryd.prog w = .ok (.string (X ++ Y)) w := fun w => run_string_add_sum w _ _ (by omega)
      have hadd2 : ∀ w, (Op.stringOp .add (X ++ Y) G).run Tryd.prog w = .ok (.string (X ++ Y ++ G)) w := fun w => run_string_add_sum w _ _ (by rw [ByteArray.size_append]; omega)
      rcases htk : ts[k] with ⟨x1, x2, x3, x4⟩
      rw [htk] at a0 a1 a2 a3 hwr
      simp only at a0 a1 a2 a3 hwr
      have HWR := Lib.hid hwr
      have HNX := Lib.hid hnx
      have HR2 := Lib.hid hr2
      clear hwr hnx htk hmem hr2
      have htab := HTB.out wr.drew ((B2.trans (hbel.mono B2.size)).drew)
      have HTAB := Lib.hid htab; clear htab
      go_wp2_with fail
      go_region_held3 (fun w' => w'.cell? ⟨g, k * 4, none⟩ = some (.int .i64 x1) ∧ w'.cell? ⟨g, k * 4 + 1, none⟩ = some (.int .i64 x2) ∧ w'.cell? ⟨g, k * 4 + 2, none⟩ = some (.string (strOf x3)) ∧ w'.cell? ⟨g, k * 4 + 3, none⟩ = some (.int .i64 x4) ∧ w'.cell? ⟨w2.heap.size, r, none⟩ = some (.string G))
        (first | go_keep | exact ⟨(hb5.cell (p := ⟨g, k * 4, none⟩) (by show g < _; simp; omega)).trans a0, (hb5.cell (p := ⟨g, k * 4 + 1, none⟩) (by show g < _; simp; omega)).trans a1, (hb5.cell (p := ⟨g, k * 4 + 2, none⟩) (by show g < _; simp; omega)).trans a2, (hb5.cell (p := ⟨g, k * 4 + 3, none⟩) (by show g < _; simp; omega)).trans a3, (hb5.cell (p := ⟨w2.heap.size, r, none⟩) (by show w2.heap.size < _; simp; omega)).trans hgc⟩)
        ((go_at_call 9; refine (HWR.out _ HTAB.out).mono ?_; rintro e w5 ⟨rfl, hb5⟩))
      have hcell : w5.cell? ⟨w2.heap.size, r, none⟩ = some (.string G) := (hb5.cell (p := ⟨w2.heap.size, r, none⟩) (by show w2.heap.size < _; simp; omega)).trans hgc
      have hbb : Below w2.heap.size w2 w5 := (hbel.drew).trans (hb5.mono (by simp; omega))
      have HCL := Lib.hid hcell; clear hcell
      go_wp2_with fail
      go_roundw
      case rel => exact ⟨k + 1, by go_num, by omega, by rw [HNX.out], HCL.out, hbb⟩
      case measure => simp [intOf]; omega
    · obtain rfl : k = ts.length := by omega
      have hlb : decide ((ts.length : Int) < (ts.length : Int)) = false := decide_eq_false (by omega)
      have hbk := HBK.out
      have htl := HTL.out ts.length
      rw [List.take_length] at htl ⊢
      have hc := fun w => Tokens_any (strOf (txt (gapB r) ts)) w (by rw [strOf_size]; omega)
      rw [strOf_data] at hc
      rw [← strOf_size] at hbk htl
      have HR2 := Lib.hid hr2; clear hr2
      rcases hbk with ⟨hb1, hb2⟩ | ⟨us, hb1, hb2⟩
      · rw [hb2] at hc
        clear hb2
        generalize strOf (txt (gapB r) ts) = X at *
        have HC := Lib.hid hc; clear hc
        have z1 : decide ((65536 : Int) < (X.size : Int)) = true := decide_eq_true (by omega)
        have z2 : decide (65536 < X.size) = true := decide_eq_true hb1
        go_wp2_with fail
        refine (HC.out _).mono ?_
        rintro e w5 ⟨v5, rfl, _, hb5⟩
        go_wp2_with fail
        go_ret
        have s3 := hbel.size
        exact ⟨rfl, B2.trans ((hbel.mono B2.size).trans (hb5.mono (by have := B2.size; omega)))⟩
      · rw [hb1] at hc
        clear hb1
        generalize strOf (txt (gapB r) ts) = X at *
        have HC := Lib.hid hc; clear hc
        have HSM := Lib.hid hb2; clear hb2
        go_wp2_with fail
        refine (HC.out _).mono ?_
        rintro e w5 ⟨v5, rfl, hown5, hb5⟩
        have s3 := hbel.size
        have s5 := hb5.size
        have q1 := ((HR2.out.below hbel (Nat.le_refl _)).below hb5 s3).more (show w2.heap.size ≤ w5.heap.size by omega)
        have q2 := RdT.of_own hown5
        clear hown5
        go_wp2_with fail
        refine (Same_any _ _ _ _ false _ q1 q2 (by omega)).mono ?_
        rintro e w6 ⟨⟨b, rfl, hb⟩, hb6⟩
        have : b = true := hb.2 HSM.out
        subst this
        go_wp2_with fail
        go_ret
        exact ⟨rfl, B2.trans ((hbel.mono B2.size).trans ((hb5.mono (by have := B2.size; omega)).trans (hb6.mono (by have := B2.size; omega))))⟩

theorem back_walk (s : ByteArray) (gap : Int) (w : World) (hs : s.size ≤ reachBytes) (hg : (Lit.int .u8 gap).wf = true) (ht : Ch.Tab w) :
    Calls Tryd.prog 4 #[.string s, .int .u8 gap] w fun e w' => e = .returned (.bool true) ∧ Below w.heap.size w w' := by
  unfold reachBytes at hs
  have hg2 : 0 ≤ gap ∧ gap ≤ 255 := by
    have := bounds_u8 hg
    omega
  by_cases h : (scnS s.data.toList).2.2 ≠ 0 ∨ 8000 < s.size
  · exact back_skip s gap w (by omega) h
  · exact back_ok s gap w (by omega) (by omega) hg2 ht
end Go.Proofs.YthokaeaefmajjaaDoor.Sc
