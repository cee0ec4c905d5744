import Derived.Test.YtcbiaflbncfliaaDoorChR2
import Derived.Test.YtcbiaflbncfliaaDoorChC
import Derived.Test.YtcbiaflbncfliaaDoorChPl
import Derived.Test.YtcbiaflbncfliaaDoorUtfG
/- Contract of the document's answer for layer 2: Quote. -/
namespace Go.Proofs.YtcbiaflbncfliaaDoor.Ch
open Go.RowKit
open Go.Proofs.YtcbiaflbncfliaaDoor.Utf

/-- the letter that the first k places of the table give a point; 0: none -/
def letF (p : Int) : Nat → Int
  | 0 => 0
  | k + 1 => if tabP k = p ∧ p ≠ 47 then tabL k else letF p k
theorem letF_eq (p : Int) (k : Nat) (h : tabP k = p) (hp : p ≠ 47) : letF p (k + 1) = tabL k := by rw [letF, if_pos ⟨h, hp⟩]
theorem letF_ne (p : Int) (k : Nat) (h : ¬ (tabP k = p ∧ p ≠ 47)) : letF p (k + 1) = letF p k := by rw [letF, if_neg h]
theorem letF_bd (p : Int) : ∀ k, k ≤ 8 → 0 ≤ letF p k ∧ letF p k ≤ 255 := by
  intro k
  induction k with
  | zero => intro _; simp [letF]
  | succ k ih =>
    intro hk
    have := ih (by omega)
    have ht : 0 ≤ tabL k ∧ tabL k ≤ 255 := by
      rcases tab_cases (show k < 8 by omega) with rfl | rfl | rfl | rfl | rfl | rfl | rfl | rfl <;> decide
    unfold letF
    split <;> omega
theorem letF_8 (p : Int) : letF p 8 = if p = 9 then 116 else if p = 13 then 114 else if p = 10 then 110 else if p = 12 then 102 else if p = 8 then 98 else if p = 92 then 92 else if p = 34 then 34 else 0 := by
  have e : ∀ k, tabP k = [34, 92, 47, 8, 12, 10, 13, 9].getD k 0 := fun _ => rfl
  simp only [letF]
  show (if (9 : Int) = p ∧ p ≠ 47 then (116 : Int) else if (13 : Int) = p ∧ p ≠ 47 then 114 else if (10 : Int) = p ∧ p ≠ 47 then 110 else if (12 : Int) = p ∧ p ≠ 47 then 102 else if (8 : Int) = p ∧ p ≠ 47 then 98 else if (47 : Int) = p ∧ p ≠ 47 then 47 else if (92 : Int) = p ∧ p ≠ 47 then 92 else if (34 : Int) = p ∧ p ≠ 47 then 34 else 0) = _
  by_cases h1 : p = 9
  · subst h1; decide
  · by_cases h2 : p = 13
    · subst h2; decide
    · by_cases h3 : p = 10
      · subst h3; decide
      · by_cases h4 : p = 12
        · subst h4; decide
        · by_cases h5 : p = 8
          · subst h5; decide
          · by_cases h6 : p = 92
            · subst h6; decide
            · by_cases h7 : p = 34
              · subst h7; decide
              · rw [if_neg (by omega), if_neg (by omega), if_neg (by omega), if_neg (by omega), if_neg (by omega), if_neg (by omega), if_neg (by omega), if_neg (by omega), if_neg h1, if_neg h2, if_neg h3, if_neg h4, if_neg h5, if_neg h6, if_neg h7]
/-- the three ways of a point -/
theorem qptZ_let {p : Int} (h : letF p 8 ≠ 0) : qptZ p = [92, letF p 8] := by
  rw [letF_8] at h ⊢
  by_cases h1 : p = 9
  · subst h1; rfl
  · by_cases h2 : p = 13
    · subst h2; rfl
    · by_cases h3 : p = 10
      · subst h3; rfl
      · by_cases h4 : p = 12
        · subst h4; rfl
        · by_cases h5 : p = 8
          · subst h5; rfl
          · by_cases h6 : p = 92
            · subst h6; rfl
            · by_cases h7 : p = 34
              · subst h7; rfl
              · rw [if_neg h1, if_neg h2, if_neg h3, if_neg h4, if_neg h5, if_neg h6, if_neg h7] at h
                exact absurd rfl h
theorem letF_0 {p : Int} (h : letF p 8 = 0) : p ≠ 9 ∧ p ≠ 13 ∧ p ≠ 10 ∧ p ≠ 12 ∧ p ≠ 8 ∧ p ≠ 92 ∧ p ≠ 34 := by
  rw [letF_8] at h
  refine ⟨?_, ?_, ?_, ?_, ?_, ?_, ?_⟩ <;> (rintro rfl; simp at h)
theorem qptZ_ctl {p : Int} (h : letF p 8 = 0) (h1 : p < 32) : qptZ p = [92, 117, 48, 48, hexV (p / 16), hexV (p % 16)] := by
  obtain ⟨a, b, c, d, e, f, g⟩ := letF_0 h
  unfold qptZ escZ
  rw [if_pos (by simp [special]; omega), if_neg (by omega), if_neg e, if_neg a, if_neg c, if_neg d, if_neg b]
theorem qptZ_self {p : Int} (h : letF p 8 = 0) (h1 : ¬ p < 32) : qptZ p = encZ p := by
  obtain ⟨a, b, c, d, e, f, g⟩ := letF_0 h
  unfold qptZ
  rw [if_neg (by simp [special]; omega)]
theorem qptZ_byte {p : Int} (h : isPt p = true) : ∀ x ∈ qptZ p, 0 ≤ x ∧ x < 256 := by
  unfold qptZ
  by_cases hs : special p = true
  · rw [if_pos hs]; exact escZ_byte (isPt_lo h) hs
  · rw [if_neg hs]; exact encZ_byte p
theorem qL_take (ps : List Int) (k : Nat) (h : k < ps.length) : qL (ps.take (k + 1)) = qL (ps.take k) ++ toB (qptZ ps[k]) := by
  rw [take_succ' ps k h, qL_append]; simp [qL, qpt]
theorem qL_le (ps : List Int) : (qL ps).length ≤ 6 * ps.length := by
  induction ps with
  | nil => simp [qL]
  | cons p ps ih => rw [qL_cons]; have := qpt_le p; simp; omega

set_option maxRecDepth 100000 in
set_option maxHeartbeats 8000000 in
theorem rQuote_any (s : ByteArray) (w : World) (hs : s.size ≤ 1048576) (ht : Tab w) :
    Calls Tryd.prog 27 #[.string s] w (GivesQuote (quoteR s.data.toList) w) := by
  obtain ⟨i0, hi, hz0, hz1, hz2⟩ := info_parts infoU8
  have c1 := rPoints_any s w (by omega)
  have hall := ptsL_all s.data.toList
  have hle := ptsL_le s.data.toList
  have hnum := ptsL_num s.data.toList
  rw [len_data] at hle
  have hB0 := ht.1
  by_cases hb : (ptsL s.data.toList).2 < s.size
  · have hq := quoteR_no (l := s.data.toList) (by rw [len_data]; exact hb)
    rw [hq]
    clear hq hall
    generalize (ptsL s.data.toList).1 = ps at *
    generalize (ptsL s.data.toList).2 = m at *
    have hd : ((m : Int) != (s.size : Int)) = true := by rw [bne_iff_ne]; omega
    go_enter Tryd.func27, Tryd.ntmps27
    go_wp2_with fail
    refine c1.mono ?_
    rintro r w1 ⟨v1, rfl, hown1, hb1⟩
    go_wp2_with fail
    go_ret2
    exact ⟨retq rfl rfl, hb1⟩
  · have hq := quoteR_yes (l := s.data.toList) (by rw [len_data]; exact hb)
    rw [hq, (qbL_right (l := s.data.toList) (by rw [len_data]; omega)).2]
    clear hq
    have hm : (ptsL s.data.toList).2 = s.size := by omega
    rw [hm] at c1
    generalize (ptsL s.data.toList).1 = ps at *
    generalize (ptsL s.data.toList).2 = m at *
    subst hm
    have hpl : ps.length ≤ 1048576 := by omega
    have hqa : qL (ps.take ps.length) = qL ps := by rw [List.take_of_length_le (Nat.le_refl _)]
    have HQA := Lib.hid hqa; clear hqa
    have HALL := Lib.hid hall; clear hall
    have e34 : Lib.byteCells [34] = [.int .u8 34] := rfl
    have E34 := Lib.hid e34; clear e34
    clear hle hnum hb
    go_enter Tryd.func27, Tryd.ntmps27
    go_wp2_with fail
    refine c1.mono ?_
    rintro r w1 ⟨v1, rfl, hown1, hb1⟩
    have R1 := Rd.of_own hown1
    clear hown1
    obtain ⟨A1, n1, rfl, hc1⟩ := R1
    rw [List.length_map] at hc1 ⊢
    have HC1 := Lib.hid hc1; clear hc1
    have HT1 := Lib.hid (ht.below hb1 hB0 hb1.size)
    have hsz1 := hb1.size
    go_wp2_with fail
    go_loopw [6, 7, 8, 9, 10] (fun v i _ _ _ wr => ∃ k : Nat, k ≤ ps.length ∧ i = .int .i64 k ∧ wr.ownsRow w1.heap.size 5 1 v (Lib.byteCells (34 :: qL (ps.take k))).length (Lib.byteCells (34 :: qL (ps.take k))) ∧ Below w1.heap.size w1 wr) (fun _ i _ _ _ _ => ps.length - (intOf i).toNat)
    case atStart => exact ⟨0, by omega, rfl, World.ownsRow_lit w1 #[.int .u8 34] 1 (Nat.le_refl _) (by decide) rfl, (Below.refl _ _).alloc (Nat.le_refl _) _⟩
    case round =>
      obtain ⟨k, hk, rfl, hown, hbel⟩ := hrel
      have hB := hbel.size
      have hln : (Lib.byteCells (34 :: qL (ps.take k))).length + 8 ≤ 140737488355328 := by
        rw [Lib.byteCells_length, List.length_cons]
        have := qL_le (ps.take k)
        rw [List.length_take] at this
        omega
      by_cases hlt : k < ps.length
      · obtain ⟨a1, rfl, hblk1, hx1⟩ := HC1.out (by omega)
        have hck1 : wr.cell? (a1.add k) = some (.int .i64 ps[k]) := (hbel.cell (by rw [blk_add]; exact hblk1)).trans (hx1 k _ (by simp [List.getElem?_eq_getElem hlt]))
        clear hx1
        have hp := HALL.out ps[k] (List.getElem_mem hlt)
        have hqt := qL_take ps k hlt
        have HT := Lib.hid (HT1.out.below hbel (by have := HT1.out.1; omega) hbel.size)
        generalize ps[k] = p at *
        have p0 := isPt_lo hp
        have p1 := isPt_hi hp
        have hqb := qptZ_byte hp
        have HQB := Lib.hid hqb; clear hqb
        have HPT := Lib.hid hp; clear hp
        have HQT := Lib.hid hqt; clear hqt
        have hi1 : (k : Int) < (ps.length : Int) := by omega
        have hld : decide (k < ps.length) = true := decide_eq_true hlt
        go_wp2_with fail
        go_loop [9, 10] (fun l j => ∃ n : Nat, n ≤ 8 ∧ j = .int .i64 n ∧ l = .int .u8 (letF p n)) (fun _ j => 8 - (intOf j).toNat)
        case atStart => exact ⟨0, by omega, rfl, rfl⟩
        case round =>
          obtain ⟨n, hn, rfl, rfl⟩ := hrel
          have lb := letF_bd p n hn
          by_cases hn8 : n < 8
          · have hdn : decide ((n : Int) < 8) = true := decide_eq_true (by omega)
            have d1 := fun w => tab_at w n hn8
            have hcell := HT.out.2 n hn8
            have hn8' : (n : Int) < 8 := by omega
            have e1 := letF_eq p n
            have e2 := letF_ne p n
            generalize tabP n = P at *
            generalize tabL n = Ln at *
            have E1 := Lib.hid e1; clear e1
            have E2 := Lib.hid e2; clear e2
            by_cases c1 : P = p
            · have t1 : (P == p) = true := by rw [beq_iff_eq]; exact c1
              have CC := Lib.hid c1; clear c1
              by_cases c2 : p = 47
              · have t2 : (p != 47) = false := by rw [c2]; rfl
                have hE := E2.out (fun x => x.2 c2)
                have HE := Lib.hid hE; clear hE c2
                go_wp2_with fail
                go_round
                case rel => exact ⟨n + 1, by omega, by go_num, by rw [HE.out]⟩
                case measure => simp [intOf]; omega
              · have t2 : (p != 47) = true := by rw [bne_iff_ne]; exact c2
                have hE := E1.out CC.out c2
                have HE := Lib.hid hE; clear hE c2
                go_wp2_with fail
                go_round
                case rel => exact ⟨n + 1, by omega, by go_num, by rw [HE.out]⟩
                case measure => simp [intOf]; omega
            · have t1 : (P == p) = false := by rw [beq_eq_false_iff_ne]; exact c1
              have hE := E2.out (fun x => c1 x.1)
              have HE := Lib.hid hE; clear hE c1
              go_wp2_with fail
              go_round
              case rel => exact ⟨n + 1, by omega, by go_num, by rw [HE.out]⟩
              case measure => simp [intOf]; omega
          · have hdn : decide ((n : Int) < 8) = false := decide_eq_false (by omega)
            obtain rfl : n = 8 := by omega
            have hB1 : w1.heap.size ≤ wr.heap.size := hB
            by_cases c1 : letF p 8 = 0
            · have t1 : (letF p 8 != 0) = false := by rw [c1]; rfl
              by_cases c2 : p < 32
              · have t2 : decide (p < 32) = true := decide_eq_true c2
                have hq := qptZ_ctl c1 c2
                have HQ := Lib.hid hq; clear hq c1
                go_wp2_with (first | (go_at_call 37; refine (hex_any _ _ (by omega) (by omega)).mono ?_; rintro r w' ⟨rfl, rfl⟩) | (at_builtin; refine wpList_append_own _ rfl (.tmp 54) (.tmp 61) 41 rfl w1.heap.size 5 i0 (.int .u8 0) 1 1 Tryd.underlying41 hi hz0 hz1 hz2 rfl (by decide) _ _ _ rfl (hown.alloc _) ⟨wr.heap.size, 0, none⟩ 6 6 [.int .u8 92, .int .u8 117, .int .u8 48, .int .u8 48, .int .u8 (hexV (p / 16)), .int .u8 (hexV (p % 16))] rfl rfl (cells_new _ _ _) ?_ ?_ ?_ ?_ ?_; (simp [Value.oneCell']); (unfold maxLen; omega); omega; (simp; omega); intro v2 w2 hown2 hg2 _))
                go_roundw
                case rel => exact ⟨k + 1, by omega, by go_num, by rw [HQT.out, ← List.cons_append, Lib.byteCells_append, byteCells_toB _ HQB.out, HQ.out, List.length_append]; exact hown2, (hbel.alloc hB _).grown hg2 (by simp; omega) (fun g hg => (hown.lt g hg).1)⟩
                case measure => simp [intOf]; omega
              · have t2 : decide (p < 32) = false := decide_eq_false c2
                have hq := qptZ_self c1 c2
                have hne : 1 ≤ (enc p).length := enc_pos (HPT.out)
                have hle4 := enc_le p
                have HQ := Lib.hid hq; clear hq c1
                go_wp2_with fail
                refine (Bytes_any p _).mono ?_
                rintro r w3 ⟨v3, rfl, hown3, hb3⟩
                obtain ⟨A3, n3, rfl, hc3⟩ := Rd.of_own hown3
                obtain ⟨ad3, rfl, _, hcell3⟩ := hc3 (by rw [Lib.byteCells_length]; exact hne)
                have HC3 := Lib.hid hcell3; clear hcell3 hc3
                have hownk := own_below hown hb3
                have hln2 : (Lib.byteCells (34 :: qL (ps.take k))).length + (Lib.byteCells (enc p)).length ≤ 140737488355328 := by rw [Lib.byteCells_length (enc p)]; omega
                have z3 := hb3.size
                have B3 : Below w1.heap.size w1 w3 := hbel.trans (hb3.mono hB)
                clear hb3 hown3
                go_wp2_with (at_builtin; refine wpList_append_own _ rfl _ _ 41 rfl w1.heap.size 5 i0 (.int .u8 0) 1 1 Tryd.underlying41 hi hz0 hz1 hz2 rfl (by decide) _ _ _ rfl hownk ad3 _ n3 (Lib.byteCells (enc p)) rfl (Nat.mul_one _).symm HC3.out (byteCells_one _) ?_ ?_ ?_ ?_; (unfold maxLen; omega); omega; omega; intro v2 w2 hown2 hg2 _)
                go_roundw
                case rel => exact ⟨k + 1, by omega, by go_num, by rw [HQT.out, ← List.cons_append, Lib.byteCells_append, HQ.out, toB_encZ, List.length_append]; exact hown2, B3.grown hg2 (by omega) (fun g hg => (hown.lt g hg).1)⟩
                case measure => simp [intOf]; omega
            · have t1 : (letF p 8 != 0) = true := by rw [bne_iff_ne]; exact c1
              have hq := qptZ_let c1
              have HQ := Lib.hid hq; clear hq c1
              go_wp2_with (at_builtin; refine wpList_append_own _ rfl (.tmp 48) (.tmp 50) 41 rfl w1.heap.size 5 i0 (.int .u8 0) 1 1 Tryd.underlying41 hi hz0 hz1 hz2 rfl (by decide) _ _ _ rfl (hown.alloc _) ⟨wr.heap.size, 0, none⟩ 2 2 [.int .u8 92, .int .u8 (letF p 8)] rfl rfl (cells_new _ _ _) ?_ ?_ ?_ ?_ ?_; (simp [Value.oneCell']); (unfold maxLen; omega); omega; (simp; omega); intro v2 w2 hown2 hg2 _)
              go_roundw
              case rel => exact ⟨k + 1, by omega, by go_num, by rw [HQT.out, ← List.cons_append, Lib.byteCells_append, byteCells_toB _ HQB.out, HQ.out, List.length_append]; exact hown2, (hbel.alloc hB _).grown hg2 (by simp; omega) (fun g hg => (hown.lt g hg).1)⟩
              case measure => simp [intOf]; omega
      · have hld : decide (k < ps.length) = false := decide_eq_false hlt
        obtain rfl : k = ps.length := by omega
        go_wp2_with (at_builtin; refine wpList_append_own _ rfl (.tmp 67) (.tmp 68) 41 rfl w1.heap.size 5 i0 (.int .u8 0) 1 1 Tryd.underlying41 hi hz0 hz1 hz2 rfl (by decide) _ _ _ rfl (hown.alloc _) ⟨wr.heap.size, 0, none⟩ 1 1 [.int .u8 34] rfl rfl (cells_new _ _ _) ?_ ?_ ?_ ?_ ?_; (intro u hu; simp at hu; subst hu; rfl); (unfold maxLen; omega); omega; (simp; omega); intro v3 w3 hown3 hg3 _; have hr3 : Rd w3 w3.heap.size v3 (Lib.byteCells (34 :: (qL ps ++ [34]))) := Rd.of_own (by rw [← E34.out, ← Lib.byteCells_append, HQA.out] at hown3; exact hown3); have hcv := hr3.conv (P := Tryd.prog) Tryd.underlying41 Tryd.underlying5 Tryd.underlying9)
        go_ret2
        exact ⟨retq rfl rfl, hb1.trans (((hbel.alloc hB _).grown hg3 (by simp; omega) (fun g hg => (hown.lt g hg).1)).mono hb1.size)⟩
end Go.Proofs.YtcbiaflbncfliaaDoor.Ch
