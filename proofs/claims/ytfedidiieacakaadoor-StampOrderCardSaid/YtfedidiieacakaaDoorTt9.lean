/- Merged: StW2 StW4. -/
import Derived.Test.YtfedidiieacakaaDoorTt8
import Derived.Test.YtfedidiieacakaaDoorTt7
import Derived.Laws.AppendOwnNone
import Derived.Test.YtfedidiieacakaaDoorTt4
namespace Go.Proofs.YtfedidiieacakaaDoor.St
open Go.RowKit
open Go.Proofs.YtfedidiieacakaaDoor.Utf
open Go.Proofs.YtfedidiieacakaaDoor.Nu

theorem wf_64 {n : Int} (h : (Lit.int .i64 n).wf = true) : -9223372036854775808 ≤ n ∧ n ≤ 9223372036854775807 := by
  have := bounds_i64 h
  omega

end Go.Proofs.YtfedidiieacakaaDoor.St
namespace Go.Proofs.YtfedidiieacakaaDoor.St
open Go.RowKit
open Go.Proofs.YtfedidiieacakaaDoor.Utf
open Go.Proofs.YtfedidiieacakaaDoor.Nu

theorem lss_20 {l l' : List UInt8} (h : secOk l) (h' : secOk l') (hl : l.length = 20) (hl' : l'.length = 20) (hx : Lss l l') : secV l < secV l' := by
  obtain ⟨k, h1, h2, h3, h4⟩ := hx
  rcases h4 with h4 | ⟨h4, h5⟩
  · omega
  · rcases Nat.lt_or_ge k 19 with hk | hk
    · exact sec_less h h' k hk h3 h5
    · obtain rfl : k = 19 := by omega
      have a := (endP_yes h.2.1).2.2
      have b := (endP_yes h'.2.1).2.2
      rw [hl] at a
      rw [hl'] at b
      have a' : byt l 19 = 90 := a
      have b' : byt l' 19 = 90 := b
      omega
theorem part_20 {l : List UInt8} (hl : l.length = 20) : partN l = 0 := by
  have h : ∀ i, i < 9 → partD l i = (fun _ => 0) i := fun i _ => by unfold partD; rw [if_neg (by omega)]
  unfold partN
  rw [accF_congr 9 h]
  rfl
theorem mk_order {a b : Int} {l l' : List UInt8} (h : MkOf a l) (h' : MkOf b l') (h0 : l ≠ []) (h0' : l' ≠ []) :
    (a < b ∧ cmpS l l' = -1 ∧ Op.bytesLess l l' = true) ∨ (a = b ∧ cmpS l l' = 0 ∧ Op.bytesLess l l' = false) ∨ (b < a ∧ cmpS l l' = 1 ∧ Op.bytesLess l l' = false) := by
  obtain ⟨s1, s2, s3⟩ := sec_mk h h0
  obtain ⟨t1, t2, t3⟩ := sec_mk h' h0'
  have p1 := part_20 s3
  have p2 := part_20 t3
  have hc : cmpS l l' = if Erl l l' then -1 else if Erl l' l then 1 else 0 := by unfold cmpS; rw [if_pos s1, if_pos t1, cmp_erl s1 t1]
  rcases cmp_cases l l' with ⟨_, q, r⟩ | ⟨_, q, r⟩ | ⟨_, q, r⟩
  · have := lss_20 s1 t1 s3 t3 r
    refine .inl ⟨by omega, ?_, q⟩
    rw [hc, if_pos (.inl this)]
  · subst r
    refine .inr (.inl ⟨by omega, ?_, q⟩)
    rw [hc, if_neg (by unfold Erl; omega), if_neg (by unfold Erl; omega)]
  · have := lss_20 t1 s1 t3 s3 r
    refine .inr (.inr ⟨by omega, ?_, q⟩)
    rw [hc, if_neg (by unfold Erl; omega), if_pos (.inl this)]

set_option maxRecDepth 100000 in
set_option maxHeartbeats 1000000 in
theorem order_walk (a b : Int) (w : World) (ha : (Lit.int .i64 a).wf = true) (hb : (Lit.int .i64 b).wf = true) (T : Tab w) :
    Calls Tryd.prog 7 #[.int .i64 a, .int .i64 b] w fun e w' => e = .returned (.bool true) ∧ Below w.heap.size w w' := by
  obtain ⟨a0, a1⟩ := wf_64 ha
  obtain ⟨b0, b1⟩ := wf_64 hb
  have C1 := Lib.hid (fun wx (h : Tab wx) => stMake_any a wx h a0 a1)
  have C2 := Lib.hid (fun wx (h : Tab wx) => stMake_any b wx h b0 b1)
  have C3 := Lib.hid (fun wx (h : Tab wx) => awake_any11 wx h)
  go_enter Tryd.func7, Tryd.ntmps7
  go_wp2_with fail
  refine (C1.out _ T).mono ?_
  rintro e x1 ⟨l, hl, rfl, hb1⟩
  have HB1 := Lib.hid hb1
  clear hb1
  obtain ⟨X, hX⟩ : ∃ X, strOf l = X := ⟨_, rfl⟩
  rw [hX]
  have hXd : X.data.toList = l := by rw [← hX]; rfl
  clear hX
  go_wp2_with fail
  refine (C2.out _ (T.below HB1.out)).mono ?_
  rintro e x2 ⟨l', hl', rfl, hb2⟩
  have HB2 := Lib.hid (HB1.out.trans (hb2.mono HB1.out.size))
  clear hb2
  obtain ⟨Y, hY⟩ : ∃ Y, strOf l' = Y := ⟨_, rfl⟩
  rw [hY]
  have hYd : Y.data.toList = l' := by rw [← hY]; rfl
  clear hY
  have eX : (X.toList == []) = decide (l = []) := by rw [seq_eq, hXd]
  have eY : (Y.toList == []) = decide (l' = []) := by rw [seq_eq, hYd]
  by_cases h1 : l = []
  case pos =>
    rw [decide_eq_true h1] at eX
    clear h1 eY hXd hYd hl hl'
    go_wp2_with fail
    refine (C3.out _ (T.below HB2.out)).mono ?_
    rintro e x3 ⟨rfl, hb3⟩
    have HB3 := Lib.hid (HB2.out.trans (hb3.mono HB2.out.size))
    clear hb3
    go_wp2_with fail
    refine (C3.out _ (T.below HB3.out)).mono ?_
    rintro e x4 ⟨rfl, hb4⟩
    have HB4 := Lib.hid (HB3.out.trans (hb4.mono HB3.out.size))
    clear hb4
    go_wp2_with fail
    go_ret
    exact ⟨rfl, HB4.out⟩
  rw [decide_eq_false h1] at eX
  by_cases h2 : l' = []
  case pos =>
    rw [decide_eq_true h2] at eY
    clear h1 h2 hXd hYd hl hl'
    go_wp2_with fail
    refine (C3.out _ (T.below HB2.out)).mono ?_
    rintro e x3 ⟨rfl, hb3⟩
    have HB3 := Lib.hid (HB2.out.trans (hb3.mono HB2.out.size))
    clear hb3
    go_wp2_with fail
    refine (C3.out _ (T.below HB3.out)).mono ?_
    rintro e x4 ⟨rfl, hb4⟩
    have HB4 := Lib.hid (HB3.out.trans (hb4.mono HB3.out.size))
    clear hb4
    go_wp2_with fail
    go_ret
    exact ⟨rfl, HB4.out⟩
  rw [decide_eq_false h2] at eY
  obtain ⟨s1, s2, s3⟩ := sec_mk hl h1
  have t3 := (sec_mk hl' h2).2.2
  have lx : X.size = 20 := by rw [← len_data, hXd]; exact s3
  have ly : Y.size = 20 := by rw [← len_data, hYd]; exact t3
  have C4 := Lib.hid (fun wx (h : Tab wx) => Seconds_any X wx h (by omega))
  rw [hXd, secN_yes s1, decide_eq_true s1, s2] at C4
  have C5 := Lib.hid (fun wx (h : Tab wx) => stCompare_any X Y wx h (by omega) (by omega))
  rw [hXd, hYd] at C5
  have t0 : (a == a) = true := beq_self_eq_true a
  have tx : X.toList = l := by rw [ByteArray.toList_eq, hXd]
  have ty : Y.toList = l' := by rw [ByteArray.toList_eq, hYd]
  have key := mk_order hl hl' h1 h2
  rw [← tx, ← ty] at key
  rw [← tx, ← ty] at C5
  clear h1 h2 hXd hYd s1 s2 s3 t3 lx ly hl hl' tx ty
  rcases key with ⟨k1, k2, k3⟩ | ⟨k1, k2, k3⟩ | ⟨k1, k2, k3⟩
  · rw [k2] at C5
    have q1 : decide (a < b) = true := decide_eq_true k1
    have q2 : (a == b) = false := beq_eq_false_iff_ne.2 (by omega)
    clear k1 k2
    go_wp2_with fail
    refine (C3.out _ (T.below HB2.out)).mono ?_
    rintro e x3 ⟨rfl, hb3⟩
    have HB3 := Lib.hid (HB2.out.trans (hb3.mono HB2.out.size))
    clear hb3
    go_wp2_with fail
    refine (C4.out _ (T.below HB3.out)).mono ?_
    rintro e x4 ⟨rfl, hb4⟩
    have HB4 := Lib.hid (HB3.out.trans (hb4.mono HB3.out.size))
    clear hb4
    go_wp2_with fail
    refine (C5.out _ (T.below HB4.out)).mono ?_
    rintro e x5 ⟨rfl, hb5⟩
    have HB5 := Lib.hid (HB4.out.trans (hb5.mono HB4.out.size))
    clear hb5
    go_wp2_with fail
    go_ret
    exact ⟨rfl, HB5.out⟩
  · rw [k2] at C5
    subst k1
    have q1 : decide (a < a) = false := decide_eq_false (by omega)
    clear k2
    go_wp2_with fail
    refine (C3.out _ (T.below HB2.out)).mono ?_
    rintro e x3 ⟨rfl, hb3⟩
    have HB3 := Lib.hid (HB2.out.trans (hb3.mono HB2.out.size))
    clear hb3
    go_wp2_with fail
    refine (C4.out _ (T.below HB3.out)).mono ?_
    rintro e x4 ⟨rfl, hb4⟩
    have HB4 := Lib.hid (HB3.out.trans (hb4.mono HB3.out.size))
    clear hb4
    go_wp2_with fail
    refine (C5.out _ (T.below HB4.out)).mono ?_
    rintro e x5 ⟨rfl, hb5⟩
    have HB5 := Lib.hid (HB4.out.trans (hb5.mono HB4.out.size))
    clear hb5
    go_wp2_with fail
    go_ret
    exact ⟨rfl, HB5.out⟩
  · rw [k2] at C5
    have q1 : decide (a < b) = false := decide_eq_false (by omega)
    have q2 : (a == b) = false := beq_eq_false_iff_ne.2 (by omega)
    clear k1 k2
    go_wp2_with fail
    refine (C3.out _ (T.below HB2.out)).mono ?_
    rintro e x3 ⟨rfl, hb3⟩
    have HB3 := Lib.hid (HB2.out.trans (hb3.mono HB2.out.size))
    clear hb3
    go_wp2_with fail
    refine (C4.out _ (T.below HB3.out)).mono ?_
    rintro e x4 ⟨rfl, hb4⟩
    have HB4 := Lib.hid (HB3.out.trans (hb4.mono HB3.out.size))
    clear hb4
    go_wp2_with fail
    refine (C5.out _ (T.below HB4.out)).mono ?_
    rintro e x5 ⟨rfl, hb5⟩
    have HB5 := Lib.hid (HB4.out.trans (hb5.mono HB4.out.size))
    clear hb5
    go_wp2_with fail
    go_ret
    exact ⟨rfl, HB5.out⟩
end Go.Proofs.YtfedidiieacakaaDoor.St
