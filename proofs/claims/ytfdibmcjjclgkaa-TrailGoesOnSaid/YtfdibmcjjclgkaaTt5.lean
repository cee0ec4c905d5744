/- Merged: TlA. -/
import Derived.Test.YtfdibmcjjclgkaaTt0
import Derived.Test.YtfdibmcjjclgkaaProg
import Derived.BigQuiet
import Derived.Laws.StructEq
import Derived.Deep.LoopGhost
import Derived.Deep.AppendLies
import Derived.Lib.Hide
import Derived.WalkKit
import Derived.IntWalk
namespace Go.Proofs.Ytfdibmcjjclgkaa.Tl
open Go.Proofs Go.RowKit
open Go.Proofs.Ytfdibmcjjclgkaa.Utf
open Go.Proofs.Ytfdibmcjjclgkaa.Ro

abbrev RdE (w : World) (B : Nat) (v : Value) (l : List En) : Prop := RdR w B 3 v (enC l)
abbrev RdP (w : World) (B : Nat) (v : Value) (l : List Pa) : Prop := RdR w B 4 v (paC l)
theorem enC_len (l : List En) : (enC l).length = l.length := List.length_map ..
theorem paC_len (l : List Pa) : (paC l).length = l.length := List.length_map ..
theorem enC_at {l : List En} {k : Nat} (h : k < l.length) : (enC l)[k]'(by rw [enC_len]; exact h) = enR l[k] := by unfold enC; rw [List.getElem_map]
theorem RdE.at_ {w w' : World} {B : Nat} {v : Value} {l : List En} (h : RdE w B v l) (hb : Below B w w') {k : Nat} (hk : k < l.length) :
    ∃ g o c, v = .slice (some ⟨g, o, none⟩) l.length c ∧ g < B ∧ w'.cell? ⟨g, o + k * 3, none⟩ = some (.int .i64 l[k].1) ∧ w'.cell? ⟨g, o + k * 3 + 1, none⟩ = some (.string (strOf l[k].2.1)) ∧ w'.cell? ⟨g, o + k * 3 + 2, none⟩ = some (.int .i64 l[k].2.2) := by
  obtain ⟨g, o, c, e, hg, hc⟩ := (h.below hb).at_ (k := k) (by rw [enC_len]; exact hk)
  rw [enC_at hk] at hc
  rw [enC_len] at e
  exact ⟨g, o, c, e, hg, hc 0 _ rfl, hc 1 _ rfl, hc 2 _ rfl⟩
theorem RdP.at_ {w w' : World} {B : Nat} {v : Value} {l : List Pa} (h : RdP w B v l) (hb : Below B w w') {k : Nat} (hk : k < l.length) :
    ∃ g o c, v = .slice (some ⟨g, o, none⟩) l.length c ∧ g < B ∧ w'.cell? ⟨g, o + k * 4, none⟩ = some (.string (strOf l[k].1)) ∧ w'.cell? ⟨g, o + k * 4 + 1, none⟩ = some (.bool l[k].2.1) ∧ w'.cell? ⟨g, o + k * 4 + 2, none⟩ = some (.bool l[k].2.2.1) ∧ w'.cell? ⟨g, o + k * 4 + 3, none⟩ = some (.int .i64 l[k].2.2.2) := by
  obtain ⟨g, o, c, e, hg, hc⟩ := (h.below hb).at_ (k := k) (by rw [paC_len]; exact hk)
  have e2 : (paC l)[k]'(by rw [paC_len]; exact hk) = paR l[k] := by unfold paC; rw [List.getElem_map]
  rw [e2] at hc
  rw [paC_len] at e
  exact ⟨g, o, c, e, hg, hc 0 _ rfl, hc 1 _ rfl, hc 2 _ rfl, hc 3 _ rfl⟩
theorem RdE.form {w : World} {B : Nat} {v : Value} {l : List En} (h : RdE w B v l) : ∃ A c, v = .slice A l.length c := by
  obtain ⟨A, c, e⟩ := RdR.form h
  exact ⟨A, c, by rw [e, enC_len]⟩
theorem RdP.form {w : World} {B : Nat} {v : Value} {l : List Pa} (h : RdP w B v l) : ∃ A c, v = .slice A l.length c := by
  obtain ⟨A, c, e⟩ := RdR.form h
  exact ⟨A, c, by rw [e, paC_len]⟩
theorem bdN {B : Nat} {a w : World} (h : Below B a w) (n : Nat) : Below B a (w.drewN n) := ⟨h.os, h.tape, h.output, h.size, h.block⟩
def GivesEq {α : Type} (a b : List α) (w : World) (e : Ending) (w' : World) : Prop := (∃ x, e = .returned (.bool x) ∧ (x = true ↔ a = b)) ∧ Below w.heap.size w w'
set_option maxRecDepth 100000 in
set_option maxHeartbeats 1000000 in
theorem rSameE_any (va vb : Value) (a b : List En) (w : World) (ha : RdE w w.heap.size va a) (hb : RdE w w.heap.size vb b) (hn : a.length ≤ 9223372036854775807) : Calls Try.prog 14 #[va, vb] w (GivesEq a b w) := by
  obtain ⟨A, ca, rfl⟩ := RdE.form ha
  obtain ⟨B, cb, rfl⟩ := RdE.form hb
  have HA := Lib.hid ha
  have HB := Lib.hid hb
  clear ha hb
  by_cases hl : a.length = b.length
  · have HL := Lib.hid hl
    obtain ⟨n, hn'⟩ : ∃ n, a.length = n := ⟨_, rfl⟩
    have HN := Lib.hid hn'
    rw [← hl]
    rw [← hl] at HB
    rw [hn'] at hn HA HB ⊢
    clear hl hn'
    have t00 : ((n : Int) != (n : Int)) = false := by rw [bne_eq_false_iff_eq]
    go_enter Try.func14, Try.ntmps14
    go_wp2_with fail
    go_loopw [5] (fun i wr => ∃ k : Nat, i = .int .i64 k ∧ k ≤ n ∧ Aside (a.take k = b.take k) ∧ Aside (Below w.heap.size w wr)) (fun i _ => n - (intOf i).toNat)
    case atStart => exact ⟨0, rfl, by omega, (show _ = _ from rfl), (show Below _ _ _ from Below.refl _ _)⟩
    case round =>
      obtain ⟨k, rfl, hk, hsm, hbel⟩ := hrel
      have HSM := Lib.hid hsm.out
      have HBE := Lib.hid hbel.out
      clear hsm hbel
      by_cases hlt : k < n
      · have t01 : decide ((k : Int) < (n : Int)) = true := decide_eq_true (by omega)
        have t02 : decide (k < n) = true := decide_eq_true hlt
        have k0 : (0 : Int) ≤ (k : Int) := by omega
        have k1 : (k : Int) < (n : Int) := by omega
        have k2 : ((k : Int)).toNat = k := by omega
        have hka : k < a.length := by rw [HN.out]; exact hlt
        have hkb : k < b.length := by rw [← HL.out]; exact hka
        obtain ⟨g, o, c, e1, -, a0, a1, a2⟩ := RdE.at_ HA.out HBE.out hka
        obtain ⟨g', o', c', e2, -, b0, b1, b2⟩ := RdE.at_ HB.out HBE.out hkb
        injection e1 with e1 z1 z2
        injection e2 with e2 z3 z4
        subst e1 e2
        clear z1 z2 z3 z4
        rcases hx : a[k] with ⟨x1, x2, x3⟩
        rcases hy : b[k] with ⟨y1, y2, y3⟩
        rw [hx] at a0 a1 a2
        rw [hy] at b0 b1 b2
        have HXX := Lib.hid hx
        have HYY := Lib.hid hy
        simp only at a0 a1 a2 b0 b1 b2
        clear hx hy
        obtain ⟨X2, hX2⟩ : ∃ z, strOf x2 = z := ⟨_, rfl⟩
        obtain ⟨Y2, hY2⟩ : ∃ z, strOf y2 = z := ⟨_, rfl⟩
        have HX2 := Lib.hid (show X2.toList = x2 by rw [← hX2, strOf_list])
        have HY2 := Lib.hid (show Y2.toList = y2 by rw [← hY2, strOf_list])
        rw [hX2] at a1
        rw [hY2] at b1
        clear hX2 hY2
        by_cases c0 : x1 = y1
        · have t0 : (x1 == y1) = true := by rw [beq_iff_eq]; exact c0
          have C0 := Lib.hid c0
          clear c0
          by_cases c1 : x2 = y2
          · have t1 : (X2.toList == Y2.toList) = true := by rw [HX2.out, HY2.out, beq_iff_eq]; exact c1
            have C1 := Lib.hid c1
            clear c1
            by_cases c2 : x3 = y3
            · have t2 : (x3 == y3) = true := by rw [beq_iff_eq]; exact c2
              have C2 := Lib.hid c2
              clear c2
              have HS2 := Lib.hid (show a.take (k + 1) = b.take (k + 1) by
                rw [List.take_succ_eq_append_getElem hka, List.take_succ_eq_append_getElem hkb, HSM.out, HXX.out, HYY.out, C0.out, C1.out, C2.out])
              go_wp2_with (go_quiet (fail))
              go_roundw
              case rel => exact ⟨k + 1, by go_num, by omega, HS2.out, (show Below _ _ _ from bdN HBE.out _)⟩
              case measure => simp [intOf]; omega
            · have HNE := Lib.hid (show a ≠ b from fun e => by
                have h := HXX.out
                simp only [e] at h
                rw [HYY.out] at h
                simp only [Prod.mk.injEq] at h
                exact c2 h.2.2.symm)
              have t2 : (x3 == y3) = false := beq_eq_false_iff_ne.2 c2
              clear c2
              go_wp2_with (go_quiet (fail))
              go_ret
              exact ⟨⟨false, rfl, by simp [HNE.out]⟩, bdN HBE.out _⟩
          · have HNE := Lib.hid (show a ≠ b from fun e => by
              have h := HXX.out
              simp only [e] at h
              rw [HYY.out] at h
              simp only [Prod.mk.injEq] at h
              exact c1 h.2.1.symm)
            have t1 : (X2.toList == Y2.toList) = false := by rw [HX2.out, HY2.out]; exact beq_eq_false_iff_ne.2 c1
            clear c1
            go_wp2_with (go_quiet (fail))
            go_ret
            exact ⟨⟨false, rfl, by simp [HNE.out]⟩, bdN HBE.out _⟩
        · have HNE := Lib.hid (show a ≠ b from fun e => by
            have h := HXX.out
            simp only [e] at h
            rw [HYY.out] at h
            simp only [Prod.mk.injEq] at h
            exact c0 h.1.symm)
          have t0 : (x1 == y1) = false := beq_eq_false_iff_ne.2 c0
          clear c0
          go_wp2_with (go_quiet (fail))
          go_ret
          exact ⟨⟨false, rfl, by simp [HNE.out]⟩, bdN HBE.out _⟩
      · have t01 : decide ((k : Int) < (n : Int)) = false := decide_eq_false (by omega)
        have t02 : decide (k < n) = false := decide_eq_false hlt
        have HEQ := Lib.hid (show a = b by
          have h := HSM.out
          rw [List.take_of_length_le (by rw [HN.out]; omega), List.take_of_length_le (by rw [← HL.out, HN.out]; omega)] at h
          exact h)
        go_wp2_with fail
        go_ret
        exact ⟨⟨true, rfl, by simp [HEQ.out]⟩, HBE.out⟩
  · have HNE := Lib.hid (show a ≠ b from fun e => hl (by rw [e]))
    have t00 : ((a.length : Int) != (b.length : Int)) = true := by rw [bne_iff_ne]; omega
    generalize a.length = n at *
    generalize b.length = m at *
    clear hl
    go_enter Try.func14, Try.ntmps14
    go_wp2_with fail
    go_ret
    exact ⟨⟨false, rfl, by simp [HNE.out]⟩, Below.refl _ _⟩
set_option maxRecDepth 100000 in
set_option maxHeartbeats 1000000 in
theorem rSame_any (va vb : Value) (a b : List Pa) (w : World) (ha : RdP w w.heap.size va a) (hb : RdP w w.heap.size vb b) (hn : a.length ≤ 9223372036854775807) : Calls Try.prog 15 #[va, vb] w (GivesEq a b w) := by
  obtain ⟨A, ca, rfl⟩ := RdP.form ha
  obtain ⟨B, cb, rfl⟩ := RdP.form hb
  have HA := Lib.hid ha
  have HB := Lib.hid hb
  clear ha hb
  by_cases hl : a.length = b.length
  · have HL := Lib.hid hl
    obtain ⟨n, hn'⟩ : ∃ n, a.length = n := ⟨_, rfl⟩
    have HN := Lib.hid hn'
    rw [← hl]
    rw [← hl] at HB
    rw [hn'] at hn HA HB ⊢
    clear hl hn'
    have t00 : ((n : Int) != (n : Int)) = false := by rw [bne_eq_false_iff_eq]
    go_enter Try.func15, Try.ntmps15
    go_wp2_with fail
    go_loopw [5] (fun i wr => ∃ k : Nat, i = .int .i64 k ∧ k ≤ n ∧ Aside (a.take k = b.take k) ∧ Aside (Below w.heap.size w wr)) (fun i _ => n - (intOf i).toNat)
    case atStart => exact ⟨0, rfl, by omega, (show _ = _ from rfl), (show Below _ _ _ from Below.refl _ _)⟩
    case round =>
      obtain ⟨k, rfl, hk, hsm, hbel⟩ := hrel
      have HSM := Lib.hid hsm.out
      have HBE := Lib.hid hbel.out
      clear hsm hbel
      by_cases hlt : k < n
      · have t01 : decide ((k : Int) < (n : Int)) = true := decide_eq_true (by omega)
        have t02 : decide (k < n) = true := decide_eq_true hlt
        have k0 : (0 : Int) ≤ (k : Int) := by omega
        have k1 : (k : Int) < (n : Int) := by omega
        have k2 : ((k : Int)).toNat = k := by omega
        have hka : k < a.length := by rw [HN.out]; exact hlt
        have hkb : k < b.length := by rw [← HL.out]; exact hka
        obtain ⟨g, o, c, e1, -, a0, a1, a2, a3⟩ := RdP.at_ HA.out HBE.out hka
        obtain ⟨g', o', c', e2, -, b0, b1, b2, b3⟩ := RdP.at_ HB.out HBE.out hkb
        injection e1 with e1 z1 z2
        injection e2 with e2 z3 z4
        subst e1 e2
        clear z1 z2 z3 z4
        rcases hx : a[k] with ⟨x1, x2, x3, x4⟩
        rcases hy : b[k] with ⟨y1, y2, y3, y4⟩
        rw [hx] at a0 a1 a2 a3
        rw [hy] at b0 b1 b2 b3
        have HXX := Lib.hid hx
        have HYY := Lib.hid hy
        simp only at a0 a1 a2 a3 b0 b1 b2 b3
        clear hx hy
        obtain ⟨X1, hX1⟩ : ∃ z, strOf x1 = z := ⟨_, rfl⟩
        obtain ⟨Y1, hY1⟩ : ∃ z, strOf y1 = z := ⟨_, rfl⟩
        have HX1 := Lib.hid (show X1.toList = x1 by rw [← hX1, strOf_list])
        have HY1 := Lib.hid (show Y1.toList = y1 by rw [← hY1, strOf_list])
        rw [hX1] at a0
        rw [hY1] at b0
        clear hX1 hY1
        by_cases c0 : x1 = y1
        · have t0 : (X1.toList == Y1.toList) = true := by rw [HX1.out, HY1.out, beq_iff_eq]; exact c0
          have C0 := Lib.hid c0
          clear c0
          by_cases c1 : x2 = y2
          · have t1 : (x2 == y2) = true := by rw [beq_iff_eq]; exact c1
            have C1 := Lib.hid c1
            clear c1
            by_cases c2 : x3 = y3
            · have t2 : (x3 == y3) = true := by rw [beq_iff_eq]; exact c2
              have C2 := Lib.hid c2
              clear c2
              by_cases c3 : x4 = y4
              · have t3 : (x4 == y4) = true := by rw [beq_iff_eq]; exact c3
                have C3 := Lib.hid c3
                clear c3
                have HS2 := Lib.hid (show a.take (k + 1) = b.take (k + 1) by
                  rw [List.take_succ_eq_append_getElem hka, List.take_succ_eq_append_getElem hkb, HSM.out, HXX.out, HYY.out, C0.out, C1.out, C2.out, C3.out])
                go_wp2_with (go_quiet (fail))
                go_roundw
                case rel => exact ⟨k + 1, by go_num, by omega, HS2.out, (show Below _ _ _ from bdN HBE.out _)⟩
                case measure => simp [intOf]; omega
              · have HNE := Lib.hid (show a ≠ b from fun e => by
                  have h := HXX.out
                  simp only [e] at h
                  rw [HYY.out] at h
                  simp only [Prod.mk.injEq] at h
                  exact c3 h.2.2.2.symm)
                have t3 : (x4 == y4) = false := beq_eq_false_iff_ne.2 c3
                clear c3
                go_wp2_with (go_quiet (fail))
                go_ret
                exact ⟨⟨false, rfl, by simp [HNE.out]⟩, bdN HBE.out _⟩
            · have HNE := Lib.hid (show a ≠ b from fun e => by
                have h := HXX.out
                simp only [e] at h
                rw [HYY.out] at h
                simp only [Prod.mk.injEq] at h
                exact c2 h.2.2.1.symm)
              have t2 : (x3 == y3) = false := beq_eq_false_iff_ne.2 c2
              clear c2
              go_wp2_with (go_quiet (fail))
              go_ret
              exact ⟨⟨false, rfl, by simp [HNE.out]⟩, bdN HBE.out _⟩
          · have HNE := Lib.hid (show a ≠ b from fun e => by
              have h := HXX.out
              simp only [e] at h
              rw [HYY.out] at h
              simp only [Prod.mk.injEq] at h
              exact c1 h.2.1.symm)
            have t1 : (x2 == y2) = false := beq_eq_false_iff_ne.2 c1
            clear c1
            go_wp2_with (go_quiet (fail))
            go_ret
            exact ⟨⟨false, rfl, by simp [HNE.out]⟩, bdN HBE.out _⟩
        · have HNE := Lib.hid (show a ≠ b from fun e => by
            have h := HXX.out
            simp only [e] at h
            rw [HYY.out] at h
            simp only [Prod.mk.injEq] at h
            exact c0 h.1.symm)
          have t0 : (X1.toList == Y1.toList) = false := by rw [HX1.out, HY1.out]; exact beq_eq_false_iff_ne.2 c0
          clear c0
          go_wp2_with (go_quiet (fail))
          go_ret
          exact ⟨⟨false, rfl, by simp [HNE.out]⟩, bdN HBE.out _⟩
      · have t01 : decide ((k : Int) < (n : Int)) = false := decide_eq_false (by omega)
        have t02 : decide (k < n) = false := decide_eq_false hlt
        have HEQ := Lib.hid (show a = b by
          have h := HSM.out
          rw [List.take_of_length_le (by rw [HN.out]; omega), List.take_of_length_le (by rw [← HL.out, HN.out]; omega)] at h
          exact h)
        go_wp2_with fail
        go_ret
        exact ⟨⟨true, rfl, by simp [HEQ.out]⟩, HBE.out⟩
  · have HNE := Lib.hid (show a ≠ b from fun e => hl (by rw [e]))
    have t00 : ((a.length : Int) != (b.length : Int)) = true := by rw [bne_iff_ne]; omega
    generalize a.length = n at *
    generalize b.length = m at *
    clear hl
    go_enter Try.func15, Try.ntmps15
    go_wp2_with fail
    go_ret
    exact ⟨⟨false, rfl, by simp [HNE.out]⟩, Below.refl _ _⟩
end Go.Proofs.Ytfdibmcjjclgkaa.Tl
