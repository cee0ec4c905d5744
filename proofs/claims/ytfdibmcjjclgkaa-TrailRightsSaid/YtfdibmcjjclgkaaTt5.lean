/- Merged: TlA TlB. -/
import Derived.Test.YtfdibmcjjclgkaaTt0
import Derived.Test.YtfdibmcjjclgkaaProg
import Derived.BigQuiet
import Derived.Laws.StructEq
import Derived.Deep.LoopGhost
import Derived.Deep.AppendLies
import Derived.Lib.Hide
import Derived.WalkKit
import Derived.IntWalk
namespace Go.Proofs.Ytfdibmcjjclgkaa.Tl
open Go.Proofs Go.RowKit
open Go.Proofs.Ytfdibmcjjclgkaa.Utf
open Go.Proofs.Ytfdibmcjjclgkaa.Ro

abbrev RdE (w : World) (B : Nat) (v : Value) (l : List En) : Prop := RdR w B 3 v (enC l)
abbrev RdP (w : World) (B : Nat) (v : Value) (l : List Pa) : Prop := RdR w B 4 v (paC l)
theorem enC_len (l : List En) : (enC l).length = l.length := List.length_map ..
theorem paC_len (l : List Pa) : (paC l).length = l.length := List.length_map ..
theorem enC_at {l : List En} {k : Nat} (h : k < l.length) : (enC l)[k]'(by rw [enC_len]; exact h) = enR l[k] := by unfold enC; rw [List.getElem_map]
theorem RdE.at_ {w w' : World} {B : Nat} {v : Value} {l : List En} (h : RdE w B v l) (hb : Below B w w') {k : Nat} (hk : k < l.length) :
    ∃ g o c, v = .slice (some ⟨g, o, none⟩) l.length c ∧ g < B ∧ w'.cell? ⟨g, o + k * 3, none⟩ = some (.int .i64 l[k].1) ∧ w'.cell? ⟨g, o + k * 3 + 1, none⟩ = some (.string (strOf l[k].2.1)) ∧ w'.cell? ⟨g, o + k * 3 + 2, none⟩ = some (.int .i64 l[k].2.2) := by
  obtain ⟨g, o, c, e, hg, hc⟩ := (h.below hb).at_ (k := k) (by rw [enC_len]; exact hk)
  rw [enC_at hk] at hc
  rw [enC_len] at e
  exact ⟨g, o, c, e, hg, hc 0 _ rfl, hc 1 _ rfl, hc 2 _ rfl⟩
theorem RdP.at_ {w w' : World} {B : Nat} {v : Value} {l : List Pa} (h : RdP w B v l) (hb : Below B w w') {k : Nat} (hk : k < l.length) :
    ∃ g o c, v = .slice (some ⟨g, o, none⟩) l.length c ∧ g < B ∧ w'.cell? ⟨g, o + k * 4, none⟩ = some (.string (strOf l[k].1)) ∧ w'.cell? ⟨g, o + k * 4 + 1, none⟩ = some (.bool l[k].2.1) ∧ w'.cell? ⟨g, o + k * 4 + 2, none⟩ = some (.bool l[k].2.2.1) ∧ w'.cell? ⟨g, o + k * 4 + 3, none⟩ = some (.int .i64 l[k].2.2.2) := by
  obtain ⟨g, o, c, e, hg, hc⟩ := (h.below hb).at_ (k := k) (by rw [paC_len]; exact hk)
  have e2 : (paC l)[k]'(by rw [paC_len]; exact hk) = paR l[k] := by unfold paC; rw [List.getElem_map]
  rw [e2] at hc
  rw [paC_len] at e
  exact ⟨g, o, c, e, hg, hc 0 _ rfl, hc 1 _ rfl, hc 2 _ rfl, hc 3 _ rfl⟩
theorem RdE.form {w : World} {B : Nat} {v : Value} {l : List En} (h : RdE w B v l) : ∃ A c, v = .slice A l.length c := by
  obtain ⟨A, c, e⟩ := RdR.form h
  exact ⟨A, c, by rw [e, enC_len]⟩
theorem RdP.form {w : World} {B : Nat} {v : Value} {l : List Pa} (h : RdP w B v l) : ∃ A c, v = .slice A l.length c := by
  obtain ⟨A, c, e⟩ := RdR.form h
  exact ⟨A, c, by rw [e, paC_len]⟩
theorem bdN {B : Nat} {a w : World} (h : Below B a w) (n : Nat) : Below B a (w.drewN n) := ⟨h.os, h.tape, h.output, h.size, h.block⟩
def GivesEq {α : Type} (a b : List α) (w : World) (e : Ending) (w' : World) : Prop := (∃ x, e = .returned (.bool x) ∧ (x = true ↔ a = b)) ∧ Below w.heap.size w w'
set_option maxRecDepth 100000 in
set_option maxHeartbeats 1000000 in
theorem rSameE_any (va vb : Value) (a b : List En) (w : World) (ha : RdE w w.heap.size va a) (hb : RdE w w.heap.size vb b) (hn : a.length ≤ 9223372036854775807) : Calls Try.prog 14 #[va, vb] w (GivesEq a b w) := by
  obtain ⟨A, ca, rfl⟩ := RdE.form ha
  obtain ⟨B, cb, rfl⟩ := RdE.form hb
  have HA := Lib.hid ha
  have HB := Lib.hid hb
  clear ha hb
  by_cases hl : a.length = b.length
  · have HL := Lib.hid hl
    obtain ⟨n, hn'⟩ : ∃ n, a.length = n := ⟨_, rfl⟩
    have HN := Lib.hid hn'
    rw [← hl]
    rw [← hl] at HB
    rw [hn'] at hn HA HB ⊢
    clear hl hn'
    have t00 : ((n : Int) != (n : Int)) = false := by rw [bne_eq_false_iff_eq]
    go_enter Try.func14, Try.ntmps14
    go_wp2_with fail
    go_loopw [5] (fun i wr => ∃ k : Nat, i = .int .i64 k ∧ k ≤ n ∧ Aside (a.take k = b.take k) ∧ Aside (Below w.heap.size w wr)) (fun i _ => n - (intOf i).toNat)
    case atStart => exact ⟨0, rfl, by omega, (show _ = _ from rfl), (show Below _ _ _ from Below.refl _ _)⟩
    case round =>
      obtain ⟨k, rfl, hk, hsm, hbel⟩ := hrel
      have HSM := Lib.hid hsm.out
      have HBE := Lib.hid hbel.out
      clear hsm hbel
      by_cases hlt : k < n
      · have t01 : decide ((k : Int) < (n : Int)) = true := decide_eq_true (by omega)
        have t02 : decide (k < n) = true := decide_eq_true hlt
        have k0 : (0 : Int) ≤ (k : Int) := by omega
        have k1 : (k : Int) < (n : Int) := by omega
        have k2 : ((k : Int)).toNat = k := by omega
        have hka : k < a.length := by rw [HN.out]; exact hlt
        have hkb : k < b.length := by rw [← HL.out]; exact hka
        obtain ⟨g, o, c, e1, -, a0, a1, a2⟩ := RdE.at_ HA.out HBE.out hka
        obtain ⟨g', o', c', e2, -, b0, b1, b2⟩ := RdE.at_ HB.out HBE.out hkb
        injection e1 with e1 z1 z2
        injection e2 with e2 z3 z4
        subst e1 e2
        clear z1 z2 z3 z4
        rcases hx : a[k] with ⟨x1, x2, x3⟩
        rcases hy : b[k] with ⟨y1, y2, y3⟩
        rw [hx] at a0 a1 a2
        rw [hy] at b0 b1 b2
        have HXX := Lib.hid hx
        have HYY := Lib.hid hy
        simp only at a0 a1 a2 b0 b1 b2
        clear hx hy
        obtain ⟨X2, hX2⟩ : ∃ z, strOf x2 = z := ⟨_, rfl⟩
        obtain ⟨Y2, hY2⟩ : ∃ z, strOf y2 = z := ⟨_, rfl⟩
        have HX2 := Lib.hid (show X2.toList = x2 by rw [← hX2, strOf_list])
        have HY2 := Lib.hid (show Y2.toList = y2 by rw [← hY2, strOf_list])
        rw [hX2] at a1
        rw [hY2] at b1
        clear hX2 hY2
        by_cases c0 : x1 = y1
        · have t0 : (x1 == y1) = true := by rw [beq_iff_eq]; exact c0
          have C0 := Lib.hid c0
          clear c0
          by_cases c1 : x2 = y2
          · have t1 : (X2.toList == Y2.toList) = true := by rw [HX2.out, HY2.out, beq_iff_eq]; exact c1
            have C1 := Lib.hid c1
            clear c1
            by_cases c2 : x3 = y3
            · have t2 : (x3 == y3) = true := by rw [beq_iff_eq]; exact c2
              have C2 := Lib.hid c2
              clear c2
              have HS2 := Lib.hid (show a.take (k + 1) = b.take (k + 1) by
                rw [List.take_succ_eq_append_getElem hka, List.take_succ_eq_append_getElem hkb, HSM.out, HXX.out, HYY.out, C0.out, C1.out, C2.out])
              go_wp2_with (go_quiet (fail))
              go_roundw
              case rel => exact ⟨k + 1, by go_num, by omega, HS2.out, (show Below _ _ _ from bdN HBE.out _)⟩
              case measure => simp [intOf]; omega
            · have HNE := Lib.hid (show a ≠ b from fun e => by
                have h := HXX.out
                simp only [e] at h
                rw [HYY.out] at h
                simp only [Prod.mk.injEq] at h
                exact c2 h.2.2.symm)
              have t2 : (x3 == y3) = false := beq_eq_false_iff_ne.2 c2
              clear c2
              go_wp2_with (go_quiet (fail))
              go_ret
              exact ⟨⟨false, rfl, by simp [HNE.out]⟩, bdN HBE.out _⟩
          · have HNE := Lib.hid (show a ≠ b from fun e => by
              have h := HXX.out
              simp only [e] at h
              rw [HYY.out] at h
              simp only [Prod.mk.injEq] at h
              exact c1 h.2.1.symm)
            have t1 : (X2.toList == Y2.toList) = false := by rw [HX2.out, HY2.out]; exact beq_eq_false_iff_ne.2 c1
            clear c1
            go_wp2_with (go_quiet (fail))
            go_ret
            exact ⟨⟨false, rfl, by simp [HNE.out]⟩, bdN HBE.out _⟩
        · have HNE := Lib.hid (show a ≠ b from fun e => by
            have h := HXX.out
            simp only [e] at h
            rw [HYY.out] at h
            simp only [Prod.mk.injEq] at h
            exact c0 h.1.symm)
          have t0 : (x1 == y1) = false := beq_eq_false_iff_ne.2 c0
          clear c0
          go_wp2_with (go_quiet (fail))
          go_ret
          exact ⟨⟨false, rfl, by simp [HNE.out]⟩, bdN HBE.out _⟩
      · have t01 : decide ((k : Int) < (n : Int)) = false := decide_eq_false (by omega)
        have t02 : decide (k < n) = false := decide_eq_false hlt
        have HEQ := Lib.hid (show a = b by
          have h := HSM.out
          rw [List.take_of_length_le (by rw [HN.out]; omega), List.take_of_length_le (by rw [← HL.out, HN.out]; omega)] at h
          exact h)
        go_wp2_with fail
        go_ret
        exact ⟨⟨true, rfl, by simp [HEQ.out]⟩, HBE.out⟩
  · have HNE := Lib.hid (show a ≠ b from fun e => hl (by rw [e]))
    have t00 : ((a.length : Int) != (b.length : Int)) = true := by rw [bne_iff_ne]; omega
    generalize a.length = n at *
    generalize b.length = m at *
    clear hl
    go_enter Try.func14, Try.ntmps14
    go_wp2_with fail
    go_ret
    exact ⟨⟨false, rfl, by simp [HNE.out]⟩, Below.refl _ _⟩
set_option maxRecDepth 100000 in
set_option maxHeartbeats 1000000 in
theorem rSame_any (va vb : Value) (a b : List Pa) (w : World) (ha : RdP w w.heap.size va a) (hb : RdP w w.heap.size vb b) (hn : a.length ≤ 9223372036854775807) : Calls Try.prog 15 #[va, vb] w (GivesEq a b w) := by
  obtain ⟨A, ca, rfl⟩ := RdP.form ha
  obtain ⟨B, cb, rfl⟩ := RdP.form hb
  have HA := Lib.hid ha
  have HB := Lib.hid hb
  clear ha hb
  by_cases hl : a.length = b.length
  · have HL := Lib.hid hl
    obtain ⟨n, hn'⟩ : ∃ n, a.length = n := ⟨_, rfl⟩
    have HN := Lib.hid hn'
    rw [← hl]
    rw [← hl] at HB
    rw [hn'] at hn HA HB ⊢
    clear hl hn'
    have t00 : ((n : Int) != (n : Int)) = false := by rw [bne_eq_false_iff_eq]
    go_enter Try.func15, Try.ntmps15
    go_wp2_with fail
    go_loopw [5] (fun i wr => ∃ k : Nat, i = .int .i64 k ∧ k ≤ n ∧ Aside (a.take k = b.take k) ∧ Aside (Below w.heap.size w wr)) (fun i _ => n - (intOf i).toNat)
    case atStart => exact ⟨0, rfl, by omega, (show _ = _ from rfl), (show Below _ _ _ from Below.refl _ _)⟩
    case round =>
      obtain ⟨k, rfl, hk, hsm, hbel⟩ := hrel
      have HSM := Lib.hid hsm.out
      have HBE := Lib.hid hbel.out
      clear hsm hbel
      by_cases hlt : k < n
      · have t01 : decide ((k : Int) < (n : Int)) = true := decide_eq_true (by omega)
        have t02 : decide (k < n) = true := decide_eq_true hlt
        have k0 : (0 : Int) ≤ (k : Int) := by omega
        have k1 : (k : Int) < (n : Int) := by omega
        have k2 : ((k : Int)).toNat = k := by omega
        have hka : k < a.length := by rw [HN.out]; exact hlt
        have hkb : k < b.length := by rw [← HL.out]; exact hka
        obtain ⟨g, o, c, e1, -, a0, a1, a2, a3⟩ := RdP.at_ HA.out HBE.out hka
        obtain ⟨g', o', c', e2, -, b0, b1, b2, b3⟩ := RdP.at_ HB.out HBE.out hkb
        injection e1 with e1 z1 z2
        injection e2 with e2 z3 z4
        subst e1 e2
        clear z1 z2 z3 z4
        rcases hx : a[k] with ⟨x1, x2, x3, x4⟩
        rcases hy : b[k] with ⟨y1, y2, y3, y4⟩
        rw [hx] at a0 a1 a2 a3
        rw [hy] at b0 b1 b2 b3
        have HXX := Lib.hid hx
        have HYY := Lib.hid hy
        simp only at a0 a1 a2 a3 b0 b1 b2 b3
        clear hx hy
        obtain ⟨X1, hX1⟩ : ∃ z, strOf x1 = z := ⟨_, rfl⟩
        obtain ⟨Y1, hY1⟩ : ∃ z, strOf y1 = z := ⟨_, rfl⟩
        have HX1 := Lib.hid (show X1.toList = x1 by rw [← hX1, strOf_list])
        have HY1 := Lib.hid (show Y1.toList = y1 by rw [← hY1, strOf_list])
        rw [hX1] at a0
        rw [hY1] at b0
        clear hX1 hY1
        by_cases c0 : x1 = y1
        · have t0 : (X1.toList == Y1.toList) = true := by rw [HX1.out, HY1.out, beq_iff_eq]; exact c0
          have C0 := Lib.hid c0
          clear c0
          by_cases c1 : x2 = y2
          · have t1 : (x2 == y2) = true := by rw [beq_iff_eq]; exact c1
            have C1 := Lib.hid c1
            clear c1
            by_cases c2 : x3 = y3
            · have t2 : (x3 == y3) = true := by rw [beq_iff_eq]; exact c2
              have C2 := Lib.hid c2
              clear c2
              by_cases c3 : x4 = y4
              · have t3 : (x4 == y4) = true := by rw [beq_iff_eq]; exact c3
                have C3 := Lib.hid c3
                clear c3
                have HS2 := Lib.hid (show a.take (k + 1) = b.take (k + 1) by
                  rw [List.take_succ_eq_append_getElem hka, List.take_succ_eq_append_getElem hkb, HSM.out, HXX.out, HYY.out, C0.out, C1.out, C2.out, C3.out])
                go_wp2_with (go_quiet (fail))
                go_roundw
                case rel => exact ⟨k + 1, by go_num, by omega, HS2.out, (show Below _ _ _ from bdN HBE.out _)⟩
                case measure => simp [intOf]; omega
              · have HNE := Lib.hid (show a ≠ b from fun e => by
                  have h := HXX.out
                  simp only [e] at h
                  rw [HYY.out] at h
                  simp only [Prod.mk.injEq] at h
                  exact c3 h.2.2.2.symm)
                have t3 : (x4 == y4) = false := beq_eq_false_iff_ne.2 c3
                clear c3
                go_wp2_with (go_quiet (fail))
                go_ret
                exact ⟨⟨false, rfl, by simp [HNE.out]⟩, bdN HBE.out _⟩
            · have HNE := Lib.hid (show a ≠ b from fun e => by
                have h := HXX.out
                simp only [e] at h
                rw [HYY.out] at h
                simp only [Prod.mk.injEq] at h
                exact c2 h.2.2.1.symm)
              have t2 : (x3 == y3) = false := beq_eq_false_iff_ne.2 c2
              clear c2
              go_wp2_with (go_quiet (fail))
              go_ret
              exact ⟨⟨false, rfl, by simp [HNE.out]⟩, bdN HBE.out _⟩
          · have HNE := Lib.hid (show a ≠ b from fun e => by
              have h := HXX.out
              simp only [e] at h
              rw [HYY.out] at h
              simp only [Prod.mk.injEq] at h
              exact c1 h.2.1.symm)
            have t1 : (x2 == y2) = false := beq_eq_false_iff_ne.2 c1
            clear c1
            go_wp2_with (go_quiet (fail))
            go_ret
            exact ⟨⟨false, rfl, by simp [HNE.out]⟩, bdN HBE.out _⟩
        · have HNE := Lib.hid (show a ≠ b from fun e => by
            have h := HXX.out
            simp only [e] at h
            rw [HYY.out] at h
            simp only [Prod.mk.injEq] at h
            exact c0 h.1.symm)
          have t0 : (X1.toList == Y1.toList) = false := by rw [HX1.out, HY1.out]; exact beq_eq_false_iff_ne.2 c0
          clear c0
          go_wp2_with (go_quiet (fail))
          go_ret
          exact ⟨⟨false, rfl, by simp [HNE.out]⟩, bdN HBE.out _⟩
      · have t01 : decide ((k : Int) < (n : Int)) = false := decide_eq_false (by omega)
        have t02 : decide (k < n) = false := decide_eq_false hlt
        have HEQ := Lib.hid (show a = b by
          have h := HSM.out
          rw [List.take_of_length_le (by rw [HN.out]; omega), List.take_of_length_le (by rw [← HL.out, HN.out]; omega)] at h
          exact h)
        go_wp2_with fail
        go_ret
        exact ⟨⟨true, rfl, by simp [HEQ.out]⟩, HBE.out⟩
  · have HNE := Lib.hid (show a ≠ b from fun e => hl (by rw [e]))
    have t00 : ((a.length : Int) != (b.length : Int)) = true := by rw [bne_iff_ne]; omega
    generalize a.length = n at *
    generalize b.length = m at *
    clear hl
    go_enter Try.func15, Try.ntmps15
    go_wp2_with fail
    go_ret
    exact ⟨⟨false, rfl, by simp [HNE.out]⟩, Below.refl _ _⟩
end Go.Proofs.Ytfdibmcjjclgkaa.Tl
namespace Go.Proofs.Ytfdibmcjjclgkaa.Tl
open Go.Proofs Go.RowKit
open Go.Proofs.Ytfdibmcjjclgkaa.Utf
open Go.Proofs.Ytfdibmcjjclgkaa.Ro

set_option maxRecDepth 100000 in
set_option maxHeartbeats 2000000 in
theorem rRight_any (v : Value) (l : List En) (f s : Int) (w : World) (hl : RdE w w.heap.size v l) (hn : l.length ≤ 4611686018427387904) (hf : -9223372036854775808 ≤ f ∧ f ≤ 9223372036854775807) (hs : -9223372036854775808 ≤ s ∧ s ≤ 9223372036854775807) :
    Calls Try.prog 10 #[v, .int .i64 f, .int .i64 s] w fun e w' => e = .returned (.bool (rightS l f s)) ∧ Below w.heap.size w w' := by
  have mixed : Try.prog.follows .mixedOrders = true := by kernel_rfl
  obtain ⟨A, c, rfl⟩ := RdE.form hl
  have HL := Lib.hid hl
  clear hl
  obtain ⟨n, hn'⟩ : ∃ n, l.length = n := ⟨_, rfl⟩
  have HN := Lib.hid hn'
  rw [hn'] at hn HL ⊢
  obtain ⟨r, hr⟩ : ∃ r, rightS l f s = r := ⟨_, rfl⟩
  have HH := Lib.hid hr
  rw [hr]
  clear hn' hr
  by_cases g1 : f < 0
  · have g1xa : decide ((f : Int) < 0) = true := decide_eq_true (by omega)
    have HR := Lib.hid (show r = false by
      rw [← HH.out]; unfold rightS; rw [decide_eq_false (by rw [HN.out]; omega), Bool.false_and])
    clear g1
    go_enter Try.func10, Try.ntmps10
    go_wp2_with fail
    go_ret
    exact ⟨by rw [HR.out]; rfl, Below.refl _ _⟩
  · have g1xa : decide ((f : Int) < 0) = false := decide_eq_false (by omega)
    by_cases g2 : s < 0
    · have g2xa : decide ((s : Int) < 0) = true := decide_eq_true (by omega)
      have HR := Lib.hid (show r = false by
        rw [← HH.out]; unfold rightS; rw [decide_eq_false (by rw [HN.out]; omega), Bool.false_and])
      clear g2
      go_enter Try.func10, Try.ntmps10
      go_wp2_with fail
      go_ret
      exact ⟨by rw [HR.out]; rfl, Below.refl _ _⟩
    · have g2xa : decide ((s : Int) < 0) = false := decide_eq_false (by omega)
      by_cases g3 : 9007199254740991 < s
      · have g3xa : decide ((s : Int) > 9007199254740991) = true := decide_eq_true (by omega)
        have g3xb : decide ((9007199254740991 : Int) < s) = true := decide_eq_true (by omega)
        have HR := Lib.hid (show r = false by
          rw [← HH.out]; unfold rightS; rw [decide_eq_false (by rw [HN.out]; omega), Bool.false_and])
        clear g3
        go_enter Try.func10, Try.ntmps10
        go_wp2_with fail
        go_ret
        exact ⟨by rw [HR.out]; rfl, Below.refl _ _⟩
      · have g3xa : decide ((s : Int) > 9007199254740991) = false := decide_eq_false (by omega)
        have g3xb : decide ((9007199254740991 : Int) < s) = false := decide_eq_false (by omega)
        by_cases g4 : s < f
        · have g4xa : decide ((f : Int) > s) = true := decide_eq_true (by omega)
          have g4xb : decide ((s : Int) < f) = true := decide_eq_true (by omega)
          have HR := Lib.hid (show r = false by
            rw [← HH.out]; unfold rightS; rw [decide_eq_false (by rw [HN.out]; omega), Bool.false_and])
          clear g4
          go_enter Try.func10, Try.ntmps10
          go_wp2_with fail
          go_ret
          exact ⟨by rw [HR.out]; rfl, Below.refl _ _⟩
        · have g4xa : decide ((f : Int) > s) = false := decide_eq_false (by omega)
          have g4xb : decide ((s : Int) < f) = false := decide_eq_false (by omega)
          by_cases g5 : s - f ≠ (n : Int)
          · have g5xa : ((s - f : Int) != (n : Int)) = true := by rw [bne_iff_ne]; omega
            have g5xb : ((s - f : Int) == (n : Int)) = false := by rw [beq_eq_false_iff_ne]; omega
            have HR := Lib.hid (show r = false by
              rw [← HH.out]; unfold rightS; rw [decide_eq_false (by rw [HN.out]; omega), Bool.false_and])
            clear g5
            go_enter Try.func10, Try.ntmps10
            go_wp2_with fail
            go_ret
            exact ⟨by rw [HR.out]; rfl, Below.refl _ _⟩
          · have g5xa : ((s - f : Int) != (n : Int)) = false := by rw [bne_eq_false_iff_eq]; omega
            have g5xb : ((s - f : Int) == (n : Int)) = true := by rw [beq_iff_eq]; omega
            go_enter Try.func10, Try.ntmps10
            go_wp2_with fail
            go_loopw [7] (fun i wr => ∃ k : Nat, i = .int .i64 (k : Int) ∧ k ≤ n ∧ Aside (okFrom f [] l = okFrom f (l.take k) (l.drop k)) ∧ Aside (Below w.heap.size w wr)) (fun i _ => n - (intOf i).toNat)
            case atStart => exact ⟨0, rfl, by omega, (show _ = _ from rfl), (show Below _ _ _ from Below.refl _ _)⟩
            case round =>
              obtain ⟨k, rfl, hk, hok, hbel⟩ := hrel
              have HOK := Lib.hid hok.out
              have HBE := Lib.hid hbel.out
              clear hok hbel
              by_cases hlt : k < n
              · have t1 : decide ((k : Int) < (n : Int)) = true := decide_eq_true (by omega)
                have t2 : decide (k < n) = true := decide_eq_true hlt
                have k0 : (0 : Int) ≤ (k : Int) := by omega
                have k1 : (k : Int) < (n : Int) := by omega
                have k2 : ((k : Int)).toNat = k := by omega
                have hkl : k < l.length := by rw [HN.out]; exact hlt
                obtain ⟨g, o, c, e1, -, a0, a1, a2⟩ := RdE.at_ HL.out HBE.out hkl
                injection e1 with e1 z1 z2
                subst e1
                clear z1 z2
                rcases hx : l[k] with ⟨eq, eid, ea⟩
                rw [hx] at a0 a1 a2
                have HE := Lib.hid hx
                simp only at a0 a1 a2
                clear hx
                obtain ⟨XE, hXE⟩ : ∃ z, strOf eid = z := ⟨_, rfl⟩
                have HXE := Lib.hid hXE
                have HXL := Lib.hid (show XE.toList = eid by rw [← hXE, strOf_list])
                rw [hXE] at a1
                clear hXE
                by_cases h1 : eq = f + 1 + (k : Int)
                · have h1xa : ((eq : Int) != f + 1 + (k : Int)) = false := by rw [bne_eq_false_iff_eq]; omega
                  have h1xb : ((eq : Int) == f + 1 + (k : Int)) = true := by rw [beq_iff_eq]; omega
                  by_cases h2 : ea < 1
                  · have h2xa : decide ((ea : Int) < 1) = true := decide_eq_true (by omega)
                    have HR := Lib.hid (show r = false by
                      have h := HOK.out
                      rw [ok_step hkl, HE.out, show okAt f (l.take k) (eq, eid, ea) = false from decide_eq_false (by rw [List.length_take, Nat.min_eq_left (by omega)]; (try simp only); omega), Bool.false_and] at h
                      rw [← HH.out]; unfold rightS; rw [h, Bool.and_false])
                    go_wp2_with (go_quiet (fail))
                    go_ret
                    exact ⟨by rw [HR.out]; rfl, HBE.out⟩
                  · have h2xa : decide ((ea : Int) < 1) = false := decide_eq_false (by omega)
                    by_cases h3 : 3 < ea
                    · have h3xa : decide ((ea : Int) > 3) = true := decide_eq_true (by omega)
                      have h3xb : decide ((3 : Int) < ea) = true := decide_eq_true (by omega)
                      have HR := Lib.hid (show r = false by
                        have h := HOK.out
                        rw [ok_step hkl, HE.out, show okAt f (l.take k) (eq, eid, ea) = false from decide_eq_false (by rw [List.length_take, Nat.min_eq_left (by omega)]; (try simp only); omega), Bool.false_and] at h
                        rw [← HH.out]; unfold rightS; rw [h, Bool.and_false])
                      go_wp2_with (go_quiet (fail))
                      go_ret
                      exact ⟨by rw [HR.out]; rfl, HBE.out⟩
                    · have h3xa : decide ((ea : Int) > 3) = false := decide_eq_false (by omega)
                      have h3xb : decide ((3 : Int) < ea) = false := decide_eq_false (by omega)
                      go_wp2_with fail
                      go_loopw [8, 9] (fun a i wx => ∃ j : Nat, i = .int .i64 (j : Int) ∧ j ≤ k ∧ a = .int .i64 (wasS (l.take j) eid) ∧ Aside (Below w.heap.size w wx)) (fun _ i _ => k - (intOf i).toNat)
                      case atStart => exact ⟨0, rfl, by omega, rfl, (show Below _ _ _ from HBE.out)⟩
                      case round =>
                        obtain ⟨j, rfl, hjk, rfl, hbx⟩ := hrel
                        have HBX := Lib.hid hbx.out
                        clear hbx
                        obtain ⟨g2, o2, c2, e2, -, a0, a1, a2⟩ := RdE.at_ HL.out HBX.out hkl
                        injection e2 with e2 z1 z2
                        injection e2 with e2
                        injection e2 with e2 e3
                        subst e2 e3
                        rw [HE.out] at a0 a1 a2
                        simp only at a0 a1 a2
                        rw [HXE.out] at a1
                        clear z1 z2
                        by_cases hjt : j < k
                        · have j1 : decide ((j : Int) < (k : Int)) = true := decide_eq_true (by omega)
                          have j2 : decide (j < k) = true := decide_eq_true hjt
                          have j3 : (0 : Int) ≤ (j : Int) := by omega
                          have j4 : (j : Int) < (n : Int) := by omega
                          have j5 : ((j : Int)).toNat = j := by omega
                          have hjl : j < l.length := by rw [HN.out]; omega
                          obtain ⟨g3, o3, c3, e4, -, b0, b1, b2⟩ := RdE.at_ HL.out HBX.out hjl
                          injection e4 with e4 z1 z2
                          injection e4 with e4
                          injection e4 with e4 e5
                          subst e4 e5
                          rcases hy : l[j] with ⟨yq, yid, ya⟩
                          rw [hy] at b0 b1 b2
                          have HY := Lib.hid hy
                          simp only at b0 b1 b2
                          clear hy z1 z2
                          obtain ⟨Y, hY⟩ : ∃ z, strOf yid = z := ⟨_, rfl⟩
                          have HYL := Lib.hid (show Y.toList = yid by rw [← hY, strOf_list])
                          rw [hY] at b1
                          have HST := Lib.hid (show wasS (l.take (j + 1)) eid = if yid = eid then ya else wasS (l.take j) eid by rw [List.take_succ_eq_append_getElem hjl, was_snoc, HY.out])
                          clear hY
                          by_cases hyx : yid = eid
                          · have y1 : (Y.toList == XE.toList) = true := by rw [HYL.out, HXL.out, hyx]; exact beq_self_eq_true _
                            have y2 : Y.toList = XE.toList := by rw [HYL.out, HXL.out, hyx]
                            have HS2 := Lib.hid (show wasS (l.take (j + 1)) eid = ya by rw [HST.out, if_pos hyx])
                            clear hyx HST
                            generalize wasS (l.take j) eid = z at *
                            go_wp2_with (go_quiet (fail))
                            go_roundw
                            case rel => exact ⟨j + 1, by go_num, by omega, by rw [HS2.out], (show Below _ _ _ from bdN HBX.out _)⟩
                            case measure => simp [intOf]; omega
                          · have y1 : (Y.toList == XE.toList) = false := by rw [HYL.out, HXL.out]; exact beq_eq_false_iff_ne.2 hyx
                            have y2 : ¬ Y.toList = XE.toList := by rw [HYL.out, HXL.out]; exact hyx
                            have HS2 := Lib.hid (show wasS (l.take (j + 1)) eid = wasS (l.take j) eid by rw [HST.out, if_neg hyx])
                            clear hyx HST
                            obtain ⟨z, hz⟩ : ∃ z, wasS (l.take j) eid = z := ⟨_, rfl⟩
                            have HZ := Lib.hid hz
                            rw [hz]
                            clear hz
                            go_wp2_with (go_quiet (fail))
                            go_roundw
                            case rel => exact ⟨j + 1, by go_num, by omega, by rw [HS2.out, HZ.out], (show Below _ _ _ from bdN HBX.out _)⟩
                            case measure => simp [intOf]; omega
                        · have j1 : decide ((j : Int) < (k : Int)) = false := decide_eq_false (by omega)
                          have j2 : decide (j < k) = false := decide_eq_false hjt
                          obtain rfl : k = j := by omega
                          obtain ⟨z, hz⟩ : ∃ z, wasS (l.take k) eid = z := ⟨_, rfl⟩
                          have HW := Lib.hid hz
                          have HBE := HBX
                          rw [hz]
                          clear hz
                          by_cases u1 : ea = 1
                          · have u1xa : ((ea : Int) != 1) = false := by rw [bne_eq_false_iff_eq]; omega
                            have u1xb : ((ea : Int) == 1) = true := by rw [beq_iff_eq]; omega
                            by_cases u2 : z = 0
                            · have u2xa : ((z : Int) != 0) = false := by rw [bne_eq_false_iff_eq]; omega
                              have u2xb : ((z : Int) == 0) = true := by rw [beq_iff_eq]; omega
                              have HOK2 := Lib.hid (show okFrom f [] l = okFrom f (l.take (k + 1)) (l.drop (k + 1)) by
                                have h := HOK.out
                                rw [ok_step hkl, HE.out, show okAt f (l.take k) (eq, eid, ea) = true from decide_eq_true (by rw [List.length_take, Nat.min_eq_left (by omega)]; have e := HW.out; (try simp only at e ⊢); rw [e]; omega), Bool.true_and] at h
                                exact h)
                              go_wp2_with (go_quiet (fail))
                              go_roundw
                              case rel => exact ⟨k + 1, by go_num, by omega, HOK2.out, (show Below _ _ _ from HBE.out)⟩
                              case measure => simp [intOf]; omega
                            · have u2xa : ((z : Int) != 0) = true := by rw [bne_iff_ne]; omega
                              have u2xb : ((z : Int) == 0) = false := by rw [beq_eq_false_iff_ne]; omega
                              have HR := Lib.hid (show r = false by
                                have h := HOK.out
                                rw [ok_step hkl, HE.out, show okAt f (l.take k) (eq, eid, ea) = false from decide_eq_false (by rw [List.length_take, Nat.min_eq_left (by omega)]; have e := HW.out; (try simp only at e ⊢); rw [e]; (try simp only); omega), Bool.false_and] at h
                                rw [← HH.out]; unfold rightS; rw [h, Bool.and_false])
                              go_wp2_with (go_quiet (fail))
                              go_ret
                              exact ⟨by rw [HR.out]; rfl, HBE.out⟩
                          · have u1xa : ((ea : Int) != 1) = true := by rw [bne_iff_ne]; omega
                            have u1xb : ((ea : Int) == 1) = false := by rw [beq_eq_false_iff_ne]; omega
                            by_cases u3 : z = 3
                            · have u3xa : ((z : Int) != 3) = false := by rw [bne_eq_false_iff_eq]; omega
                              have u3xb : ((z : Int) == 3) = true := by rw [beq_iff_eq]; omega
                              have HR := Lib.hid (show r = false by
                                have h := HOK.out
                                rw [ok_step hkl, HE.out, show okAt f (l.take k) (eq, eid, ea) = false from decide_eq_false (by rw [List.length_take, Nat.min_eq_left (by omega)]; have e := HW.out; (try simp only at e ⊢); rw [e]; (try simp only); omega), Bool.false_and] at h
                                rw [← HH.out]; unfold rightS; rw [h, Bool.and_false])
                              go_wp2_with (go_quiet (fail))
                              go_ret
                              exact ⟨by rw [HR.out]; rfl, HBE.out⟩
                            · have u3xa : ((z : Int) != 3) = true := by rw [bne_iff_ne]; omega
                              have u3xb : ((z : Int) == 3) = false := by rw [beq_eq_false_iff_ne]; omega
                              have HOK2 := Lib.hid (show okFrom f [] l = okFrom f (l.take (k + 1)) (l.drop (k + 1)) by
                                have h := HOK.out
                                rw [ok_step hkl, HE.out, show okAt f (l.take k) (eq, eid, ea) = true from decide_eq_true (by rw [List.length_take, Nat.min_eq_left (by omega)]; have e := HW.out; (try simp only at e ⊢); rw [e]; omega), Bool.true_and] at h
                                exact h)
                              go_wp2_with (go_quiet (fail))
                              go_roundw
                              case rel => exact ⟨k + 1, by go_num, by omega, HOK2.out, (show Below _ _ _ from HBE.out)⟩
                              case measure => simp [intOf]; omega
                · have h1xa : ((eq : Int) != f + 1 + (k : Int)) = true := by rw [bne_iff_ne]; omega
                  have h1xb : ((eq : Int) == f + 1 + (k : Int)) = false := by rw [beq_eq_false_iff_ne]; omega
                  have HR := Lib.hid (show r = false by
                    have h := HOK.out
                    rw [ok_step hkl, HE.out, show okAt f (l.take k) (eq, eid, ea) = false from decide_eq_false (by rw [List.length_take, Nat.min_eq_left (by omega)]; (try simp only); omega), Bool.false_and] at h
                    rw [← HH.out]; unfold rightS; rw [h, Bool.and_false])
                  go_wp2_with (go_quiet (fail))
                  go_ret
                  exact ⟨by rw [HR.out]; rfl, HBE.out⟩
              · have t1 : decide ((k : Int) < (n : Int)) = false := decide_eq_false (by omega)
                have t2 : decide (k < n) = false := decide_eq_false hlt
                have HR := Lib.hid (show r = true by
                  have h := HOK.out
                  rw [List.drop_eq_nil_of_le (by rw [HN.out]; omega), okFrom] at h
                  rw [← HH.out]; unfold rightS; rw [h, decide_eq_true (by rw [HN.out]; omega)]; rfl)
                go_wp2_with fail
                go_ret
                exact ⟨by rw [HR.out]; rfl, HBE.out⟩
end Go.Proofs.Ytfdibmcjjclgkaa.Tl
