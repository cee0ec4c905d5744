/- Merged: TlW1 TlW4. -/
import Derived.Test.YtfdibmcjjclgkaaTt20
import Derived.Test.YtfdibmcjjclgkaaTt8
import Derived.Test.YtfdibmcjjclgkaaTt6
namespace Go.Proofs.Ytfdibmcjjclgkaa.Tl
open Go.Proofs Go.RowKit
open Go.Proofs.Ytfdibmcjjclgkaa.Utf
open Go.Proofs.Ytfdibmcjjclgkaa.Ro

theorem wf_i64 {n : Int} (h : (Lit.int .i64 n).wf = true) : -9223372036854775808 ≤ n ∧ n ≤ 9223372036854775807 := by
  have h1 : (decide (-9223372036854775808 ≤ n) && decide (n ≤ 9223372036854775807)) = true := h
  rw [Bool.and_eq_true] at h1
  exact ⟨of_decide_eq_true h1.1, of_decide_eq_true h1.2⟩
end Go.Proofs.Ytfdibmcjjclgkaa.Tl
namespace Go.Proofs.Ytfdibmcjjclgkaa.Tl
open Go.Proofs Go.RowKit
open Go.Proofs.Ytfdibmcjjclgkaa.Utf
open Go.Proofs.Ytfdibmcjjclgkaa.Ro

theorem cnt_le (l : List En) (s : Int) (id : List UInt8) (k : Nat) : cntS l s id k ≤ k := by
  unfold cntS
  refine Nat.le_trans (List.length_filter_le _ _) ?_
  rw [List.length_take]; omega
set_option maxRecDepth 100000 in
set_option maxHeartbeats 2000000 in
theorem past_walk (v : Value) (l : List En) (f s : Int) (w : World) (hl : RdE w w.heap.size v l) (_hn : l.length * 32 ≤ reachBytes) (hI : ∀ e ∈ l, e.2.1.length ≤ 9223372036854775807) (_hcp : ∀ A m c, v = .slice A m c → m ≤ c) (hf : (Lit.int .i64 f).wf = true) (hs : (Lit.int .i64 s).wf = true) :
    Calls Try.prog 6 #[v, .int .i64 f, .int .i64 s] w fun e w' => e = .returned (.bool true) ∧ Below w.heap.size w w' := by
  have mixed : Try.prog.follows .mixedOrders = true := by kernel_rfl
  obtain ⟨A, c, rfl⟩ := RdE.form hl
  have HL := Lib.hid hl
  clear hl
  have hfb := wf_i64 hf
  have hsb := wf_i64 hs
  obtain ⟨n, hn'⟩ : ∃ n, l.length = n := ⟨_, rfl⟩
  have HN := Lib.hid hn'
  rw [hn'] at HL ⊢
  have HI := Lib.hid hI
  clear hn' hf hs hI
  by_cases h5 : n ≤ 300
  · have t0 : decide ((n : Int) > 300) = false := decide_eq_false (by omega)
    have t1 : decide ((300 : Int) < (n : Int)) = false := decide_eq_false (by omega)
    have t2 : decide (300 < n) = false := decide_eq_false (by omega)
    by_cases hf6 : f ≤ 1152921504606846976
    · have u0 : decide ((f : Int) > 1152921504606846976) = false := decide_eq_false (by omega)
      have u1 : decide ((1152921504606846976 : Int) < f) = false := decide_eq_false (by omega)
      have hsum : IntKind.i64.wrap ((f : Int) + (n : Int)) = f + (n : Int) := IntWalk.i64_in _ (by omega)
      have C1 := Lib.hid (fun (W : World) (hb : Below w.heap.size w W) => pRight_any _ l f (f + (n : Int)) W (by rw [← HN.out] at HL; exact (HL.out.below hb).more hb.size) (by rw [HN.out]; omega) HI.out hfb (by omega))
      have C2 := Lib.hid (fun (W : World) (hb : Below w.heap.size w W) => pSince_any _ l s W (by rw [← HN.out] at HL; exact (HL.out.below hb).more hb.size) (by rw [HN.out]; omega) HI.out)
      rw [HN.out] at C1 C2
      cases hr : rightS l f (f + (n : Int)) with
      | false =>
        rw [hr] at C1
        clear hr
        go_enter Try.func6, Try.ntmps6
        go_wp2_with fail
        refine (awake_any17 _).mono ?_
        rintro e w1 ⟨rfl, hb⟩
        have HB1 := Lib.hid (hb)
        clear hb
        go_wp2_with fail
        refine (C1.out _ HB1.out).mono ?_
        rintro e w2 ⟨rfl, hb⟩
        have HB2 := Lib.hid (HB1.out.trans (hb.mono HB1.out.size))
        clear hb
        go_wp2_with fail
        refine (awake_any17 _).mono ?_
        rintro e w3 ⟨rfl, hb⟩
        have HB3 := Lib.hid (HB2.out.trans (hb.mono HB2.out.size))
        clear hb
        go_wp2_with fail
        go_ret
        exact ⟨rfl, HB3.out⟩
      | true =>
        have HOK := Lib.hid (show okFrom f [] l = true by
          unfold rightS at hr
          rw [Bool.and_eq_true] at hr
          exact hr.2)
        rw [hr] at C1
        clear hr
        by_cases hsf : s < f
        · have v0 : decide ((s : Int) < f) = true := decide_eq_true hsf
          go_enter Try.func6, Try.ntmps6
          go_wp2_with fail
          refine (awake_any17 _).mono ?_
          rintro e w1 ⟨rfl, hb⟩
          have HB1 := Lib.hid (hb)
          clear hb
          go_wp2_with fail
          refine (C1.out _ HB1.out).mono ?_
          rintro e w2 ⟨rfl, hb⟩
          have HB2 := Lib.hid (HB1.out.trans (hb.mono HB1.out.size))
          clear hb
          go_wp2_with fail
          refine (awake_any17 _).mono ?_
          rintro e w3 ⟨rfl, hb⟩
          have HB3 := Lib.hid (HB2.out.trans (hb.mono HB2.out.size))
          clear hb
          go_wp2_with fail
          go_ret
          exact ⟨rfl, HB3.out⟩
        · have v0 : decide ((s : Int) < f) = false := decide_eq_false hsf
          go_enter Try.func6, Try.ntmps6
          go_wp2_with fail
          refine (awake_any17 _).mono ?_
          rintro e w1 ⟨rfl, hb⟩
          have HB1 := Lib.hid (hb)
          clear hb
          go_wp2_with fail
          refine (C1.out _ HB1.out).mono ?_
          rintro e w2 ⟨rfl, hb⟩
          have HB2 := Lib.hid (HB1.out.trans (hb.mono HB1.out.size))
          clear hb
          go_wp2_with fail
          refine (C2.out _ HB2.out).mono ?_
          rintro e w3 ⟨x3, rfl, hr3, hb⟩
          have HP := Lib.hid (rdp_own hr3)
          obtain ⟨A3, c3, rfl⟩ := own_slice hr3
          have HB3 := Lib.hid (HB2.out.trans (hb.mono HB2.out.size))
          obtain ⟨P, hP, hea, hri, hle⟩ : ∃ P : List Pa, sinS l s = P ∧ (∀ i (hi : i < P.length), PsOf l s P[i]) ∧ (∀ i (hi : i + 1 < P.length), P[i].2.2.2 < P[i + 1].2.2.2) ∧ P.length ≤ l.length :=
            ⟨_, rfl, fun i hi => sin_each HOK.out hi, fun i hi => sin_rise HOK.out hi, sin_len l s⟩
          have HEA := Lib.hid hea
          have HRI := Lib.hid hri
          have HLE := Lib.hid hle
          rw [hP] at HP ⊢
          clear hb hr3 hP hea hri hle
          obtain ⟨q, hq⟩ : ∃ q, P.length = q := ⟨_, rfl⟩
          have HQ := Lib.hid hq
          rw [hq]
          have hq3 : q ≤ 300 := by
            have := HLE.out
            rw [hq, HN.out] at this
            omega
          clear hq
          go_wp2_with fail
          go_loopw [8] (fun ii wr => ∃ i : Nat, ii = .int .i64 (i : Int) ∧ i ≤ q ∧ Aside (Below w3.heap.size w3 wr)) (fun ii _ => q - (intOf ii).toNat)
          case atStart => exact ⟨0, rfl, by omega, (show Below _ _ _ from Below.refl _ _)⟩
          case round =>
            obtain ⟨i, rfl, hiq, hbel⟩ := hrel
            have HBE := Lib.hid hbel.out
            have HBW := Lib.hid (HB3.out.trans (hbel.out.mono HB3.out.size))
            clear hbel
            by_cases hlt : i < q
            · have i0 : decide ((i : Int) < (q : Int)) = true := decide_eq_true (by omega)
              have i1 : decide (i < q) = true := decide_eq_true hlt
              have i2 : (0 : Int) ≤ (i : Int) := by omega
              have i3 : (i : Int) < (q : Int) := by omega
              have i4 : ((i : Int)).toNat = i := by omega
              have hiP : i < P.length := by rw [HQ.out]; exact hlt
              have HPS := Lib.hid (HEA.out i hiP)
              have HCE := Lib.hid (fun (W : World) (hb : Below w3.heap.size w3 W) => RdP.at_ HP.out hb hiP)
              rw [HQ.out] at HCE
              rcases hx : P[i] with ⟨pid, pw, pi, pl⟩
              rw [hx] at HCE HPS
              have HXP := Lib.hid hx
              simp only at HCE
              clear hx
              obtain ⟨XE, hXE⟩ : ∃ z, strOf pid = z := ⟨_, rfl⟩
              have HXL := Lib.hid (show XE.toList = pid by rw [← hXE, strOf_list])
              rw [hXE] at HCE
              clear hXE
              obtain ⟨g, o, c, e1, hgp, p0, p1, p2, p3⟩ := HCE.out _ HBE.out
              injection e1 with e1 z1 z2
              subst e1
              clear z1 z2
              have HCP := Lib.hid (fun (W : World) (hb : Below w3.heap.size w3 W) => show W.cell? ⟨g, o + i * 4, none⟩ = some (.string XE) ∧ W.cell? ⟨g, o + i * 4 + 1, none⟩ = some (.bool pw) ∧ W.cell? ⟨g, o + i * 4 + 2, none⟩ = some (.bool pi) ∧ W.cell? ⟨g, o + i * 4 + 3, none⟩ = some (.int .i64 pl) by
                obtain ⟨g', o', c', e1, _, q0, q1, q2, q3⟩ := HCE.out _ hb
                injection e1 with e1 _ _
                injection e1 with e1
                injection e1 with e1 e2 _
                subst e1 e2
                exact ⟨q0, q1, q2, q3⟩)
              clear HCE
              go_wp2_with fail
              clear p0 p1 p2 p3
              go_loopw [10, 11, 12] (fun nw nn kk wx => ∃ k : Nat, kk = .int .i64 (k : Int) ∧ k ≤ n ∧ nw = .bool (nowS l s pid pw k) ∧ nn = .int .i64 ((cntS l s pid k : Nat) : Int) ∧ Aside (Below w3.heap.size w3 wx)) (fun _ _ kk _ => n - (intOf kk).toNat)
              case atStart => exact ⟨0, rfl, by omega, rfl, rfl, (show Below _ _ _ from HBE.out)⟩
              case round =>
                obtain ⟨k, rfl, hkn, rfl, rfl, hbel⟩ := hrel
                have HBF := Lib.hid hbel.out
                have HBX := Lib.hid (HB3.out.trans (hbel.out.mono HB3.out.size))
                clear hbel
                obtain ⟨p0, p1, p2, p3⟩ := HCP.out _ HBF.out
                have hcl := cnt_le l s pid k
                obtain ⟨cn, hcn⟩ : ∃ cn, cntS l s pid k = cn := ⟨_, rfl⟩
                have HCN := Lib.hid hcn
                obtain ⟨nw, hnw⟩ : ∃ nw, nowS l s pid pw k = nw := ⟨_, rfl⟩
                have HNW := Lib.hid hnw
                rw [hcn] at hcl ⊢
                rw [hnw]
                clear hcn hnw
                by_cases hkt : k < n
                · have k0 : decide ((k : Int) < (n : Int)) = true := decide_eq_true (by omega)
                  have k1 : decide (k < n) = true := decide_eq_true hkt
                  have k2 : (0 : Int) ≤ (k : Int) := by omega
                  have k3 : (k : Int) < (n : Int) := by omega
                  have k4 : ((k : Int)).toNat = k := by omega
                  have hkl : k < l.length := by rw [HN.out]; exact hkt
                  obtain ⟨g2, o2, c2, e2, -, b0, b1, b2⟩ := RdE.at_ (by have h := HL.out; rw [← HN.out] at h; exact h) HBX.out hkl
                  injection e2 with e2 z1 z2
                  subst e2
                  clear z1 z2
                  rcases hx : l[k] with ⟨yq, yid, ya⟩
                  rw [hx] at b0 b1 b2
                  have HEk := Lib.hid hx
                  simp only at b0 b1 b2
                  clear hx
                  obtain ⟨Y, hY⟩ : ∃ z, strOf yid = z := ⟨_, rfl⟩
                  have HY := Lib.hid (show Y.toList = yid by rw [← hY, strOf_list])
                  rw [hY] at b1
                  clear hY
                  by_cases hid : yid = pid
                  · have y1 : (Y.toList == XE.toList) = true := by rw [HY.out, HXL.out, hid]; exact beq_self_eq_true _
                    have y2 : Y.toList = XE.toList := by rw [HY.out, HXL.out, hid]
                    have y3 : (Y.toList != XE.toList) = false := by rw [bne, y1]; rfl
                    by_cases hle : yq ≤ s
                    · have d0 : decide ((yq : Int) ≤ s) = true := decide_eq_true hle
                      have HE2 := Lib.hid (now_early (was := pw) (id := pid) HOK.out hkl (by rw [HEk.out]; exact hle))
                      have HLA := Lib.hid (early_was HOK.out HPS.out hkl (by rw [HEk.out]; exact hid) (by rw [HEk.out]; exact hle))
                      rw [HEk.out] at HLA
                      simp only at HLA
                      have CL := Lib.hid (fun (W : World) (hb : Below w.heap.size w W) => last_any _ l k s W (by rw [← HN.out] at HL; exact (HL.out.below hb).more hb.size) (by rw [HN.out]; omega) hkl)
                      rw [HN.out, HEk.out] at CL
                      simp only at CL
                      rw [hid] at CL
                      obtain ⟨z3, hz3⟩ : ∃ b, (ya != 3) = b := ⟨_, rfl⟩
                      have hz4 : decide (ya ≠ 3) = z3 := by rw [← hz3]; by_cases e : ya = 3 <;> simp [e]
                      rw [hz4] at HLA
                      clear hz4 hid hle
                      cases hzz : (z3 != pw) with
                      | false =>
                        have b1 : (z3 == pw) = true := by cases z3 <;> cases pw <;> simp_all
                        have b2 : decide (z3 = pw) = true := by cases z3 <;> cases pw <;> simp_all
                        go_wp2_with (go_quiet (fail))
                        go_roundw
                        case rel => exact ⟨k + 1, by go_num, by omega, by rw [HE2.out.1, HNW.out], by rw [HE2.out.2, HCN.out], (show Below _ _ _ from bdN HBF.out _)⟩
                        case measure => simp [intOf]; omega
                      | true =>
                        have hl1 := HLA.out (by intro e; rw [e] at hzz; simp at hzz)
                        rw [hl1] at CL
                        clear hl1
                        have b1 : (z3 == pw) = false := by cases z3 <;> cases pw <;> simp_all
                        have b2 : decide (z3 = pw) = false := by cases z3 <;> cases pw <;> simp_all
                        go_wp2_with (go_quiet (fail))
                        refine (CL.out _ (bdN HBX.out _)).mono ?_
                        rintro e w5 ⟨rfl, hb⟩
                        have HB5 := Lib.hid ((bdN HBF.out _).trans (hb.mono HBF.out.size))
                        clear hb
                        go_wp2_with fail
                        go_roundw
                        case rel => exact ⟨k + 1, by go_num, by omega, by rw [HE2.out.1, HNW.out], by rw [HE2.out.2, HCN.out], HB5.out⟩
                        case measure => simp [intOf]; omega
                    · have d0 : decide ((yq : Int) ≤ s) = false := decide_eq_false hle
                      have HE2 := Lib.hid (now_late HOK.out HPS.out hkl (by rw [HEk.out]; exact hid) (by rw [HEk.out]; show s < yq; omega))
                      rw [HEk.out] at HE2
                      simp only at HE2
                      rw [HNW.out, HCN.out] at HE2
                      have hz1 : (ya == 1) = decide (ya = 1) := by by_cases e : ya = 1 <;> simp [e]
                      obtain ⟨z3, hz3⟩ : ∃ b, (ya != 3) = b := ⟨_, rfl⟩
                      have HZ3 := Lib.hid (show decide (ya ≠ 3) = z3 by rw [← hz3]; by_cases e : ya = 3 <;> simp [e])
                      obtain ⟨z1, hz2⟩ : ∃ b, decide (ya = 1) = b := ⟨_, rfl⟩
                      rw [hz2] at hz1 HE2
                      have hz5 : (z1 == nw) = false := beq_eq_false_iff_ne.2 HE2.out.1
                      have ka : IntKind.i64.wrap ((cn : Int) + 1) = ((cn + 1 : Nat) : Int) := by rw [IntWalk.i64_in _ (by omega)]; omega
                      clear hid hle hz2
                      go_wp2_with (go_quiet (fail))
                      go_roundw
                      case rel => exact ⟨k + 1, by go_num, by omega, by rw [HE2.out.2.1, HZ3.out], by rw [HE2.out.2.2]; go_num, (show Below _ _ _ from bdN HBF.out _)⟩
                      case measure => simp [intOf]; omega
                  · have y1 : (Y.toList == XE.toList) = false := by rw [HY.out, HXL.out]; exact beq_eq_false_iff_ne.2 hid
                    have y2 : ¬ Y.toList = XE.toList := by rw [HY.out, HXL.out]; exact hid
                    have y3 : (Y.toList != XE.toList) = true := by rw [bne, y1]; rfl
                    have HE2 := Lib.hid (now_other (s := s) (was := pw) (id := pid) hkl (by rw [HEk.out]; exact hid))
                    clear hid
                    go_wp2_with (go_quiet (fail))
                    go_roundw
                    case rel => exact ⟨k + 1, by go_num, by omega, by rw [HE2.out.1, HNW.out], by rw [HE2.out.2, HCN.out], (show Below _ _ _ from bdN HBF.out _)⟩
                    case measure => simp [intOf]; omega
                · have k0 : decide ((k : Int) < (n : Int)) = false := decide_eq_false (by omega)
                  have k1 : decide (k < n) = false := decide_eq_false hkt
                  obtain rfl : k = n := by omega
                  have HEN := Lib.hid (now_end HOK.out HPS.out)
                  rw [HN.out] at HEN
                  simp only at HEN
                  rw [HNW.out, HCN.out] at HEN
                  obtain rfl : nw = pi := HEN.out.1
                  have hcz : cn ≠ 0 := HEN.out.2
                  have e0 : (nw != nw) = false := by simp
                  have e1 : ((cn : Int) == 0) = false := by rw [beq_eq_false_iff_ne]; omega
                  rcases i with _ | m
                  · have r0 : decide (((0 : Nat) : Int) > 0) = false := by decide
                    have r1 : decide ((0 : Int) < ((0 : Nat) : Int)) = false := by decide
                    go_wp2_with (go_quiet (fail))
                    go_roundw
                    case rel => exact ⟨0 + 1, by go_num, by omega, (show Below _ _ _ from bdN HBF.out _)⟩
                    case measure => simp [intOf]; omega
                  · have r0 : decide (((m + 1 : Nat) : Int) > 0) = true := decide_eq_true (by omega)
                    have r1 : decide ((0 : Int) < ((m + 1 : Nat) : Int)) = true := decide_eq_true (by omega)
                    have hmP : m < P.length := by omega
                    have HRM := Lib.hid (HRI.out m hiP)
                    obtain ⟨g', o', c', e9, _, q0, q1, q2, q3⟩ := RdP.at_ HP.out HBF.out hmP
                    injection e9 with e9 _ _
                    injection e9 with e9
                    injection e9 with e9 e8 _
                    subst e9 e8
                    rcases hx : P[m] with ⟨mid, mw, mi, ml⟩
                    rw [hx] at q0 q1 q2 q3 HRM
                    rw [HXP.out] at HRM
                    simp only at q0 q1 q2 q3 HRM
                    clear hx
                    have w0 : decide ((ml : Int) ≥ pl) = false := decide_eq_false (by have := HRM.out; omega)
                    have w1 : decide ((pl : Int) ≤ ml) = false := decide_eq_false (by have := HRM.out; omega)
                    have ka : IntKind.i64.wrap (((m + 1 : Nat) : Int) - 1) = (m : Int) := by rw [IntWalk.i64_in _ (by omega)]; omega
                    have kb : ((m + 1 : Nat) : Int) - 1 = (m : Int) := by omega
                    have kc : (0 : Int) ≤ (m : Int) := by omega
                    have kd : (m : Int) < (q : Int) := by omega
                    have ke : ((m : Int)).toNat = m := by omega
                    go_wp2_with (go_quiet (fail))
                    go_roundw
                    case rel => exact ⟨m + 1 + 1, by go_num, by omega, (show Below _ _ _ from bdN HBF.out _)⟩
                    case measure => simp [intOf]; omega
            · have i0 : decide ((i : Int) < (q : Int)) = false := decide_eq_false (by omega)
              have i1 : decide (i < q) = false := decide_eq_false hlt
              go_wp2_with fail
              go_ret
              exact ⟨rfl, HBW.out⟩
    · have u0 : decide ((f : Int) > 1152921504606846976) = true := decide_eq_true (by omega)
      have u1 : decide ((1152921504606846976 : Int) < f) = true := decide_eq_true (by omega)
      go_enter Try.func6, Try.ntmps6
      go_wp2_with fail
      refine (awake_any17 _).mono ?_
      rintro e w1 ⟨rfl, hb⟩
      have HB1 := Lib.hid (hb)
      clear hb
      go_wp2_with fail
      refine (awake_any17 _).mono ?_
      rintro e w2 ⟨rfl, hb⟩
      have HB2 := Lib.hid (HB1.out.trans (hb.mono HB1.out.size))
      clear hb
      go_wp2_with fail
      go_ret
      exact ⟨rfl, HB2.out⟩
  · have t0 : decide ((n : Int) > 300) = true := decide_eq_true (by omega)
    have t1 : decide ((300 : Int) < (n : Int)) = true := decide_eq_true (by omega)
    have t2 : decide (300 < n) = true := decide_eq_true (by omega)
    go_enter Try.func6, Try.ntmps6
    go_wp2_with fail
    refine (awake_any17 _).mono ?_
    rintro e w1 ⟨rfl, hb⟩
    have HB1 := Lib.hid (hb)
    clear hb
    go_wp2_with fail
    go_ret
    exact ⟨rfl, HB1.out⟩
end Go.Proofs.Ytfdibmcjjclgkaa.Tl
