/- Merged: TlS7 TlS5 TlS8 TlS9. -/
import Derived.Test.YtfdibmcjjclgkaaTt10
namespace Go.Proofs.Ytfdibmcjjclgkaa.Tl
open Go.Proofs Go.RowKit Go.Sort Go.Shelf Go.Lib
open Go.Proofs.Ytfdibmcjjclgkaa.Utf
open Go.Proofs.Ytfdibmcjjclgkaa.Tr

set_option maxRecDepth 1000000 in
set_option maxHeartbeats 16000000 in
/-- THE RIGHT PART IS THE LONGER ONE -/
theorem symMerge_c24 (blk off cap a m b : Nat) (d0 d : Array P4) (w0 w : World) (R : RowK encP 4 w0 blk off d0) (hs : d.size = d0.size) (S : SWK encP 4 w0 blk off d w) (h1 : a < m) (h2 : m < b) (h3 : b ≤ d.size) (hsz : d.size < 4611686018427387904)
    (s1 : SortedIn ltL a m d) (s2 : SortedIn ltL m b d) (xc : Crs a m b d) (hna : a + 1 < m) (hnb : m + 1 < b) (mid : Nat) (hmid : mid = (a + b) / 2) (hc : m ≤ mid) (IH : ∀ (a' m' b' : Nat) (d' : Array P4) (w' : World), d'.size = d.size → SWK encP 4 w0 blk off d' w' → a' < m' → m' < b' → b' ≤ d.size → b' - a' < b - a → SortedIn ltL a' m' d' → SortedIn ltL m' b' d' → Crs a' m' b' d' →
      Calls Try.prog 35 #[.slice (some ⟨blk, off, none⟩) d.size cap, .int .i64 a', .int .i64 m', .int .i64 b', .func (.func 29) #[] #[]] w' fun e w'' => e = .returned (.tuple #[]) ∧ ∃ d'', SWK encP 4 w0 blk off d'' w'' ∧ PermIn a' b' d' d'' ∧ SortedIn ltL a' b' d'') :
    Calls Try.prog 35 #[.slice (some ⟨blk, off, none⟩) d.size cap, .int .i64 a, .int .i64 m, .int .i64 b, .func (.func 29) #[] #[]] w fun e w' => e = .returned (.tuple #[]) ∧ ∃ d', SWK encP 4 w0 blk off d' w' ∧ PermIn a b d d' ∧ SortedIn ltL a b d' := by
  have mixed := mixedOrd4
  have HS0 : Aside (d.size = d0.size) := hs
  have S0 : Aside (SWK encP 4 w0 blk off d w) := S
  have Q1 : Aside _ := s1
  have Q2 : Aside _ := s2
  have XC : Aside _ := xc
  have e58 : ∀ args w, (callFunc 29 args).run Try.prog w = .ok (.enter 29 args) w := enters_of Try.func29 (by kernel_rfl) rfl
  clear S hs s1 s2 xc
  have JH : Aside _ := IH
  clear IH
  have IH := JH
  clear JH
  have u1 : (((m : Int) - (a : Int)) == 1) = false := by rw [beq_eq_false_iff_ne]; omega
  have u1b : ¬ (m : Int) - (a : Int) = 1 := by omega
  have u1c : (((b : Int) - (m : Int)) == 1) = false := by rw [beq_eq_false_iff_ne]; omega
  have u1d : ¬ (b : Int) - (m : Int) = 1 := by omega
  have wmid : ((a : Int) + (b : Int)) / 2 = (mid : Int) := by omega
  have m1 : 2 * mid ≤ a + b := by omega
  have m2 : a + b ≤ 2 * mid + 1 := by omega
  have HMID : Aside (mid = (a + b) / 2) := hmid
  clear hmid
  obtain ⟨n, hn⟩ : ∃ n, n = mid + m := ⟨_, rfl⟩
  have wn : IntKind.i64.wrap ((mid : Int) + (m : Int)) = (n : Int) := by rw [IntKind.wrap_i64]; omega
  have wn2 : (mid : Int) + (m : Int) = (n : Int) := by omega
  have n1 : n ≤ mid + m := by omega
  have n2 : mid + m ≤ n := by omega
  have HN : Aside (n = mid + m) := hn
  clear hn
  obtain ⟨p, hp⟩ : ∃ p, n = p + 1 := ⟨n - 1, by omega⟩
  have wp : IntKind.i64.wrap ((n : Int) - 1) = (p : Int) := by rw [IntKind.wrap_i64]; omega
  have wp2 : (n : Int) - 1 = (p : Int) := by omega
  have p1 : n ≤ p + 1 := by omega
  have p2 : p + 1 ≤ n := by omega
  have HP : Aside (p = mid + m - 1) := (show _ = _ by have := HN.out; omega)
  clear hp
  have u2a : decide ((mid : Int) < (m : Int)) = false := decide_eq_false (by omega)
  have u2b : decide (mid < m) = false := decide_eq_false (by omega)
  have u2c : ¬ ((mid : Int) < (m : Int)) := by omega
  go_enter Try.func35, Try.ntmps35
  go_wp2_with fail
  go_loopw [20, 21] (fun si sj wr => ∃ i j : Nat, si = .int .i64 i ∧ sj = .int .i64 j ∧ a ≤ i ∧ i ≤ j ∧ j ≤ m ∧ Aside (SWK encP 4 w0 blk off d wr) ∧ Aside ((∀ c, a ≤ c → c < i → ltL d[p - c]! d[c]! = false) ∧ (∀ c, j ≤ c → c < m → ltL d[p - c]! d[c]! = true))) (fun si sj _ => (intOf sj).toNat - (intOf si).toNat)
  case atStart => exact ⟨a, m, rfl, rfl, by omega, by omega, by omega, S0, (show _ ∧ _ from ⟨fun x g1 g2 => by omega, fun x g1 g2 => by omega⟩)⟩
  case round =>
    clear S0
    obtain ⟨i, j, rfl, rfl, hai, hij, hjm, S, I⟩ := hrel
    by_cases hlt : i < j
    · have t2 : decide ((i : Int) < (j : Int)) = true := decide_eq_true (by omega)
      have t3 : decide (i < j) = true := decide_eq_true hlt
      obtain ⟨c, hhc⟩ : ∃ z, z = (i + j) / 2 := ⟨_, rfl⟩
      have wc : ((i : Int) + (j : Int)) / 2 = (c : Int) := by omega
      have loc : i ≤ c := by omega
      have upc : c < j := by omega
      clear hhc
      obtain ⟨q, hq⟩ : ∃ q, q + c = p := ⟨p - c, by omega⟩
      have wq : IntKind.i64.wrap ((p : Int) - (c : Int)) = (q : Int) := by rw [IntKind.wrap_i64]; omega
      have wq2 : (p : Int) - (c : Int) = (q : Int) := by omega
      have wq3 : IntKind.i64.wrap (q : Int) = (q : Int) := by rw [IntKind.wrap_i64]; omega
      have q1 : q + c ≤ p := by omega
      have q2 : p ≤ q + c := by omega
      have HQ : Aside (p - c = q) := (show _ = _ by omega)
      clear hq
      have qm : m ≤ q := by omega
      have qb : q < b := by omega
      have cm : c < m := by omega
      have pic : (0 : Int) ≤ (c : Int) := by omega
      have bic : (c : Int) < (d.size : Int) := by omega
      have eic : ((c : Int)).toNat = c := by omega
      have piq : (0 : Int) ≤ (q : Int) := by omega
      have biq : (q : Int) < (d.size : Int) := by omega
      have eiq : ((q : Int)).toNat = q := by omega
      cases hG : ltL d[q]! d[c]! with
      | true =>
        have HG : Aside _ := hG
        obtain ⟨x8, hx8⟩ : ∃ x, x = d[q]! := ⟨_, rfl⟩
        obtain ⟨y8, hy8⟩ : ∃ x, x = d[c]! := ⟨_, rfl⟩
        have kx8 := cells4g S.out R HS0.out q (by omega)
        have ky8 := cells4g S.out R HS0.out c (by omega)
        have hc8 := SWK.cmp (P := Try.prog) S.out (byLast_lays blk off d0.size w0) HS0.out x8 y8
        rw [← hx8] at kx8
        rw [← hy8] at ky8
        have hv8 : cfP x8 y8 < 0 := by rw [hx8, hy8]; exact (lt_cross (XC.out _ _ (by omega) (by omega) (by omega) (by omega))).1 hG
        have hd8 : decide (cfP x8 y8 < 0) = true := decide_eq_true hv8
        clear hx8 hy8
        generalize cfP x8 y8 = r8 at hc8 hv8 hd8
        obtain ⟨xx8, xk8, xn8, xs8, xg8⟩ := x8
        obtain ⟨yx8, yk8, yn8, ys8, yg8⟩ := y8
        simp only [encP] at hc8
        simp only [C4g] at kx8 ky8
        generalize strOf xx8 = X8 at *
        generalize strOf yx8 = Y8 at *
        obtain ⟨a08, a18, a28, a38⟩ := kx8
        obtain ⟨b08, b18, b28, b38⟩ := ky8
        clear hG
        go_wp2_with fail
        go_quiet_grown (first | (go_at_fn 29; refine Calls.grown_of (hc8 _ _)))
        have S2 : Aside (SWK encP 4 w0 blk off d (grow (wr.drewN nq) osq)) := S.out.grown nq osq
        clear a08 a18 a28 a38 b08 b18 b28 b38 hc8 S
        generalize grow (wr.drewN nq) osq = w2 at S2 ⊢
        clear nq osq
        go_wp2
        go_roundw
        case rel =>
          refine ⟨i, c, rfl, rfl, hai, by omega, by omega, S2, ?_⟩
          refine (show _ ∧ _ from ⟨I.out.1, fun x g1 g2 => ?_⟩)
          have k1 := sorted_le ltL_swo Q1.out (show a ≤ c by omega) g1 (by omega)
          have k2 := sorted_le ltL_swo Q2.out (show m ≤ p - x by omega) (show p - x ≤ q by omega) (by omega)
          cases hq : ltL d[p - x]! d[x]! with
          | true => rfl
          | false => have := ltL_swo.ntrans _ _ _ k2 (ltL_swo.ntrans _ _ _ hq k1); rw [HG.out] at this; cases this
        case measure => simp [intOf]; omega
      | false =>
        have HG : Aside _ := hG
        obtain ⟨x8, hx8⟩ : ∃ x, x = d[q]! := ⟨_, rfl⟩
        obtain ⟨y8, hy8⟩ : ∃ x, x = d[c]! := ⟨_, rfl⟩
        have kx8 := cells4g S.out R HS0.out q (by omega)
        have ky8 := cells4g S.out R HS0.out c (by omega)
        have hc8 := SWK.cmp (P := Try.prog) S.out (byLast_lays blk off d0.size w0) HS0.out x8 y8
        rw [← hx8] at kx8
        rw [← hy8] at ky8
        have hv8 : ¬ cfP x8 y8 < 0 := by rw [hx8, hy8]; exact ge_cross (XC.out _ _ (by omega) (by omega) (by omega) (by omega)) hG
        have hd8 : decide (cfP x8 y8 < 0) = false := decide_eq_false hv8
        clear hx8 hy8
        generalize cfP x8 y8 = r8 at hc8 hv8 hd8
        obtain ⟨xx8, xk8, xn8, xs8, xg8⟩ := x8
        obtain ⟨yx8, yk8, yn8, ys8, yg8⟩ := y8
        simp only [encP] at hc8
        simp only [C4g] at kx8 ky8
        generalize strOf xx8 = X8 at *
        generalize strOf yx8 = Y8 at *
        obtain ⟨a08, a18, a28, a38⟩ := kx8
        obtain ⟨b08, b18, b28, b38⟩ := ky8
        clear hG
        go_wp2_with fail
        go_quiet_grown (first | (go_at_fn 29; refine Calls.grown_of (hc8 _ _)))
        have S2 : Aside (SWK encP 4 w0 blk off d (grow (wr.drewN nq) osq)) := S.out.grown nq osq
        clear a08 a18 a28 a38 b08 b18 b28 b38 hc8 S
        generalize grow (wr.drewN nq) osq = w2 at S2 ⊢
        clear nq osq
        go_wp2
        go_roundw
        case rel =>
          refine ⟨c + 1, j, by go_num, rfl, by omega, by omega, hjm, S2, ?_⟩
          refine (show _ ∧ _ from ⟨fun x g1 g2 => ?_, I.out.2⟩)
          have k1 := sorted_le ltL_swo Q1.out (show a ≤ x by omega) (show x ≤ c by omega) (by omega)
          have k2 := sorted_le ltL_swo Q2.out (show m ≤ q by omega) (show q ≤ p - x by omega) (by omega)
          exact ltL_swo.ntrans _ _ _ k2 (ltL_swo.ntrans _ _ _ HG.out k1)
        case measure => simp [intOf]; omega
    · obtain ⟨st, hst⟩ : ∃ st, st = i := ⟨_, rfl⟩
      have hji : j = i := by omega
      subst hji
      subst hst
      have t2 : decide ((st : Int) < (st : Int)) = false := decide_eq_false (by omega)
      have t3 : decide (st < st) = false := decide_eq_false (by omega)
      clear hlt
      obtain ⟨en, hen⟩ : ∃ en, en + st = n := ⟨n - st, by omega⟩
      have we : IntKind.i64.wrap ((n : Int) - (st : Int)) = (en : Int) := by rw [IntKind.wrap_i64]; omega
      have we2 : (n : Int) - (st : Int) = (en : Int) := by omega
      have e1 : en + st ≤ n := by omega
      have e2 : n ≤ en + st := by omega
      have HE : Aside (mid + m - st = en) := (show _ = _ by have := HN.out; omega)
      clear hen
      have hmen : m ≤ en := by omega
      have henb : en ≤ b := by omega
      have hast : a ≤ st := by omega
      have hstm : st ≤ mid := by omega
      have hmen2 : mid ≤ en := by omega
      have Xc := cut_turned ltL_swo HMID.out h1 h2 h3 Q1.out Q2.out (.inl ⟨hc, rfl, rfl⟩) hai hjm (by rw [← HP.out]; exact I.out.1) (by rw [← HP.out]; exact I.out.2)
      have CUT : Aside _ := fun {d2 d3 : Array P4} p1 => cut_done4 (d2 := d2) (d3 := d3) ltL_swo HMID.out h1 h2 h3 Q1.out Q2.out (.inl ⟨hc, rfl, rfl⟩) hai hjm (by rw [← HP.out]; exact I.out.1) (by rw [← HP.out]; exact I.out.2) p1
      rw [HE.out] at Xc CUT
      obtain ⟨d1, hd1⟩ : ∃ d1, rotD d st m en = d1 := ⟨_, rfl⟩
      have D1 : Aside (d1.size = d.size) := (show _ = _ by rw [← hd1]; exact rotD_size _ _ _ _)
      rw [hd1] at Xc CUT
      have X1 : Aside (SortedIn ltL a st d1 ∧ SortedIn ltL st mid d1) := ⟨Xc.1, Xc.2.1⟩
      have X : Aside (SortedIn ltL mid en d1 ∧ SortedIn ltL en b d1 ∧ Crs mid en b d1) := ⟨Xc.2.2.1, Xc.2.2.2.1, by rw [← hd1]; exact crs_two XC.out (by omega) (by omega) (by omega) (by omega) (by omega) (by omega) (by omega)⟩
      have Y1 : Aside (Crs a st mid d1) := (show Crs _ _ _ _ by rw [← hd1]; exact crs_one XC.out (by omega) (by omega) (by omega) (by omega) (by omega) (by omega) (by omega))
      clear Xc
      by_cases g1 : st < m
      · have t1a : decide ((st : Int) < (m : Int)) = true := decide_eq_true (by omega)
        have t1b : decide (st < m) = true := decide_eq_true (by omega)
        have t1c : ((st : Int) < (m : Int)) := by omega
        by_cases g2 : m < en
        · have t2a : decide ((m : Int) < (en : Int)) = true := decide_eq_true (by omega)
          have t2b : decide (m < en) = true := decide_eq_true (by omega)
          have t2c : ((m : Int) < (en : Int)) := by omega
          have HCC := Lib.hid (rotate_any4 blk off cap st m en (.func (.func 29) #[] #[]) d0 d w0 wr R HS0.out S.out g1 g2 (by omega) hsz)
          clear S
          go_wp2_with fail
          refine HCC.out.mono ?_
          rintro e w7 ⟨rfl, hS1, hP1⟩
          rw [hd1] at hS1 hP1
          have S7 : Aside _ := hS1
          have P1 : Aside (PermIn st en d d1) := hP1
          clear hS1 hP1 HCC
          have cutd := fun {d2 d3 : Array P4} => CUT.out (d2 := d2) (d3 := d3) P1.out
          clear hd1
          by_cases g3 : a < st
          · have t3a : decide ((a : Int) < (st : Int)) = true := decide_eq_true (by omega)
            have t3b : decide (a < st) = true := decide_eq_true (by omega)
            have t3c : ((a : Int) < (st : Int)) := by omega
            by_cases g4 : st < mid
            · have t4a : decide ((st : Int) < (mid : Int)) = true := decide_eq_true (by omega)
              have t4b : decide (st < mid) = true := decide_eq_true (by omega)
              have t4c : ((st : Int) < (mid : Int)) := by omega
              have HCC := Lib.hid (IH.out a st mid d1 w7 D1.out S7.out g3 g4 (by omega) (by omega) X1.out.1 X1.out.2 Y1.out)
              clear S7
              go_wp2_with fail
              refine HCC.out.mono ?_
              rintro e w8 ⟨rfl, d2, hS2, hP2, hT2⟩
              have S8 : Aside _ := hS2
              have D2 : Aside (d2.size = d.size) := hP2.1.trans D1.out
              have P2 : Aside (PermIn a mid d1 d2) := hP2
              have C2 : Aside (SortedIn ltL a mid d2 ∨ (d2 = d1 ∧ (st ≤ a ∨ mid ≤ st))) := .inl hT2
              clear hS2 hP2 hT2 HCC
              by_cases g5 : mid < en
              · have t5a : decide ((mid : Int) < (en : Int)) = true := decide_eq_true (by omega)
                have t5b : decide (mid < en) = true := decide_eq_true (by omega)
                have t5c : ((mid : Int) < (en : Int)) := by omega
                by_cases g6 : en < b
                · have t6a : decide ((en : Int) < (b : Int)) = true := decide_eq_true (by omega)
                  have t6b : decide (en < b) = true := decide_eq_true (by omega)
                  have t6c : ((en : Int) < (b : Int)) := by omega
                  have HCC := Lib.hid (IH.out mid en b d2 w8 D2.out S8.out g5 g6 h3 (by omega) (sorted_congr X.out.1 (fun i i1 i2 => P2.out.2.1 i (by omega))) (sorted_congr X.out.2.1 (fun i i1 i2 => P2.out.2.1 i (by omega))) (crs_congr X.out.2.2 (fun i i1 i2 => P2.out.2.1 i (by omega))))
                  clear S8
                  go_wp2_with fail
                  refine HCC.out.mono ?_
                  rintro e w9 ⟨rfl, d3, hS3, hP3, hT3⟩
                  have S9 : Aside _ := hS3
                  have P3 : Aside _ := hP3
                  have T3 : Aside _ := hT3
                  clear hS3 hP3 hT3 HCC
                  go_wp2
                  go_end0
                  exact ⟨rfl, d3, S9.out, cutd P2.out C2.out P3.out (.inl T3.out)⟩
                · have t6a : decide ((en : Int) < (b : Int)) = false := decide_eq_false (by omega)
                  have t6b : decide (en < b) = false := decide_eq_false (by omega)
                  have t6c : ¬ ((en : Int) < (b : Int)) := by omega
                  go_wp2
                  go_end0
                  exact ⟨rfl, d2, S8.out, cutd P2.out C2.out (permIn_refl _ _ _) (.inr ⟨rfl, by omega⟩)⟩
              · have t5a : decide ((mid : Int) < (en : Int)) = false := decide_eq_false (by omega)
                have t5b : decide (mid < en) = false := decide_eq_false (by omega)
                have t5c : ¬ ((mid : Int) < (en : Int)) := by omega
                go_wp2
                go_end0
                exact ⟨rfl, d2, S8.out, cutd P2.out C2.out (permIn_refl _ _ _) (.inr ⟨rfl, by omega⟩)⟩
            · have t4a : decide ((st : Int) < (mid : Int)) = false := decide_eq_false (by omega)
              have t4b : decide (st < mid) = false := decide_eq_false (by omega)
              have t4c : ¬ ((st : Int) < (mid : Int)) := by omega
              obtain ⟨d2, hd2⟩ : ∃ d2, d2 = d1 := ⟨_, rfl⟩
              have S8 : Aside (SWK encP 4 w0 blk off d2 w7) := hd2 ▸ S7.out
              have D2 : Aside (d2.size = d.size) := hd2 ▸ D1.out
              have P2 : Aside (PermIn a mid d1 d2) := hd2 ▸ permIn_refl _ _ _
              have C2 : Aside (SortedIn ltL a mid d2 ∨ (d2 = d1 ∧ (st ≤ a ∨ mid ≤ st))) := .inr ⟨hd2, by omega⟩
              clear S7 hd2
              by_cases g5 : mid < en
              · have t5a : decide ((mid : Int) < (en : Int)) = true := decide_eq_true (by omega)
                have t5b : decide (mid < en) = true := decide_eq_true (by omega)
                have t5c : ((mid : Int) < (en : Int)) := by omega
                by_cases g6 : en < b
                · have t6a : decide ((en : Int) < (b : Int)) = true := decide_eq_true (by omega)
                  have t6b : decide (en < b) = true := decide_eq_true (by omega)
                  have t6c : ((en : Int) < (b : Int)) := by omega
                  have HCC := Lib.hid (IH.out mid en b d2 w7 D2.out S8.out g5 g6 h3 (by omega) (sorted_congr X.out.1 (fun i i1 i2 => P2.out.2.1 i (by omega))) (sorted_congr X.out.2.1 (fun i i1 i2 => P2.out.2.1 i (by omega))) (crs_congr X.out.2.2 (fun i i1 i2 => P2.out.2.1 i (by omega))))
                  clear S8
                  go_wp2_with fail
                  refine HCC.out.mono ?_
                  rintro e w9 ⟨rfl, d3, hS3, hP3, hT3⟩
                  have S9 : Aside _ := hS3
                  have P3 : Aside _ := hP3
                  have T3 : Aside _ := hT3
                  clear hS3 hP3 hT3 HCC
                  go_wp2
                  go_end0
                  exact ⟨rfl, d3, S9.out, cutd P2.out C2.out P3.out (.inl T3.out)⟩
                · have t6a : decide ((en : Int) < (b : Int)) = false := decide_eq_false (by omega)
                  have t6b : decide (en < b) = false := decide_eq_false (by omega)
                  have t6c : ¬ ((en : Int) < (b : Int)) := by omega
                  go_wp2
                  go_end0
                  exact ⟨rfl, d2, S8.out, cutd P2.out C2.out (permIn_refl _ _ _) (.inr ⟨rfl, by omega⟩)⟩
              · have t5a : decide ((mid : Int) < (en : Int)) = false := decide_eq_false (by omega)
                have t5b : decide (mid < en) = false := decide_eq_false (by omega)
                have t5c : ¬ ((mid : Int) < (en : Int)) := by omega
                go_wp2
                go_end0
                exact ⟨rfl, d2, S8.out, cutd P2.out C2.out (permIn_refl _ _ _) (.inr ⟨rfl, by omega⟩)⟩
          · have t3a : decide ((a : Int) < (st : Int)) = false := decide_eq_false (by omega)
            have t3b : decide (a < st) = false := decide_eq_false (by omega)
            have t3c : ¬ ((a : Int) < (st : Int)) := by omega
            obtain ⟨d2, hd2⟩ : ∃ d2, d2 = d1 := ⟨_, rfl⟩
            have S8 : Aside (SWK encP 4 w0 blk off d2 w7) := hd2 ▸ S7.out
            have D2 : Aside (d2.size = d.size) := hd2 ▸ D1.out
            have P2 : Aside (PermIn a mid d1 d2) := hd2 ▸ permIn_refl _ _ _
            have C2 : Aside (SortedIn ltL a mid d2 ∨ (d2 = d1 ∧ (st ≤ a ∨ mid ≤ st))) := .inr ⟨hd2, by omega⟩
            clear S7 hd2
            by_cases g5 : mid < en
            · have t5a : decide ((mid : Int) < (en : Int)) = true := decide_eq_true (by omega)
              have t5b : decide (mid < en) = true := decide_eq_true (by omega)
              have t5c : ((mid : Int) < (en : Int)) := by omega
              by_cases g6 : en < b
              · have t6a : decide ((en : Int) < (b : Int)) = true := decide_eq_true (by omega)
                have t6b : decide (en < b) = true := decide_eq_true (by omega)
                have t6c : ((en : Int) < (b : Int)) := by omega
                have HCC := Lib.hid (IH.out mid en b d2 w7 D2.out S8.out g5 g6 h3 (by omega) (sorted_congr X.out.1 (fun i i1 i2 => P2.out.2.1 i (by omega))) (sorted_congr X.out.2.1 (fun i i1 i2 => P2.out.2.1 i (by omega))) (crs_congr X.out.2.2 (fun i i1 i2 => P2.out.2.1 i (by omega))))
                clear S8
                go_wp2_with fail
                refine HCC.out.mono ?_
                rintro e w9 ⟨rfl, d3, hS3, hP3, hT3⟩
                have S9 : Aside _ := hS3
                have P3 : Aside _ := hP3
                have T3 : Aside _ := hT3
                clear hS3 hP3 hT3 HCC
                go_wp2
                go_end0
                exact ⟨rfl, d3, S9.out, cutd P2.out C2.out P3.out (.inl T3.out)⟩
              · have t6a : decide ((en : Int) < (b : Int)) = false := decide_eq_false (by omega)
                have t6b : decide (en < b) = false := decide_eq_false (by omega)
                have t6c : ¬ ((en : Int) < (b : Int)) := by omega
                go_wp2
                go_end0
                exact ⟨rfl, d2, S8.out, cutd P2.out C2.out (permIn_refl _ _ _) (.inr ⟨rfl, by omega⟩)⟩
            · have t5a : decide ((mid : Int) < (en : Int)) = false := decide_eq_false (by omega)
              have t5b : decide (mid < en) = false := decide_eq_false (by omega)
              have t5c : ¬ ((mid : Int) < (en : Int)) := by omega
              go_wp2
              go_end0
              exact ⟨rfl, d2, S8.out, cutd P2.out C2.out (permIn_refl _ _ _) (.inr ⟨rfl, by omega⟩)⟩
        · have t2a : decide ((m : Int) < (en : Int)) = false := decide_eq_false (by omega)
          have t2b : decide (m < en) = false := decide_eq_false (by omega)
          have t2c : ¬ ((m : Int) < (en : Int)) := by omega
          have hrn : d1 = d := by rw [← hd1]; exact rotD_nop (by omega) (by omega) (by omega)
          have S7 : Aside (SWK encP 4 w0 blk off d1 wr) := hrn ▸ S.out
          have P1 : Aside (PermIn st en d d1) := hrn ▸ permIn_refl _ _ _
          clear hrn S
          have cutd := fun {d2 d3 : Array P4} => CUT.out (d2 := d2) (d3 := d3) P1.out
          clear hd1
          by_cases g3 : a < st
          · have t3a : decide ((a : Int) < (st : Int)) = true := decide_eq_true (by omega)
            have t3b : decide (a < st) = true := decide_eq_true (by omega)
            have t3c : ((a : Int) < (st : Int)) := by omega
            by_cases g4 : st < mid
            · have t4a : decide ((st : Int) < (mid : Int)) = true := decide_eq_true (by omega)
              have t4b : decide (st < mid) = true := decide_eq_true (by omega)
              have t4c : ((st : Int) < (mid : Int)) := by omega
              have HCC := Lib.hid (IH.out a st mid d1 wr D1.out S7.out g3 g4 (by omega) (by omega) X1.out.1 X1.out.2 Y1.out)
              clear S7
              go_wp2_with fail
              refine HCC.out.mono ?_
              rintro e w8 ⟨rfl, d2, hS2, hP2, hT2⟩
              have S8 : Aside _ := hS2
              have D2 : Aside (d2.size = d.size) := hP2.1.trans D1.out
              have P2 : Aside (PermIn a mid d1 d2) := hP2
              have C2 : Aside (SortedIn ltL a mid d2 ∨ (d2 = d1 ∧ (st ≤ a ∨ mid ≤ st))) := .inl hT2
              clear hS2 hP2 hT2 HCC
              by_cases g5 : mid < en
              · have t5a : decide ((mid : Int) < (en : Int)) = true := decide_eq_true (by omega)
                have t5b : decide (mid < en) = true := decide_eq_true (by omega)
                have t5c : ((mid : Int) < (en : Int)) := by omega
                by_cases g6 : en < b
                · have t6a : decide ((en : Int) < (b : Int)) = true := decide_eq_true (by omega)
                  have t6b : decide (en < b) = true := decide_eq_true (by omega)
                  have t6c : ((en : Int) < (b : Int)) := by omega
                  have HCC := Lib.hid (IH.out mid en b d2 w8 D2.out S8.out g5 g6 h3 (by omega) (sorted_congr X.out.1 (fun i i1 i2 => P2.out.2.1 i (by omega))) (sorted_congr X.out.2.1 (fun i i1 i2 => P2.out.2.1 i (by omega))) (crs_congr X.out.2.2 (fun i i1 i2 => P2.out.2.1 i (by omega))))
                  clear S8
                  go_wp2_with fail
                  refine HCC.out.mono ?_
                  rintro e w9 ⟨rfl, d3, hS3, hP3, hT3⟩
                  have S9 : Aside _ := hS3
                  have P3 : Aside _ := hP3
                  have T3 : Aside _ := hT3
                  clear hS3 hP3 hT3 HCC
                  go_wp2
                  go_end0
                  exact ⟨rfl, d3, S9.out, cutd P2.out C2.out P3.out (.inl T3.out)⟩
                · have t6a : decide ((en : Int) < (b : Int)) = false := decide_eq_false (by omega)
                  have t6b : decide (en < b) = false := decide_eq_false (by omega)
                  have t6c : ¬ ((en : Int) < (b : Int)) := by omega
                  go_wp2
                  go_end0
                  exact ⟨rfl, d2, S8.out, cutd P2.out C2.out (permIn_refl _ _ _) (.inr ⟨rfl, by omega⟩)⟩
              · have t5a : decide ((mid : Int) < (en : Int)) = false := decide_eq_false (by omega)
                have t5b : decide (mid < en) = false := decide_eq_false (by omega)
                have t5c : ¬ ((mid : Int) < (en : Int)) := by omega
                go_wp2
                go_end0
                exact ⟨rfl, d2, S8.out, cutd P2.out C2.out (permIn_refl _ _ _) (.inr ⟨rfl, by omega⟩)⟩
            · have t4a : decide ((st : Int) < (mid : Int)) = false := decide_eq_false (by omega)
              have t4b : decide (st < mid) = false := decide_eq_false (by omega)
              have t4c : ¬ ((st : Int) < (mid : Int)) := by omega
              obtain ⟨d2, hd2⟩ : ∃ d2, d2 = d1 := ⟨_, rfl⟩
              have S8 : Aside (SWK encP 4 w0 blk off d2 wr) := hd2 ▸ S7.out
              have D2 : Aside (d2.size = d.size) := hd2 ▸ D1.out
              have P2 : Aside (PermIn a mid d1 d2) := hd2 ▸ permIn_refl _ _ _
              have C2 : Aside (SortedIn ltL a mid d2 ∨ (d2 = d1 ∧ (st ≤ a ∨ mid ≤ st))) := .inr ⟨hd2, by omega⟩
              clear S7 hd2
              by_cases g5 : mid < en
              · have t5a : decide ((mid : Int) < (en : Int)) = true := decide_eq_true (by omega)
                have t5b : decide (mid < en) = true := decide_eq_true (by omega)
                have t5c : ((mid : Int) < (en : Int)) := by omega
                by_cases g6 : en < b
                · have t6a : decide ((en : Int) < (b : Int)) = true := decide_eq_true (by omega)
                  have t6b : decide (en < b) = true := decide_eq_true (by omega)
                  have t6c : ((en : Int) < (b : Int)) := by omega
                  have HCC := Lib.hid (IH.out mid en b d2 wr D2.out S8.out g5 g6 h3 (by omega) (sorted_congr X.out.1 (fun i i1 i2 => P2.out.2.1 i (by omega))) (sorted_congr X.out.2.1 (fun i i1 i2 => P2.out.2.1 i (by omega))) (crs_congr X.out.2.2 (fun i i1 i2 => P2.out.2.1 i (by omega))))
                  clear S8
                  go_wp2_with fail
                  refine HCC.out.mono ?_
                  rintro e w9 ⟨rfl, d3, hS3, hP3, hT3⟩
                  have S9 : Aside _ := hS3
                  have P3 : Aside _ := hP3
                  have T3 : Aside _ := hT3
                  clear hS3 hP3 hT3 HCC
                  go_wp2
                  go_end0
                  exact ⟨rfl, d3, S9.out, cutd P2.out C2.out P3.out (.inl T3.out)⟩
                · have t6a : decide ((en : Int) < (b : Int)) = false := decide_eq_false (by omega)
                  have t6b : decide (en < b) = false := decide_eq_false (by omega)
                  have t6c : ¬ ((en : Int) < (b : Int)) := by omega
                  go_wp2
                  go_end0
                  exact ⟨rfl, d2, S8.out, cutd P2.out C2.out (permIn_refl _ _ _) (.inr ⟨rfl, by omega⟩)⟩
              · have t5a : decide ((mid : Int) < (en : Int)) = false := decide_eq_false (by omega)
                have t5b : decide (mid < en) = false := decide_eq_false (by omega)
                have t5c : ¬ ((mid : Int) < (en : Int)) := by omega
                go_wp2
                go_end0
                exact ⟨rfl, d2, S8.out, cutd P2.out C2.out (permIn_refl _ _ _) (.inr ⟨rfl, by omega⟩)⟩
          · have t3a : decide ((a : Int) < (st : Int)) = false := decide_eq_false (by omega)
            have t3b : decide (a < st) = false := decide_eq_false (by omega)
            have t3c : ¬ ((a : Int) < (st : Int)) := by omega
            obtain ⟨d2, hd2⟩ : ∃ d2, d2 = d1 := ⟨_, rfl⟩
            have S8 : Aside (SWK encP 4 w0 blk off d2 wr) := hd2 ▸ S7.out
            have D2 : Aside (d2.size = d.size) := hd2 ▸ D1.out
            have P2 : Aside (PermIn a mid d1 d2) := hd2 ▸ permIn_refl _ _ _
            have C2 : Aside (SortedIn ltL a mid d2 ∨ (d2 = d1 ∧ (st ≤ a ∨ mid ≤ st))) := .inr ⟨hd2, by omega⟩
            clear S7 hd2
            by_cases g5 : mid < en
            · have t5a : decide ((mid : Int) < (en : Int)) = true := decide_eq_true (by omega)
              have t5b : decide (mid < en) = true := decide_eq_true (by omega)
              have t5c : ((mid : Int) < (en : Int)) := by omega
              by_cases g6 : en < b
              · have t6a : decide ((en : Int) < (b : Int)) = true := decide_eq_true (by omega)
                have t6b : decide (en < b) = true := decide_eq_true (by omega)
                have t6c : ((en : Int) < (b : Int)) := by omega
                have HCC := Lib.hid (IH.out mid en b d2 wr D2.out S8.out g5 g6 h3 (by omega) (sorted_congr X.out.1 (fun i i1 i2 => P2.out.2.1 i (by omega))) (sorted_congr X.out.2.1 (fun i i1 i2 => P2.out.2.1 i (by omega))) (crs_congr X.out.2.2 (fun i i1 i2 => P2.out.2.1 i (by omega))))
                clear S8
                go_wp2_with fail
                refine HCC.out.mono ?_
                rintro e w9 ⟨rfl, d3, hS3, hP3, hT3⟩
                have S9 : Aside _ := hS3
                have P3 : Aside _ := hP3
                have T3 : Aside _ := hT3
                clear hS3 hP3 hT3 HCC
                go_wp2
                go_end0
                exact ⟨rfl, d3, S9.out, cutd P2.out C2.out P3.out (.inl T3.out)⟩
              · have t6a : decide ((en : Int) < (b : Int)) = false := decide_eq_false (by omega)
                have t6b : decide (en < b) = false := decide_eq_false (by omega)
                have t6c : ¬ ((en : Int) < (b : Int)) := by omega
                go_wp2
                go_end0
                exact ⟨rfl, d2, S8.out, cutd P2.out C2.out (permIn_refl _ _ _) (.inr ⟨rfl, by omega⟩)⟩
            · have t5a : decide ((mid : Int) < (en : Int)) = false := decide_eq_false (by omega)
              have t5b : decide (mid < en) = false := decide_eq_false (by omega)
              have t5c : ¬ ((mid : Int) < (en : Int)) := by omega
              go_wp2
              go_end0
              exact ⟨rfl, d2, S8.out, cutd P2.out C2.out (permIn_refl _ _ _) (.inr ⟨rfl, by omega⟩)⟩
      · have t1a : decide ((st : Int) < (m : Int)) = false := decide_eq_false (by omega)
        have t1b : decide (st < m) = false := decide_eq_false (by omega)
        have t1c : ¬ ((st : Int) < (m : Int)) := by omega
        have hrn : d1 = d := by rw [← hd1]; exact rotD_nop (by omega) (by omega) (by omega)
        have S7 : Aside (SWK encP 4 w0 blk off d1 wr) := hrn ▸ S.out
        have P1 : Aside (PermIn st en d d1) := hrn ▸ permIn_refl _ _ _
        clear hrn S
        have cutd := fun {d2 d3 : Array P4} => CUT.out (d2 := d2) (d3 := d3) P1.out
        clear hd1
        by_cases g3 : a < st
        · have t3a : decide ((a : Int) < (st : Int)) = true := decide_eq_true (by omega)
          have t3b : decide (a < st) = true := decide_eq_true (by omega)
          have t3c : ((a : Int) < (st : Int)) := by omega
          by_cases g4 : st < mid
          · have t4a : decide ((st : Int) < (mid : Int)) = true := decide_eq_true (by omega)
            have t4b : decide (st < mid) = true := decide_eq_true (by omega)
            have t4c : ((st : Int) < (mid : Int)) := by omega
            have HCC := Lib.hid (IH.out a st mid d1 wr D1.out S7.out g3 g4 (by omega) (by omega) X1.out.1 X1.out.2 Y1.out)
            clear S7
            go_wp2_with fail
            refine HCC.out.mono ?_
            rintro e w8 ⟨rfl, d2, hS2, hP2, hT2⟩
            have S8 : Aside _ := hS2
            have D2 : Aside (d2.size = d.size) := hP2.1.trans D1.out
            have P2 : Aside (PermIn a mid d1 d2) := hP2
            have C2 : Aside (SortedIn ltL a mid d2 ∨ (d2 = d1 ∧ (st ≤ a ∨ mid ≤ st))) := .inl hT2
            clear hS2 hP2 hT2 HCC
            by_cases g5 : mid < en
            · have t5a : decide ((mid : Int) < (en : Int)) = true := decide_eq_true (by omega)
              have t5b : decide (mid < en) = true := decide_eq_true (by omega)
              have t5c : ((mid : Int) < (en : Int)) := by omega
              by_cases g6 : en < b
              · have t6a : decide ((en : Int) < (b : Int)) = true := decide_eq_true (by omega)
                have t6b : decide (en < b) = true := decide_eq_true (by omega)
                have t6c : ((en : Int) < (b : Int)) := by omega
                have HCC := Lib.hid (IH.out mid en b d2 w8 D2.out S8.out g5 g6 h3 (by omega) (sorted_congr X.out.1 (fun i i1 i2 => P2.out.2.1 i (by omega))) (sorted_congr X.out.2.1 (fun i i1 i2 => P2.out.2.1 i (by omega))) (crs_congr X.out.2.2 (fun i i1 i2 => P2.out.2.1 i (by omega))))
                clear S8
                go_wp2_with fail
                refine HCC.out.mono ?_
                rintro e w9 ⟨rfl, d3, hS3, hP3, hT3⟩
                have S9 : Aside _ := hS3
                have P3 : Aside _ := hP3
                have T3 : Aside _ := hT3
                clear hS3 hP3 hT3 HCC
                go_wp2
                go_end0
                exact ⟨rfl, d3, S9.out, cutd P2.out C2.out P3.out (.inl T3.out)⟩
              · have t6a : decide ((en : Int) < (b : Int)) = false := decide_eq_false (by omega)
                have t6b : decide (en < b) = false := decide_eq_false (by omega)
                have t6c : ¬ ((en : Int) < (b : Int)) := by omega
                go_wp2
                go_end0
                exact ⟨rfl, d2, S8.out, cutd P2.out C2.out (permIn_refl _ _ _) (.inr ⟨rfl, by omega⟩)⟩
            · have t5a : decide ((mid : Int) < (en : Int)) = false := decide_eq_false (by omega)
              have t5b : decide (mid < en) = false := decide_eq_false (by omega)
              have t5c : ¬ ((mid : Int) < (en : Int)) := by omega
              go_wp2
              go_end0
              exact ⟨rfl, d2, S8.out, cutd P2.out C2.out (permIn_refl _ _ _) (.inr ⟨rfl, by omega⟩)⟩
          · have t4a : decide ((st : Int) < (mid : Int)) = false := decide_eq_false (by omega)
            have t4b : decide (st < mid) = false := decide_eq_false (by omega)
            have t4c : ¬ ((st : Int) < (mid : Int)) := by omega
            obtain ⟨d2, hd2⟩ : ∃ d2, d2 = d1 := ⟨_, rfl⟩
            have S8 : Aside (SWK encP 4 w0 blk off d2 wr) := hd2 ▸ S7.out
            have D2 : Aside (d2.size = d.size) := hd2 ▸ D1.out
            have P2 : Aside (PermIn a mid d1 d2) := hd2 ▸ permIn_refl _ _ _
            have C2 : Aside (SortedIn ltL a mid d2 ∨ (d2 = d1 ∧ (st ≤ a ∨ mid ≤ st))) := .inr ⟨hd2, by omega⟩
            clear S7 hd2
            by_cases g5 : mid < en
            · have t5a : decide ((mid : Int) < (en : Int)) = true := decide_eq_true (by omega)
              have t5b : decide (mid < en) = true := decide_eq_true (by omega)
              have t5c : ((mid : Int) < (en : Int)) := by omega
              by_cases g6 : en < b
              · have t6a : decide ((en : Int) < (b : Int)) = true := decide_eq_true (by omega)
                have t6b : decide (en < b) = true := decide_eq_true (by omega)
                have t6c : ((en : Int) < (b : Int)) := by omega
                have HCC := Lib.hid (IH.out mid en b d2 wr D2.out S8.out g5 g6 h3 (by omega) (sorted_congr X.out.1 (fun i i1 i2 => P2.out.2.1 i (by omega))) (sorted_congr X.out.2.1 (fun i i1 i2 => P2.out.2.1 i (by omega))) (crs_congr X.out.2.2 (fun i i1 i2 => P2.out.2.1 i (by omega))))
                clear S8
                go_wp2_with fail
                refine HCC.out.mono ?_
                rintro e w9 ⟨rfl, d3, hS3, hP3, hT3⟩
                have S9 : Aside _ := hS3
                have P3 : Aside _ := hP3
                have T3 : Aside _ := hT3
                clear hS3 hP3 hT3 HCC
                go_wp2
                go_end0
                exact ⟨rfl, d3, S9.out, cutd P2.out C2.out P3.out (.inl T3.out)⟩
              · have t6a : decide ((en : Int) < (b : Int)) = false := decide_eq_false (by omega)
                have t6b : decide (en < b) = false := decide_eq_false (by omega)
                have t6c : ¬ ((en : Int) < (b : Int)) := by omega
                go_wp2
                go_end0
                exact ⟨rfl, d2, S8.out, cutd P2.out C2.out (permIn_refl _ _ _) (.inr ⟨rfl, by omega⟩)⟩
            · have t5a : decide ((mid : Int) < (en : Int)) = false := decide_eq_false (by omega)
              have t5b : decide (mid < en) = false := decide_eq_false (by omega)
              have t5c : ¬ ((mid : Int) < (en : Int)) := by omega
              go_wp2
              go_end0
              exact ⟨rfl, d2, S8.out, cutd P2.out C2.out (permIn_refl _ _ _) (.inr ⟨rfl, by omega⟩)⟩
        · have t3a : decide ((a : Int) < (st : Int)) = false := decide_eq_false (by omega)
          have t3b : decide (a < st) = false := decide_eq_false (by omega)
          have t3c : ¬ ((a : Int) < (st : Int)) := by omega
          obtain ⟨d2, hd2⟩ : ∃ d2, d2 = d1 := ⟨_, rfl⟩
          have S8 : Aside (SWK encP 4 w0 blk off d2 wr) := hd2 ▸ S7.out
          have D2 : Aside (d2.size = d.size) := hd2 ▸ D1.out
          have P2 : Aside (PermIn a mid d1 d2) := hd2 ▸ permIn_refl _ _ _
          have C2 : Aside (SortedIn ltL a mid d2 ∨ (d2 = d1 ∧ (st ≤ a ∨ mid ≤ st))) := .inr ⟨hd2, by omega⟩
          clear S7 hd2
          by_cases g5 : mid < en
          · have t5a : decide ((mid : Int) < (en : Int)) = true := decide_eq_true (by omega)
            have t5b : decide (mid < en) = true := decide_eq_true (by omega)
            have t5c : ((mid : Int) < (en : Int)) := by omega
            by_cases g6 : en < b
            · have t6a : decide ((en : Int) < (b : Int)) = true := decide_eq_true (by omega)
              have t6b : decide (en < b) = true := decide_eq_true (by omega)
              have t6c : ((en : Int) < (b : Int)) := by omega
              have HCC := Lib.hid (IH.out mid en b d2 wr D2.out S8.out g5 g6 h3 (by omega) (sorted_congr X.out.1 (fun i i1 i2 => P2.out.2.1 i (by omega))) (sorted_congr X.out.2.1 (fun i i1 i2 => P2.out.2.1 i (by omega))) (crs_congr X.out.2.2 (fun i i1 i2 => P2.out.2.1 i (by omega))))
              clear S8
              go_wp2_with fail
              refine HCC.out.mono ?_
              rintro e w9 ⟨rfl, d3, hS3, hP3, hT3⟩
              have S9 : Aside _ := hS3
              have P3 : Aside _ := hP3
              have T3 : Aside _ := hT3
              clear hS3 hP3 hT3 HCC
              go_wp2
              go_end0
              exact ⟨rfl, d3, S9.out, cutd P2.out C2.out P3.out (.inl T3.out)⟩
            · have t6a : decide ((en : Int) < (b : Int)) = false := decide_eq_false (by omega)
              have t6b : decide (en < b) = false := decide_eq_false (by omega)
              have t6c : ¬ ((en : Int) < (b : Int)) := by omega
              go_wp2
              go_end0
              exact ⟨rfl, d2, S8.out, cutd P2.out C2.out (permIn_refl _ _ _) (.inr ⟨rfl, by omega⟩)⟩
          · have t5a : decide ((mid : Int) < (en : Int)) = false := decide_eq_false (by omega)
            have t5b : decide (mid < en) = false := decide_eq_false (by omega)
            have t5c : ¬ ((mid : Int) < (en : Int)) := by omega
            go_wp2
            go_end0
            exact ⟨rfl, d2, S8.out, cutd P2.out C2.out (permIn_refl _ _ _) (.inr ⟨rfl, by omega⟩)⟩
end Go.Proofs.Ytfdibmcjjclgkaa.Tl
namespace Go.Proofs.Ytfdibmcjjclgkaa.Tl
open Go.Proofs Go.RowKit Go.Sort Go.Shelf Go.Lib
open Go.Proofs.Ytfdibmcjjclgkaa.Utf
open Go.Proofs.Ytfdibmcjjclgkaa.Tr

set_option maxRecDepth 1000000 in
set_option maxHeartbeats 16000000 in
/-- ONE ELEMENT ON THE RIGHT -/
theorem symMerge_b4 (blk off cap a m b : Nat) (d0 d : Array P4) (w0 w : World) (R : RowK encP 4 w0 blk off d0) (hs : d.size = d0.size) (S : SWK encP 4 w0 blk off d w) (_h1 : a < m) (_h2 : m < b) (h3 : b ≤ d.size) (hsz : d.size < 4611686018427387904)
    (s1 : SortedIn ltL a m d) (s2 : SortedIn ltL m b d) (xc : Crs a m b d) (hm : b = m + 1) (hna : a + 1 < m) :
    Calls Try.prog 35 #[.slice (some ⟨blk, off, none⟩) d.size cap, .int .i64 a, .int .i64 m, .int .i64 b, .func (.func 29) #[] #[]] w fun e w' => e = .returned (.tuple #[]) ∧ ∃ d', SWK encP 4 w0 blk off d' w' ∧ PermIn a b d d' ∧ SortedIn ltL a b d' := by
  have mixed := mixedOrd4
  have HS0 : Aside (d.size = d0.size) := hs
  have S0 : Aside (SWK encP 4 w0 blk off d w) := S
  have Q1 : Aside _ := s1
  have Q2 : Aside _ := s2
  have XC : Aside _ := xc
  have e58 : ∀ args w, (callFunc 29 args).run Try.prog w = .ok (.enter 29 args) w := enters_of Try.func29 (by kernel_rfl) rfl
  clear S hs s1 s2 xc
  have t1 : (((m : Int) - (a : Int)) == 1) = false := by rw [beq_eq_false_iff_ne]; omega
  have t1b : ¬ (m : Int) - (a : Int) = 1 := by omega
  have t1c : (((b : Int) - (m : Int)) == 1) = true := by rw [beq_iff_eq]; omega
  have t1d : (b : Int) - (m : Int) = 1 := by omega
  have HM : Aside (b = m + 1) := hm
  have hmb : m + 1 ≤ b := by omega
  have hmb2 : b ≤ m + 1 := by omega
  clear hm
  go_enter Try.func35, Try.ntmps35
  go_wp2_with fail
  go_loopw [14, 15] (fun si sj wr => ∃ i j : Nat, si = .int .i64 i ∧ sj = .int .i64 j ∧ a ≤ i ∧ i ≤ j ∧ j ≤ m ∧ Aside (SWK encP 4 w0 blk off d wr) ∧ Aside ((∀ x, a ≤ x → x < i → ltL d[m]! d[x]! = false) ∧ (∀ x, j ≤ x → x < m → ltL d[m]! d[x]! = true))) (fun si sj _ => (intOf sj).toNat - (intOf si).toNat)
  case atStart => exact ⟨a, m, rfl, rfl, by omega, by omega, by omega, S0, (show _ ∧ _ from ⟨fun x g1 g2 => by omega, fun x g1 g2 => by omega⟩)⟩
  case round =>
    clear S0
    obtain ⟨i, j, rfl, rfl, hai, hij, hjm, S, I⟩ := hrel
    by_cases hlt : i < j
    · have t2 : decide ((i : Int) < (j : Int)) = true := decide_eq_true (by omega)
      have t3 : decide (i < j) = true := decide_eq_true hlt
      obtain ⟨h, hhh⟩ : ∃ z, z = (i + j) / 2 := ⟨_, rfl⟩
      have wh : ((i : Int) + (j : Int)) / 2 = (h : Int) := by omega
      have loh : i ≤ h := by omega
      have uph : h < j := by omega
      clear hhh
      have pih : (0 : Int) ≤ (h : Int) := by omega
      have bih : (h : Int) < (d.size : Int) := by omega
      have eih : ((h : Int)).toNat = h := by omega
      have pim : (0 : Int) ≤ (m : Int) := by omega
      have bim : (m : Int) < (d.size : Int) := by omega
      have eim : ((m : Int)).toNat = m := by omega
      have ha : h < m := by omega
      cases hG : ltL d[m]! d[h]! with
      | true =>
        have HG : Aside _ := hG
        obtain ⟨x8, hx8⟩ : ∃ x, x = d[m]! := ⟨_, rfl⟩
        obtain ⟨y8, hy8⟩ : ∃ x, x = d[h]! := ⟨_, rfl⟩
        have kx8 := cells4g S.out R HS0.out m (by omega)
        have ky8 := cells4g S.out R HS0.out h (by omega)
        have hc8 := SWK.cmp (P := Try.prog) S.out (byLast_lays blk off d0.size w0) HS0.out x8 y8
        rw [← hx8] at kx8
        rw [← hy8] at ky8
        have hv8 : cfP x8 y8 < 0 := by rw [hx8, hy8]; exact (lt_cross (XC.out _ _ (by omega) (by omega) (by omega) (by omega))).1 hG
        have hd8 : decide (cfP x8 y8 < 0) = true := decide_eq_true hv8
        clear hx8 hy8
        generalize cfP x8 y8 = r8 at hc8 hv8 hd8
        obtain ⟨xx8, xk8, xn8, xs8, xg8⟩ := x8
        obtain ⟨yx8, yk8, yn8, ys8, yg8⟩ := y8
        simp only [encP] at hc8
        simp only [C4g] at kx8 ky8
        generalize strOf xx8 = X8 at *
        generalize strOf yx8 = Y8 at *
        obtain ⟨a08, a18, a28, a38⟩ := kx8
        obtain ⟨b08, b18, b28, b38⟩ := ky8
        clear hG
        go_wp2_with fail
        go_quiet_grown (first | (go_at_fn 29; refine Calls.grown_of (hc8 _ _)))
        have S2 : Aside (SWK encP 4 w0 blk off d (grow (wr.drewN nq) osq)) := S.out.grown nq osq
        clear a08 a18 a28 a38 b08 b18 b28 b38 hc8 S
        generalize grow (wr.drewN nq) osq = w2 at S2 ⊢
        clear nq osq
        go_wp2
        go_roundw
        case rel =>
          refine ⟨i, h, rfl, rfl, hai, by omega, by omega, S2, ?_⟩
          refine (show _ ∧ _ from ⟨I.out.1, fun x g1 g2 => ?_⟩)
          have k := sorted_le ltL_swo Q1.out (show a ≤ h by omega) g1 g2
          cases hq : ltL d[m]! d[x]! with
          | true => rfl
          | false => have := ltL_swo.ntrans _ _ _ hq k; rw [HG.out] at this; cases this
        case measure => simp [intOf]; omega
      | false =>
        have HG : Aside _ := hG
        obtain ⟨x8, hx8⟩ : ∃ x, x = d[m]! := ⟨_, rfl⟩
        obtain ⟨y8, hy8⟩ : ∃ x, x = d[h]! := ⟨_, rfl⟩
        have kx8 := cells4g S.out R HS0.out m (by omega)
        have ky8 := cells4g S.out R HS0.out h (by omega)
        have hc8 := SWK.cmp (P := Try.prog) S.out (byLast_lays blk off d0.size w0) HS0.out x8 y8
        rw [← hx8] at kx8
        rw [← hy8] at ky8
        have hv8 : ¬ cfP x8 y8 < 0 := by rw [hx8, hy8]; exact ge_cross (XC.out _ _ (by omega) (by omega) (by omega) (by omega)) hG
        have hd8 : decide (cfP x8 y8 < 0) = false := decide_eq_false hv8
        clear hx8 hy8
        generalize cfP x8 y8 = r8 at hc8 hv8 hd8
        obtain ⟨xx8, xk8, xn8, xs8, xg8⟩ := x8
        obtain ⟨yx8, yk8, yn8, ys8, yg8⟩ := y8
        simp only [encP] at hc8
        simp only [C4g] at kx8 ky8
        generalize strOf xx8 = X8 at *
        generalize strOf yx8 = Y8 at *
        obtain ⟨a08, a18, a28, a38⟩ := kx8
        obtain ⟨b08, b18, b28, b38⟩ := ky8
        clear hG
        go_wp2_with fail
        go_quiet_grown (first | (go_at_fn 29; refine Calls.grown_of (hc8 _ _)))
        have S2 : Aside (SWK encP 4 w0 blk off d (grow (wr.drewN nq) osq)) := S.out.grown nq osq
        clear a08 a18 a28 a38 b08 b18 b28 b38 hc8 S
        generalize grow (wr.drewN nq) osq = w2 at S2 ⊢
        clear nq osq
        go_wp2
        go_roundw
        case rel =>
          refine ⟨h + 1, j, by go_num, rfl, by omega, by omega, hjm, S2, ?_⟩
          refine (show _ ∧ _ from ⟨fun x g1 g2 => ?_, I.out.2⟩)
          have k := sorted_le ltL_swo Q1.out g1 (show x ≤ h by omega) (by omega)
          exact ltL_swo.ntrans _ _ _ HG.out k
        case measure => simp [intOf]; omega
    · obtain rfl : j = i := by omega
      have t2 : decide ((j : Int) < (j : Int)) = false := decide_eq_false (by omega)
      have t3 : decide (j < j) = false := decide_eq_false (by omega)
      have S1 : Aside _ := S
      clear S
      go_wp2_with fail
      go_loopw [17] (fun sk wr2 => ∃ (k : Nat) (dk : Array P4), sk = .int .i64 k ∧ j ≤ k ∧ k ≤ m ∧ dk.size = d.size ∧ Aside (dk = rotD d k m (m + 1)) ∧ Aside (PermIn a b d dk) ∧ Aside (SWK encP 4 w0 blk off dk wr2)) (fun sk _ => (intOf sk).toNat)
      case atStart => exact ⟨m, d, rfl, by omega, by omega, rfl, rotD_last.symm, permIn_refl d a b, S1⟩
      case round =>
        clear S1
        obtain ⟨k, dk, rfl, hjk, hkm, hdk, E, Pm, S⟩ := hrel
        by_cases hlt2 : j < k
        · obtain ⟨c, hc⟩ : ∃ c, k = c + 1 := ⟨k - 1, by omega⟩
          have wc : IntKind.i64.wrap ((k : Int) - 1) = (c : Int) := by rw [IntKind.wrap_i64]; omega
          have wc2 : (k : Int) - 1 = (c : Int) := by omega
          have t4 : decide ((j : Int) < (k : Int)) = true := decide_eq_true (by omega)
          have t5 : decide (j < k) = true := decide_eq_true hlt2
          have t4b : (j : Int) < (k : Int) := by omega
          have hckl : c < k := by omega
          have hcj : j ≤ c := by omega
          have EC : Aside (k = c + 1) := hc
          clear hc
          have pic : (0 : Int) ≤ (c : Int) := by omega
          have bic : (c : Int) < (d.size : Int) := by omega
          have eic : ((c : Int)).toNat = c := by omega
          have pik : (0 : Int) ≤ (k : Int) := by omega
          have bik : (k : Int) < (d.size : Int) := by omega
          have eik : ((k : Int)).toNat = k := by omega
          obtain ⟨x9, hx9⟩ : ∃ x, x = dk[k]! := ⟨_, rfl⟩
          obtain ⟨y9, hy9⟩ : ∃ x, x = dk[c]! := ⟨_, rfl⟩
          have SS9 := swp4 S.out R k c (by omega) (by omega)
          have kx9 := cells4 S.out R (by have := HS0.out; omega) k (by omega)
          have ky9 := cells4 S.out R (by have := HS0.out; omega) c (by omega)
          rw [← hx9] at kx9 SS9
          rw [← hy9] at ky9 SS9
          clear hx9 hy9
          obtain ⟨xx9, xk9, xn9, xs9, xg9⟩ := x9
          obtain ⟨yx9, yk9, yn9, ys9, yg9⟩ := y9
          obtain ⟨w2, hw9⟩ : ∃ w2, w2 = (put4 (put4 wr blk (off + k * 4) ⟨yx9, yk9, yn9, ys9, yg9⟩) blk (off + c * 4) ⟨xx9, xk9, xn9, xs9, xg9⟩).drew := ⟨_, rfl⟩
          rw [← hw9] at SS9
          simp only [C4, put4] at kx9 ky9 hw9
          generalize strOf xx9 = X9 at *
          generalize strOf yx9 = Y9 at *
          obtain ⟨⟨a09, a19, a29, a39⟩, ⟨f09, f19, f29, f39⟩⟩ := kx9
          obtain ⟨⟨b09, b19, b29, b39⟩, ⟨g09, g19, g29, g39⟩⟩ := ky9
          have S2 : Aside _ := SS9
          have HW9 := Lib.hid hw9
          clear SS9 S hw9
          have hij9 : k ≠ c := by omega
          have HDK : Aside (dk.size = d.size) := hdk
          clear hdk
          go_wp2_with fail
          go_big_region
          rw [← HW9.out]
          clear a09 a19 a29 a39 b09 b19 b29 b39 f09 f19 f29 f39 g09 g19 g29 g39 HW9
          go_wp2
          go_roundw
          case rel =>
            have hdk := HDK.out
            refine ⟨c, swp dk k c, by go_num, by omega, by omega, by rw [size_swp]; exact hdk, (show _ = _ by rw [E.out, EC.out]; exact rotD_down (by have := EC.out; omega) (by omega)), (show PermIn _ _ _ _ from permIn_trans _ _ _ _ _ Pm.out (swp_permIn dk a b k c (by omega) (by omega) (by omega) (by omega) (by omega))), S2⟩
          case measure => simp [intOf]; omega
        · have t4 : decide ((j : Int) < (k : Int)) = false := decide_eq_false (by omega)
          have t5 : decide (j < k) = false := decide_eq_false hlt2
          have t4b : ¬ (j : Int) < (k : Int) := by omega
          have hkj2 : k = j := by omega
          have HKJ : Aside (k = j) := hkj2
          clear hkj2
          go_wp2
          (try simp only [Exit.inBlock, Exit.then]); refine bodyPost_ret (results_none rfl _ _ _) rfl ?_
          refine ⟨rfl, dk, S.out, Pm.out, ?_⟩
          rw [E.out, HKJ.out, HM.out]
          exact sorted_down ltL_swo (by omega) (by omega) (by omega) Q1.out I.out.1 I.out.2
end Go.Proofs.Ytfdibmcjjclgkaa.Tl
namespace Go.Proofs.Ytfdibmcjjclgkaa.Tl
open Go.Proofs Go.RowKit Go.Sort Go.Shelf Go.Lib
open Go.Proofs.Ytfdibmcjjclgkaa.Utf
open Go.Proofs.Ytfdibmcjjclgkaa.Tr

def insRen4 : Ren where
  f := fun _ => 34
  t := fun k => if k = 3 then 3 else if k = 4 then 4 else if k = 22 then 34 else if k = 24 then 39 else if k = 25 then 63 else 0
  g := fun k => k
set_option maxRecDepth 100000 in
theorem insLays4 : SlLaysF0.n20 Try.prog insRen4 where
  mixed := mixedOrd4
  f20 := ⟨Try.f34.name, by kernel_rfl, Try.func34.trans (congrArg some (by kernel_rfl))⟩
  t0 := by kernel_rfl
  a0 := fun _ => by kernel_rfl
  z0 := fun _ => by kernel_rfl
  v0 := fun _ => by kernel_rfl
  t3 := by kernel_rfl
  a3 := fun _ => by kernel_rfl
  z3 := fun _ => by kernel_rfl
  v3 := fun _ => by kernel_rfl
  t4 := by kernel_rfl
  a4 := fun _ => by kernel_rfl
  z4 := fun _ => by kernel_rfl
  v4 := fun _ => by kernel_rfl
  t22 := by kernel_rfl
  a22 := fun _ => by kernel_rfl
  z22 := fun _ => by kernel_rfl
  v22 := fun _ => by kernel_rfl
  t25 := by kernel_rfl
  a25 := fun _ => by kernel_rfl
  z25 := fun _ => by kernel_rfl
  v25 := fun _ => by kernel_rfl
theorem isAggM4 (w : World) : (isAgg 39).run Try.prog w = .ok true w := by kernel_rfl
theorem sizeOfM4 (w : World) : (Go.sizeOf 39).run Try.prog w = .ok 4 w := by kernel_rfl
theorem ins_any4 (blk off cap a b : Nat) (d0 d : Array P4) (w0 w : World) (R : RowK encP 4 w0 blk off d0) (hs : d.size = d0.size) (S : SWK encP 4 w0 blk off d w) (hab : a ≤ b) (hb : b ≤ d0.size) (hsz : d0.size < 4611686018427387904) (hr : ∀ p q, a ≤ p → p < q → q < b → (d[p]!).g < (d[q]!).g) :
    Calls Try.prog 34 #[.slice (some ⟨blk, off, none⟩) d0.size cap, .int .i64 a, .int .i64 b, .func (.func 29) #[] #[]] w fun e w' =>
      e = .returned (.tuple #[]) ∧ ∃ d', SWK encP 4 w0 blk off d' w' ∧ PermIn a b d d' ∧ SortedIn ltL a b d' := by
  have h := AnyQ.insertionSortCmpFunc insLays4 4 isAggM4 sizeOfM4 encP encP_len encP_one cfP 29 #[] blk off cap a b d w (enters_of Try.func29 (by kernel_rfl) rfl) (byLast_lays blk off d.size w) (S.holds R.hblk R.hH hs) (S.lt R.hblk) hab (by omega) (by omega)
  change Calls Try.prog 34 _ _ _ at h
  rw [hs] at h
  refine h.mono ?_
  rintro e w' ⟨rfl, n, os, rfl⟩
  rw [ins_same d a b (by omega) hr]
  have hh := insertionSort_holds ltL_swo d a b hab (by omega)
  exact ⟨rfl, _, S.on R.hblk n _ os hh.1.1, hh.1, hh.2⟩

theorem symMerge_any4 (blk off cap : Nat) (d0 : Array P4) (w0 : World) (R : RowK encP 4 w0 blk off d0) (hsz : d0.size < 4611686018427387904) : ∀ (N a m b : Nat) (d : Array P4) (w : World), b - a < N → d.size = d0.size → SWK encP 4 w0 blk off d w → a < m → m < b → b ≤ d0.size →
    SortedIn ltL a m d → SortedIn ltL m b d → Crs a m b d → Calls Try.prog 35 #[.slice (some ⟨blk, off, none⟩) d0.size cap, .int .i64 a, .int .i64 m, .int .i64 b, .func (.func 29) #[] #[]] w fun e w' => e = .returned (.tuple #[]) ∧ ∃ d', SWK encP 4 w0 blk off d' w' ∧ PermIn a b d d' ∧ SortedIn ltL a b d' := by
  intro N
  induction N with
  | zero => intro a m b d w h; omega
  | succ N ih =>
    intro a m b d w hN hs S h1 h2 h3 s1 s2 xc
    have hsz' : d.size < 4611686018427387904 := by omega
    rw [← hs]
    by_cases c1 : m = a + 1
    · exact symMerge_a4 blk off cap a m b d0 d w0 w R hs S h1 h2 (by omega) hsz' s1 s2 xc c1
    by_cases c2 : b = m + 1
    · exact symMerge_b4 blk off cap a m b d0 d w0 w R hs S h1 h2 (by omega) hsz' s1 s2 xc c2 (by omega)
    have IH : ∀ (a' m' b' : Nat) (d' : Array P4) (w' : World), d'.size = d.size → SWK encP 4 w0 blk off d' w' → a' < m' → m' < b' → b' ≤ d.size → b' - a' < b - a → SortedIn ltL a' m' d' → SortedIn ltL m' b' d' → Crs a' m' b' d' →
      Calls Try.prog 35 #[.slice (some ⟨blk, off, none⟩) d.size cap, .int .i64 a', .int .i64 m', .int .i64 b', .func (.func 29) #[] #[]] w' fun e w'' => e = .returned (.tuple #[]) ∧ ∃ d'', SWK encP 4 w0 blk off d'' w'' ∧ PermIn a' b' d' d'' ∧ SortedIn ltL a' b' d'' := by
      intro a' m' b' d' w' hd' S' k1 k2 k3 k4 k5 k6 k7
      rw [hs]
      exact ih a' m' b' d' w' (by omega) (by omega) S' k1 k2 (by omega) k5 k6 k7
    by_cases c3 : (a + b) / 2 < m
    · exact symMerge_c14 blk off cap a m b d0 d w0 w R hs S h1 h2 (by omega) hsz' s1 s2 xc (by omega) (by omega) _ rfl c3 IH
    · exact symMerge_c24 blk off cap a m b d0 d w0 w R hs S h1 h2 (by omega) hsz' s1 s2 xc (by omega) (by omega) _ rfl (by omega) IH
end Go.Proofs.Ytfdibmcjjclgkaa.Tl
namespace Go.Proofs.Ytfdibmcjjclgkaa.Tl
open Go.Proofs Go.RowKit Go.Sort Go.Shelf Go.Lib
open Go.Proofs.Ytfdibmcjjclgkaa.Utf
open Go.Proofs.Ytfdibmcjjclgkaa.Tr

section
def FromB4 (B s n : Nat) (d : Array P4) : Prop := ∀ k, Q4 (s + k * B) (min (s + k * B + B) n) d
def DoneB4 (C a : Nat) (d : Array P4) : Prop := ∀ k, k * C + C ≤ a → Q4 (k * C) (k * C + C) d
theorem done_zero4 (C : Nat) (hC : 0 < C) (d : Array P4) : DoneB4 C 0 d := fun k h => by omega
theorem mul_lt4 {q k C : Nat} (h : q < k) : q * C + C ≤ k * C := by
  have := Nat.mul_le_mul_right C (show q + 1 ≤ k by omega)
  rwa [Nat.succ_mul] at this
theorem done_congr4 {C a : Nat} {d d' : Array P4} (h : DoneB4 C a d) (he : ∀ i, i < a → d'[i]! = d[i]!) : DoneB4 C a d' := fun k hk =>
  q4_congr (h k hk) fun i _ i2 => he i (by omega)
theorem done_step4 {C a : Nat} {d d' : Array P4} (hq : ∃ q, a = q * C) (h : DoneB4 C a d) (p : PermIn a (a + C) d d') (s : Q4 a (a + C) d') : DoneB4 C (a + C) d' := fun k hk => by
  obtain ⟨q, rfl⟩ := hq
  rcases Nat.lt_trichotomy k q with c | c | c
  · have := mul_lt4 (C := C) c
    exact q4_congr (h k (by omega)) fun i _ i2 => p.2.1 i (by omega)
  · subst c; exact s
  · have := mul_lt4 (C := C) c
    exact ⟨fun x y h1 h2 h3 => by omega, fun i h1 h2 => by omega⟩
theorem from_done4 {C a n : Nat} {d : Array P4} (hq : ∃ q, a = q * C) (h : DoneB4 C a d) (hn : n < a + C) (ha : a ≤ n) (hl : Q4 a n d) : FromB4 C 0 n d := fun k => by
  obtain ⟨q, rfl⟩ := hq
  rw [Nat.zero_add]
  rcases Nat.lt_trichotomy k q with c | c | c
  · have := mul_lt4 (C := C) c
    rw [show min (k * C + C) n = k * C + C by omega]
    exact h k (by omega)
  · subst c; rw [show min (k * C + C) n = n by omega]; exact hl
  · have := mul_lt4 (C := C) c
    exact ⟨fun x y h1 h2 h3 => by omega, fun i h1 h2 => by omega⟩
theorem from_one4 {B a n : Nat} {d : Array P4} (h : FromB4 B a n d) : Q4 a (min (a + B) n) d := by
  have := h 0
  rwa [Nat.zero_mul, Nat.add_zero] at this
theorem from_two4 {B a n : Nat} {d : Array P4} (h : FromB4 B a n d) : Q4 (a + B) (min (a + B + B) n) d := by
  have := h 1
  rwa [Nat.one_mul] at this
theorem from_shift4 {B a n C : Nat} {d d' : Array P4} (hC : C = 2 * B) (h : FromB4 B a n d) (he : ∀ i, a + C ≤ i → d'[i]! = d[i]!) : FromB4 B (a + C) n d' := fun k => by
  have e : a + C + k * B = a + (k + 2) * B := by rw [Nat.add_mul, hC]; omega
  rw [e]
  refine q4_congr (h (k + 2)) fun i i1 _ => he i ?_
  rw [← e] at i1
  omega
theorem from_all4 {B n : Nat} {d : Array P4} (h : FromB4 B 0 n d) (hn : n ≤ B) : Q4 0 n d := by
  have := from_one4 h
  rwa [Nat.zero_add, show min B n = n by omega] at this
end

set_option maxHeartbeats 1000000 in
set_option maxRecDepth 100000 in
theorem ins_none4 (A : Option Addr) (c : Nat) (fv : Value) (w : World) : Calls Try.prog 34 #[.slice A 0 c, .int .i64 0, .int .i64 0, fv] w fun e w' => e = .returned (.tuple #[]) ∧ w' = w := by
  go_enter Try.func34, Try.ntmps34
  go_wp2_with fail
  refine wp_loop_rounds 1 ?_
  rw [rounds_succ]
  go_wp2
  go_end0
  exact ⟨rfl, rfl⟩
set_option maxHeartbeats 1000000 in
set_option maxRecDepth 100000 in
theorem stable_none4 (A : Option Addr) (c : Nat) (fv : Value) (w : World) : Calls Try.prog 32 #[.slice A 0 c, .int .i64 0, fv] w fun e w' => e = .returned (.tuple #[]) ∧ w' = w := by
  go_enter Try.func32, Try.ntmps32
  go_wp2_with fail
  refine wp_loop_rounds 1 ?_
  rw [rounds_succ]
  go_wp2_with fail
  refine (ins_none4 _ _ _ _).mono ?_
  rintro e w' ⟨rfl, rfl⟩
  go_wp2_with fail
  refine wp_loop_rounds 1 ?_
  rw [rounds_succ]
  go_wp2
  go_end0
  exact ⟨rfl, rfl⟩

set_option maxRecDepth 1000000 in
set_option maxHeartbeats 16000000 in
theorem stable_any4 (blk off cap n : Nat) (d0 : Array P4) (w0 : World) (R : RowK encP 4 w0 blk off d0) (hn : d0.size = n) (hsz : n < 1152921504606846976) (hu : ∀ i, i < n → (d0[i]!).g = i) :
    Calls Try.prog 32 #[.slice (some ⟨blk, off, none⟩) n cap, .int .i64 n, .func (.func 29) #[] #[]] w0 fun e w' => e = .returned (.tuple #[]) ∧ ∃ d', SWK encP 4 w0 blk off d' w' ∧ PermIn 0 n d0 d' ∧ SortedIn ltL 0 n d' := by
  have S0 : Aside (SWK encP 4 w0 blk off d0 w0) := SWK.start R.hH
  have INS : Aside _ := fun (a b : Nat) (d : Array P4) (w : World) (hs : d.size = n) (S : SWK encP 4 w0 blk off d w) (hab : a ≤ b) (hb : b ≤ n) (hg : ∀ i, a ≤ i → i < b → (d[i]!).g = i) => (show Calls Try.prog 34 #[.slice (some ⟨blk, off, none⟩) n cap, .int .i64 a, .int .i64 b, .func (.func 29) #[] #[]] w fun e w' =>
      e = .returned (.tuple #[]) ∧ ∃ d', SWK encP 4 w0 blk off d' w' ∧ PermIn a b d d' ∧ Q4 a b d' by
    have h := ins_any4 blk off cap a b d0 d w0 w R (by omega) S hab (by omega) (by omega) (fun p q p1 p2 p3 => by rw [hg p p1 (by omega), hg q (by omega) p3]; exact p2)
    rw [hn] at h
    exact h.mono fun e w' ⟨h1, d', h2, h3, h4⟩ => ⟨h1, d', h2, h3, h4, q4_range (by omega) (fun i i1 i2 => by rw [hg i i1 i2]; omega) h3⟩)
  have MRG : Aside _ := fun (a m b : Nat) (d : Array P4) (w : World) (hs : d.size = n) (S : SWK encP 4 w0 blk off d w) (h1 : a < m) (h2 : m < b) (h3 : b ≤ n) (s1 : Q4 a m d) (s2 : Q4 m b d) => (show Calls Try.prog 35 #[.slice (some ⟨blk, off, none⟩) n cap, .int .i64 a, .int .i64 m, .int .i64 b, .func (.func 29) #[] #[]] w fun e w' =>
      e = .returned (.tuple #[]) ∧ ∃ d', SWK encP 4 w0 blk off d' w' ∧ PermIn a b d d' ∧ Q4 a b d' by
    have h := symMerge_any4 blk off cap d0 w0 R (by omega) (b - a + 1) a m b d w (by omega) (by omega) S h1 h2 (by omega) s1.1 s2.1 (q4_crs s1 s2)
    rw [hn] at h
    exact h.mono fun e w' ⟨e1, d', e2, e3, e4⟩ => ⟨e1, d', e2, e3, e4, q4_range (by omega) (q4_join s1 s2 (by omega) (by omega)) e3⟩)
  have HN : Aside (d0.size = n) := hn
  have HU : Aside (∀ i, i < n → (d0[i]!).g = i) := hu
  clear R hn hu
  go_enter Try.func32, Try.ntmps32
  go_wp2_with fail
  go_loopw [7, 8] (fun sa sb wr => ∃ (a b : Nat) (dk : Array P4), sa = .int .i64 a ∧ sb = .int .i64 b ∧ a + 20 ≤ b ∧ b ≤ a + 20 ∧ a ≤ n ∧ Aside (dk.size = n) ∧ Aside (SWK encP 4 w0 blk off dk wr) ∧ Aside (PermIn 0 n d0 dk) ∧ Aside (∃ q, a = q * 20) ∧ Aside (DoneB4 20 a dk) ∧ Aside (∀ i, a ≤ i → i < n → (dk[i]!).g = i)) (fun sa _ _ => n - (intOf sa).toNat)
  case atStart => exact ⟨0, 20, d0, rfl, rfl, by omega, by omega, by omega, HN, S0, (show PermIn _ _ _ _ from permIn_refl _ _ _), (show ∃ q, _ from ⟨0, by omega⟩), done_zero4 20 (by omega) d0, (show ∀ i, _ from fun i _ h => HU.out i h)⟩
  case round =>
    clear S0
    obtain ⟨a, b, dk, rfl, rfl, b1, b2, an, DS, S, Pm, Q, D, U⟩ := hrel
    by_cases hb : b ≤ n
    · have t1 : decide ((b : Int) ≤ (n : Int)) = true := decide_eq_true (by omega)
      have t2 : decide (b ≤ n) = true := decide_eq_true hb
      have HCC := Lib.hid (INS.out a b dk wr DS.out S.out (by omega) hb (fun i h1 h2 => U.out i h1 (by omega)))
      clear S
      go_wp2_with fail
      refine HCC.out.mono ?_
      rintro e w1 ⟨rfl, d1, hS, hP, hT⟩
      have S1 : Aside _ := hS
      have P1 : Aside _ := hP
      have T1 : Aside _ := hT
      clear hS hP hT HCC
      go_wp2_with fail
      go_roundw
      case rel =>
        have hba : b = a + 20 := by omega
        refine ⟨b, b + 20, d1, rfl, by go_num, by omega, by omega, hb, (show _ = _ from P1.out.1.trans DS.out), S1, (show PermIn _ _ _ _ from permIn_trans _ _ _ _ _ Pm.out (permIn_mono _ _ _ _ _ _ (by omega) hb (by have := DS.out; omega) P1.out)), ?_, ?_, ?_⟩
        · obtain ⟨q, hq⟩ := Q.out
          exact (show ∃ q, _ from ⟨q + 1, by omega⟩)
        · have k1 := P1.out
          have k2 := T1.out
          rw [hba] at k1 k2 ⊢
          exact done_step4 Q.out D.out k1 k2
        · exact (show ∀ i, _ from fun i h1 h2 => by rw [P1.out.2.1 i (.inr h1)]; exact U.out i (by omega) h2)
      case measure => simp [intOf]; omega
    · have t1 : decide ((b : Int) ≤ (n : Int)) = false := decide_eq_false (by omega)
      have t2 : decide (b ≤ n) = false := decide_eq_false hb
      have HCC := Lib.hid (INS.out a n dk wr DS.out S.out an (by omega) (fun i h1 h2 => U.out i h1 h2))
      clear S
      go_wp2_with fail
      refine HCC.out.mono ?_
      rintro e w1 ⟨rfl, d1, hS, hP, hT⟩
      have S1 : Aside _ := hS
      have P1 : Aside (PermIn 0 n d0 d1) := permIn_trans _ _ _ _ _ Pm.out (permIn_mono _ _ _ _ _ _ (by omega) (by omega) (by have := DS.out; omega) hP)
      have DS1 : Aside (d1.size = n) := hP.1.trans DS.out
      have F1 : Aside (FromB4 20 0 n d1) := from_done4 Q.out (done_congr4 D.out fun i hi => hP.2.1 i (by omega)) (by omega) an hT
      clear hS hP hT HCC
      clear Pm DS Q D U hb t1 t2 b1 b2 an
      go_wp2_with fail
      go_loopw [6] (fun sB wr => ∃ (B : Nat) (dk : Array P4), sB = .int .i64 B ∧ 20 ≤ B ∧ (B ≤ 20 ∨ B ≤ 2 * n) ∧ Aside (dk.size = n) ∧ Aside (SWK encP 4 w0 blk off dk wr) ∧ Aside (PermIn 0 n d0 dk) ∧ Aside (FromB4 B 0 n dk)) (fun sB _ => n - (intOf sB).toNat)
      case atStart => exact ⟨20, d1, rfl, by omega, by omega, DS1, S1, P1, F1⟩
      case round =>
        clear S1 P1 DS1 F1
        obtain ⟨B, dB, rfl, hB, hB2, DS, S, Pm, F⟩ := hrel
        by_cases hBn : B < n
        · have t1 : decide ((B : Int) < (n : Int)) = true := decide_eq_true (by omega)
          have t2 : decide (B < n) = true := decide_eq_true hBn
          obtain ⟨C, hC⟩ : ∃ C, C = 2 * B := ⟨_, rfl⟩
          have wC : IntKind.i64.wrap (2 * (B : Int)) = (C : Int) := by rw [IntKind.wrap_i64]; omega
          have wC2 : 2 * (B : Int) = (C : Int) := by omega
          have wC3 : IntKind.i64.wrap ((B : Int) * 2) = (C : Int) := by rw [IntKind.wrap_i64]; omega
          have wC4 : (B : Int) * 2 = (C : Int) := by omega
          have c1 : C ≤ 2 * B := by omega
          have c2 : 2 * B ≤ C := by omega
          have HC : Aside (C = 2 * B) := hC
          clear hC
          have S2 : Aside _ := S
          have P2 : Aside _ := Pm
          have DS2 : Aside _ := DS
          have F2 : Aside _ := F
          clear S Pm DS F
          go_wp2_with fail
          go_loopw [7, 8] (fun sa sb wr => ∃ (a b : Nat) (dk : Array P4), sa = .int .i64 a ∧ sb = .int .i64 b ∧ a + C ≤ b ∧ b ≤ a + C ∧ a ≤ n ∧ Aside (dk.size = n) ∧ Aside (SWK encP 4 w0 blk off dk wr) ∧ Aside (PermIn 0 n d0 dk) ∧ Aside (∃ q, a = q * C) ∧ Aside (DoneB4 C a dk) ∧ Aside (FromB4 B a n dk)) (fun sa _ _ => n - (intOf sa).toNat)
          case atStart => exact ⟨0, C, dB, rfl, rfl, by omega, by omega, by omega, DS2, S2, P2, (show ∃ q, _ from ⟨0, by omega⟩), done_zero4 C (by omega) dB, F2⟩
          case round =>
            clear S2 P2 DS2 F2
            obtain ⟨a, b, dk, rfl, rfl, b1, b2, an, DS, S, Pm, Q, D, F⟩ := hrel
            obtain ⟨m, hm⟩ : ∃ m, m = a + B := ⟨_, rfl⟩
            have wm : IntKind.i64.wrap ((a : Int) + (B : Int)) = (m : Int) := by rw [IntKind.wrap_i64]; omega
            have wm2 : (a : Int) + (B : Int) = (m : Int) := by omega
            have m1 : m ≤ a + B := by omega
            have m2 : a + B ≤ m := by omega
            have HM : Aside (a + B = m) := hm.symm
            clear hm
            by_cases hb : b ≤ n
            · have t3 : decide ((b : Int) ≤ (n : Int)) = true := decide_eq_true (by omega)
              have t4 : decide (b ≤ n) = true := decide_eq_true hb
              have f1 := from_one4 F.out
              have f2 := from_two4 F.out
              rw [HM.out] at f1 f2
              rw [show min m n = m by omega] at f1
              rw [show min (m + B) n = b by omega] at f2
              have HCC := Lib.hid (MRG.out a m b dk wr DS.out S.out (by omega) (by omega) hb f1 f2)
              clear S f1 f2
              go_wp2_with fail
              refine HCC.out.mono ?_
              rintro e w3 ⟨rfl, d3, hS, hP, hT⟩
              have S3 : Aside _ := hS
              have P3 : Aside _ := hP
              have T3 : Aside _ := hT
              clear hS hP hT HCC
              go_wp2_with fail
              go_roundw
              case rel =>
                have hba : b = a + C := by omega
                refine ⟨b, b + C, d3, rfl, by go_num, by omega, by omega, hb, (show _ = _ from P3.out.1.trans DS.out), S3, (show PermIn _ _ _ _ from permIn_trans _ _ _ _ _ Pm.out (permIn_mono _ _ _ _ _ _ (by omega) hb (by have := DS.out; omega) P3.out)), ?_, ?_, ?_⟩
                · obtain ⟨q, hq⟩ := Q.out
                  exact (show ∃ q, _ from ⟨q + 1, by rw [Nat.succ_mul]; omega⟩)
                · have k1 := P3.out
                  have k2 := T3.out
                  rw [hba] at k1 k2 ⊢
                  exact done_step4 Q.out D.out k1 k2
                · rw [hba]
                  exact from_shift4 HC.out F.out (fun i hi => P3.out.2.1 i (by omega))
              case measure => simp [intOf]; omega
            · have t3 : decide ((b : Int) ≤ (n : Int)) = false := decide_eq_false (by omega)
              have t4 : decide (b ≤ n) = false := decide_eq_false hb
              by_cases hmn : m < n
              · have t5 : decide ((m : Int) < (n : Int)) = true := decide_eq_true (by omega)
                have t6 : decide (m < n) = true := decide_eq_true hmn
                have f1 := from_one4 F.out
                have f2 := from_two4 F.out
                rw [HM.out] at f1 f2
                rw [show min m n = m by omega] at f1
                rw [show min (m + B) n = n by omega] at f2
                have HCC := Lib.hid (MRG.out a m n dk wr DS.out S.out (by omega) hmn (by omega) f1 f2)
                clear S f1 f2
                go_wp2_with fail
                refine HCC.out.mono ?_
                rintro e w3 ⟨rfl, d3, hS, hP, hT⟩
                have S3 : Aside _ := hS
                have P3 : Aside _ := hP
                have T3 : Aside _ := hT
                clear hS hP hT HCC
                go_wp2_with fail
                go_roundw
                case rel =>
                  exact ⟨C, d3, rfl, by omega, by omega, (show _ = _ from P3.out.1.trans DS.out), S3, (show PermIn _ _ _ _ from permIn_trans _ _ _ _ _ Pm.out (permIn_mono _ _ _ _ _ _ (by omega) (by omega) (by have := DS.out; omega) P3.out)),
                    from_done4 Q.out (done_congr4 D.out fun i hi => P3.out.2.1 i (by omega)) (by omega) an T3.out⟩
                case measure => simp [intOf]; omega
              · have t5 : decide ((m : Int) < (n : Int)) = false := decide_eq_false (by omega)
                have t6 : decide (m < n) = false := decide_eq_false hmn
                have f1 := from_one4 F.out
                rw [HM.out] at f1
                rw [show min m n = n by omega] at f1
                have T3 : Aside _ := f1
                clear f1
                go_wp2_with fail
                go_roundw
                case rel =>
                  exact ⟨C, dk, rfl, by omega, by omega, DS, S, Pm, from_done4 Q.out D.out (by omega) an T3.out⟩
                case measure => simp [intOf]; omega
        · have t1 : decide ((B : Int) < (n : Int)) = false := decide_eq_false (by omega)
          have t2 : decide (B < n) = false := decide_eq_false hBn
          go_wp2
          go_end0
          exact ⟨rfl, dB, S.out, Pm.out, (from_all4 F.out (by omega)).1⟩
set_option maxHeartbeats 1000000 in
set_option maxRecDepth 100000 in
theorem SortStable_any4 (blk off cap n : Nat) (d0 : Array P4) (w0 : World) (R : RowK encP 4 w0 blk off d0) (hn : d0.size = n) (hsz : n < 1152921504606846976) (hu : ∀ i, i < n → (d0[i]!).g = i) :
    Calls Try.prog 28 #[.slice (some ⟨blk, off, none⟩) n cap, .func (.func 29) #[] #[]] w0 fun e w' => e = .returned (.tuple #[]) ∧ ∃ d', SWK encP 4 w0 blk off d' w' ∧ PermIn 0 n d0 d' ∧ SortedIn ltL 0 n d' := by
  have HCC := Lib.hid (stable_any4 blk off cap n d0 w0 R hn hsz hu)
  clear R hn hu
  go_enter Try.func28, Try.ntmps28
  go_wp2_with fail
  refine HCC.out.mono ?_
  rintro e w1 ⟨rfl, h⟩
  have H := Lib.hid h
  clear h HCC
  go_wp2_with fail
  go_end0
  exact ⟨rfl, H.out⟩
set_option maxHeartbeats 1000000 in
set_option maxRecDepth 100000 in
theorem SortStable_none4 (A : Option Addr) (c : Nat) (fv : Value) (w : World) : Calls Try.prog 28 #[.slice A 0 c, fv] w fun e w' => e = .returned (.tuple #[]) ∧ w' = w := by
  go_enter Try.func28, Try.ntmps28
  go_wp2_with fail
  refine (stable_none4 _ _ _ _).mono ?_
  rintro e w' ⟨rfl, rfl⟩
  go_wp2_with fail
  go_end0
  exact ⟨rfl, rfl⟩
end Go.Proofs.Ytfdibmcjjclgkaa.Tl
