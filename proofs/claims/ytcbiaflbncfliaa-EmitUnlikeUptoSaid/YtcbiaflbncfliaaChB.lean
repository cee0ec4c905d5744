import Derived.Test.YtcbiaflbncfliaaChA
import Derived.Test.YtcbiaflbncfliaaChPl
import Derived.Test.YtcbiaflbncfliaaUtfE
/- Contract of package chars' Read. -/
namespace Go.Proofs.Ytcbiaflbncfliaa.Ch
open Go.RowKit
open Go.Proofs.Ytcbiaflbncfliaa.Utf

/-- What a call hands back: a text and two numbers; what was there stays. -/
def GivesRead (r : List UInt8 × Int × Int) (w : World) (e : Ending) (w' : World) : Prop :=
  e = .returned (.tuple #[.string (strOf r.1), .int .i64 r.2.1, .int .i64 r.2.2]) ∧ Below w.heap.size w w'

theorem ret3 {a a' : ByteArray} {b b' c c' : Int} (h1 : a = a') (h2 : b = b') (h3 : c = c') : Ending.returned (.tuple #[.string a, .int .i64 b, .int .i64 c]) = .returned (.tuple #[.string a', .int .i64 b', .int .i64 c']) := by rw [h1, h2, h3]

theorem unit_at (s : ByteArray) (k : Nat) (z u n e : Int) (w : World) (hz : z = (k : Int)) (hs : s.size ≤ maxLen) (hk : k < s.size) (h : Hid (uniL (s.data.toList.drop k) = (u, n, e))) :
    Calls Try.prog 57 #[.string s, .int .i64 z] w fun r w' => r = .returned (.tuple #[.int .i32 u, .int .i64 n, .int .i64 e]) ∧ w = w' := by
  subst hz
  have := unitAt_any s k w hs hk
  rw [h.out] at this
  exact this

/-- what a loop over a quote has at its head: no half is kept; or one, which stands 6 bytes ahead -/
def HeadAt (L : List UInt8) (k : Nat) (ps : List Int) (u : Int) : Prop :=
  (u = 0 ∧ RdAt L k ps) ∨ (isUp u = true ∧ ∃ j, k = j + 6 ∧ k ≤ L.length ∧ RdAt L j ps ∧ uniL (L.drop j) = (u, 6, 0))

set_option maxRecDepth 100000 in
set_option maxHeartbeats 8000000 in
theorem Read_in (s : ByteArray) (q : Nat) (w : World) (hs : s.size ≤ maxLen) (hq : q < s.size) (hb : byt s.data.toList q = 34) (hr : (readL (s.data.toList.drop (q + 1))).2.1 + 16 ≤ 140737488355328) :
    Calls Try.prog 47 #[.string s, .int .i64 q] w (GivesRead (readS s.data.toList q) w) := by
  obtain ⟨i0, hi, hz0, hz1, hz2⟩ := info_parts infoU8
  have hs' := hs
  have HS := Lib.hid hs; clear hs
  unfold maxLen at hs'
  have B := Lib.hid hb
  have hq34 : ((s[q].toNat : Int) != 34) = false := by
    rw [byt_get s q hq] at hb; rw [hb]; rfl
  clear hb
  obtain ⟨L, hL⟩ : ∃ L, L = s.data.toList.drop (q + 1) := ⟨_, rfl⟩
  have hdr : ∀ k, s.data.toList.drop (q + 1 + k) = L.drop k := fun k => by rw [hL, List.drop_drop]
  have hlen : L.length = s.size - (q + 1) := by rw [hL]; simp
  rw [← hL] at hr
  have hbad : ∀ (k : Nat) (ps : List Int) (e : Int), readL L = (ps, k, e) → e ≠ 0 → readS s.data.toList q = ([], (q : Int) + 1 + k, e) := fun k ps e h he => readS_bad (by rw [len_data]; exact hq) B.out (by rw [← hL]; exact h) he
  have hok : ∀ (k : Nat) (ps : List Int), readL L = (ps, k, 0) → readS s.data.toList q = (encL ps, (q : Int) + 1 + k + 1, 0) := fun k ps h => readS_ok (by rw [len_data]; exact hq) B.out (by rw [← hL]; exact h)
  have HL := Lib.hid hL; clear hL
  have HDR := Lib.hid hdr; clear hdr
  have HLEN := Lib.hid hlen; clear hlen
  have BAD := Lib.hid hbad; clear hbad
  have OK := Lib.hid hok; clear hok
  have HR := Lib.hid hr; clear hr
  have hq0 : decide ((q : Int) < 0) = false := decide_eq_false (by omega)
  have hq1 : decide (s.size ≤ q) = false := decide_eq_false (by omega)
  go_enter Try.func47, Try.ntmps47
  go_wp2_with fail
  go_loopw [7, 8, 9, 10, 11, 12] (fun v u i _ _ _ wr => ∃ (k : Nat) (ps : List Int) (u0 : Int), i = .int .i64 (q + 1 + k : Nat) ∧ u = .int .i32 u0 ∧ HeadAt L k ps u0 ∧ wr.ownsRow w.heap.size 5 1 v (Lib.byteCells (encL ps)).length (Lib.byteCells (encL ps)) ∧ Below w.heap.size w wr) (fun _ _ i _ _ _ _ => s.size - (intOf i).toNat)
  case atStart => exact ⟨0, [], 0, by go_num, rfl, .inl ⟨rfl, RdAt.start _⟩, World.ownsRow_nil _ _ _ _, Below.refl _ _⟩
  case round =>
    obtain ⟨k, ps, u0, rfl, rfl, hat, hown, hbel⟩ := hrel
    have hkl : k ≤ L.length := by
      rcases hat with ⟨_, h⟩ | ⟨_, j, _, h, _⟩
      · exact h.1
      · exact h
    have hk : q + 1 + k ≤ s.size := by have := HLEN.out; omega
    have hbB := hbel.size
    by_cases hgo : k < L.length ∧ byt (L.drop k) 0 ≠ 34
    · obtain ⟨hlt, hb34⟩ := hgo
      have hlt' : q + 1 + k < s.size := by have := HLEN.out; omega
      have hld : decide (q + 1 + k < s.size) = true := decide_eq_true hlt'
      have h0 : (L.drop k).length ≠ 0 := by simp; omega
      have hg : byt (L.drop k) 0 = (s[q + 1 + k].toNat : Int) := by rw [← HDR.out, byt_drop, Nat.add_zero, byt_get s _ hlt']
      have ht : ((s[q + 1 + k].toNat : Int) != 34) = true := by rw [bne_iff_ne, ← hg]; exact hb34
      have H0 := Lib.hid h0; clear h0
      have HB := Lib.hid hb34; clear hb34
      have HG := Lib.hid hg; clear hg
      rcases hU : uniL (L.drop k) with ⟨p, n, e⟩
      have hbd := uniL_bd (L.drop k)
      rw [hU] at hbd
      obtain ⟨p0, p1, n0, n1, n2, hee⟩ := hbd
      simp only at p0 p1 n0 n1 n2 hee
      rw [List.length_drop] at n2
      have HU := Lib.hid (show uniL (s.data.toList.drop (q + 1 + k)) = (p, n, e) by rw [HDR.out]; exact hU)
      have HV := Lib.hid hU; clear hU
      rcases hat with ⟨rfl, hrd⟩ | ⟨hup, j, rfl, _, hrd, huj⟩
      · have HRD := Lib.hid hrd; clear hrd
        by_cases he : e = 0
        · subst he
          clear hee
          by_cases hl : isLo p = true
          · go_wp2_with (first | (go_at_call 57; refine (unit_at s _ _ _ _ _ _ (by omega) HS.out hlt' HU).mono ?_; rintro r w' ⟨rfl, rfl⟩) | (go_at_call 58; refine (isLower_any _ _).mono ?_; rintro r w' ⟨rfl, rfl⟩))
            go_ret3
            refine ⟨?_, hbel⟩
            rw [BAD.out k ps 20 (HRD.out.err (stepL_lo H0.out (by rw [HV.out]; exact hl))) (by decide)]
            exact ret3 rfl rfl rfl
          · have hl' : isLo p = false := by simpa using hl
            clear hl
            by_cases hu : isUp p = true
            · obtain rfl : n = 6 := first_yes H0.out HV.out hu
              have hi1 : q + 1 + k + 6 ≤ s.size := by have := HLEN.out; omega
              go_wp2_with (first | (go_at_call 57; refine (unit_at s _ _ _ _ _ _ (by omega) HS.out hlt' HU).mono ?_; rintro r w' ⟨rfl, rfl⟩) | (go_at_call 58; refine (isLower_any _ _).mono ?_; rintro r w' ⟨rfl, rfl⟩) | (go_at_call 61; refine (isUpper_any _ _).mono ?_; rintro r w' ⟨rfl, rfl⟩))
              go_roundw
              case rel => exact ⟨k + 6, ps, p, by go_num, rfl, .inr ⟨hu, k, rfl, by omega, HRD.out, HV.out⟩, hown, hbel⟩
              case measure => simp [intOf]; omega
            · have hu' : isUp p = false := by simpa using hu
              clear hu
              have hst : stepL (L.drop k) = (p, n, 0) := by
                have := uniL_both H0.out HB.out (by rw [HV.out]) (by rw [HV.out]; exact hu') (by rw [HV.out]; exact hl')
                rw [this, HV.out]
              have hpos := uniL_pos H0.out HB.out (by rw [HV.out])
              rw [HV.out] at hpos
              simp only at hpos
              obtain ⟨m, rfl⟩ := Int.eq_ofNat_of_zero_le n0
              have hm : m ≠ 0 := by omega
              have HST := Lib.hid hst; clear hst
              have hkm : k + m ≤ L.length := by omega
              have hi1 : q + 1 + k + m ≤ s.size := by have := HLEN.out; omega
              have hle := HRD.out.le
              have hsz : (Lib.byteCells (encL ps)).length + 4 ≤ 140737488355328 := by rw [Lib.byteCells_length]; have := HRD.out.2.1; have := HR.out; omega
              have hle4 := enc_le p
              by_cases h92 : byt (L.drop k) 0 = 92
              · have h92' : ((s[q + 1 + k].toNat : Int) != 92) = false := by rw [← HG.out, h92]; rfl
                clear h92
                go_wp2_with (first | (go_at_call 57; refine (unit_at s _ _ _ _ _ _ (by omega) HS.out hlt' HU).mono ?_; rintro r w' ⟨rfl, rfl⟩) | (go_at_call 58; refine (isLower_any _ _).mono ?_; rintro r w' ⟨rfl, rfl⟩) | (go_at_call 61; refine (isUpper_any _ _).mono ?_; rintro r w' ⟨rfl, rfl⟩))
                refine (Put_any p wr).mono ?_
                rintro r w1 ⟨rfl, hb1⟩
                have hown1 := own_below hown hb1
                go_wp2_with (at_builtin; refine Lib.wpList_append_own_string _ rfl _ _ 53 9 rfl w.heap.size 5 i0 Try.underlying53 Try.underlying9 hi hz0 hz1 hz2 _ _ _ rfl hown1 (strOf (enc p)) rfl ?_ ?_ ?_ ?_; (rw [strOf_size]; unfold maxLen; omega); (rw [strOf_size]; omega); (have := hb1.size; omega); intro v2 w2 hown2 hg2 _)
                go_roundw
                case rel => exact ⟨k + m, ps ++ [p], 0, by go_num, rfl, .inl ⟨rfl, HRD.out.step HST.out hm⟩, by rw [encL_append, Lib.byteCells_append, List.length_append]; simpa [encL, strOf_size, strCells_of, Lib.byteCells_length] using hown2, (hbel.trans (hb1.mono hbB)).grown hg2 (by have := hb1.size; omega) (fun g hg => (hown.lt g hg).1)⟩
                case measure => simp [intOf]; omega
              · have h92' : ((s[q + 1 + k].toNat : Int) != 92) = true := by rw [bne_iff_ne, ← HG.out]; exact h92
                have ho1 := uniL_one H0.out h92 HV.out
                have hcell := strCells_extract s (q + 1 + k) m p (by rw [HDR.out]; exact ho1) hm
                have hxz : (s.extract (q + 1 + k) (q + 1 + k + m)).size = (enc p).length := by
                  rw [← Lib.strCells_length, hcell, Lib.byteCells_length]
                have HC := Lib.hid hcell; clear hcell
                have HX := Lib.hid hxz; clear hxz
                clear h92 ho1
                have f1 : (0 : Int) ≤ (q : Int) + 1 + k := by omega
                have f2 : (q : Int) + 1 + k ≤ (q : Int) + 1 + k + m := by omega
                have f3 : (q : Int) + 1 + k + m ≤ (s.size : Int) := by omega
                have f4 : ((q : Int) + 1 + k).toNat = q + 1 + k := by omega
                have f5 : ((q : Int) + 1 + k + m).toNat = q + 1 + k + m := by omega
                go_wp2_with (first | (go_at_call 57; refine (unit_at s _ _ _ _ _ _ (by omega) HS.out hlt' HU).mono ?_; rintro r w' ⟨rfl, rfl⟩) | (go_at_call 58; refine (isLower_any _ _).mono ?_; rintro r w' ⟨rfl, rfl⟩) | (go_at_call 61; refine (isUpper_any _ _).mono ?_; rintro r w' ⟨rfl, rfl⟩) | (at_builtin; refine Lib.wpList_append_own_string _ rfl _ _ 53 9 rfl w.heap.size 5 i0 Try.underlying53 Try.underlying9 hi hz0 hz1 hz2 _ _ _ rfl hown (s.extract (q + 1 + k) (q + 1 + k + m)) rfl ?_ ?_ ?_ ?_; (rw [HX.out]; unfold maxLen; omega); (rw [HX.out]; omega); omega; intro v2 w2 hown2 hg2 _))
                go_roundw
                case rel => exact ⟨k + m, ps ++ [p], 0, by go_num, rfl, .inl ⟨rfl, HRD.out.step HST.out hm⟩, by rw [encL_append, Lib.byteCells_append, List.length_append]; rw [HC.out, HX.out] at hown2; simpa [encL, Lib.byteCells_length] using hown2, hbel.grown hg2 hbB (fun g hg => (hown.lt g hg).1)⟩
                case measure => simp [intOf]; omega
        · have hne : (e != 0) = true := by rw [bne_iff_ne]; exact he
          go_wp2_with (first | (go_at_call 57; refine (unit_at s _ _ _ _ _ _ (by omega) HS.out hlt' HU).mono ?_; rintro r w' ⟨rfl, rfl⟩))
          go_ret3
          refine ⟨?_, hbel⟩
          have hst := uniL_err H0.out HB.out (by rw [HV.out]; exact he)
          rw [HV.out] at hst
          rw [BAD.out k ps e (HRD.out.err hst) he]
          exact ret3 rfl rfl rfl
      · have HRD := Lib.hid hrd; clear hrd
        have HUJ := Lib.hid huj; clear huj
        have hup1 := isUp_bd hup
        have hu0 : (u0 != 0) = true := by rw [bne_iff_ne]; omega
        by_cases he : e = 0
        · subst he
          clear hee
          by_cases hl : isLo p = true
          · obtain ⟨hpu, rfl⟩ := second_yes H0.out HV.out hl
            have hst := up_go hup HUJ.out (by rw [hpu]; exact hl)
            rw [hpu] at hst
            have hb0 := bothV_bd hup hl
            have HST := Lib.hid hst; clear hst hpu
            have hi1 : q + 1 + (j + 6) + 6 ≤ s.size := by have := HLEN.out; omega
            have hle := HRD.out.le
            have hsz : (Lib.byteCells (encL ps)).length + 4 ≤ 140737488355328 := by rw [Lib.byteCells_length]; have := HRD.out.2.1; have := HR.out; omega
            have hle4 := enc_le (bothV u0 p)
            go_wp2_with (first | (go_at_call 57; refine (unit_at s _ _ _ _ _ _ (by omega) HS.out hlt' HU).mono ?_; rintro r w' ⟨rfl, rfl⟩) | (go_at_call 58; refine (isLower_any _ _).mono ?_; rintro r w' ⟨rfl, rfl⟩) | (go_at_call 60; refine (both_any _ _ _ hup hl).mono ?_; rintro r w' ⟨rfl, rfl⟩))
            refine (Put_any _ _).mono ?_
            rintro r w1 ⟨rfl, hb1⟩
            have hown1 := own_below hown hb1
            go_wp2_with (at_builtin; refine Lib.wpList_append_own_string _ rfl _ _ 53 9 rfl w.heap.size 5 i0 Try.underlying53 Try.underlying9 hi hz0 hz1 hz2 _ _ _ rfl hown1 (strOf (enc (bothV u0 p))) rfl ?_ ?_ ?_ ?_; (rw [strOf_size]; unfold maxLen; omega); (rw [strOf_size]; omega); (have := hb1.size; omega); intro v2 w2 hown2 hg2 _)
            go_roundw
            case rel => exact ⟨j + 12, ps ++ [bothV u0 p], 0, by go_num, rfl, .inl ⟨rfl, HRD.out.step HST.out (by decide)⟩, by rw [encL_append, Lib.byteCells_append, List.length_append]; simpa [encL, strOf_size, strCells_of, Lib.byteCells_length] using hown2, (hbel.trans (hb1.mono hbB)).grown hg2 (by have := hb1.size; omega) (fun g hg => (hown.lt g hg).1)⟩
            case measure => simp [intOf]; omega
          · have hl' : isLo p = false := by simpa using hl
            clear hl
            go_wp2_with (first | (go_at_call 57; refine (unit_at s _ _ _ _ _ _ (by omega) HS.out hlt' HU).mono ?_; rintro r w' ⟨rfl, rfl⟩) | (go_at_call 58; refine (isLower_any _ _).mono ?_; rintro r w' ⟨rfl, rfl⟩))
            go_ret3
            refine ⟨?_, hbel⟩
            rw [BAD.out j ps 20 (HRD.out.err (up_stop hup HUJ.out (second_no H0.out HV.out (.inr hl')))) (by decide)]
            exact ret3 rfl (by simp only; omega) rfl
        · have hne : (e != 0) = true := by rw [bne_iff_ne]; exact he
          go_wp2_with (first | (go_at_call 57; refine (unit_at s _ _ _ _ _ _ (by omega) HS.out hlt' HU).mono ?_; rintro r w' ⟨rfl, rfl⟩))
          go_ret3
          refine ⟨?_, hbel⟩
          rw [BAD.out j ps 20 (HRD.out.err (up_stop hup HUJ.out (second_no H0.out HV.out (.inl he)))) (by decide)]
          exact ret3 rfl (by simp only; omega) rfl
    · have hcv := (Rd.of_own hown).conv (P := Try.prog) Try.underlying53 Try.underlying5 Try.underlying9
      by_cases hlt : k < L.length
      · have hb34 : byt (L.drop k) 0 = 34 := by
          by_cases h : byt (L.drop k) 0 = 34
          · exact h
          · exact absurd ⟨hlt, h⟩ hgo
        have hlt' : q + 1 + k < s.size := by have := HLEN.out; omega
        have hld : decide (q + 1 + k < s.size) = true := decide_eq_true hlt'
        have h0 : (L.drop k).length ≠ 0 := by simp; omega
        have hg : byt (L.drop k) 0 = (s[q + 1 + k].toNat : Int) := by rw [← HDR.out, byt_drop, Nat.add_zero, byt_get s _ hlt']
        have ht : ((s[q + 1 + k].toNat : Int) != 34) = false := by rw [← hg, hb34]; rfl
        have hend : ((q : Int) + 1 + k == (s.size : Int)) = false := by rw [beq_eq_false_iff_ne]; omega
        have hno : unitL (L.drop k) = -1 := unitL_low (by omega)
        have hst := stepL_quote h0 hb34
        have HST := Lib.hid hst; clear hst
        have HNO := Lib.hid hno; clear hno
        clear hg hb34 h0 hgo
        rcases hat with ⟨rfl, hrd⟩ | ⟨hup, j, rfl, _, hrd, huj⟩
        · have HRD := Lib.hid hrd; clear hrd
          go_wp2_with fail
          go_ret3
          refine ⟨?_, hbel⟩
          rw [OK.out k ps (HRD.out.err HST.out)]
          exact ret3 rfl rfl rfl
        · have HRD := Lib.hid hrd; clear hrd
          have HUJ := Lib.hid huj; clear huj
          have hup1 := isUp_bd hup
          have hu0 : (u0 != 0) = true := by rw [bne_iff_ne]; omega
          go_wp2_with fail
          go_ret3
          refine ⟨?_, hbel⟩
          rw [BAD.out j ps 20 (HRD.out.err (up_stop hup HUJ.out (by rw [HNO.out]; rfl))) (by decide)]
          exact ret3 rfl (by simp only; omega) rfl
      · obtain hkL : k = L.length := by omega
        have hks : q + 1 + k = s.size := by have := HLEN.out; omega
        have hld : decide (q + 1 + k < s.size) = false := decide_eq_false (by omega)
        have hend : ((q : Int) + 1 + k == (s.size : Int)) = true := by rw [beq_iff_eq]; omega
        have h0 : (L.drop k).length = 0 := by simp; omega
        have hst := stepL_end h0
        have hno := unitL_nil h0
        have HST := Lib.hid hst; clear hst
        have HNO := Lib.hid hno; clear hno
        have HKS := Lib.hid hks; clear hks
        clear h0 hkL hgo
        rcases hat with ⟨rfl, hrd⟩ | ⟨hup, j, rfl, _, hrd, huj⟩
        · have HRD := Lib.hid hrd; clear hrd
          go_wp2_with fail
          go_ret3
          refine ⟨?_, hbel⟩
          rw [BAD.out k ps 20 (HRD.out.err HST.out) (by decide)]
          exact ret3 rfl rfl rfl
        · have HRD := Lib.hid hrd; clear hrd
          have HUJ := Lib.hid huj; clear huj
          have hup1 := isUp_bd hup
          have hu0 : (u0 != 0) = true := by rw [bne_iff_ne]; omega
          go_wp2_with fail
          go_ret3
          refine ⟨?_, hbel⟩
          rw [BAD.out j ps 20 (HRD.out.err (up_stop hup HUJ.out (by rw [HNO.out]; rfl))) (by decide)]
          exact ret3 rfl (by simp only; omega) rfl

set_option maxRecDepth 100000 in
set_option maxHeartbeats 1000000 in
theorem Read_any (s : ByteArray) (a : Int) (w : World) (hs : s.size ≤ maxLen) (hr : ∀ q : Nat, a = q → q < s.size → byt s.data.toList q = 34 → (readL (s.data.toList.drop (q + 1))).2.1 + 16 ≤ 140737488355328) :
    Calls Try.prog 47 #[.string s, .int .i64 a] w (GivesRead (readS s.data.toList a) w) := by
  by_cases h0 : a < 0
  · have hd : decide (a < 0) = true := decide_eq_true h0
    go_enter Try.func47, Try.ntmps47
    go_wp2_with fail
    go_ret3
    refine ⟨?_, Below.refl _ _⟩
    rw [readS_out (.inl h0)]
    exact ret3 rfl rfl rfl
  · obtain ⟨q, rfl⟩ := Int.eq_ofNat_of_zero_le (Int.not_lt.mp h0)
    by_cases h1 : q < s.size
    · by_cases h2 : byt s.data.toList q = 34
      · exact Read_in s q w hs h1 h2 (hr q rfl h1 h2)
      · have hq34 : ((s[q].toNat : Int) != 34) = true := by rw [bne_iff_ne, ← byt_get s q h1]; exact h2
        have hq0 : decide ((q : Int) < 0) = false := decide_eq_false (by omega)
        have hq1 : decide (s.size ≤ q) = false := decide_eq_false (by omega)
        unfold maxLen at hs
        clear hr
        go_enter Try.func47, Try.ntmps47
        go_wp2_with fail
        go_ret3
        refine ⟨?_, Below.refl _ _⟩
        rw [readS_out (.inr (.inr (by rw [Int.toNat_natCast]; exact h2)))]
        exact ret3 rfl rfl rfl
    · have hq0 : decide ((q : Int) < 0) = false := decide_eq_false (by omega)
      have hq1 : decide (s.size ≤ q) = true := decide_eq_true (by omega)
      unfold maxLen at hs
      clear hr
      go_enter Try.func47, Try.ntmps47
      go_wp2_with fail
      go_ret3
      refine ⟨?_, Below.refl _ _⟩
      rw [readS_out (.inr (.inl (by rw [len_data]; omega)))]
      exact ret3 rfl rfl rfl
end Go.Proofs.Ytcbiaflbncfliaa.Ch
