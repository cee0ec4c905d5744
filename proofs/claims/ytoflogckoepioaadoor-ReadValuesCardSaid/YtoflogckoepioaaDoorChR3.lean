import Derived.Test.YtoflogckoepioaaDoorChR2
import Derived.Test.YtoflogckoepioaaDoorUtfG
/- Contract of the document's answer for layer 2: Read. -/
namespace Go.Proofs.YtoflogckoepioaaDoor.Ch
open Go.RowKit
open Go.Proofs.YtoflogckoepioaaDoor.Utf

theorem rOne_z (s : ByteArray) (k : Nat) (z p n : Int) (w : World) (hz : z = (k : Int)) (hs : s.size ≤ maxLen) (hk : k < s.size) (h : Hid (oneL (s.data.toList.drop k) = (p, n))) :
    Calls Tryd.prog 26 #[.string s, .int .i64 z] w (Gives (.tuple #[.int .i64 p, .int .i64 n]) w) := by
  subst hz
  exact rOne_at s k p n w hs hk h
theorem Escape_z (s : ByteArray) (k : Nat) (z p n : Int) (w : World) (hz : z = (k : Int)) (hs : s.size ≤ maxLen) (hk : k < s.size) (hs2 : s.size ≤ 2305843009213693952) (ht : Tab w) (h : Hid (escL (s.data.toList.drop k) = (p, n))) :
    Calls Tryd.prog 25 #[.string s, .int .i64 z] w (Gives (.tuple #[.int .i64 p, .int .i64 n]) w) := by
  have := Escape_any s k z w hz hs hk hs2 ht
  rw [h.out] at this
  exact this

set_option maxRecDepth 100000 in
set_option maxHeartbeats 8000000 in
theorem rRead_in (s : ByteArray) (q : Nat) (w : World) (hs2 : s.size ≤ 2305843009213693952) (hq : q < s.size) (hb : byt s.data.toList q = 34) (hr : (readL (s.data.toList.drop (q + 1))).2.1 + 16 ≤ 140737488355328) (ht : Tab w) :
    Calls Tryd.prog 16 #[.string s, .int .i64 q] w (GivesRead (readS s.data.toList q) w) := by
  obtain ⟨i0, hi, hz0, hz1, hz2⟩ := info_parts infoU8
  have hs : s.size ≤ maxLen := by unfold maxLen; omega
  have HS := Lib.hid hs; clear hs
  have B := Lib.hid hb
  have hq34 : ((s[q].toNat : Int) != 34) = false := by
    rw [byt_get s q hq] at hb; rw [hb]; rfl
  clear hb
  obtain ⟨L, hL⟩ : ∃ L, L = s.data.toList.drop (q + 1) := ⟨_, rfl⟩
  have hdr : ∀ k, s.data.toList.drop (q + 1 + k) = L.drop k := fun k => by rw [hL, List.drop_drop]
  have hlen : L.length = s.size - (q + 1) := by rw [hL]; simp
  rw [← hL] at hr
  have hbad : ∀ (k : Nat) (ps : List Int) (e : Int), readL L = (ps, k, e) → e ≠ 0 → readS s.data.toList q = ([], (q : Int) + 1 + k, e) := fun k ps e h he => readS_bad (by rw [len_data]; exact hq) B.out (by rw [← hL]; exact h) he
  have hok : ∀ (k : Nat) (ps : List Int), readL L = (ps, k, 0) → readS s.data.toList q = (encL ps, (q : Int) + 1 + k + 1, 0) := fun k ps h => readS_ok (by rw [len_data]; exact hq) B.out (by rw [← hL]; exact h)
  have HL := Lib.hid hL; clear hL
  have HDR := Lib.hid hdr; clear hdr
  have HLEN := Lib.hid hlen; clear hlen
  have BAD := Lib.hid hbad; clear hbad
  have OK := Lib.hid hok; clear hok
  have HR := Lib.hid hr; clear hr
  have HT0 := Lib.hid ht; clear ht
  have hB0 := HT0.out.1
  have hq0 : decide ((q : Int) < 0) = false := decide_eq_false (by omega)
  have hq1 : decide (s.size ≤ q) = false := decide_eq_false (by omega)
  go_enter Tryd.func16, Tryd.ntmps16
  go_wp2_with fail
  go_loopw [7, 8, 9, 10] (fun v i _ _ wr => ∃ (k : Nat) (ps : List Int), i = .int .i64 (q + 1 + k : Nat) ∧ RdAt L k ps ∧ wr.ownsRow w.heap.size 5 1 v (Lib.byteCells (encL ps)).length (Lib.byteCells (encL ps)) ∧ Below w.heap.size w wr) (fun _ i _ _ _ => s.size - (intOf i).toNat)
  case atStart => exact ⟨0, [], by go_num, RdAt.start _, World.ownsRow_nil _ _ _ _, Below.refl _ _⟩
  case round =>
    obtain ⟨k, ps, rfl, hrd, hown, hbel⟩ := hrel
    have hkl := hrd.1
    have hle := hrd.le
    have hsz : (Lib.byteCells (encL ps)).length + 4 ≤ 140737488355328 := by rw [Lib.byteCells_length]; have := hrd.2.1; have := HR.out; omega
    have HRD := Lib.hid hrd; clear hrd
    have hk : q + 1 + k ≤ s.size := by have := HLEN.out; omega
    have hbB := hbel.size
    have HT := Lib.hid (HT0.out.below hbel hB0 hbel.size)
    by_cases hlt : k < L.length
    · have hlt' : q + 1 + k < s.size := by have := HLEN.out; omega
      have hld : decide (q + 1 + k < s.size) = true := decide_eq_true hlt'
      have h0 : (L.drop k).length ≠ 0 := by simp; omega
      have hg : byt (L.drop k) 0 = (s[q + 1 + k].toNat : Int) := by rw [← HDR.out, byt_drop, Nat.add_zero, byt_get s _ hlt']
      have H0 := Lib.hid h0; clear h0
      have HG := Lib.hid hg; clear hg
      by_cases c1 : (s[q + 1 + k].toNat : Int) = 34
      · have t1 : ((s[q + 1 + k].toNat : Int) == 34) = true := by rw [beq_iff_eq]; exact c1
        have hst := stepL_quote H0.out (HG.out.trans c1)
        have HST := Lib.hid hst; clear hst c1
        have hcv := (Rd.of_own hown).conv (P := Tryd.prog) Tryd.underlying65 Tryd.underlying5 Tryd.underlying9
        go_wp2_with fail
        go_ret3
        refine ⟨?_, hbel⟩
        rw [OK.out k ps (HRD.out.err HST.out)]
        exact ret3 rfl rfl rfl
      · have t1 : ((s[q + 1 + k].toNat : Int) == 34) = false := by rw [beq_eq_false_iff_ne]; exact c1
        by_cases c2 : (s[q + 1 + k].toNat : Int) < 32
        · have t2 : decide ((s[q + 1 + k].toNat : Int) < 32) = true := decide_eq_true c2
          have hst := stepL_ctl H0.out (by rw [HG.out]; exact c2)
          have HST := Lib.hid hst; clear hst c1
          go_wp2_with fail
          go_ret3
          refine ⟨?_, hbel⟩
          rw [BAD.out k ps 20 (HRD.out.err HST.out) (by decide)]
          exact ret3 rfl rfl rfl
        · have t2 : decide ((s[q + 1 + k].toNat : Int) < 32) = false := decide_eq_false c2
          have hfin : ∀ (p : Int) (m : Nat), stepL (L.drop k) = (p, (m : Int), 0) → m ≠ 0 → isPt p = true ∧ k + m ≤ L.length := by
            intro p m h hm
            have := stepL_n (L.drop k)
            rw [h] at this
            rcases this with h1 | ⟨h1, _, _, h2, _⟩
            · exact absurd h1.1 (by simpa using hm)
            · rw [List.length_drop] at h2
              simp only at h2
              exact ⟨h1, by omega⟩
          have HF := Lib.hid hfin; clear hfin
          by_cases c3 : (s[q + 1 + k].toNat : Int) = 92
          · have t3 : ((s[q + 1 + k].toNat : Int) == 92) = true := by rw [beq_iff_eq]; exact c3
            have hst := stepL_esc H0.out (HG.out.trans c3)
            rcases hE : escL (L.drop k) with ⟨p, n⟩
            rw [hE] at hst
            have HE := Lib.hid (show escL (s.data.toList.drop (q + 1 + k)) = (p, n) by rw [HDR.out]; exact hE)
            have hnn := escL_n (L.drop k)
            rw [hE] at hnn
            clear hE c1 c2 c3
            by_cases hn : n = 0
            · subst hn
              rw [if_pos rfl] at hst
              have HST := Lib.hid hst; clear hst hnn
              go_wp2_with fail
              refine (Escape_z s _ _ _ _ _ (by omega) HS.out hlt' hs2 HT.out HE).mono ?_
              rintro r w1 ⟨rfl, hb1⟩
              go_wp2_with fail
              go_ret3
              refine ⟨?_, hbel.trans (hb1.mono hbB)⟩
              rw [BAD.out k ps 20 (HRD.out.err HST.out) (by decide)]
              exact ret3 rfl rfl rfl
            · have tn : (n == 0) = false := by rw [beq_eq_false_iff_ne]; exact hn
              rw [if_neg hn] at hst
              have n0 : 0 ≤ n := by
                rcases hnn with h | ⟨_, h, _⟩
                · exact absurd (congrArg Prod.snd h) hn
                · simp only at h; omega
              obtain ⟨m, rfl⟩ := Int.eq_ofNat_of_zero_le n0
              have hm : m ≠ 0 := fun h => hn (by rw [h]; rfl)
              obtain ⟨hp, hkm⟩ := HF.out p m hst hm
              have HST := Lib.hid hst; clear hst hnn hn n0
              have hi1 : q + 1 + k + m ≤ s.size := by have := HLEN.out; omega
              have hpos := enc_pos hp
              have hle4 := enc_le p
              clear hp
              go_wp2_with fail
              refine (Escape_z s _ _ _ _ _ (by omega) HS.out hlt' hs2 HT.out HE).mono ?_
              rintro r w1 ⟨rfl, hb1⟩
              go_wp2_with fail
              refine (Bytes_any p w1).mono ?_
              rintro r w2 ⟨v2, rfl, hown2, hb2⟩
              obtain ⟨A1, n1, rfl, hc1⟩ := Rd.of_own hown2
              obtain ⟨ad1, rfl, _, hcell1⟩ := hc1 (by rw [Lib.byteCells_length]; exact hpos)
              have HC1 := Lib.hid hcell1; clear hcell1 hc1
              have hownk := own_below (own_below hown hb1) hb2
              have hln : (Lib.byteCells (encL ps)).length + (Lib.byteCells (enc p)).length ≤ 140737488355328 := by rw [Lib.byteCells_length (enc p)]; omega
              have z1 := hb1.size
              have z2 := hb2.size
              have B2 : Below w.heap.size w w2 := hbel.trans ((hb1.mono hbB).trans (hb2.mono (by omega)))
              clear hb1 hb2 hown2
              go_wp2_with (at_builtin; refine wpList_append_own _ rfl _ _ 65 rfl w.heap.size 5 i0 (.int .u8 0) 1 1 Tryd.underlying65 hi hz0 hz1 hz2 rfl (by decide) _ _ _ rfl hownk ad1 _ n1 (Lib.byteCells (enc p)) rfl (Nat.mul_one _).symm HC1.out (byteCells_one _) ?_ ?_ ?_ ?_; (unfold maxLen; omega); omega; omega; intro v3 w3 hown3 hg3 _)
              go_roundw
              case rel => exact ⟨k + m, ps ++ [p], by go_num, HRD.out.step HST.out hm, by rw [encL_append, Lib.byteCells_append, List.length_append]; simpa [encL, Lib.byteCells_length] using hown3, B2.grown hg3 (by omega) (fun g hg => (hown.lt g hg).1)⟩
              case measure => simp [intOf]; omega
          · have t3 : ((s[q + 1 + k].toNat : Int) == 92) = false := by rw [beq_eq_false_iff_ne]; exact c3
            have hst := stepL_pt H0.out (by rw [HG.out]; exact c2) (by rw [HG.out]; exact c3) (by rw [HG.out]; exact c1)
            rcases hE : oneL (L.drop k) with ⟨p, n⟩
            rw [hE] at hst
            have HE := Lib.hid (show oneL (s.data.toList.drop (q + 1 + k)) = (p, n) by rw [HDR.out]; exact hE)
            have n0 := (one_bounds hE).2.2.1
            clear hE c1 c2 c3
            by_cases hn : n = 0
            · subst hn
              rw [if_pos rfl] at hst
              have HST := Lib.hid hst; clear hst
              go_wp2_with fail
              refine (rOne_z s _ _ _ _ _ (by omega) HS.out hlt' HE).mono ?_
              rintro r w1 ⟨rfl, hb1⟩
              go_wp2_with fail
              go_ret3
              refine ⟨?_, hbel.trans (hb1.mono hbB)⟩
              rw [BAD.out k ps 10 (HRD.out.err HST.out) (by decide)]
              exact ret3 rfl rfl rfl
            · have tn : (n == 0) = false := by rw [beq_eq_false_iff_ne]; exact hn
              rw [if_neg hn] at hst
              obtain ⟨m, rfl⟩ := Int.eq_ofNat_of_zero_le n0
              have hm : m ≠ 0 := fun h => hn (by rw [h]; rfl)
              obtain ⟨hp, hkm⟩ := HF.out p m hst hm
              have HST := Lib.hid hst; clear hst hn n0
              have hi1 : q + 1 + k + m ≤ s.size := by have := HLEN.out; omega
              have hpos := enc_pos hp
              have hle4 := enc_le p
              clear hp
              go_wp2_with fail
              refine (rOne_z s _ _ _ _ _ (by omega) HS.out hlt' HE).mono ?_
              rintro r w1 ⟨rfl, hb1⟩
              go_wp2_with fail
              refine (Bytes_any p w1).mono ?_
              rintro r w2 ⟨v2, rfl, hown2, hb2⟩
              obtain ⟨A1, n1, rfl, hc1⟩ := Rd.of_own hown2
              obtain ⟨ad1, rfl, _, hcell1⟩ := hc1 (by rw [Lib.byteCells_length]; exact hpos)
              have HC1 := Lib.hid hcell1; clear hcell1 hc1
              have hownk := own_below (own_below hown hb1) hb2
              have hln : (Lib.byteCells (encL ps)).length + (Lib.byteCells (enc p)).length ≤ 140737488355328 := by rw [Lib.byteCells_length (enc p)]; omega
              have z1 := hb1.size
              have z2 := hb2.size
              have B2 : Below w.heap.size w w2 := hbel.trans ((hb1.mono hbB).trans (hb2.mono (by omega)))
              clear hb1 hb2 hown2
              go_wp2_with (at_builtin; refine wpList_append_own _ rfl _ _ 65 rfl w.heap.size 5 i0 (.int .u8 0) 1 1 Tryd.underlying65 hi hz0 hz1 hz2 rfl (by decide) _ _ _ rfl hownk ad1 _ n1 (Lib.byteCells (enc p)) rfl (Nat.mul_one _).symm HC1.out (byteCells_one _) ?_ ?_ ?_ ?_; (unfold maxLen; omega); omega; omega; intro v3 w3 hown3 hg3 _)
              go_roundw
              case rel => exact ⟨k + m, ps ++ [p], by go_num, HRD.out.step HST.out hm, by rw [encL_append, Lib.byteCells_append, List.length_append]; simpa [encL, Lib.byteCells_length] using hown3, B2.grown hg3 (by omega) (fun g hg => (hown.lt g hg).1)⟩
              case measure => simp [intOf]; omega
    · have hks : q + 1 + k = s.size := by have := HLEN.out; omega
      have hkL : k = L.length := by omega
      have hld : decide (q + 1 + k < s.size) = false := decide_eq_false (by omega)
      have hld2 : decide ((q : Int) + 1 + (k : Int) < (s.size : Int)) = false := decide_eq_false (by omega)
      have hst := stepL_end (l := L.drop k) (by simp; omega)
      have HST := Lib.hid hst; clear hst
      have HKS := Lib.hid hks; clear hks hkL
      go_wp2_with fail
      go_ret3
      refine ⟨?_, hbel⟩
      rw [BAD.out k ps 20 (HRD.out.err HST.out) (by decide)]
      exact ret3 rfl (by have := HKS.out; simp only; omega) rfl

set_option maxRecDepth 100000 in
set_option maxHeartbeats 1000000 in
theorem rRead_any (s : ByteArray) (a : Int) (w : World) (hs : s.size + 16 ≤ 140737488355328) (ht : Tab w) :
    Calls Tryd.prog 16 #[.string s, .int .i64 a] w (GivesRead (readS s.data.toList a) w) := by
  by_cases h0 : a < 0
  · have hd : decide (a < 0) = true := decide_eq_true h0
    go_enter Tryd.func16, Tryd.ntmps16
    go_wp2_with fail
    go_ret3
    refine ⟨?_, Below.refl _ _⟩
    rw [readS_out (.inl h0)]
    exact ret3 rfl rfl rfl
  · obtain ⟨q, rfl⟩ := Int.eq_ofNat_of_zero_le (Int.not_lt.mp h0)
    by_cases h1 : q < s.size
    · by_cases h2 : byt s.data.toList q = 34
      · refine rRead_in s q w (by omega) h1 h2 ?_ ht
        have := (readL_facts (s.data.toList.drop (q + 1))).1
        rw [List.length_drop, len_data] at this
        omega
      · have hq34 : ((s[q].toNat : Int) != 34) = true := by rw [bne_iff_ne, ← byt_get s q h1]; exact h2
        have hq0 : decide ((q : Int) < 0) = false := decide_eq_false (by omega)
        have hq1 : decide (s.size ≤ q) = false := decide_eq_false (by omega)
        go_enter Tryd.func16, Tryd.ntmps16
        go_wp2_with fail
        go_ret3
        refine ⟨?_, Below.refl _ _⟩
        rw [readS_out (.inr (.inr (by rw [Int.toNat_natCast]; exact h2)))]
        exact ret3 rfl rfl rfl
    · have hq0 : decide ((q : Int) < 0) = false := decide_eq_false (by omega)
      have hq1 : decide (s.size ≤ q) = true := decide_eq_true (by omega)
      go_enter Tryd.func16, Tryd.ntmps16
      go_wp2_with fail
      go_ret3
      refine ⟨?_, Below.refl _ _⟩
      rw [readS_out (.inr (.inl (by rw [len_data]; omega)))]
      exact ret3 rfl rfl rfl
end Go.Proofs.YtoflogckoepioaaDoor.Ch
