import Derived.Test.YtcbiaflbncfliaaRfE
/- Contracts of package read's value and whole. Written by tools/genRfF.py. -/
namespace Go.Proofs.Ytcbiaflbncfliaa.Re
open Go.RowKit
open Go.Proofs.Ytcbiaflbncfliaa.Utf
open Go.Proofs.Ytcbiaflbncfliaa.Sc

/-- of which kinds tokens are -/
def okK (t : Tok) : Prop := t.1 = 0 ∨ t.1 = 1 ∨ t.1 = 2 ∨ t.1 = 3 ∨ t.1 = 4
theorem kind_bad {t : Tok} (h : okK t) : kindN t = 0 ↔ badV t = true := by
  unfold kindN badV
  rw [decide_eq_true_iff]
  rcases h with h | h | h | h | h
  · rw [if_neg (by omega), if_neg (by omega), if_neg (by omega), if_neg (by omega)]
    exact ⟨fun _ => .inl h, fun _ => rfl⟩
  · rw [if_neg (by omega), if_neg (by omega), if_neg (by omega), if_pos h]
    by_cases h1 : t.2.2.1 = [91]
    · rw [if_pos h1]
      exact ⟨fun e => absurd e (by decide), fun e => by rcases e with e | e; omega; exact absurd h1 e.2.1⟩
    · rw [if_neg h1]
      by_cases h2 : t.2.2.1 = [123]
      · rw [if_pos h2]
        exact ⟨fun e => absurd e (by decide), fun e => by rcases e with e | e; omega; exact absurd h2 e.2.2⟩
      · rw [if_neg h2]
        exact ⟨fun _ => .inr ⟨h, h1, h2⟩, fun _ => rfl⟩
  · rw [if_pos h]
    refine ⟨fun e => ?_, fun e => by rcases e with e | e <;> omega⟩
    split at e <;> exact absurd e (by decide)
  · rw [if_neg (by omega), if_pos h]
    exact ⟨fun e => absurd e (by decide), fun e => by rcases e with e | e <;> omega⟩
  · rw [if_neg (by omega), if_neg (by omega), if_pos h]
    exact ⟨fun e => absurd e (by decide), fun e => by rcases e with e | e <;> omega⟩
theorem kind_ways {t : Tok} (h : kindN t ≠ 0) : (t.1 = 2 ∧ t.2.2.1 = wNull ∧ kindN t = 1) ∨ (t.1 = 2 ∧ t.2.2.1 ≠ wNull ∧ kindN t = 2) ∨ (t.1 = 3 ∧ kindN t = 3) ∨ (t.1 = 4 ∧ kindN t = 4) ∨ (t.1 = 1 ∧ t.2.2.1 = [91] ∧ kindN t = 5) ∨ (t.1 = 1 ∧ t.2.2.1 = [123] ∧ kindN t = 6) := by
  unfold kindN at h ⊢
  by_cases h2 : t.1 = 2
  · rw [if_pos h2]
    by_cases hn : t.2.2.1 = wNull
    · rw [if_pos hn]; exact .inl ⟨h2, hn, rfl⟩
    · rw [if_neg hn]; exact .inr (.inl ⟨h2, hn, rfl⟩)
  · rw [if_neg h2] at h ⊢
    by_cases h3 : t.1 = 3
    · rw [if_pos h3]; exact .inr (.inr (.inl ⟨h3, rfl⟩))
    · rw [if_neg h3] at h ⊢
      by_cases h4 : t.1 = 4
      · rw [if_pos h4]; exact .inr (.inr (.inr (.inl ⟨h4, rfl⟩)))
      · rw [if_neg h4] at h ⊢
        by_cases h1 : t.1 = 1
        · rw [if_pos h1] at h ⊢
          by_cases ha : t.2.2.1 = [91]
          · rw [if_pos ha]; exact .inr (.inr (.inr (.inr (.inl ⟨h1, ha, rfl⟩))))
          · rw [if_neg ha] at h ⊢
            by_cases hb : t.2.2.1 = [123]
            · rw [if_pos hb]; exact .inr (.inr (.inr (.inr (.inr ⟨h1, hb, rfl⟩))))
            · rw [if_neg hb] at h; exact absurd rfl h
        · rw [if_neg h1] at h; exact absurd rfl h
theorem pV_beg {ts : List Tok} {E : Int} {f d i p : Nat} (hk : okK (tk ts E i)) (h : begY (kindN (tk ts E i)) d p ≠ 0) : pV ts E (f + 1) d i p = .bad (tk ts E i).2.2.2 (begY (kindN (tk ts E i)) d p) := by
  rw [pV]
  unfold begY at h ⊢
  by_cases c1 : kindN (tk ts E i) = 0
  · rw [if_pos c1, if_pos ((kind_bad hk).1 c1)]
  · rw [if_neg c1] at h ⊢
    rw [if_neg (fun e => c1 ((kind_bad hk).2 e))]
    by_cases c2 : 16 < d
    · rw [if_pos c2, if_pos c2]
    · rw [if_neg c2] at h ⊢
      rw [if_neg c2]
      by_cases c3 : p = 8192
      · rw [if_pos c3, if_pos c3]
      · rw [if_neg c3] at h; exact absurd rfl h
theorem beg_ok {k : Int} {d p : Nat} (h : begY k d p = 0) : k ≠ 0 ∧ ¬ 16 < d ∧ p ≠ 8192 := by
  unfold begY at h
  by_cases c1 : k = 0
  · rw [if_pos c1] at h; exact absurd h (by decide)
  · rw [if_neg c1] at h
    by_cases c2 : 16 < d
    · rw [if_pos c2] at h; exact absurd h (by decide)
    · rw [if_neg c2] at h
      by_cases c3 : p = 8192
      · rw [if_pos c3] at h; exact absurd h (by decide)
      · exact ⟨c1, c2, c3⟩
theorem pV_leaf {ts : List Tok} {E : Int} {f d i p : Nat} (h1 : badV (tk ts E i) = false) (h2 : ¬ 16 < d) (h3 : p ≠ 8192) :
    ((tk ts E i).1 = 4 → pV ts E (f + 1) d i p = .ok (txV (tk ts E i).2.2.1) (i + 1) (p + 1)) ∧ ((tk ts E i).1 = 3 → pV ts E (f + 1) d i p = .ok (nmV (tk ts E i).2.1) (i + 1) (p + 1)) ∧
    ((tk ts E i).1 = 2 → pV ts E (f + 1) d i p = .ok (wdV (tk ts E i).2.2.1) (i + 1) (p + 1)) := by
  refine ⟨fun h => ?_, fun h => ?_, fun h => ?_⟩
  · rw [pV, if_neg (by rw [h1]; decide), if_neg h2, if_neg h3, if_pos h]
  · rw [pV, if_neg (by rw [h1]; decide), if_neg h2, if_neg h3, if_neg (by omega), if_pos h]
  · rw [pV, if_neg (by rw [h1]; decide), if_neg h2, if_neg h3, if_neg (by omega), if_neg (by omega), if_pos h]

set_option maxRecDepth 100000 in
set_option maxHeartbeats 8000000 in
theorem value_all (rb : Nat) (vL : Value) (ts : List Tok) (E : Int) (hi2 : ts.length ≤ 65536) (hln : ∀ i, (tk ts E i).2.2.1.length ≤ 65537) (hkk : ∀ i, okK (tk ts E i)) (g : Nat) : ValC rb vL ts E g := by
  induction g using Nat.strongRecOn with
  | ind g ih =>
    intro d i p w hp hr hi hpp hd hf
    obtain ⟨f, rfl⟩ : ∃ f, g = f + 1 := ⟨g - 1, by omega⟩
    have IH : ∀ g, g < f → ValC rb vL ts E g := fun g hg => ih g (by omega)
    clear ih
    obtain ⟨hlt, c0, c1, _, _⟩ := hp.cells
    obtain ⟨gb, c, hvL, hg, a0, a1, a2, a3⟩ := RdT_atE hr hi
    rw [hvL] at c0
    have k0 : (0 : Int) ≤ (i : Int) := by omega
    have k1 : (i : Int) < (ts.length : Int) + 1 := by omega
    obtain ⟨wa, hwa⟩ : ∃ wa, wa = w.alloc (.cells #[.int .i64 0, .int .i64 0, .string ⟨#[]⟩, .slice none 0 0, .slice none 0 0] 25) := ⟨_, rfl⟩
    have hba : Below w.heap.size w wa := by rw [hwa]; exact (Below.refl _ _).alloc (Nat.le_refl _) _
    have hsa : wa.heap.size = w.heap.size + 1 := by rw [hwa, szAlloc']
    have hza : wa.heap[w.heap.size]? = some (.cells #[.int .i64 0, .int .i64 0, .string ⟨#[]⟩, .slice none 0 0, .slice none 0 0] 25 (0, 0)) := by rw [hwa]; exact heap_alloc_new w _
    have hKO := fun w => kindOf_any (tk ts E i) w
    unfold tokV at hKO
    have hB := fun w1 (hb : Below w.heap.size w w1) => begin_any rb vL ts E i p d (kindN (tk ts E i)) w1 (hp.below hb) (RdT_fr hr (Nat.le_of_lt hlt) (Fr.of rb hb)) hi hpp
    obtain ⟨t, ht⟩ : ∃ t, t = tk ts E i := ⟨_, rfl⟩
    have hkt := hkk i
    rw [← ht] at a0 a1 a2 a3 hKO hB hkt
    obtain ⟨x1, x2, x3, x4⟩ := t
    simp only at a0 a1 a2 a3 hKO hB
    generalize strOf x3 = X at *
    have HT := Lib.hid ht; clear ht
    obtain ⟨k, hk⟩ : ∃ k, k = kindN (x1, x2, x3, x4) := ⟨_, rfl⟩
    rw [← hk] at hKO hB
    have HKO := Lib.hid hKO; clear hKO
    have HB := Lib.hid hB; clear hB
    have HR := Lib.hid hr; clear hr
    have HP := Lib.hid hp; clear hp
    have HWA := Lib.hid hwa
    have HBA := Lib.hid hba; clear hba
    have HZA := Lib.hid hza; clear hza
    have HIH := Lib.hid IH; clear IH
    have HLN := Lib.hid hln; clear hln
    have HKK := Lib.hid hkk; clear hkk
    have HK := Lib.hid hk; clear hk
    have HKT := Lib.hid hkt; clear hkt
    have HVL := Lib.hid hvL; clear hvL
    have hn : w.heap.size ≠ rb := by omega
    clear hwa
    go_enter Try.func20, Try.ntmps20
    go_wp2_with fail
    go_region_held3 (fun w' => w'.cell? ⟨rb, 0, none⟩ = some (.slice (some ⟨gb, 0, none⟩) (ts.length + 1) c) ∧ w'.cell? ⟨rb, 1, none⟩ = some (.int .i64 i) ∧ w'.cell? ⟨gb, i * 4, none⟩ = some (.int .i64 x1) ∧ w'.cell? ⟨gb, i * 4 + 1, none⟩ = some (.int .i64 x2) ∧ w'.cell? ⟨gb, i * 4 + 2, none⟩ = some (.string X) ∧ w'.cell? ⟨gb, i * 4 + 3, none⟩ = some (.int .i64 x4))
      (first | exact ⟨(KK ⟨rb, 0, none⟩ hlt).trans c0, (KK ⟨rb, 1, none⟩ hlt).trans c1, (KK ⟨gb, _, none⟩ (Nat.lt_trans hg hlt)).trans a0, (KK ⟨gb, _, none⟩ (Nat.lt_trans hg hlt)).trans a1, (KK ⟨gb, _, none⟩ (Nat.lt_trans hg hlt)).trans a2, (KK ⟨gb, _, none⟩ (Nat.lt_trans hg hlt)).trans a3⟩ | go_keep)
      ((go_at_call 33; refine (HKO.out _).mono ?_; rw [← HWA.out]; rintro e w1 ⟨rfl, hb1⟩; have hbw : Below w.heap.size w w1 := (HBA.out.drew).trans (hb1.mono (by show w.heap.size ≤ wa.heap.size; omega)); have KK : ∀ p : Addr, p.block < w.heap.size → w1.cell? p = w.cell? p := fun p hp => hbw.cell hp))
    all_goals
      have hz1 : w1.heap[w.heap.size]? = _ := (hb1.block w.heap.size (by show w.heap.size < wa.heap.size; omega)).trans HZA.out
      have hs1 : wa.heap.size ≤ w1.heap.size := hb1.size
      have HZ1 := Lib.hid hz1; clear hz1
      have HBW := Lib.hid hbw; clear hbw
      clear hb1 KK c0 c1 a0 a1 a2 a3
      go_wp2_with fail
      refine (HB.out w1 HBW.out).mono ?_
      by_cases hy : begY k d p = 0
      · rw [decide_eq_true hy]
        rintro e w2 ⟨hg2, ⟨_, rfl, hp2⟩ | ⟨h, _⟩⟩
        · obtain ⟨hk0, hd16, hp8⟩ := beg_ok hy
          have hbad : badV (tk ts E i) = false := by
            rcases hb : badV (tk ts E i) with _ | _
            · rfl
            · rw [← HT.out] at hb
              exact absurd (HK.out.trans ((kind_bad HKT.out).2 hb)) hk0
          have hin := badV_in hbad
          have hs2 := hg2.size
          have HG2 := Lib.hid (Fr.trans (Fr.of rb HBW.out) hg2)
          have HZ2 := Lib.hid (blk_fr hg2 (by omega) (by omega) HZ1.out)
          have HR2 := Lib.hid (RdT_fr HR.out (Nat.le_of_lt hlt) HG2.out)
          have HLF := Lib.hid (pV_leaf (f := f) hbad hd16 hp8)
          have HBD := Lib.hid hbad
          have HP2 := Lib.hid hp2
          have hlt2 : rb < w2.heap.size := by omega
          clear hy hbad hp2 hg2
          have hways := kind_ways (t := (x1, x2, x3, x4)) (by rw [← HK.out]; exact hk0)
          rw [← HK.out] at hways
          rcases hways with ⟨h1, h2, rfl⟩ | ⟨h1, h2, rfl⟩ | ⟨h1, rfl⟩ | ⟨h1, rfl⟩ | ⟨h1, h2, rfl⟩ | ⟨h1, h2, rfl⟩
          · have HPV := Lib.hid (show pV ts E (f + 1) d i p = .ok (V.mk 1 0 [] [] [] []) (i + 1) (p + 1) by
              rw [HLF.out.2.2 (by rw [← HT.out]; exact h1), ← HT.out, wdV, if_pos h2])
            clear h1 h2 hk0
            go_wp2_with fail
            refine (null_any rb vL ts E i (p + 1) w2 HP2.out HR2.out hi (by omega)).mono ?_
            rintro e w3 ⟨hg3, v0, v1, v2, v3, v4, rfl, ho3, hV3, hp3⟩
            have hz3 := blk_fr hg3 (by omega) (by omega) HZ2.out
            obtain ⟨z0, z1, z2, z3, z4⟩ := cells5 hz3
            obtain ⟨q0, q1, q2, q3, q4⟩ := frozen5 hz3
            have HZ3 := Lib.hid hz3; clear hz3
            have hs3 := hg3.size
            obtain ⟨A, c', A2, c2, hcs, _⟩ := hV3.cells
            simp only [List.cons.injEq, and_true] at hcs
            obtain ⟨rfl, rfl, rfl, rfl, rfl⟩ := hcs
            have HG3 := Lib.hid hg3; clear hg3
            have HP3 := Lib.hid hp3; clear hp3
            have HV3 := Lib.hid hV3; clear hV3
            have HO3 := Lib.hid ho3; clear ho3
            go_wp2_with fail
            refine bodyPost_ret (results5 rfl rfl (set5_row HZ3.out _ _ _ _ _)) rfl ?_
            rw [HPV.out]
            exact ⟨set5_fr (Fr.trans HG2.out HG3.out) (Nat.le_refl _) _ _ _ _ _, _, _, _, _, _, rfl, HO3.out.keep (by simp) (fun p _ => by simp), RdV.keep (fun pp h1 h2 => cell_set5 _ _ _ (by omega) _ _ _ _ _) (by omega) (by simp) _ _ HV3.out, set5_rdr HP3.out hn _ _ _ _ _⟩
          · by_cases htr : x3 = wTrue
            · have HPV := Lib.hid (show pV ts E (f + 1) d i p = .ok (V.mk 2 1 [] [] [] []) (i + 1) (p + 1) by
                rw [HLF.out.2.2 (by rw [← HT.out]; exact h1), ← HT.out, wdV, if_neg h2, if_pos htr])
              have HTR := Lib.hid (show (tk ts E i).2.2.1 = wTrue by rw [← HT.out]; exact htr)
              clear h1 h2 hk0 htr
              go_wp2_with fail
              refine (truth_yes rb vL ts E i (p + 1) w2 HP2.out HR2.out hi (by omega) HTR.out).mono ?_
              rintro e w3 ⟨hg3, v0, v1, v2, v3, v4, rfl, ho3, hV3, hp3⟩
              have hz3 := blk_fr hg3 (by omega) (by omega) HZ2.out
              obtain ⟨z0, z1, z2, z3, z4⟩ := cells5 hz3
              obtain ⟨q0, q1, q2, q3, q4⟩ := frozen5 hz3
              have HZ3 := Lib.hid hz3; clear hz3
              have hs3 := hg3.size
              obtain ⟨A, c', A2, c2, hcs, _⟩ := hV3.cells
              simp only [List.cons.injEq, and_true] at hcs
              obtain ⟨rfl, rfl, rfl, rfl, rfl⟩ := hcs
              have HG3 := Lib.hid hg3; clear hg3
              have HP3 := Lib.hid hp3; clear hp3
              have HV3 := Lib.hid hV3; clear hV3
              have HO3 := Lib.hid ho3; clear ho3
              go_wp2_with fail
              refine bodyPost_ret (results5 rfl rfl (set5_row HZ3.out _ _ _ _ _)) rfl ?_
              rw [HPV.out]
              exact ⟨set5_fr (Fr.trans HG2.out HG3.out) (Nat.le_refl _) _ _ _ _ _, _, _, _, _, _, rfl, HO3.out.keep (by simp) (fun p _ => by simp), RdV.keep (fun pp h1 h2 => cell_set5 _ _ _ (by omega) _ _ _ _ _) (by omega) (by simp) _ _ HV3.out, set5_rdr HP3.out hn _ _ _ _ _⟩
            · have HPV := Lib.hid (show pV ts E (f + 1) d i p = .ok (V.mk 2 0 [] [] [] []) (i + 1) (p + 1) by
                rw [HLF.out.2.2 (by rw [← HT.out]; exact h1), ← HT.out, wdV, if_neg h2, if_neg htr])
              have HTR := Lib.hid (show (tk ts E i).2.2.1 ≠ wTrue by rw [← HT.out]; exact htr)
              clear h1 h2 hk0 htr
              go_wp2_with fail
              refine (truth_no rb vL ts E i (p + 1) w2 HP2.out HR2.out hi (by omega) HTR.out).mono ?_
              rintro e w3 ⟨hg3, v0, v1, v2, v3, v4, rfl, ho3, hV3, hp3⟩
              have hz3 := blk_fr hg3 (by omega) (by omega) HZ2.out
              obtain ⟨z0, z1, z2, z3, z4⟩ := cells5 hz3
              obtain ⟨q0, q1, q2, q3, q4⟩ := frozen5 hz3
              have HZ3 := Lib.hid hz3; clear hz3
              have hs3 := hg3.size
              obtain ⟨A, c', A2, c2, hcs, _⟩ := hV3.cells
              simp only [List.cons.injEq, and_true] at hcs
              obtain ⟨rfl, rfl, rfl, rfl, rfl⟩ := hcs
              have HG3 := Lib.hid hg3; clear hg3
              have HP3 := Lib.hid hp3; clear hp3
              have HV3 := Lib.hid hV3; clear hV3
              have HO3 := Lib.hid ho3; clear ho3
              go_wp2_with fail
              refine bodyPost_ret (results5 rfl rfl (set5_row HZ3.out _ _ _ _ _)) rfl ?_
              rw [HPV.out]
              exact ⟨set5_fr (Fr.trans HG2.out HG3.out) (Nat.le_refl _) _ _ _ _ _, _, _, _, _, _, rfl, HO3.out.keep (by simp) (fun p _ => by simp), RdV.keep (fun pp h1 h2 => cell_set5 _ _ _ (by omega) _ _ _ _ _) (by omega) (by simp) _ _ HV3.out, set5_rdr HP3.out hn _ _ _ _ _⟩
          · have HPV := Lib.hid (HLF.out.2.1 (by rw [← HT.out]; exact h1))
            clear h1 hk0
            go_wp2_with fail
            refine (number_any5 rb vL ts E i (p + 1) w2 HP2.out HR2.out hi (by omega)).mono ?_
            rintro e w3 ⟨hg3, v0, v1, v2, v3, v4, rfl, ho3, hV3, hp3⟩
            have hz3 := blk_fr hg3 (by omega) (by omega) HZ2.out
            obtain ⟨z0, z1, z2, z3, z4⟩ := cells5 hz3
            obtain ⟨q0, q1, q2, q3, q4⟩ := frozen5 hz3
            have HZ3 := Lib.hid hz3; clear hz3
            have hs3 := hg3.size
            obtain ⟨A, c', A2, c2, hcs, _⟩ := hV3.cells
            simp only [List.cons.injEq, and_true] at hcs
            obtain ⟨rfl, rfl, rfl, rfl, rfl⟩ := hcs
            have HG3 := Lib.hid hg3; clear hg3
            have HP3 := Lib.hid hp3; clear hp3
            have HV3 := Lib.hid hV3; clear hV3
            have HO3 := Lib.hid ho3; clear ho3
            go_wp2_with fail
            refine bodyPost_ret (results5 rfl rfl (set5_row HZ3.out _ _ _ _ _)) rfl ?_
            rw [HPV.out]
            exact ⟨set5_fr (Fr.trans HG2.out HG3.out) (Nat.le_refl _) _ _ _ _ _, _, _, _, _, _, rfl, HO3.out.keep (by simp) (fun p _ => by simp), RdV.keep (fun pp h1 h2 => cell_set5 _ _ _ (by omega) _ _ _ _ _) (by omega) (by simp) _ _ HV3.out, set5_rdr HP3.out hn _ _ _ _ _⟩
          · have HPV := Lib.hid (HLF.out.1 (by rw [← HT.out]; exact h1))
            clear h1 hk0
            go_wp2_with fail
            refine (text_any5 rb vL ts E i (p + 1) w2 HP2.out HR2.out hi (by omega)).mono ?_
            rintro e w3 ⟨hg3, v0, v1, v2, v3, v4, rfl, ho3, hV3, hp3⟩
            have hz3 := blk_fr hg3 (by omega) (by omega) HZ2.out
            obtain ⟨z0, z1, z2, z3, z4⟩ := cells5 hz3
            obtain ⟨q0, q1, q2, q3, q4⟩ := frozen5 hz3
            have HZ3 := Lib.hid hz3; clear hz3
            have hs3 := hg3.size
            obtain ⟨A, c', A2, c2, hcs, _⟩ := hV3.cells
            simp only [List.cons.injEq, and_true] at hcs
            obtain ⟨rfl, rfl, rfl, rfl, rfl⟩ := hcs
            have HG3 := Lib.hid hg3; clear hg3
            have HP3 := Lib.hid hp3; clear hp3
            have HV3 := Lib.hid hV3; clear hV3
            have HO3 := Lib.hid ho3; clear ho3
            go_wp2_with fail
            refine bodyPost_ret (results5 rfl rfl (set5_row HZ3.out _ _ _ _ _)) rfl ?_
            rw [HPV.out]
            exact ⟨set5_fr (Fr.trans HG2.out HG3.out) (Nat.le_refl _) _ _ _ _ _, _, _, _, _, _, rfl, HO3.out.keep (by simp) (fun p _ => by simp), RdV.keep (fun pp h1 h2 => cell_set5 _ _ _ (by omega) _ _ _ _ _) (by omega) (by simp) _ _ HV3.out, set5_rdr HP3.out hn _ _ _ _ _⟩
          · have HM := Lib.hid (show isM (tk ts E i) 91 = true by rw [← HT.out]; exact decide_eq_true ⟨h1, h2⟩)
            have HPV := Lib.hid (pV_list (f := f) HBD.out hd16 hp8 (by rw [← HT.out]; exact h1) (by rw [← HT.out]; exact h2))
            clear h1 h2 hk0
            go_wp2_with fail
            refine (list_any rb vL ts E hi2 f HIH.out d i (p + 1) w2 HP2.out HR2.out hin HM.out (by omega) (by omega) (by omega)).mono ?_
            rcases hres : (gL ts E f d (i + 1) (p + 1) true).map lsV with ⟨a, y⟩ | ⟨v, j1, q1⟩
            · rintro e w3 ⟨hg3, rfl⟩
              refine bodyPost_gone (P := Try.prog) (fn := Try.f20) rfl ?_
              rw [HPV.out, hres]
              exact ⟨Fr.trans HG2.out hg3, rfl⟩
            · rintro e w3 ⟨hg3, v0, v1, v2, v3, v4, rfl, ho3, hV3, hp3⟩
              have hz3 := blk_fr hg3 (by omega) (by omega) HZ2.out
              obtain ⟨z0, z1, z2, z3, z4⟩ := cells5 hz3
              obtain ⟨q0, q1, q2, q3, q4⟩ := frozen5 hz3
              have HZ3 := Lib.hid hz3; clear hz3
              have hs3 := hg3.size
              obtain ⟨A, c', A2, c2, hcs, _⟩ := hV3.cells
              simp only [List.cons.injEq, and_true] at hcs
              obtain ⟨rfl, rfl, rfl, rfl, rfl⟩ := hcs
              have HG3 := Lib.hid hg3; clear hg3
              have HP3 := Lib.hid hp3; clear hp3
              have HV3 := Lib.hid hV3; clear hV3
              have HO3 := Lib.hid ho3; clear ho3
              go_wp2_with fail
              refine bodyPost_ret (results5 rfl rfl (set5_row HZ3.out _ _ _ _ _)) rfl ?_
              rw [HPV.out, hres]
              exact ⟨set5_fr (Fr.trans HG2.out HG3.out) (Nat.le_refl _) _ _ _ _ _, _, _, _, _, _, rfl, HO3.out.keep (by simp) (fun p _ => by simp), RdV.keep (fun pp h1 h2 => cell_set5 _ _ _ (by omega) _ _ _ _ _) (by omega) (by simp) _ _ HV3.out, set5_rdr HP3.out hn _ _ _ _ _⟩
          · have HM := Lib.hid (show isM (tk ts E i) 123 = true by rw [← HT.out]; exact decide_eq_true ⟨h1, h2⟩)
            have HPV := Lib.hid (pV_map (f := f) HBD.out hd16 hp8 (by rw [← HT.out]; exact h1) (by rw [← HT.out]; show x3 ≠ [91]; rw [show x3 = [123] from h2]; decide))
            clear h1 h2 hk0
            go_wp2_with fail
            refine (members_any rb vL ts E hi2 HLN.out f HIH.out d i (p + 1) w2 HP2.out HR2.out hin HM.out (by omega) (by omega) (by omega)).mono ?_
            rcases hres : (gM ts E f d (i + 1) (p + 1) [] true).map mpV with ⟨a, y⟩ | ⟨v, j1, q1⟩
            · rintro e w3 ⟨hg3, rfl⟩
              refine bodyPost_gone (P := Try.prog) (fn := Try.f20) rfl ?_
              rw [HPV.out, hres]
              exact ⟨Fr.trans HG2.out hg3, rfl⟩
            · rintro e w3 ⟨hg3, v0, v1, v2, v3, v4, rfl, ho3, hV3, hp3⟩
              have hz3 := blk_fr hg3 (by omega) (by omega) HZ2.out
              obtain ⟨z0, z1, z2, z3, z4⟩ := cells5 hz3
              obtain ⟨q0, q1, q2, q3, q4⟩ := frozen5 hz3
              have HZ3 := Lib.hid hz3; clear hz3
              have hs3 := hg3.size
              obtain ⟨A, c', A2, c2, hcs, _⟩ := hV3.cells
              simp only [List.cons.injEq, and_true] at hcs
              obtain ⟨rfl, rfl, rfl, rfl, rfl⟩ := hcs
              have HG3 := Lib.hid hg3; clear hg3
              have HP3 := Lib.hid hp3; clear hp3
              have HV3 := Lib.hid hV3; clear hV3
              have HO3 := Lib.hid ho3; clear ho3
              go_wp2_with fail
              refine bodyPost_ret (results5 rfl rfl (set5_row HZ3.out _ _ _ _ _)) rfl ?_
              rw [HPV.out, hres]
              exact ⟨set5_fr (Fr.trans HG2.out HG3.out) (Nat.le_refl _) _ _ _ _ _, _, _, _, _, _, rfl, HO3.out.keep (by simp) (fun p _ => by simp), RdV.keep (fun pp h1 h2 => cell_set5 _ _ _ (by omega) _ _ _ _ _) (by omega) (by simp) _ _ HV3.out, set5_rdr HP3.out hn _ _ _ _ _⟩
        · cases h
      · rw [decide_eq_false hy]
        rintro e w2 ⟨hg2, ⟨h, _⟩ | ⟨_, rfl⟩⟩
        · cases h
        · refine bodyPost_gone (P := Try.prog) (fn := Try.f20) rfl ?_
          have hpv := pV_beg (ts := ts) (E := E) (f := f) (d := d) (i := i) (p := p) (HKK.out i) (by rw [← HT.out, ← HK.out]; exact hy)
          rw [← HT.out, ← HK.out] at hpv
          rw [hpv]
          exact ⟨Fr.trans (Fr.of rb HBW.out) hg2, rfl⟩
end Go.Proofs.Ytcbiaflbncfliaa.Re
