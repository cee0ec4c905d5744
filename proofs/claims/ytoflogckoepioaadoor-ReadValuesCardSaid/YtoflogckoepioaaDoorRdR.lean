import Derived.Test.YtoflogckoepioaaDoorRdV
import Derived.Test.YtoflogckoepioaaDoorReW1
import Derived.Test.YtoflogckoepioaaDoorScI
import Derived.Test.YtoflogckoepioaaDoorChTab
/- Contract of Value of layer 5's document's answer, and the walk of the law ReadValues. -/
namespace Go.Proofs.YtoflogckoepioaaDoor.Re
open Go.RowKit
open Go.Proofs.YtoflogckoepioaaDoor.Utf
open Go.Proofs.YtoflogckoepioaaDoor.Sc

theorem resultsR {fn : Func} {s p q b : Nat} {tmps : Array Value} {w : World} {fr : Nat × Nat} {v0 v1 v2 v3 v4 x y : Value} (hf : fn.results = #[.cell s 25, .tmp p, .tmp q]) (ht : tmps.getD s undef = .pointer (some ⟨b, 0, none⟩))
    (h : w.heap[b]? = some (.cells #[v0, v1, v2, v3, v4] 25 fr)) (hp : tmps.getD p undef = x) (hq : tmps.getD q undef = y) : (results fn tmps).run Tryd.prog w = .ok (.tuple #[.agg #[v0, v1, v2, v3, v4], x, y]) w := by
  have c0 := (cell_of_row _ _ 0 _ _ _ h).trans (rfl : _ = some v0)
  have c1 := (cell_of_row _ _ 1 _ _ _ h).trans (rfl : _ = some v1)
  have c2 := (cell_of_row _ _ 2 _ _ _ h).trans (rfl : _ = some v2)
  have c3 := (cell_of_row _ _ 3 _ _ _ h).trans (rfl : _ = some v3)
  have c4 := (cell_of_row _ _ 4 _ _ _ h).trans (rfl : _ = some v4)
  rw [Array.getD_eq_getD_getElem?] at ht hp hq
  simp [results, hf, ht, hp, hq, c0, c1, c2, c3, c4, go_sem]
theorem below_set5 {w w2 : World} {b : Nat} (h : Below w.heap.size w w2) (hb : w.heap.size ≤ b) (v0 v1 v2 v3 v4 : Value) :
    Below w.heap.size w (((((w2.setCell ⟨b, 0, none⟩ v0).setCell ⟨b, 1, none⟩ v1).setCell ⟨b, 2, none⟩ v2).setCell ⟨b, 3, none⟩ v3).setCell ⟨b, 4, none⟩ v4) :=
  ((((h.setCell (p := ⟨b, 0, none⟩) hb v0).setCell (p := ⟨b, 1, none⟩) hb v1).setCell (p := ⟨b, 2, none⟩) hb v2).setCell (p := ⟨b, 3, none⟩) hb v3).setCell (p := ⟨b, 4, none⟩) hb v4

set_option maxRecDepth 100000 in
set_option maxHeartbeats 4000000 in
theorem refValue_any (s : ByteArray) (w : World) (hs : s.size ≤ 9223372036854775807) (ht : Ch.Tab w) {v : V} {a y : Int} (h : rdV s.data.toList = (v, a, y)) :
    Calls Tryd.prog 6 #[.string s] w (GivesVal2 v a y w) := by
  obtain ⟨wa, hwa⟩ : ∃ wa, wa = w.alloc (.cells #[.int .i64 0, .int .i64 0, .string ⟨#[]⟩, .slice none 0 0, .slice none 0 0] 25) := ⟨_, rfl⟩
  have hba : Below w.heap.size w wa := by rw [hwa]; exact (Below.refl _ _).alloc (Nat.le_refl _) _
  have hsa : wa.heap.size = w.heap.size + 1 := by rw [hwa, szAlloc']
  have hza : wa.heap[w.heap.size]? = some (.cells #[.int .i64 0, .int .i64 0, .string ⟨#[]⟩, .slice none 0 0, .slice none 0 0] 25 (0, 0)) := by rw [hwa]; exact heap_alloc_new w _
  have hT := rTokens_any s wa hs (ht.below hba ht.1 hba.size)
  have hfacts := fun he => toks_facts (l := s.data.toList) he (s.size : Int)
  have hscan := fun he => scnS_Scan (l := s.data.toList) he
  unfold rdV at h
  rw [len_data] at h
  rcases hsc : scnS s.data.toList with ⟨ts, at_, er⟩
  rw [hsc] at h hT hfacts hscan
  simp only at h hfacts
  rw [hwa] at hT
  have HT := Lib.hid hT
  have HWA := Lib.hid hwa
  have HBA := Lib.hid hba
  have HZA := Lib.hid hza
  clear hT hwa hba hza hsc ht
  by_cases he : er = 0
  · subst he
    rw [if_neg (by simp)] at h
    obtain ⟨fl, _, _, fsz⟩ := hfacts rfl
    rw [len_data] at fsz
    have hok : ∀ t ∈ ts, okT t := fun t ht => ((hscan rfl).2.2.1.okT t ht).1
    have hval : ∀ (pb : Nat) (vL : Value) (w : World), Prs w pb vL (s.size : Int) 0 0 0 0 → RdT w pb vL ts → Calls Tryd.prog 13 #[.pointer (some ⟨pb, 0, none⟩), .int .i64 1] w (GivesV pb vL (s.size : Int) (pV ts (s.size : Int) (fuelOf ts) 1 0 0) w) :=
      fun pb vL w hp hr => valueD_all pb vL ts (s.size : Int) fl hok (fuelOf ts) 1 0 0 w hp hr (Nat.zero_le _) (by omega) (by omega) (by unfold fuelOf; omega)
    have HVAL := Lib.hid hval
    clear hval hok hfacts hscan
    unfold rdT at h
    rcases hres : pV ts (s.size : Int) (fuelOf ts) 1 0 0 with ⟨a1, y1⟩ | ⟨v1, j, q⟩
    · rw [hres] at h HVAL
      simp only [Prod.mk.injEq] at h
      obtain ⟨rfl, rfl, rfl⟩ := h
      have hyn : a1 = a1 ∧ y1 ≠ 0 := ⟨rfl, by have h := (p_bad ts (s.size : Int) (fuelOf ts)).1 _ _ _ _ _ hres; unfold why at h; omega⟩
      have y0 : (y1 == 0) = false := by rw [beq_eq_false_iff_ne]; exact hyn.2
      have y2 : (y1 != 0) = true := by rw [bne_iff_ne]; exact hyn.2
      clear hyn hres
      go_enter Tryd.func6, Tryd.ntmps6
      go_wp2_with fail
      refine HT.out.mono ?_
      rw [← HWA.out]
      rintro e w1 ⟨v9, rfl, hown, hb1⟩
      simp only at hown ⊢
      obtain ⟨A0, c0, rfl⟩ := own_sl hown
      obtain ⟨W1, hW1⟩ : ∃ W1, W1 = w1.alloc (.cells #[.slice A0 ts.length c0, .int .i64 s.size, .int .i64 0, .int .i64 0, .int .i64 0, .int .i64 0] 50) := ⟨_, rfl⟩
      have B1 : Below w1.heap.size w1 W1 := by rw [hW1]; exact (Below.refl _ _).alloc (Nat.le_refl _) _
      have hp1 : Prs W1 w1.heap.size (.slice A0 ts.length c0) (s.size : Int) 0 0 0 0 := by rw [hW1]; exact heap_alloc_new w1 _
      have hr1 : RdT W1 w1.heap.size (.slice A0 ts.length c0) ts := (RdT.of_own hown).below B1 (Nat.le_refl _)
      have hs1 := hb1.size
      have hsW1 : W1.heap.size = w1.heap.size + 1 := by rw [hW1, szAlloc']
      have T1 : Below w.heap.size w W1 := HBA.out.trans ((hb1.mono (by omega)).trans (B1.mono (by omega)))
      have hz1 := (B1.block w.heap.size (by omega)).trans ((hb1.block w.heap.size (by omega)).trans HZA.out)
      have HW1 := Lib.hid hW1; clear hW1
      have HZ1 := Lib.hid hz1; clear hz1
      have HT1 := Lib.hid T1; clear T1
      have HR1 := Lib.hid hr1
      have HCALL := Lib.hid (HVAL.out w1.heap.size _ W1 hp1 hr1)
      clear hp1 hr1 B1 hown hb1
      go_wp2_with fail
      rw [← HW1.out]
      refine HCALL.out.mono ?_
      rintro e w2 ⟨hg2, k3, n3, s3, A3, l3, c3, B3, m3, d3, rfl, i3, p3, hp2⟩
      obtain ⟨W2, hW2⟩ : ∃ W2, W2 = w2.alloc (.cells #[.int .i64 k3, .int .i64 n3, .string s3, .slice A3 l3 c3, .slice B3 m3 d3] 25) := ⟨_, rfl⟩
      have B2 : Below w2.heap.size w2 W2 := by rw [hW2]; exact (Below.refl _ _).alloc (Nat.le_refl _) _
      have hs2 := hg2.size
      have hsW2 : W2.heap.size = w2.heap.size + 1 := by rw [hW2, szAlloc']
      have hzv : W2.heap[w2.heap.size]? = some (.cells #[.int .i64 k3, .int .i64 n3, .string s3, .slice A3 l3 c3, .slice B3 m3 d3] 25 (0, 0)) := by rw [hW2]; exact heap_alloc_new w2 _
      have T2 : Below w.heap.size w W2 := (HT1.out.grown hg2 HT1.out.size (fun k hk => by obtain rfl := Option.some.inj hk; omega)).trans (B2.mono (by omega))
      have hz2 := (B2.block w.heap.size (by omega)).trans ((hg2.block w.heap.size (by omega) (fun e => by have := Option.some.inj e; omega)).trans HZ1.out)
      have hpW := hp2.below B2
      have HG2 := Lib.hid (Fr.trans hg2 (Fr.of w1.heap.size B2))
      obtain ⟨z0, z1, z2, z3, z4⟩ := cells5 hz2
      obtain ⟨qz0, qz1, qz2, qz3, qz4⟩ := frozen5 hz2
      obtain ⟨_, b0, _, b2, _, b4, b5, _⟩ := hpW.cells
      rw [hW2] at z0 z1 z2 z3 z4 qz0 qz1 qz2 qz3 qz4 b0 b2 b4 b5
      have HW2 := Lib.hid hW2; clear hW2
      have HZ2 := Lib.hid hz2; clear hz2
      have HT2 := Lib.hid T2; clear T2
      have HPW := Lib.hid hpW; clear hpW
      clear hg2 hp2 hzv B2
      go_wp2_with fail
      go_quiet (fail)
      go_wp2_with fail
      have hne : w.heap.size ≠ w1.heap.size := by omega
      have hne' : w1.heap.size ≠ w.heap.size := by omega
      go_region_held3 (fun w' => w'.cell? ⟨w1.heap.size, 4, none⟩ = some (.int .i64 a1) ∧ w'.cell? ⟨w1.heap.size, 5, none⟩ = some (.int .i64 y1)) (go_keep) (fail)
      all_goals
        go_wp2_with fail
        rw [← HW2.out]
        refine bodyPost_ret (resultsR rfl rfl (set5_row (w2 := W2.drewN (nq + 1)) HZ2.out (.int .i64 0) (.int .i64 0) (.string ⟨#[]⟩) (.slice none 0 0) (.slice none 0 0)) rfl rfl) rfl ⟨none, 0, none, 0, rfl, RdV_leaf _ _ _ 0 0 [], ?_⟩
        exact below_set5 (below_drewN HT2.out _) (Nat.le_refl _) (.int .i64 0) (.int .i64 0) (.string ⟨#[]⟩) (.slice none 0 0) (.slice none 0 0)
    · rw [hres] at h HVAL
      simp only at h
      clear hres
      go_enter Tryd.func6, Tryd.ntmps6
      go_wp2_with fail
      refine HT.out.mono ?_
      rw [← HWA.out]
      rintro e w1 ⟨v9, rfl, hown, hb1⟩
      simp only at hown ⊢
      obtain ⟨A0, c0, rfl⟩ := own_sl hown
      obtain ⟨W1, hW1⟩ : ∃ W1, W1 = w1.alloc (.cells #[.slice A0 ts.length c0, .int .i64 s.size, .int .i64 0, .int .i64 0, .int .i64 0, .int .i64 0] 50) := ⟨_, rfl⟩
      have B1 : Below w1.heap.size w1 W1 := by rw [hW1]; exact (Below.refl _ _).alloc (Nat.le_refl _) _
      have hp1 : Prs W1 w1.heap.size (.slice A0 ts.length c0) (s.size : Int) 0 0 0 0 := by rw [hW1]; exact heap_alloc_new w1 _
      have hr1 : RdT W1 w1.heap.size (.slice A0 ts.length c0) ts := (RdT.of_own hown).below B1 (Nat.le_refl _)
      have hs1 := hb1.size
      have hsW1 : W1.heap.size = w1.heap.size + 1 := by rw [hW1, szAlloc']
      have T1 : Below w.heap.size w W1 := HBA.out.trans ((hb1.mono (by omega)).trans (B1.mono (by omega)))
      have hz1 := (B1.block w.heap.size (by omega)).trans ((hb1.block w.heap.size (by omega)).trans HZA.out)
      have HW1 := Lib.hid hW1; clear hW1
      have HZ1 := Lib.hid hz1; clear hz1
      have HT1 := Lib.hid T1; clear T1
      have HR1 := Lib.hid hr1
      have HCALL := Lib.hid (HVAL.out w1.heap.size _ W1 hp1 hr1)
      clear hp1 hr1 B1 hown hb1
      go_wp2_with fail
      rw [← HW1.out]
      refine HCALL.out.mono ?_
      rintro e w2 ⟨hg2, k3, n3, s3, A3, l3, c3, B3, m3, d3, rfl, hV2, hp2⟩
      obtain ⟨W2, hW2⟩ : ∃ W2, W2 = w2.alloc (.cells #[.int .i64 k3, .int .i64 n3, .string s3, .slice A3 l3 c3, .slice B3 m3 d3] 25) := ⟨_, rfl⟩
      have B2 : Below w2.heap.size w2 W2 := by rw [hW2]; exact (Below.refl _ _).alloc (Nat.le_refl _) _
      have hs2 := hg2.size
      have hsW2 : W2.heap.size = w2.heap.size + 1 := by rw [hW2, szAlloc']
      have hzv : W2.heap[w2.heap.size]? = some (.cells #[.int .i64 k3, .int .i64 n3, .string s3, .slice A3 l3 c3, .slice B3 m3 d3] 25 (0, 0)) := by rw [hW2]; exact heap_alloc_new w2 _
      have T2 : Below w.heap.size w W2 := (HT1.out.grown hg2 HT1.out.size (fun k hk => by obtain rfl := Option.some.inj hk; omega)).trans (B2.mono (by omega))
      have hz2 := (B2.block w.heap.size (by omega)).trans ((hg2.block w.heap.size (by omega) (fun e => by have := Option.some.inj e; omega)).trans HZ1.out)
      have hpW := hp2.below B2
      have HG2 := Lib.hid (Fr.trans hg2 (Fr.of w1.heap.size B2))
      obtain ⟨z0, z1, z2, z3, z4⟩ := cells5 hz2
      obtain ⟨qz0, qz1, qz2, qz3, qz4⟩ := frozen5 hz2
      obtain ⟨_, b0, _, b2, _, b4, b5, _⟩ := hpW.cells
      rw [hW2] at z0 z1 z2 z3 z4 qz0 qz1 qz2 qz3 qz4 b0 b2 b4 b5
      have HW2 := Lib.hid hW2; clear hW2
      have HZ2 := Lib.hid hz2; clear hz2
      have HT2 := Lib.hid T2; clear T2
      have HB2 := Lib.hid B2
      have HPW := Lib.hid hpW; clear hpW
      clear hg2 hp2 B2
      have hvv := hV2.cells
      obtain ⟨_, _, _, _, hcs, _⟩ := hvv
      simp only [List.cons.injEq, Value.int.injEq, Value.string.injEq, Value.slice.injEq, true_and, and_true] at hcs
      obtain ⟨rfl, rfl, rfl, ⟨rfl, rfl, rfl⟩, ⟨rfl, rfl, rfl⟩⟩ := hcs
      have HVV := Lib.hid hV2; clear hV2
      by_cases hjl : j < ts.length
      · rw [if_pos hjl] at h
        simp only [Prod.mk.injEq] at h
        obtain ⟨rfl, rfl, rfl⟩ := h
        have d1 : decide ((j : Int) < (ts.length : Int)) = true := decide_eq_true (by omega)
        have d2 : decide (j < ts.length) = true := decide_eq_true hjl
        have HRR := Lib.hid (RdT_fr HR1.out (by omega) HG2.out)
        have HFL := Lib.hid (fun k => fail_any w1.heap.size _ ts (s.size : Int) j q 0 50 (W2.drewN k) HPW.out HRR.out)
        generalize hX : strOf v1.s = X at *
        clear hzv
        go_wp2_with fail
        go_quiet (fail)
        go_wp2_with fail
        rw [← HW2.out]
        refine (HFL.out _).mono ?_
        rintro e w5 ⟨rfl, hg5, hp5⟩
        clear z0 z1 z2 z3 z4 qz0 qz1 qz2 qz3 qz4 b0 b2 b4 b5
        have hz5 := blk_fr hg5 (show w.heap.size < W2.heap.size by omega) (by omega) HZ2.out
        obtain ⟨z0, z1, z2, z3, z4⟩ := cells5 hz5
        obtain ⟨qz0, qz1, qz2, qz3, qz4⟩ := frozen5 hz5
        obtain ⟨_, b0, _, b2, _, b4, b5, _⟩ := hp5.cells
        have T5 : Below w.heap.size w w5 := (below_drewN HT2.out _).grown hg5 (show w.heap.size ≤ W2.heap.size by omega) (fun k hk => by obtain rfl := Option.some.inj hk; omega)
        have HZ5 := Lib.hid hz5; clear hz5
        have HT5 := Lib.hid T5; clear T5
        clear hg5 hp5
        unfold zeroV
        obtain ⟨P, hP⟩ : ∃ P, P = (tk ts (s.size : Int) j).2.2.2 := ⟨_, rfl⟩
        rw [← hP] at b4
        rw [← hP]
        have HPP := Lib.hid hP; clear hP
        go_wp2_with fail
        have hne : w.heap.size ≠ w1.heap.size := by omega
        have hne' : w1.heap.size ≠ w.heap.size := by omega
        go_region_held3 (fun w' => w'.cell? ⟨w1.heap.size, 4, none⟩ = some (.int .i64 P) ∧ w'.cell? ⟨w1.heap.size, 5, none⟩ = some (.int .i64 50)) (go_keep) (fail)
        all_goals
          go_wp2_with fail
          refine bodyPost_ret (resultsR (x := .int .i64 P) (y := .int .i64 50) rfl rfl (set5_row (w2 := w5.drewN 1) HZ5.out (.int .i64 0) (.int .i64 0) (.string ⟨#[]⟩) (.slice none 0 0) (.slice none 0 0)) rfl rfl) rfl ⟨none, 0, none, 0, by rw [HPP.out]; rfl, RdV_leaf _ _ _ 0 0 [], ?_⟩
          exact below_set5 (below_drewN HT5.out 1) (Nat.le_refl _) (.int .i64 0) (.int .i64 0) (.string ⟨#[]⟩) (.slice none 0 0) (.slice none 0 0)
      · rw [if_neg hjl] at h
        simp only [Prod.mk.injEq] at h
        obtain ⟨rfl, rfl, rfl⟩ := h
        have d1 : decide ((j : Int) < (ts.length : Int)) = false := decide_eq_false (by omega)
        have d2 : decide (j < ts.length) = false := decide_eq_false hjl
        obtain ⟨x0, x1, x2, x3, x4⟩ := cells5 hzv
        rw [HW2.out] at x0 x1 x2 x3 x4
        obtain ⟨X, hX⟩ : ∃ X, X = strOf v1.s := ⟨_, rfl⟩
        obtain ⟨l3, hl3⟩ : ∃ n, n = v1.l.length := ⟨_, rfl⟩
        obtain ⟨m3, hm3⟩ : ∃ n, n = v1.ms.length := ⟨_, rfl⟩
        clear hzv
        go_wp2_with fail
        go_quiet (fail)
        go_wp2_with fail
        rw [← HW2.out]
        refine bodyPost_ret (resultsR rfl rfl (set5_row (w2 := W2.drewN nq) HZ2.out _ _ _ _ _) rfl rfl) rfl ⟨_, _, _, _, rfl, ?_, ?_⟩
        · exact RdV.keep (fun pp h1 h2 => (cell_set5 (W2.drewN nq) w.heap.size _ (by omega) _ _ _ _ _).trans (HB2.out.cell h2)) (by omega) (by simp; show w2.heap.size ≤ W2.heap.size; omega) _ _ HVV.out
        · exact below_set5 (below_drewN HT2.out _) (Nat.le_refl _) _ _ _ _ _
  · rw [if_pos he] at h
    simp only [Prod.mk.injEq] at h
    obtain ⟨rfl, rfl, rfl⟩ := h
    have e1 : (er != 0) = true := by rw [bne_iff_ne]; exact he
    clear hfacts hscan
    go_enter Tryd.func6, Tryd.ntmps6
    go_wp2_with fail
    refine HT.out.mono ?_
    rw [← HWA.out]
    rintro e w1 ⟨v9, rfl, hown, hb1⟩
    simp only at hown ⊢
    have hz1 := (hb1.block w.heap.size (by omega)).trans HZA.out
    obtain ⟨z0, z1, z2, z3, z4⟩ := cells5 hz1
    obtain ⟨qz0, qz1, qz2, qz3, qz4⟩ := frozen5 hz1
    have T1 : Below w.heap.size w w1 := HBA.out.trans (hb1.mono (by omega))
    have HZ1 := Lib.hid hz1; clear hz1
    have HT1 := Lib.hid T1; clear T1
    clear hb1 hown
    go_wp2_with fail
    refine bodyPost_ret (resultsR (x := .int .i64 _) (y := .int .i64 _) rfl rfl (set5_row HZ1.out (.int .i64 0) (.int .i64 0) (.string ⟨#[]⟩) (.slice none 0 0) (.slice none 0 0)) rfl rfl) rfl ⟨none, 0, none, 0, rfl, RdV_leaf _ _ _ 0 0 [], ?_⟩
    exact below_set5 HT1.out (Nat.le_refl _) (.int .i64 0) (.int .i64 0) (.string ⟨#[]⟩) (.slice none 0 0) (.slice none 0 0)

set_option maxRecDepth 100000 in
set_option maxHeartbeats 2000000 in
theorem values_walk (s : ByteArray) (w : World) (hs : s.size ≤ reachBytes) (ht : Ch.Tab w) :
    Calls Tryd.prog 3 #[.string s] w fun e w' => e = .returned (.bool true) ∧ Below w.heap.size w w' := by
  unfold reachBytes at hs
  rcases hr : rdV s.data.toList with ⟨v, a, y⟩
  have hV := Value_any2 s w (by omega) hr
  have hR := fun w' (hb : Below w.heap.size w w') => refValue_any s w' (by omega) (ht.below hb ht.1 hb.size) hr
  have hcnt : cnt v ≤ 8192 := by
    by_cases he : y = 0
    · have := (sorts_ok (l := s.data.toList) (by rw [hr]; exact he)).2.1
      rw [hr] at this; exact this
    · have := (sorts_bad (l := s.data.toList) (by rw [hr]; exact he)).1
      rw [hr] at this
      simp only at this
      rw [this]; decide
  have HV := Lib.hid hV; clear hV
  have HR := Lib.hid hR; clear hR
  clear hr
  obtain ⟨X, hX⟩ : ∃ X, X = strOf v.s := ⟨_, rfl⟩
  have HX := Lib.hid hX; clear hX
  obtain ⟨nl, hnl⟩ : ∃ n, n = v.l.length := ⟨_, rfl⟩
  obtain ⟨nm, hnm⟩ : ∃ n, n = v.ms.length := ⟨_, rfl⟩
  have HNL := Lib.hid hnl; clear hnl
  have HNM := Lib.hid hnm; clear hnm
  go_enter Tryd.func3, Tryd.ntmps3
  go_wp2_with fail
  refine HV.out.mono ?_
  rintro e_ w1 ⟨A, c, A2, c2, rfl, hv1, hb1⟩
  rw [← HX.out, ← HNL.out, ← HNM.out] at hv1 ⊢
  have n1 := hb1.size
  obtain ⟨W1, hW1⟩ : ∃ W1, W1 = w1.alloc (.cells #[.int .i64 v.k, .int .i64 v.n, .string X, .slice A nl c, .slice A2 nm c2] 25) := ⟨_, rfl⟩
  have z1 : W1.heap[w1.heap.size]? = some (.cells #[.int .i64 v.k, .int .i64 v.n, .string X, .slice A nl c, .slice A2 nm c2] 25 (0, 0)) := by rw [hW1]; exact heap_alloc_new w1 _
  have s1 : W1.heap.size = w1.heap.size + 1 := by rw [hW1, szAlloc']
  have B1 : Below w1.heap.size w1 W1 := by rw [hW1]; exact (Below.refl _ _).alloc (Nat.le_refl _) _
  have T1 : Below w.heap.size w W1 := hb1.trans (B1.mono n1)
  have HW1 := Lib.hid hW1; clear hW1
  have HC := Lib.hid (HR.out W1 T1)
  have HV1 := Lib.hid hv1; clear hv1
  go_wp2_with fail
  rw [← HW1.out]
  refine HC.out.mono ?_
  rintro e_ w2 ⟨D, d, D2, d2, rfl, hv2, hb2⟩
  rw [← HX.out, ← HNL.out, ← HNM.out] at hv2 ⊢
  have n2 := hb2.size
  obtain ⟨W2, hW2⟩ : ∃ W2, W2 = w2.alloc (.cells #[.int .i64 v.k, .int .i64 v.n, .string X, .slice D nl d, .slice D2 nm d2] 25) := ⟨_, rfl⟩
  have z2 : W2.heap[w2.heap.size]? = some (.cells #[.int .i64 v.k, .int .i64 v.n, .string X, .slice D nl d, .slice D2 nm d2] 25 (0, 0)) := by rw [hW2]; exact heap_alloc_new w2 _
  have s2 : W2.heap.size = w2.heap.size + 1 := by rw [hW2, szAlloc']
  have B2 : Below w2.heap.size w2 W2 := by rw [hW2]; exact (Below.refl _ _).alloc (Nat.le_refl _) _
  have HW2 := Lib.hid hW2; clear hW2
  have HV2 := Lib.hid hv2; clear hv2
  go_wp2_with fail
  rw [← HW2.out]
  refine (awake_any5 _).mono ?_
  rintro e_ w3 ⟨rfl, hb3⟩
  have n3 := hb3.size
  have C2 : Below w2.heap.size w2 w3 := B2.trans (hb3.mono (by omega))
  have C1 : Below w1.heap.size w1 w3 := B1.trans ((hb2.mono (by omega)).trans (C2.mono (by omega)))
  have T3 : Below w.heap.size w w3 := hb1.trans (C1.mono n1)
  have r1 : w3.heap[w1.heap.size]? = _ := (C2.block w1.heap.size (by omega)).trans ((hb2.block w1.heap.size (by omega)).trans z1)
  have r2 : w3.heap[w2.heap.size]? = _ := (hb3.block w2.heap.size (by omega)).trans z2
  obtain ⟨p0, p1, p2, p3, p4⟩ := cells5 r1
  obtain ⟨q0, q1, q2, q3, q4⟩ := cells5 r2
  have hsm := Same_any (Re.ht v) v v _ _ w3 (Nat.le_refl _) (by omega) (HV1.out.wide C1 (Nat.le_refl _) (by omega)) (HV2.out.wide C2 (Nat.le_refl _) (by omega))
  have HSM := Lib.hid hsm; clear hsm
  have t1 : (a == a) = true := by rw [beq_iff_eq]
  have t2 : (y == y) = true := by rw [beq_iff_eq]
  clear z1 z2 r1 r2 B1 B2 hb1 hb2 hb3 C1 C2
  go_wp2_with fail
  refine HSM.out.mono ?_
  rintro e_ w4 ⟨⟨b, rfl, hb⟩, hb4⟩
  obtain rfl : b = true := hb.2 (by trivial)
  go_wp2_with fail
  go_ret
  exact ⟨rfl, T3.trans (hb4.mono T3.size)⟩
end Go.Proofs.YtoflogckoepioaaDoor.Re
