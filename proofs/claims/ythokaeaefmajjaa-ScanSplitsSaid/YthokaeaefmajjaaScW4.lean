import Derived.Test.YthokaeaefmajjaaScW3
/- Walk of ScanSplits. -/
namespace Go.Proofs.Ythokaeaefmajjaa.Sc
open Go.RowKit
open Go.Proofs.Ythokaeaefmajjaa.Utf

set_option maxHeartbeats 2000000 in
theorem splits_skip (s t : ByteArray) (w : World) (hs : s.size ≤ 9223372036854775807) (ht : t.size ≤ 9223372036854775807) (h : (scnS s.data.toList).2.2 ≠ 0 ∨ 30000 < s.size ∨ 30000 < t.size) :
    Calls Try.prog 3 #[.string s, .string t] w fun e w' => e = .returned (.bool true) ∧ Below w.heap.size w w' := by
  have HT := fun w => Tokens_any s w hs
  rcases hR : scnS s.data.toList with ⟨ts, at_, er⟩
  rw [hR] at HT h
  simp only at h
  clear hR
  have HTT := Lib.hid HT; clear HT
  by_cases he : er = 0
  · subst he
    by_cases h2 : 30000 < s.size
    · have d2 : decide ((30000 : Int) < (s.size : Int)) = true := decide_eq_true (by omega)
      have d2b : decide (30000 < s.size) = true := decide_eq_true h2
      go_enter Try.func3, Try.ntmps3
      go_wp2_with fail
      refine (HTT.out _).mono ?_
      rintro e w1 ⟨v1, rfl, _, hb1⟩
      go_wp2_with fail
      refine (awake_any _).mono ?_
      rintro e w2 ⟨rfl, hb2⟩
      go_wp2_with fail
      refine (awake_any _).mono ?_
      rintro e w3 ⟨rfl, hb3⟩
      go_wp2_with fail
      go_ret
      have s1 := hb1.size
      have s2 := hb2.size
      exact ⟨rfl, hb1.trans ((hb2.mono s1).trans (hb3.mono (by omega)))⟩
    · have h3 : 30000 < t.size := by omega
      have d2 : decide ((30000 : Int) < (s.size : Int)) = false := decide_eq_false (by omega)
      have d2b : decide (30000 < s.size) = false := decide_eq_false h2
      have d3 : decide ((30000 : Int) < (t.size : Int)) = true := decide_eq_true (by omega)
      have d3b : decide (30000 < t.size) = true := decide_eq_true h3
      go_enter Try.func3, Try.ntmps3
      go_wp2_with fail
      refine (HTT.out _).mono ?_
      rintro e w1 ⟨v1, rfl, _, hb1⟩
      go_wp2_with fail
      refine (awake_any _).mono ?_
      rintro e w2 ⟨rfl, hb2⟩
      go_wp2_with fail
      refine (awake_any _).mono ?_
      rintro e w3 ⟨rfl, hb3⟩
      go_wp2_with fail
      go_ret
      have s1 := hb1.size
      have s2 := hb2.size
      exact ⟨rfl, hb1.trans ((hb2.mono s1).trans (hb3.mono (by omega)))⟩
  · have hne : (er != 0) = true := by rw [bne_iff_ne]; exact he
    go_enter Try.func3, Try.ntmps3
    go_wp2_with fail
    refine (HTT.out _).mono ?_
    rintro e w1 ⟨v1, rfl, _, hb1⟩
    go_wp2_with fail
    refine (awake_any _).mono ?_
    rintro e w2 ⟨rfl, hb2⟩
    go_wp2_with fail
    refine (awake_any _).mono ?_
    rintro e w3 ⟨rfl, hb3⟩
    go_wp2_with fail
    go_ret
    have s1 := hb1.size
    have s2 := hb2.size
    exact ⟨rfl, hb1.trans ((hb2.mono s1).trans (hb3.mono (by omega)))⟩

/-- what is told of both texts -/
theorem both_S (s t : ByteArray) (h : (scnS s.data.toList).2.2 = 0) (hs : s.size ≤ 30000) (ht : t.size ≤ 30000) :
    scnS (s ++ ⟨#[32]⟩ ++ t).data.toList = consR (scnS s.data.toList).1 ((scnS t.data.toList).1.map (shT (s.size + 1)), if (scnS t.data.toList).2.2 = 0 then (scnS t.data.toList).2.1 else (scnS t.data.toList).2.1 + (s.size + 1 : Nat), (scnS t.data.toList).2.2) := by
  have e : (s ++ ⟨#[32]⟩ ++ t).data.toList = s.data.toList ++ 32 :: t.data.toList := by
    rw [ByteArray.data_append, ByteArray.data_append, Array.toList_append, Array.toList_append, List.append_assoc]
    rfl
  have e1 : scnS s.data.toList = scn s.data.toList 0 := (scnS_Scan h).2.1
  have e2 : scnS t.data.toList = scn t.data.toList 0 := by rw [scnS, if_neg (by rw [len_data]; omega)]
  rw [e, scnS, if_neg (by rw [List.length_append, List.length_cons, len_data, len_data]; omega)]
  rw [e1] at h
  rw [split_plain _ _ h, e1, e2, len_data]

set_option maxHeartbeats 2000000 in
theorem splits_bad (s t : ByteArray) (w : World) (hs : s.size ≤ 30000) (ht : t.size ≤ 30000) (h : (scnS s.data.toList).2.2 = 0) (h2 : (scnS t.data.toList).2.2 ≠ 0) :
    Calls Try.prog 3 #[.string s, .string t] w fun e w' => e = .returned (.bool true) ∧ Below w.heap.size w w' := by
  have HT1 := fun w => Tokens_any s w (by omega)
  have HT2 := fun w => Tokens_any t w (by omega)
  have HT3 := fun w => Tokens_any (s ++ ⟨#[32]⟩ ++ t) w (by have : (ByteArray.mk #[32]).size = 1 := rfl; rw [ByteArray.size_append, ByteArray.size_append]; omega)
  have hbs := both_S s t h hs ht
  have hbd := scnS_bad h2
  rcases hR1 : scnS s.data.toList with ⟨ts, at1, er1⟩
  rcases hR2 : scnS t.data.toList with ⟨us, at2, er2⟩
  rw [hR1, hR2] at hbs
  rw [hR1] at HT1 h
  rw [hR2] at HT2 h2 hbd
  simp only at h h2 hbs hbd
  subst h
  obtain ⟨hu, hp0, hp1⟩ := hbd
  subst hu
  rw [consR, if_neg h2, if_neg h2] at hbs
  rw [hbs] at HT3
  clear hR1 hR2 hbs
  have d2 : decide ((30000 : Int) < (s.size : Int)) = false := decide_eq_false (by omega)
  have d2b : decide (30000 < s.size) = false := decide_eq_false (by omega)
  have d3 : decide ((30000 : Int) < (t.size : Int)) = false := decide_eq_false (by omega)
  have d3b : decide (30000 < t.size) = false := decide_eq_false (by omega)
  have hne : (er2 != 0) = true := by rw [bne_iff_ne]; exact h2
  have z1 : s.size + 1 ≤ 9223372036854775807 := by omega
  have z2 : s.size + 1 + t.size ≤ 9223372036854775807 := by omega
  rw [len_data] at hp1
  have q1 : at2 + ((s.size + 1 : Nat) : Int) = (s.size : Int) + 1 + at2 := by omega
  rw [q1] at HT3
  clear q1
  have q2 : IntKind.i64.wrap ((s.size : Int) + 1 + at2) = (s.size : Int) + 1 + at2 := IntWalk.i64_in _ (by omega)
  have H1 := Lib.hid HT1; clear HT1
  have H2 := Lib.hid HT2; clear HT2
  have H3 := Lib.hid HT3; clear HT3
  go_enter Try.func3, Try.ntmps3
  go_wp2_with fail
  refine (H1.out _).mono ?_
  rintro e w1 ⟨v1, rfl, _, hb1⟩
  go_wp2_with fail
  refine (awake_any _).mono ?_
  rintro e w2 ⟨rfl, hb2⟩
  go_wp2_with fail
  refine (H2.out _).mono ?_
  rintro e w3 ⟨v3, rfl, _, hb3⟩
  go_wp2_with fail
  refine (H3.out _).mono ?_
  rintro e w4 ⟨v4, rfl, hown4, hb4⟩
  have s1 := hb1.size
  have s2 := hb2.size
  have s3 := hb3.size
  have B := hb1.trans ((hb2.mono s1).trans ((hb3.mono (by omega)).trans (hb4.mono (by omega))))
  obtain ⟨A, c, hv, _⟩ := own_form hown4
  subst hv
  clear hown4 hb1 hb2 hb3 hb4
  go_wp2_with fail
  go_ret
  exact ⟨rfl, B⟩

set_option maxHeartbeats 4000000 in
theorem splits_ok (s t : ByteArray) (w : World) (hs : s.size ≤ 30000) (ht : t.size ≤ 30000) (h : (scnS s.data.toList).2.2 = 0) (h2 : (scnS t.data.toList).2.2 = 0) :
    Calls Try.prog 3 #[.string s, .string t] w fun e w' => e = .returned (.bool true) ∧ Below w.heap.size w w' := by
  obtain ⟨i0, hi, hz0, hz1, hz2⟩ := info_parts infoTok
  have HT1 := fun w => Tokens_any s w (by omega)
  have HT2 := fun w => Tokens_any t w (by omega)
  have HT3 := fun w => Tokens_any (s ++ ⟨#[32]⟩ ++ t) w (by have : (ByteArray.mk #[32]).size = 1 := rfl; rw [ByteArray.size_append, ByteArray.size_append]; omega)
  have hbs := both_S s t h hs ht
  obtain ⟨_, _, hsc1, hp1⟩ := scnS_Scan h
  obtain ⟨_, _, hsc2, hp2⟩ := scnS_Scan h2
  have hn1 := hsc1.le.2.1
  have hn2 := hsc2.le.2.1
  have hasc := fun i hi => asc_at hsc2.asc i hi
  rw [len_data] at hn1 hn2
  rcases hR1 : scnS s.data.toList with ⟨ts, at1, er1⟩
  rcases hR2 : scnS t.data.toList with ⟨us, at2, er2⟩
  rw [hR1, hR2] at hbs
  rw [hR1] at HT1 h hp1 hn1
  rw [hR2] at HT2 h2 hp2 hn2 hasc
  simp only at h h2 hbs hp1 hp2 hn1 hn2 hasc
  subst h h2 hp1 hp2
  rw [consR, if_pos rfl, if_pos rfl] at hbs
  rw [hbs] at HT3
  have hat : ∀ i (hi : i < us.length), 0 ≤ us[i].2.2.2 ∧ us[i].2.2.2 ≤ 30000 := fun i hi => by
    obtain ⟨q, q1, _, q2, _⟩ := hasc i hi
    rw [len_data] at q2
    omega
  clear hR1 hR2 hbs hasc hsc1 hsc2
  have d2 : decide ((30000 : Int) < (s.size : Int)) = false := decide_eq_false (by omega)
  have d2b : decide (30000 < s.size) = false := decide_eq_false (by omega)
  have d3 : decide ((30000 : Int) < (t.size : Int)) = false := decide_eq_false (by omega)
  have d3b : decide (30000 < t.size) = false := decide_eq_false (by omega)
  have z1 : s.size + 1 ≤ 9223372036854775807 := by omega
  have z2 : s.size + 1 + t.size ≤ 9223372036854775807 := by omega
  have H1 := Lib.hid HT1; clear HT1
  have H2 := Lib.hid HT2; clear HT2
  have H3 := Lib.hid HT3; clear HT3
  have HAT := Lib.hid hat; clear hat
  go_enter Try.func3, Try.ntmps3
  go_wp2_with fail
  refine (H1.out _).mono ?_
  rintro e w1 ⟨v1, rfl, hown1, hb1⟩
  have l1 := hown1.lt
  go_wp2_with fail
  refine (awake_any _).mono ?_
  rintro e w2 ⟨rfl, hb2⟩
  have hown1 := own_below hown1 hb2
  go_wp2_with fail
  refine (H2.out _).mono ?_
  rintro e w3 ⟨v3, rfl, hown3, hb3⟩
  have hown1 := own_below hown1 hb3
  have l3 := hown3.lt
  go_wp2_with fail
  refine (H3.out _).mono ?_
  rintro e w4 ⟨v4, rfl, hown4, hb4⟩
  have hown1 := own_below hown1 hb4
  have hown3 := own_below hown3 hb4
  have l4 := hown4.lt
  have s1 := hb1.size
  have s2 := hb2.size
  have s3 := hb3.size
  have s4 := hb4.size
  have B := hb1.trans ((hb2.mono s1).trans ((hb3.mono (by omega)).trans (hb4.mono (by omega))))
  obtain ⟨A3, c3, hv3, _⟩ := own_form hown3
  subst hv3
  simp only [List.length_append, List.length_map] at hown4
  have O1 := Lib.hid hown1; clear hown1
  have O3 := Lib.hid hown3; clear hown3
  have O4 := Lib.hid hown4; clear hown4
  clear hb1 hb2 hb3 hb4
  have hne1 : ∀ g, A3 = some ⟨g, 0, none⟩ → v1.ownBlock ≠ some g ∧ v4.ownBlock ≠ some g ∧ w.heap.size ≤ g := by
    rintro g rfl
    have a := l3 g rfl
    refine ⟨fun h => ?_, fun h => ?_, by omega⟩
    · have b := l1 g h; omega
    · have b := l4 g h; omega
  have hne2 : v4.ownBlock = none ∨ v4.ownBlock ≠ v1.ownBlock := by
    rcases h4 : v4.ownBlock with _ | k
    · exact .inl rfl
    · refine .inr fun h => ?_
      have a := l4 k h4
      have b := l1 k h.symm
      omega
  have N2 := Lib.hid hne2; clear hne2
  clear l1 l3 l4
  go_wp2_with fail
  go_loopw [14] (fun i wr => ∃ (k : Nat) (xs : List Tok), i = .int .i64 k ∧ k ≤ us.length ∧ xs.length = us.length ∧ (∀ j (h1 : j < xs.length) (h2 : j < us.length), xs[j] = if j < k then shT (s.size + 1) us[j] else us[j]) ∧
      wr.ownsRow w.heap.size 28 4 v1 ts.length (toksC ts) ∧ wr.ownsRow w2.heap.size 28 4 (.slice A3 us.length c3) us.length (toksC xs) ∧ wr.ownsRow w3.heap.size 28 4 v4 (ts.length + us.length) (toksC (ts ++ us.map (shT (s.size + 1)))) ∧ Below w.heap.size w wr ∧ w4.heap.size ≤ wr.heap.size) (fun i _ => us.length - (intOf i).toNat)
  case atStart => exact ⟨0, us, rfl, by omega, rfl, fun j _ _ => by rw [if_neg (by omega)], O1.out, O3.out, O4.out, B, Nat.le_refl _⟩
  case round =>
    obtain ⟨k, xs, rfl, hk, hxl, hxs, o1, o3, o4, hbel, hsz⟩ := hrel
    have O1' := Lib.hid o1; clear o1
    have O4' := Lib.hid o4; clear o4
    have HX := Lib.hid hxs; clear hxs
    have HN := Lib.hid hne1; clear hne1
    by_cases hlt : k < us.length
    · have hlb : decide ((k : Int) < (us.length : Int)) = true := decide_eq_true (by omega)
      have hlb2 : decide (k < us.length) = true := decide_eq_true hlt
      have k0 : (0 : Int) ≤ (k : Int) := by omega
      have k1 : (k : Int) < (us.length : Int) := by omega
      obtain ⟨A, c, hv, hA⟩ := own_form o3
      obtain ⟨g, rfl, hg1, _⟩ := hA (by omega)
      have e1 : A3 = some ⟨g, 0, none⟩ := by injection hv
      clear hv hA
      subst e1
      have hrd : RdT wr wr.heap.size (.slice (some ⟨g, 0, none⟩) xs.length c3) xs := RdT.of_own (by rw [hxl]; exact o3)
      obtain ⟨g', c', hg', _, _, _, _, a3⟩ := hrd.at_ k (by omega)
      have e2 : g = g' := by injection hg' with h _ _; injection h with h; injection h
      clear hg'
      subst e2
      have hxk := HX.out k (by omega) hlt
      rw [if_neg (by omega)] at hxk
      have x1 := o3.frozenAt (k * 4 + 3)
      have x2 := o3.stored (k * 4 + 3) (.int .i64 (us[k].2.2.2 + (s.size : Int) + 1))
      have x3 := toksC_set xs k (by omega) (us[k].2.2.2 + (s.size : Int) + 1)
      rw [hxk] at a3 x3
      have hb := HAT.out k hlt
      have HX3 := Lib.hid x3; clear x3
      have HXK := Lib.hid hxk; clear hxk
      have X2 := Lib.hid x2; clear x2
      generalize hz : us[k].2.2.2 = z at *
      have HZ := Lib.hid hz; clear hz
      have i1 : IntKind.i64.wrap (z + (s.size : Int)) = z + (s.size : Int) := IntWalk.i64_in _ (by omega)
      have i2 : IntKind.i64.wrap (z + (s.size : Int) + 1) = z + (s.size : Int) + 1 := IntWalk.i64_in _ (by omega)
      obtain ⟨n1, n4, n5⟩ := HN.out g rfl
      have N1 := Lib.hid n1; clear n1
      have N4 := Lib.hid n4; clear n4
      clear o3 hrd
      go_wp2_with fail
      go_roundw
      case rel =>
        refine ⟨k + 1, xs.set k (us[k].1, us[k].2.1, us[k].2.2.1, z + (s.size : Int) + 1), by go_num, by omega, by rw [List.length_set]; exact hxl, fun j h1 h2 => ?_, O1'.out.kept X2.out.2 (.inr N1.out), by rw [HX3.out]; exact X2.out.1, O4'.out.kept X2.out.2 (.inr N4.out), hbel.setCell n5 _, by simpa using hsz⟩
        rw [List.getElem_set]
        by_cases hjk : k = j
        · subst hjk
          rw [if_pos rfl, if_pos (by omega), shT, HZ.out]
          congr 3
          omega
        · rw [if_neg hjk, HX.out j (by omega) h2]
          by_cases hj2 : j < k
          · rw [if_pos hj2, if_pos (by omega)]
          · rw [if_neg hj2, if_neg (by omega)]
      case measure => simp [intOf]; omega
    · obtain rfl : k = us.length := by omega
      have hlb : decide ((us.length : Int) < (us.length : Int)) = false := decide_eq_false (by omega)
      have hxe : xs = us.map (shT (s.size + 1)) := by
        refine List.ext_getElem (by rw [List.length_map]; exact hxl) fun j h1 h2 => ?_
        rw [HX.out j h1 (by omega), if_pos (by omega), List.getElem_map]
      subst hxe
      clear hxl
      have hfin : ∀ w5 v5, w5.ownsRow w.heap.size 28 4 v5 (ts.length + us.length) (toksC ts ++ toksC (us.map (shT (s.size + 1)))) → wr.grownBy w5 v1.ownBlock →
          Calls Try.prog 8 #[v4, v5, .bool true] w5 (Gives (.bool true) w5) ∧ Below w.heap.size w w5 ∧ w.heap.size ≤ w5.heap.size := by
        intro w5 v5 h5 hg
        have a4 := O4'.out.kept hg N2.out
        have hsz5 := hg.size
        have r4 : RdT w5 w5.heap.size v4 (ts ++ us.map (shT (s.size + 1))) := RdT.of_own (by rw [List.length_append, List.length_map]; exact a4)
        have r5 : RdT w5 w5.heap.size v5 (ts ++ us.map (shT (s.size + 1))) := RdT.of_own (by rw [List.length_append, List.length_map, toksC_app]; exact h5)
        have b0 := B.size
        refine ⟨(Same_any _ _ _ _ true _ r4 r5 (by rw [List.length_append, List.length_map]; omega)).mono ?_, hbel.grown hg (by omega) (fun k hk => (O1'.out.lt k hk).1), by omega⟩
        rintro e w6 ⟨⟨b, rfl, hb⟩, hb6⟩
        exact ⟨by rw [hb.2 (sameL_refl true _)], hb6⟩
      have HF := Lib.hid hfin; clear hfin
      have hmx : (ts.length + us.length) * 40 ≤ 140737488355328 := by omega
      have hrd := RdT.of_own (ts := us.map (shT (s.size + 1))) (by rw [List.length_map]; exact o3)
      have b0 := B.size
      have b1 : w.heap.size ≤ wr.heap.size := by omega
      rcases o3.2 with ⟨hv, h0⟩ | ⟨g, cap, cur, hv, _, _, _⟩
      · have e1 : A3 = none := by injection hv
        have e2 : c3 = 0 := by injection hv
        have e3 : us = [] := List.eq_nil_of_length_eq_zero h0
        subst e1 e2 e3
        have o1 := O1'.out
        clear hv h0 o3 hrd
        go_wp2_with (at_builtin; refine wpList_append_none_g (by rfl) _ _ 22 rfl w.heap.size 28 i0 4 Try.underlying22 hi v1 ts.length (toksC ts) rfl o1 rfl ?_)
        obtain ⟨f1, f2, f3⟩ := HF.out wr v1 (by simpa [toksC] using o1) ⟨rfl, rfl, rfl, Nat.le_refl _, fun _ _ _ => rfl⟩
        refine f1.mono ?_
        rintro e w6 ⟨rfl, hb6⟩
        go_wp2_with fail
        go_ret
        exact ⟨rfl, f2.trans (hb6.mono f3)⟩
      · have e1 : A3 = some ⟨g, 0, none⟩ := by injection hv
        subst e1
        obtain ⟨A, c, hv2, hc⟩ := hrd
        have hcells : ∀ j u, (toksC (us.map (shT (s.size + 1))))[j]? = some u → wr.cell? ((⟨g, 0, none⟩ : Addr).add j) = some u := by
          intro j u hu
          have hlen : 0 < (us.map (shT (s.size + 1))).length := by
            rcases hq : us.map (shT (s.size + 1)) with _ | ⟨x, y⟩
            · rw [hq] at hu; simp [toksC] at hu
            · simp
          obtain ⟨g', hA, _, hx⟩ := hc hlen
          have hAA : A = some ⟨g, 0, none⟩ := by injection hv2 with h _ _; exact h.symm
          rw [hAA] at hA
          have e2 : g = g' := by injection hA with h; injection h
          subst e2
          rw [show (⟨g, 0, none⟩ : Addr).add j = ⟨g, j, none⟩ by unfold Addr.add; split <;> simp_all]
          exact hx j u hu
        have hl : (toksC (us.map (shT (s.size + 1)))).length = us.length * 4 := by rw [toksC_len, List.length_map]
        have h1 := toksC_cell1 (us.map (shT (s.size + 1)))
        have o1 := O1'.out
        clear hv hv2 hc o3
        have HCE := Lib.hid hcells; clear hcells
        have HL := Lib.hid hl; clear hl
        have HH := Lib.hid h1; clear h1
        go_wp2_with (at_builtin; refine wpList_append_own_g (by rfl) _ _ 22 rfl w.heap.size 28 i0 _ 4 40 Try.underlying22 hi hz0 hz1 hz2 (by rfl) (by omega) v1 ts.length (toksC ts) rfl o1 ⟨g, 0, none⟩ us.length c3 (toksC (us.map (shT (s.size + 1)))) rfl HL.out HCE.out HH.out (by unfold maxLen; omega) hmx b1 ?_; intro v5 w5 hown5 hg5)
        obtain ⟨f1, f2, f3⟩ := HF.out w5 v5 hown5 hg5
        refine f1.mono ?_
        rintro e w6 ⟨rfl, hb6⟩
        go_wp2_with fail
        go_ret
        exact ⟨rfl, f2.trans (hb6.mono f3)⟩

theorem splits_walk (s t : ByteArray) (w : World) (hs : s.size ≤ maxLen) (ht : t.size ≤ maxLen) :
    Calls Try.prog 3 #[.string s, .string t] w fun e w' => e = .returned (.bool true) ∧ Below w.heap.size w w' := by
  unfold maxLen at hs ht
  by_cases h : (scnS s.data.toList).2.2 ≠ 0 ∨ 30000 < s.size ∨ 30000 < t.size
  · exact splits_skip s t w hs ht h
  · have h0 : (scnS s.data.toList).2.2 = 0 := by omega
    by_cases h2 : (scnS t.data.toList).2.2 = 0
    · exact splits_ok s t w (by omega) (by omega) h0 h2
    · exact splits_bad s t w (by omega) (by omega) h0 h2
end Go.Proofs.Ythokaeaefmajjaa.Sc
