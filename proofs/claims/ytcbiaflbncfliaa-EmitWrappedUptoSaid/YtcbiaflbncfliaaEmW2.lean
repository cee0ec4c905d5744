import Derived.Test.YtcbiaflbncfliaaEmG
/- The walk of EmitWrapped. -/
namespace Go.Proofs.Ytcbiaflbncfliaa.Em
open Go.RowKit
open Go.Proofs.Ytcbiaflbncfliaa.Utf
open Go.Proofs.Ytcbiaflbncfliaa.Sc
open Go.Proofs.Ytcbiaflbncfliaa.Re

theorem wkL_one (a : V) : (wkL [a] 2 1).2 = (wk a 2 1).2 := by
  rw [wkL, wkL]
  by_cases h : (wk a 2 1).2 ≠ 0
  · rw [if_pos h]
  · rw [if_neg h]
    have h' : (wk a 2 1).2 = 0 := by simpa using h
    exact h'.symm
theorem wrap_ls (a : V) : chk (lsV [a]) = (wk a 2 1).2 := by
  have e := wkL_one a
  unfold chk lsV
  rw [wk, if_neg (by omega), if_neg (by omega), if_pos (by show own 5 0 [] 1 [] 0; decide)]
  show (if (wkL [a] 2 1).2 ≠ 0 then wkL [a] 2 1 else wkL [] 2 (wkL [a] 2 1).1).2 = _
  generalize wkL [a] 2 1 = r at *
  by_cases h : r.2 ≠ 0
  · rw [if_pos h]; exact e
  · rw [if_neg h, wkL]
    have h' : r.2 = 0 := by simpa using h
    exact h'.symm.trans e
theorem wrap_mp (a : V) : chk (mpV ([[107]], [a])) = (wk a 2 1).2 := by
  have e := wkL_one a
  have e0 : wkL [] 2 1 = (1, 0) := by rw [wkL]
  unfold chk mpV
  rw [wk, if_neg (by omega), if_neg (by omega), if_pos (by show own 6 0 [] 0 [[107]] 1; decide)]
  show (if (wkL [] 2 1).2 ≠ 0 then wkL [] 2 1 else wkL [a] 2 (wkL [] 2 1).1).2 = _
  rw [e0]
  exact e
theorem wrap_plain (a : V) : (wk a 2 1).2 = 51 ∨ (wk a 2 1).2 = 53 ∨ ((wk a 2 1).2 ≠ 51 ∧ (wk a 2 1).2 ≠ 53 ∧ chk a = (wk a 2 1).2) := by
  rcases (wk_le a 2 1 (by omega)).2 with h | h | h | h
  · have := (wk_sh a 1 0 2 1 (by omega) (by omega) (by omega) (.inl h)).1
    exact .inr (.inr ⟨by omega, by omega, this⟩)
  · have := (wk_sh a 1 0 2 1 (by omega) (by omega) (by omega) (.inr h)).1
    exact .inr (.inr ⟨by omega, by omega, this⟩)
  · exact .inl h
  · exact .inr (.inl h)
theorem em_ls (a : V) : emV (lsV [a]) = 91 :: (emV a ++ [93]) := by
  unfold lsV
  rw [emV, if_neg (by decide), if_neg (by decide), if_neg (by decide), if_neg (by decide), if_pos rfl, emT, emT]
  simp
theorem em_mp (a : V) : emV (mpV ([[107]], [a])) = 123 :: 34 :: 107 :: 34 :: 58 :: (emV a ++ [125]) := by
  unfold mpV
  rw [emV, if_neg (by decide), if_neg (by decide), if_neg (by decide), if_neg (by decide), if_neg (by decide), emM, emM]
  have : qt [107] = [34, 107, 34] := by decide
  simp [this]

set_option maxRecDepth 100000 in
set_option maxHeartbeats 8000000 in
theorem wrapped_walk (a : V) (ca : List Value) (w : World) (ha : RdA w 0 w.heap.size a ca) (za : szU a ≤ 1048576) (wa : wfV a) :
    Calls Try.prog 4 #[.agg ca.toArray] w fun e w' => e = .returned (.bool true) ∧ Below w.heap.size w w' := by
  have la := len_of_RdA a ca ha
  have hS : (strOf (txtR a)).size ≤ 25165824 := by
    rw [strOf_size]; unfold txtR
    have := emV_len a la
    split
    · omega
    · simp
  have ta := fun w1 (h : Below w.heap.size w w1) => Text_any a ca 0 w1 la (by omega) (szA_of _ a wa (by omega)) (ha.below h (Nat.le_refl _) h.size)
  have lL : lenV (lsV [a]) := by unfold lsV; rw [lenV, lenL, lenL, lenL]; exact ⟨rfl, ⟨la, trivial⟩, trivial⟩
  have lM : lenV (mpV ([[107]], [a])) := by unfold mpV; rw [lenV, lenL, lenL, lenL]; exact ⟨rfl, trivial, la, trivial⟩
  have zL : szU (lsV [a]) ≤ 2097152 := by unfold lsV; rw [szU, szUL, szUL, szUL]; simp; omega
  have zM : szU (mpV ([[107]], [a])) ≤ 2097152 := by unfold mpV; rw [szU, szUL, szUL, szUL]; simp; omega
  have fL : wfV (lsV [a]) := by unfold lsV; rw [wfV, wfL, wfL, wfL]; exact ⟨by decide, by decide, ⟨wa, trivial⟩, trivial⟩
  have fM : wfV (mpV ([[107]], [a])) := by unfold mpV; rw [wfV, wfL, wfL, wfL]; exact ⟨by decide, by decide, trivial, wa, trivial⟩
  have tl := fun w1 g (h : Below w.heap.size w w1) (hg : g < w1.heap.size) (hc : ∀ j u, ca[j]? = some u → w1.cell? ⟨g, j, none⟩ = some u) =>
    Text_any (lsV [a]) [.int .i64 5, .int .i64 0, .string ⟨#[]⟩, .slice (some ⟨g, 0, none⟩) 1 1, .slice none 0 0] 0 w1 lL (by omega) (szA_of _ _ fL (by omega)) (by
      unfold lsV
      rw [RdA]
      exact ⟨some ⟨g, 0, none⟩, 1, none, 0, rfl, rfl, fun _ => ⟨g, 0, rfl, Nat.zero_le _, hg, by rw [RdAL, RdAL]; exact ⟨⟨ca, fun j u hu => by rw [Nat.zero_add]; exact hc j u hu, ha.below h (Nat.le_refl _) h.size⟩, trivial⟩⟩, fun h => absurd h (by simp)⟩)
  have tm := fun w1 g (h : Below w.heap.size w w1) (hg : g < w1.heap.size) (hn : w1.cell? ⟨g, 0, none⟩ = some (.string ⟨#[107]⟩)) (hc : ∀ j u, ca[j]? = some u → w1.cell? ⟨g, 1 + j, none⟩ = some u) =>
    Text_any (mpV ([[107]], [a])) [.int .i64 6, .int .i64 0, .string ⟨#[]⟩, .slice none 0 0, .slice (some ⟨g, 0, none⟩) 1 1] 0 w1 lM (by omega) (szA_of _ _ fM (by omega)) (by
      unfold mpV
      rw [RdA]
      exact ⟨none, 0, some ⟨g, 0, none⟩, 1, rfl, rfl, fun h => absurd h (by simp), fun _ => ⟨g, 0, rfl, Nat.zero_le _, hg, by rw [RdAM]; exact ⟨[107], [], rfl, hn, ⟨ca, fun j u hu => by rw [Nat.zero_add]; exact hc j u hu, ha.below h (Nat.le_refl _) h.size⟩, by rw [RdAM]; trivial⟩⟩⟩)
  unfold GivesT at ta tl tm
  rw [wrap_ls] at tl
  rw [wrap_mp] at tm
  have hcase := wrap_plain a
  have eL : chk a = (wk a 2 1).2 → (strOf (txtR (lsV [a]))).toList = if chk a = 0 then 91 :: ((strOf (txtR a)).toList ++ [93]) else [] := fun h => by
    rw [strOf_list, strOf_list]; unfold txtR
    rw [wrap_ls, ← h]
    by_cases h0 : chk a = 0
    · rw [if_pos h0, if_pos h0, if_pos h0, em_ls]
    · rw [if_neg h0, if_neg h0]
  have eM : chk a = (wk a 2 1).2 → (strOf (txtR (mpV ([[107]], [a])))).toList = if chk a = 0 then 123 :: 34 :: 107 :: 34 :: 58 :: ((strOf (txtR a)).toList ++ [125]) else [] := fun h => by
    rw [strOf_list, strOf_list]; unfold txtR
    rw [wrap_mp, ← h]
    by_cases h0 : chk a = 0
    · rw [if_pos h0, if_pos h0, if_pos h0, em_mp]
    · rw [if_neg h0, if_neg h0]
  have nL : (wk a 2 1).2 ≠ 0 → (strOf (txtR (lsV [a]))).toList = [] := fun h => by
    rw [strOf_list]; unfold txtR
    rw [wrap_ls, if_neg h]
  have nM : (wk a 2 1).2 ≠ 0 → (strOf (txtR (mpV ([[107]], [a])))).toList = [] := fun h => by
    rw [strOf_list]; unfold txtR
    rw [wrap_mp, if_neg h]
  obtain ⟨A, c, A2, c2, ea, _⟩ := ha.cells
  rw [ea] at ta tl tm ⊢
  clear ha la lL lM zL zM fL fM ea
  generalize strOf (txtR a) = S at *
  generalize strOf (txtR (lsV [a])) = L at *
  generalize strOf (txtR (mpV ([[107]], [a]))) = M at *
  generalize chk a = x at *
  generalize (wk a 2 1).2 = y at *
  generalize a.k = k1 at *
  generalize a.n = n1 at *
  generalize strOf a.s = s1 at *
  generalize a.l.length = l1 at *
  generalize a.ms.length = m1 at *
  have TA := Lib.hid ta; clear ta
  have TL := Lib.hid tl; clear tl
  have TM := Lib.hid tm; clear tm
  have EL := Lib.hid eL; clear eL
  have EM := Lib.hid eM; clear eM
  have NL := Lib.hid nL; clear nL
  have NM := Lib.hid nM; clear nM
  have HC := Lib.hid hcase; clear hcase
  obtain ⟨w0, hw0⟩ : ∃ w0, w0 = w.alloc (.cells #[.int .i64 k1, .int .i64 n1, .string s1, .slice A l1 c, .slice A2 m1 c2] 25) := ⟨_, rfl⟩
  have FA : ∀ (j : Nat) u, ([.int .i64 k1, .int .i64 n1, .string s1, .slice A l1 c, .slice A2 m1 c2] : List Value)[j]? = some u → w0.cell? ⟨w.heap.size, j, none⟩ = some u := fun j u hu => by
    rw [hw0, cell_of_row _ _ j _ _ _ (heap_alloc_new w _)]
    simpa using hu
  have hsz : w0.heap.size = w.heap.size + 1 := by rw [hw0, szAlloc']
  have hb0 : Below w.heap.size w w0 := by rw [hw0]; exact (Below.refl _ _).alloc (Nat.le_refl _) _
  have HW0 := Lib.hid hw0
  have HFA := Lib.hid FA; clear FA
  have HB0 := Lib.hid hb0; clear hb0
  clear hw0
  go_enter Try.func4, Try.ntmps4
  go_wp2_with fail
  rw [← HW0.out]
  refine (TA.out w0 HB0.out).mono ?_
  rintro e w1 ⟨rfl, hb1⟩
  have HB1 := Lib.hid (HB0.out.trans (hb1.mono HB0.out.size))
  rw [hsz] at hb1
  have B1 := Lib.hid hb1; clear hb1
  have hz1 : w.heap.size + 1 ≤ w1.heap.size := by have := B1.out.size; omega
  have hcA : ∀ (j : Nat) u, ([.int .i64 k1, .int .i64 n1, .string s1, .slice A l1 c, .slice A2 m1 c2] : List Value)[j]? = some u → w1.cell? ⟨w.heap.size, j, none⟩ = some u := fun j u hu => (B1.out.cell (p := ⟨w.heap.size, j, none⟩) (by show w.heap.size < _; omega)).trans (HFA.out j u hu)
  have a0 := hcA 0 _ rfl
  have a1 := hcA 1 _ rfl
  have a2 := hcA 2 _ rfl
  have a3 := hcA 3 _ rfl
  have a4 := hcA 4 _ rfl
  clear hcA
  have hbl := (Below.refl w1.heap.size w1).alloc (Nat.le_refl _) (.cells #[.int .i64 k1, .int .i64 n1, .string s1, .slice A l1 c, .slice A2 m1 c2] 25)
  have hcl := TL.out _ w1.heap.size (HB1.out.trans (hbl.mono HB1.out.size)) (by rw [szAlloc']; omega) (fun j u hu => by rw [cell_of_row _ _ j _ _ _ (heap_alloc_new w1 _)]; simpa using hu)
  have HCL := Lib.hid hcl; clear hcl
  have HBL := Lib.hid hbl; clear hbl
  go_wp2_with fail
  refine HCL.out.mono ?_
  rintro e w2 ⟨rfl, hb2⟩
  rw [szAlloc'] at hb2
  have B2 := Lib.hid (B1.out.trans ((HBL.out.mono hz1).trans (hb2.mono (by omega))))
  have HB2 := Lib.hid (HB1.out.trans ((HBL.out.mono HB1.out.size).trans (hb2.mono (by have := HB1.out.size; omega)))); clear hb2
  clear a0 a1 a2 a3 a4 HCL
  have hz2 : w.heap.size + 1 ≤ w2.heap.size := by have := B2.out.size; omega
  have hcA : ∀ (j : Nat) u, ([.int .i64 k1, .int .i64 n1, .string s1, .slice A l1 c, .slice A2 m1 c2] : List Value)[j]? = some u → w2.cell? ⟨w.heap.size, j, none⟩ = some u := fun j u hu => (B2.out.cell (p := ⟨w.heap.size, j, none⟩) (by show w.heap.size < _; omega)).trans (HFA.out j u hu)
  have a0 := hcA 0 _ rfl
  have a1 := hcA 1 _ rfl
  have a2 := hcA 2 _ rfl
  have a3 := hcA 3 _ rfl
  have a4 := hcA 4 _ rfl
  clear hcA
  have hbm := (Below.refl w2.heap.size w2).alloc (Nat.le_refl _) (.cells #[.string ⟨#[107]⟩, .int .i64 k1, .int .i64 n1, .string s1, .slice A l1 c, .slice A2 m1 c2] 35)
  have hcm := TM.out _ w2.heap.size (HB2.out.trans (hbm.mono HB2.out.size)) (by rw [szAlloc']; omega) ((cell_of_row _ _ 0 _ _ _ (heap_alloc_new w2 _)).trans rfl) (fun j u hu => by rw [cell_of_row _ _ (1 + j) _ _ _ (heap_alloc_new w2 _), Nat.add_comm]; simpa using hu)
  have HCM := Lib.hid hcm; clear hcm
  have HBM := Lib.hid hbm; clear hbm
  go_wp2_with fail
  refine HCM.out.mono ?_
  rintro e w3 ⟨rfl, hb3⟩
  rw [szAlloc'] at hb3
  have HB3 := Lib.hid (HB2.out.trans ((HBM.out.mono HB2.out.size).trans (hb3.mono (by have := HB2.out.size; omega)))); clear hb3
  clear a0 a1 a2 a3 a4 HCM HBM HBL
  go_wp2_with fail
  refine (awake_any6 _).mono ?_
  rintro e w4 ⟨rfl, hb4⟩
  have HB4 := Lib.hid (HB3.out.trans (hb4.mono HB3.out.size)); clear hb4
  rcases HC.out with h | h | ⟨h1, h2, h3⟩
  · have lL := NL.out (by omega)
    have lM := NM.out (by omega)
    have t1 : (L.toList == []) = true := by rw [lL]; rfl
    have t2 : (M.toList == []) = true := by rw [lM]; rfl
    subst h
    go_wp2_with fail
    go_ret
    exact ⟨rfl, HB4.out⟩
  · have lL := NL.out (by omega)
    have lM := NM.out (by omega)
    have t1 : (L.toList == []) = true := by rw [lL]; rfl
    have t2 : (M.toList == []) = true := by rw [lM]; rfl
    subst h
    go_wp2_with fail
    go_ret
    exact ⟨rfl, HB4.out⟩
  · have t51 : (y == 51) = false := by rw [beq_eq_false_iff_ne]; exact h1
    have t53 : (y == 53) = false := by rw [beq_eq_false_iff_ne]; exact h2
    subst h3
    by_cases h0 : x = 0
    · have lL := EL.out rfl
      have lM := EM.out rfl
      rw [if_pos h0] at lL lM
      subst h0
      obtain ⟨T1, hT1⟩ : ∃ z, z = ⟨#[91]⟩ ++ S := ⟨_, rfl⟩
      obtain ⟨TL, hTL⟩ : ∃ z, z = T1 ++ ⟨#[93]⟩ := ⟨_, rfl⟩
      obtain ⟨T2, hT2⟩ : ∃ z, z = ⟨#[123, 34, 107, 34, 58]⟩ ++ S := ⟨_, rfl⟩
      obtain ⟨TM, hTM⟩ : ∃ z, z = T2 ++ ⟨#[125]⟩ := ⟨_, rfl⟩
      have z1 : T1.size = 1 + S.size := by rw [hT1, ByteArray.size_append]; rfl
      have z2 : T2.size = 5 + S.size := by rw [hT2, ByteArray.size_append]; rfl
      have q1 : (L.toList == TL.toList) = true := by
        rw [beq_iff_eq, lL, ByteArray.toList_eq, ByteArray.toList_eq, hTL, hT1, ByteArray.data_append, ByteArray.data_append, Array.toList_append, Array.toList_append]
        simp
      have q2 : (M.toList == TM.toList) = true := by
        rw [beq_iff_eq, lM, ByteArray.toList_eq, ByteArray.toList_eq, hTM, hT2, ByteArray.data_append, ByteArray.data_append, Array.toList_append, Array.toList_append]
        simp
      have a1 : ∀ w : World, (Op.stringOp .add ⟨#[91]⟩ S).run Try.prog w = .ok (.string T1) w := fun w => by rw [hT1]; exact run_string_add_sum w _ _ (by show 1 + S.size ≤ 9223372036854775807; omega)
      have a2 : ∀ w : World, (Op.stringOp .add T1 ⟨#[93]⟩).run Try.prog w = .ok (.string TL) w := fun w => by rw [hTL]; exact run_string_add_sum w _ _ (by show T1.size + 1 ≤ 9223372036854775807; omega)
      have a3 : ∀ w : World, (Op.stringOp .add ⟨#[123, 34, 107, 34, 58]⟩ S).run Try.prog w = .ok (.string T2) w := fun w => by rw [hT2]; exact run_string_add_sum w _ _ (by show 5 + S.size ≤ 9223372036854775807; omega)
      have a4 : ∀ w : World, (Op.stringOp .add T2 ⟨#[125]⟩).run Try.prog w = .ok (.string TM) w := fun w => by rw [hTM]; exact run_string_add_sum w _ _ (by show T2.size + 1 ≤ 9223372036854775807; omega)
      clear hT1 hTL hT2 hTM lL lM
      go_wp2_with fail
      go_ret
      exact ⟨rfl, HB4.out⟩
    · have t0 : (x != 0) = true := by rw [bne_iff_ne]; exact h0
      go_wp2_with fail
      go_ret
      exact ⟨rfl, HB4.out⟩
end Go.Proofs.Ytcbiaflbncfliaa.Em
