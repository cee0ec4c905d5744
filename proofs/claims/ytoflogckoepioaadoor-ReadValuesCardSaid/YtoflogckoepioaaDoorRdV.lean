import Derived.Test.YtoflogckoepioaaDoorRdM
import Derived.Test.YtoflogckoepioaaDoorRfF
/- Contract of value of layer 5's document's answer. Written by tools/genRdV.py. -/
namespace Go.Proofs.YtoflogckoepioaaDoor.Re
open Go.RowKit
open Go.Proofs.YtoflogckoepioaaDoor.Utf
open Go.Proofs.YtoflogckoepioaaDoor.Sc

set_option maxRecDepth 100000 in
set_option maxHeartbeats 4000000 in
theorem value_ls (pb : Nat) (vL : Value) (ts : List Tok) (E : Int) (d i p : Nat) (w : World) (hp : Prs w pb vL E i p 0 0) (hr : RdT w pb vL ts) (hi : i ≤ 4611686018427387904) (hpp : p ≤ 8192) (hd : ¬ 16 < d) (h8 : p ≠ 8192) (R : Rs V) (CL : ∀ w', Prs w' pb vL E (i + 1) (p + 1) 0 0 → RdT w' pb vL ts → Calls Tryd.prog 23 #[.pointer (some ⟨pb, 0, none⟩), .int .i64 d] w' (GivesV pb vL E R w'))
    (hk : (tk ts E i).1 = 1 ∧ (tk ts E i).2.2.1 = [91]) :
    Calls Tryd.prog 13 #[.pointer (some ⟨pb, 0, none⟩), .int .i64 d] w (GivesV pb vL E (R) w) := by
  have hpb := hp.cells.1
  obtain ⟨wa, hwa⟩ : ∃ wa, wa = w.alloc (.cells #[.int .i64 0, .int .i64 0, .string ⟨#[]⟩, .slice none 0 0, .slice none 0 0] 25) := ⟨_, rfl⟩
  have hba : Below w.heap.size w wa := by rw [hwa]; exact (Below.refl _ _).alloc (Nat.le_refl _) _
  have hsa : wa.heap.size = w.heap.size + 1 := by rw [hwa, szAlloc']
  have hza : wa.heap[w.heap.size]? = some (.cells #[.int .i64 0, .int .i64 0, .string ⟨#[]⟩, .slice none 0 0, .slice none 0 0] 25 (0, 0)) := by rw [hwa]; exact heap_alloc_new w _
  have hpa := hp.below hba
  have hra := RdT_fr hr (Nat.le_of_lt hpb) (Fr.of pb hba)
  have ht := token_any pb vL ts E i p 0 0 wa hpa (hra.more (by omega))
  rcases htk : tk ts E i with ⟨x1, x2, x3, x4⟩
  rw [htk] at ht hk
  simp only at hk
  unfold tokV at ht
  simp only at ht ⊢
  obtain ⟨X, hX⟩ : ∃ X, X = strOf x3 := ⟨_, rfl⟩
  have hXl : X.toList = x3 := by rw [hX, strOf_list]
  rw [← hX] at ht
  obtain ⟨rfl, rfl⟩ := hk
  have HCL := Lib.hid CL; clear CL
  have d1 : decide ((16 : Int) < (d : Int)) = false := decide_eq_false (by omega)
  have d2 : ((p : Int) == 8192) = false := by rw [beq_eq_false_iff_ne]; omega
  rw [hwa] at ht
  have HT := Lib.hid ht
  have HWA := Lib.hid hwa
  have HXX := Lib.hid hX
  have HRA := Lib.hid hra
  have HFA := Lib.hid (Fr.of pb hba)
  clear ht hwa hX hp hra htk hr hba
  go_enter Tryd.func13, Tryd.ntmps13
  go_wp2_with fail
  refine HT.out.mono ?_
  rw [← HWA.out]
  rintro e w1 ⟨rfl, hb1⟩
  have hp1 := hpa.below hb1
  have hrr := RdT_fr HRA.out (by omega) (Fr.of pb hb1)
  obtain ⟨hlt1, _, _, g2, g3, _, _, fz1⟩ := hp1.cells
  have f2 := fz1 2
  have f3 := fz1 3
  have hz1 : w1.heap[w.heap.size]? = _ := (hb1.block w.heap.size (by omega)).trans hza
  have z0 := (cell_of_row _ _ 0 _ _ _ hz1).trans rfl
  have z1 := (cell_of_row _ _ 1 _ _ _ hz1).trans rfl
  have z2 := (cell_of_row _ _ 2 _ _ _ hz1).trans rfl
  have z3 := (cell_of_row _ _ 3 _ _ _ hz1).trans rfl
  have z4 := (cell_of_row _ _ 4 _ _ _ hz1).trans rfl
  have q0 := frozen_of_row _ _ 0 _ _ hz1
  have q1 := frozen_of_row _ _ 1 _ _ hz1
  have q2 := frozen_of_row _ _ 2 _ _ hz1
  have q3 := frozen_of_row _ _ 3 _ _ hz1
  have q4 := frozen_of_row _ _ 4 _ _ hz1
  have hpn : pb ≠ w.heap.size := by omega
  have hlw : w.heap.size < w1.heap.size := by have := hb1.size; omega
  have hne1 : w.heap.size ≠ w1.heap.size := by omega
  have hne2 : pb ≠ w1.heap.size := by omega
  have HP1 := Lib.hid hp1; clear hp1
  have HZ1 := Lib.hid hz1
  have HRR := Lib.hid hrr; clear hrr
  have HF1 := Lib.hid (HFA.out.trans (Fr.of pb hb1))
  clear hz1 hza fz1 hpa
  go_wp2_with fail
  have FX := (HP1.out.setp (p + 1)).seti (i + 1)
  have FF := (HF1.out.trans (Fr.set w1 pb 3 (.int .i64 ((p + 1 : Nat) : Int)))).trans (Fr.set _ pb 2 (.int .i64 ((i + 1 : Nat) : Int)))
  have FR := (Fr.set w1 pb 3 (.int .i64 ((p + 1 : Nat) : Int))).trans (Fr.set _ pb 2 (.int .i64 ((i + 1 : Nat) : Int)))
  have ZZ := ((heap_setCell_other _ ⟨pb, 2, none⟩ w.heap.size (.int .i64 ((i + 1 : Nat) : Int)) (fun e => hpn e.symm)).trans ((heap_setCell_other w1 ⟨pb, 3, none⟩ w.heap.size (.int .i64 ((p + 1 : Nat) : Int)) (fun e => hpn e.symm)).trans HZ1.out))
  have hn : w.heap.size ≠ pb := fun e => hpn e.symm
  obtain ⟨W, hW⟩ : ∃ W, W = (((w1.setCell ⟨pb, 3, none⟩ (.int .i64 ((p : Int) + 1))).setCell ⟨pb, 2, none⟩ (.int .i64 ((i : Int) + 1))).alloc (.cells #[.int .i64 1, .int .i64 x2, .string X, .int .i64 x4] 44)) := ⟨_, rfl⟩
  have hpq : Prs W pb vL E (i + 1) (p + 1) 0 0 := by rw [hW]; exact FX.alloc (.cells #[.int .i64 1, .int .i64 x2, .string X, .int .i64 x4] 44)
  have hrq : RdT W pb vL ts := by rw [hW]; exact RdT_fr HRR.out (by omega) (Fr.alloc FR (.cells #[.int .i64 1, .int .i64 x2, .string X, .int .i64 x4] 44))
  have HZQ := Lib.hid (show W.heap[w.heap.size]? = some (.cells #[.int .i64 0, .int .i64 0, .string ⟨#[]⟩, .slice none 0 0, .slice none 0 0] 25 (0, 0)) by rw [hW]; exact (heap_alloc_old _ (.cells #[.int .i64 1, .int .i64 x2, .string X, .int .i64 x4] 44) (by first | (simp; omega) | simp)).trans ZZ)
  have hlq : w.heap.size < W.heap.size := by rw [hW]; first | (simp; omega) | simp
  have HFQ := Lib.hid (show w.grownBy W (some pb) by rw [hW]; exact Fr.alloc FF (.cells #[.int .i64 1, .int .i64 x2, .string X, .int .i64 x4] 44))
  have HCC := Lib.hid (HCL.out _ hpq hrq)
  have HW := Lib.hid hW
  clear hpq hrq FX FF FR ZZ hW
  rw [← HW.out]
  refine HCC.out.mono ?_
  rintro e w3 ⟨hg3, k3, n3, s3, A3, l3, c3, B3, m3, d3, rfl, h3⟩
  have hs3 := hg3.size
  have hz3 : w3.heap[w.heap.size]? = _ := (hg3.block w.heap.size hlq (fun e => hpn (Option.some.inj e).symm)).trans HZQ.out
  clear z0 z1 z2 z3 z4 q0 q1 q2 q3 q4
  obtain ⟨z0, z1, z2, z3, z4⟩ := cells5 hz3
  obtain ⟨q0, q1, q2, q3, q4⟩ := frozen5 hz3
  have HZ3 := Lib.hid hz3; clear hz3
  have HF3 := Lib.hid (Fr.trans HFQ.out hg3); clear hg3
  have H3 := Lib.hid h3; clear h3
  go_wp2_with fail
  have R5 := set5_row HZ3.out (.int .i64 k3) (.int .i64 n3) (.string s3) (.slice A3 l3 c3) (.slice B3 m3 d3)
  have F5 := set5_fr HF3.out (Nat.le_refl _) (.int .i64 k3) (.int .i64 n3) (.string s3) (.slice A3 l3 c3) (.slice B3 m3 d3)
  refine bodyPost_ret (results5 rfl rfl R5) rfl ⟨F5, _, _, _, _, _, _, _, _, _, rfl, ?_⟩
  have h3 := H3.out
  cases R with
  | bad a y =>
    obtain ⟨i3, p3, hp3⟩ := h3
    exact ⟨_, _, set5_prs hp3 hn _ _ _ _ _⟩
  | ok v j q =>
    obtain ⟨hV3, hp3⟩ := h3
    exact ⟨RdV.keep (fun pp h1 h2 => cell_set5 _ _ _ (by omega) _ _ _ _ _) (by omega) (by simp) _ _ hV3, set5_prs hp3 hn _ _ _ _ _⟩

set_option maxRecDepth 100000 in
set_option maxHeartbeats 4000000 in
theorem value_mp (pb : Nat) (vL : Value) (ts : List Tok) (E : Int) (d i p : Nat) (w : World) (hp : Prs w pb vL E i p 0 0) (hr : RdT w pb vL ts) (hi : i ≤ 4611686018427387904) (hpp : p ≤ 8192) (hd : ¬ 16 < d) (h8 : p ≠ 8192) (R : Rs V) (CL : ∀ w', Prs w' pb vL E (i + 1) (p + 1) 0 0 → RdT w' pb vL ts → Calls Tryd.prog 24 #[.pointer (some ⟨pb, 0, none⟩), .int .i64 d] w' (GivesV pb vL E R w'))
    (hk : (tk ts E i).1 = 1 ∧ (tk ts E i).2.2.1 = [123]) :
    Calls Tryd.prog 13 #[.pointer (some ⟨pb, 0, none⟩), .int .i64 d] w (GivesV pb vL E (R) w) := by
  have hpb := hp.cells.1
  obtain ⟨wa, hwa⟩ : ∃ wa, wa = w.alloc (.cells #[.int .i64 0, .int .i64 0, .string ⟨#[]⟩, .slice none 0 0, .slice none 0 0] 25) := ⟨_, rfl⟩
  have hba : Below w.heap.size w wa := by rw [hwa]; exact (Below.refl _ _).alloc (Nat.le_refl _) _
  have hsa : wa.heap.size = w.heap.size + 1 := by rw [hwa, szAlloc']
  have hza : wa.heap[w.heap.size]? = some (.cells #[.int .i64 0, .int .i64 0, .string ⟨#[]⟩, .slice none 0 0, .slice none 0 0] 25 (0, 0)) := by rw [hwa]; exact heap_alloc_new w _
  have hpa := hp.below hba
  have hra := RdT_fr hr (Nat.le_of_lt hpb) (Fr.of pb hba)
  have ht := token_any pb vL ts E i p 0 0 wa hpa (hra.more (by omega))
  rcases htk : tk ts E i with ⟨x1, x2, x3, x4⟩
  rw [htk] at ht hk
  simp only at hk
  unfold tokV at ht
  simp only at ht ⊢
  obtain ⟨X, hX⟩ : ∃ X, X = strOf x3 := ⟨_, rfl⟩
  have hXl : X.toList = x3 := by rw [hX, strOf_list]
  rw [← hX] at ht
  obtain ⟨rfl, rfl⟩ := hk
  have HCL := Lib.hid CL; clear CL
  have d1 : decide ((16 : Int) < (d : Int)) = false := decide_eq_false (by omega)
  have d2 : ((p : Int) == 8192) = false := by rw [beq_eq_false_iff_ne]; omega
  rw [hwa] at ht
  have HT := Lib.hid ht
  have HWA := Lib.hid hwa
  have HXX := Lib.hid hX
  have HRA := Lib.hid hra
  have HFA := Lib.hid (Fr.of pb hba)
  clear ht hwa hX hp hra htk hr hba
  go_enter Tryd.func13, Tryd.ntmps13
  go_wp2_with fail
  refine HT.out.mono ?_
  rw [← HWA.out]
  rintro e w1 ⟨rfl, hb1⟩
  have hp1 := hpa.below hb1
  have hrr := RdT_fr HRA.out (by omega) (Fr.of pb hb1)
  obtain ⟨hlt1, _, _, g2, g3, _, _, fz1⟩ := hp1.cells
  have f2 := fz1 2
  have f3 := fz1 3
  have hz1 : w1.heap[w.heap.size]? = _ := (hb1.block w.heap.size (by omega)).trans hza
  have z0 := (cell_of_row _ _ 0 _ _ _ hz1).trans rfl
  have z1 := (cell_of_row _ _ 1 _ _ _ hz1).trans rfl
  have z2 := (cell_of_row _ _ 2 _ _ _ hz1).trans rfl
  have z3 := (cell_of_row _ _ 3 _ _ _ hz1).trans rfl
  have z4 := (cell_of_row _ _ 4 _ _ _ hz1).trans rfl
  have q0 := frozen_of_row _ _ 0 _ _ hz1
  have q1 := frozen_of_row _ _ 1 _ _ hz1
  have q2 := frozen_of_row _ _ 2 _ _ hz1
  have q3 := frozen_of_row _ _ 3 _ _ hz1
  have q4 := frozen_of_row _ _ 4 _ _ hz1
  have hpn : pb ≠ w.heap.size := by omega
  have hlw : w.heap.size < w1.heap.size := by have := hb1.size; omega
  have hne1 : w.heap.size ≠ w1.heap.size := by omega
  have hne2 : pb ≠ w1.heap.size := by omega
  have HP1 := Lib.hid hp1; clear hp1
  have HZ1 := Lib.hid hz1
  have HRR := Lib.hid hrr; clear hrr
  have HF1 := Lib.hid (HFA.out.trans (Fr.of pb hb1))
  clear hz1 hza fz1 hpa
  go_wp2_with fail
  have FX := (HP1.out.setp (p + 1)).seti (i + 1)
  have FF := (HF1.out.trans (Fr.set w1 pb 3 (.int .i64 ((p + 1 : Nat) : Int)))).trans (Fr.set _ pb 2 (.int .i64 ((i + 1 : Nat) : Int)))
  have FR := (Fr.set w1 pb 3 (.int .i64 ((p + 1 : Nat) : Int))).trans (Fr.set _ pb 2 (.int .i64 ((i + 1 : Nat) : Int)))
  have ZZ := ((heap_setCell_other _ ⟨pb, 2, none⟩ w.heap.size (.int .i64 ((i + 1 : Nat) : Int)) (fun e => hpn e.symm)).trans ((heap_setCell_other w1 ⟨pb, 3, none⟩ w.heap.size (.int .i64 ((p + 1 : Nat) : Int)) (fun e => hpn e.symm)).trans HZ1.out))
  have hn : w.heap.size ≠ pb := fun e => hpn e.symm
  obtain ⟨W, hW⟩ : ∃ W, W = (((w1.setCell ⟨pb, 3, none⟩ (.int .i64 ((p : Int) + 1))).setCell ⟨pb, 2, none⟩ (.int .i64 ((i : Int) + 1))).alloc (.cells #[.int .i64 1, .int .i64 x2, .string X, .int .i64 x4] 44)) := ⟨_, rfl⟩
  have hpq : Prs W pb vL E (i + 1) (p + 1) 0 0 := by rw [hW]; exact FX.alloc (.cells #[.int .i64 1, .int .i64 x2, .string X, .int .i64 x4] 44)
  have hrq : RdT W pb vL ts := by rw [hW]; exact RdT_fr HRR.out (by omega) (Fr.alloc FR (.cells #[.int .i64 1, .int .i64 x2, .string X, .int .i64 x4] 44))
  have HZQ := Lib.hid (show W.heap[w.heap.size]? = some (.cells #[.int .i64 0, .int .i64 0, .string ⟨#[]⟩, .slice none 0 0, .slice none 0 0] 25 (0, 0)) by rw [hW]; exact (heap_alloc_old _ (.cells #[.int .i64 1, .int .i64 x2, .string X, .int .i64 x4] 44) (by first | (simp; omega) | simp)).trans ZZ)
  have hlq : w.heap.size < W.heap.size := by rw [hW]; first | (simp; omega) | simp
  have HFQ := Lib.hid (show w.grownBy W (some pb) by rw [hW]; exact Fr.alloc FF (.cells #[.int .i64 1, .int .i64 x2, .string X, .int .i64 x4] 44))
  have HCC := Lib.hid (HCL.out _ hpq hrq)
  have HW := Lib.hid hW
  clear hpq hrq FX FF FR ZZ hW
  rw [← HW.out]
  refine HCC.out.mono ?_
  rintro e w3 ⟨hg3, k3, n3, s3, A3, l3, c3, B3, m3, d3, rfl, h3⟩
  have hs3 := hg3.size
  have hz3 : w3.heap[w.heap.size]? = _ := (hg3.block w.heap.size hlq (fun e => hpn (Option.some.inj e).symm)).trans HZQ.out
  clear z0 z1 z2 z3 z4 q0 q1 q2 q3 q4
  obtain ⟨z0, z1, z2, z3, z4⟩ := cells5 hz3
  obtain ⟨q0, q1, q2, q3, q4⟩ := frozen5 hz3
  have HZ3 := Lib.hid hz3; clear hz3
  have HF3 := Lib.hid (Fr.trans HFQ.out hg3); clear hg3
  have H3 := Lib.hid h3; clear h3
  go_wp2_with fail
  have R5 := set5_row HZ3.out (.int .i64 k3) (.int .i64 n3) (.string s3) (.slice A3 l3 c3) (.slice B3 m3 d3)
  have F5 := set5_fr HF3.out (Nat.le_refl _) (.int .i64 k3) (.int .i64 n3) (.string s3) (.slice A3 l3 c3) (.slice B3 m3 d3)
  refine bodyPost_ret (results5 rfl rfl R5) rfl ⟨F5, _, _, _, _, _, _, _, _, _, rfl, ?_⟩
  have h3 := H3.out
  cases R with
  | bad a y =>
    obtain ⟨i3, p3, hp3⟩ := h3
    exact ⟨_, _, set5_prs hp3 hn _ _ _ _ _⟩
  | ok v j q =>
    obtain ⟨hV3, hp3⟩ := h3
    exact ⟨RdV.keep (fun pp h1 h2 => cell_set5 _ _ _ (by omega) _ _ _ _ _) (by omega) (by simp) _ _ hV3, set5_prs hp3 hn _ _ _ _ _⟩

theorem word_ways {ts : List Tok} {E : Int} {i : Nat} (h : ∀ t ∈ ts, okT t) (h2 : (tk ts E i).1 = 2) : (tk ts E i).2.2.1 = wNull ∨ (tk ts E i).2.2.1 = wTrue ∨ (tk ts E i).2.2.1 = wFalse := by
  have hi : i < ts.length := tk_kind (ts := ts) (E := E) (by omega)
  rw [tk_in hi] at h2 ⊢
  rcases h _ (List.getElem_mem hi) with g | g | g | g
  · omega
  · obtain ⟨k, hk, e⟩ := g.2.2
    rw [e]
    rcases k with _ | _ | _ | k
    · exact .inr (.inl rfl)
    · exact .inr (.inr rfl)
    · exact .inl rfl
    · omega
  · omega
  · omega
theorem kinds_of {ts : List Tok} {E : Int} (h : ∀ t ∈ ts, okT t) (i : Nat) : okK (tk ts E i) := by
  rcases Nat.lt_or_ge i ts.length with g | g
  · rw [tk_in g]
    rcases h _ (List.getElem_mem g) with h | h | h | h
    · exact .inr (.inl h.1)
    · exact .inr (.inr (.inl h.1))
    · exact .inr (.inr (.inr (.inl h.1)))
    · exact .inr (.inr (.inr (.inr h.1)))
  · rw [tk_out g]; exact .inl rfl
theorem valueD_all (pb : Nat) (vL : Value) (ts : List Tok) (E : Int) (hi2 : ts.length ≤ 65536) (hok : ∀ t ∈ ts, okT t) (g : Nat) : ValD pb vL ts E g := by
  induction g using Nat.strongRecOn with
  | ind g ih =>
    intro d i p w hp hr hi hpp hd hf
    obtain ⟨f, rfl⟩ : ∃ f, g = f + 1 := ⟨g - 1, by omega⟩
    have IH : ∀ g, g < f → ValD pb vL ts E g := fun g hg => ih g (by omega)
    have hi6 : i ≤ 4611686018427387904 := by omega
    by_cases hb : badV (tk ts E i) = true
    · rw [pV, if_pos hb]
      unfold badV at hb
      rw [decide_eq_true_iff] at hb
      rcases hb with h | h
      · exact value_f0 pb vL ts E d i p w hp hr hi6 hpp h
      · exact value_f1 pb vL ts E d i p w hp hr hi6 hpp h
    · have hb' : badV (tk ts E i) = false := by simpa using hb
      have hil := badV_in hb'
      have hk := kinds_of (E := E) hok i
      unfold badV at hb
      rw [decide_eq_true_iff] at hb
      have h0 : (tk ts E i).1 ≠ 0 := fun h => hb (.inl h)
      have h1 : (tk ts E i).1 = 1 → (tk ts E i).2.2.1 = [91] ∨ (tk ts E i).2.2.1 = [123] := fun h => by
        by_cases ha : (tk ts E i).2.2.1 = [91]
        · exact .inl ha
        · by_cases hb2 : (tk ts E i).2.2.1 = [123]
          · exact .inr hb2
          · exact absurd (.inr ⟨h, ha, hb2⟩) hb
      by_cases h16 : 16 < d
      · rw [pV, if_neg (by rw [hb']; decide), if_pos h16]
        by_cases c1 : (tk ts E i).1 = 1
        · rcases h1 c1 with c | c
          · exact value_d91 pb vL ts E d i p w hp hr hi6 hpp h16 ⟨c1, c⟩
          · exact value_d123 pb vL ts E d i p w hp hr hi6 hpp h16 ⟨c1, c⟩
        · exact value_d0 pb vL ts E d i p w hp hr hi6 hpp h16 ⟨h0, c1⟩
      · by_cases h8 : p = 8192
        · rw [pV, if_neg (by rw [hb']; decide), if_neg h16, if_pos h8]
          by_cases c1 : (tk ts E i).1 = 1
          · rcases h1 c1 with c | c
            · exact value_m91 pb vL ts E d i p w hp hr hi6 hpp h16 h8 ⟨c1, c⟩
            · exact value_m123 pb vL ts E d i p w hp hr hi6 hpp h16 h8 ⟨c1, c⟩
          · exact value_m0 pb vL ts E d i p w hp hr hi6 hpp h16 h8 ⟨h0, c1⟩
        · obtain ⟨l4, l3, l2⟩ := pV_leaf (f := f) hb' h16 h8
          rcases hk with h | h | h | h | h
          · exact absurd h h0
          · rcases h1 h with c | c
            · rw [pV_list hb' h16 h8 h c]
              exact value_ls pb vL ts E d i p w hp hr hi6 hpp h16 h8 _ (fun w' hp' hr' => listD_any pb vL ts E hi2 f IH d (i + 1) (p + 1) w' hp' hr' (by omega) (by omega) (by omega) (by omega)) ⟨h, c⟩
            · rw [pV_map hb' h16 h8 h (by rw [c]; decide)]
              exact value_mp pb vL ts E d i p w hp hr hi6 hpp h16 h8 _ (fun w' hp' hr' => membersD_any pb vL ts E hi2 f IH d (i + 1) (p + 1) w' hp' hr' (by omega) (by omega) (by omega) (by omega)) ⟨h, c⟩
          · rw [l2 h]
            rcases word_ways (E := E) hok h with c | c | c
            · rw [c]; exact value_null pb vL ts E d i p w hp hr hi6 hpp h16 h8 ⟨h, c⟩
            · rw [c]; exact value_true pb vL ts E d i p w hp hr hi6 hpp h16 h8 ⟨h, c⟩
            · rw [c]; exact value_false pb vL ts E d i p w hp hr hi6 hpp h16 h8 ⟨h, c⟩
          · rw [l3 h]; exact value_3 pb vL ts E d i p w hp hr hi6 hpp h16 h8 h
          · rw [l4 h]; exact value_4 pb vL ts E d i p w hp hr hi6 hpp h16 h8 h
end Go.Proofs.YtoflogckoepioaaDoor.Re
