import Derived.Test.YtcbiaflbncfliaaRfF
/- Contracts of package read's whole, and of what catches at the face. -/
namespace Go.Proofs.Ytcbiaflbncfliaa.Re
open Go.RowKit
open Go.Proofs.Ytcbiaflbncfliaa.Utf
open Go.Proofs.Ytcbiaflbncfliaa.Sc

/-- what all the tokens are -/
def whR (ts : List Tok) (E : Int) : Rs V :=
  match pV ts E (fuelOf ts) 1 0 0 with
  | .bad a y => .bad a y
  | .ok v i p => if i < ts.length then .bad (tk ts E i).2.2.2 50 else .ok v i p
theorem whR_rdT (ts : List Tok) (E : Int) : rdT ts E = (match whR ts E with | .bad a y => (V0, a, y) | .ok v _ _ => (v, 0, 0)) := by
  unfold rdT whR
  rcases pV ts E (fuelOf ts) 1 0 0 with ⟨a, y⟩ | ⟨v, i, p⟩
  · rfl
  · simp only
    by_cases h : i < ts.length
    · rw [if_pos h, if_pos h]
    · rw [if_neg h, if_neg h]

set_option maxRecDepth 100000 in
set_option maxHeartbeats 4000000 in
theorem whole_any (rb : Nat) (vL : Value) (ts : List Tok) (E : Int) (hi2 : ts.length ≤ 65536) (hln : ∀ i, (tk ts E i).2.2.1.length ≤ 65537) (hkk : ∀ i, okK (tk ts E i)) (w : World) (hp : Rdr w rb vL 0 0) (hr : RdT w rb vL (withE ts E)) :
    Calls Try.prog 16 #[.pointer (some ⟨rb, 0, none⟩)] w (GivesP rb vL (whR ts E) w) := by
  have hlt := hp.cells.1
  obtain ⟨wa, hwa⟩ : ∃ wa, wa = w.alloc (.cells #[.int .i64 0, .int .i64 0, .string ⟨#[]⟩, .slice none 0 0, .slice none 0 0] 25) := ⟨_, rfl⟩
  have hba : Below w.heap.size w wa := by rw [hwa]; exact (Below.refl _ _).alloc (Nat.le_refl _) _
  have hsa : wa.heap.size = w.heap.size + 1 := by rw [hwa, szAlloc']
  have hza : wa.heap[w.heap.size]? = some (.cells #[.int .i64 0, .int .i64 0, .string ⟨#[]⟩, .slice none 0 0, .slice none 0 0] 25 (0, 0)) := by rw [hwa]; exact heap_alloc_new w _
  have hV : Calls Try.prog 20 #[.pointer (some ⟨rb, 0, none⟩), .int .i64 1] wa (GivesP rb vL (pV ts E (fuelOf ts) 1 0 0) wa) :=
    value_all rb vL ts E hi2 hln hkk (fuelOf ts) 1 0 0 wa (hp.below hba) (RdT_fr hr (Nat.le_of_lt hlt) (Fr.of rb hba)) (by omega) (by omega) (by omega) (by unfold fuelOf; omega)
  have hF := fun i p w1 hp1 hr1 hi => rfail_any rb vL ts E i p 50 w1 hp1 hr1 hi
  have hok := (p_ok ts E (fuelOf ts)).1 1 0 0
  obtain ⟨gb, c, hvL, hg, _⟩ := RdT_atE hr (i := 0) (by omega)
  rw [hwa] at hV
  unfold whR
  have hn : w.heap.size ≠ rb := by omega
  have HVL := Lib.hid hvL; clear hvL
  have HOK := Lib.hid hok; clear hok
  have HF := Lib.hid hF; clear hF
  have HR := Lib.hid hr; clear hr
  have HWA := Lib.hid hwa
  have HFA := Lib.hid (Fr.of rb hba)
  have HZA := Lib.hid hza; clear hza
  clear hwa hba hp
  rcases hres : pV ts E (fuelOf ts) 1 0 0 with ⟨a, y⟩ | ⟨v, j, q⟩
  · rw [hres] at hV
    have HV := Lib.hid hV; clear hV
    clear hres
    go_enter Try.func16, Try.ntmps16
    go_wp2_with fail
    refine HV.out.mono ?_
    rw [← HWA.out]
    rintro e w1 ⟨hg1, rfl⟩
    refine bodyPost_gone (P := Try.prog) (fn := Try.f16) rfl ?_
    exact ⟨Fr.trans HFA.out hg1, rfl⟩
  · rw [hres] at hV
    obtain ⟨_, hj, _⟩ := HOK.out _ _ _ hres (by omega)
    have HV := Lib.hid hV; clear hV
    clear hres
    simp only
    have kj : (0 : Int) ≤ (j : Int) := by omega
    have wr1 : IntKind.i64.wrap ((ts.length : Int) + 1 - 1) = (ts.length : Int) := by rw [IntWalk.i64_in _ (by omega)]; omega
    have wr2 : IntKind.i64.wrap (((ts.length + 1 : Nat) : Int) - 1) = (ts.length : Int) := by rw [IntWalk.i64_in _ (by omega)]; omega
    have wr3 : IntKind.i64.wrap (ts.length : Int) = (ts.length : Int) := IntWalk.i64_in _ (by omega)
    by_cases hjl : j < ts.length
    · rw [if_pos hjl]
      have t1 : decide ((j : Int) < (ts.length : Int)) = true := decide_eq_true (by omega)
      have t2 : decide (j < ts.length) = true := decide_eq_true hjl
      clear hjl
      go_enter Try.func16, Try.ntmps16
      go_wp2_with fail
      refine HV.out.mono ?_
      rw [← HWA.out]
      rintro e w1 ⟨hg1, v0, v1, v2, v3, v4, rfl, ho1, hV1, hp1⟩
      obtain ⟨A, c', A2, c2, hcs, _⟩ := hV1.cells
      simp only [List.cons.injEq, and_true] at hcs
      obtain ⟨rfl, rfl, rfl, rfl, rfl⟩ := hcs
      obtain ⟨hlt1, c0, c1, _, _⟩ := hp1.cells
      rw [HVL.out] at c0
      have HP1 := Lib.hid hp1; clear hp1
      have HV1 := Lib.hid hV1; clear hV1
      have HG1 := Lib.hid hg1; clear hg1
      have HO1 := Lib.hid ho1; clear ho1
      go_wp2_with fail
      go_quiet (fail)
      have hbq := below_drewN ((Below.refl w1.heap.size w1).alloc (Nat.le_refl _) (.cells #[.int .i64 v.k, .int .i64 v.n, .string (strOf v.s), .slice A v.l.length c', .slice A2 v.ms.length c2] 25)) nq
      have HBQ := Lib.hid hbq; clear hbq
      go_wp2_with fail
      refine (HF.out j q _ (HP1.out.below HBQ.out) (RdT_fr HR.out (Nat.le_of_lt hlt) (Fr.trans (Fr.trans HFA.out HG1.out) (Fr.of rb HBQ.out))) hj).mono ?_
      rintro e w2 ⟨rfl, hb2⟩
      refine bodyPost_gone (P := Try.prog) (fn := Try.f16) rfl ?_
      exact ⟨Fr.trans (Fr.trans (Fr.trans HFA.out HG1.out) (Fr.of rb HBQ.out)) (Fr.of rb hb2), rfl⟩
    · rw [if_neg hjl]
      have t1 : decide ((j : Int) < (ts.length : Int)) = false := decide_eq_false (by omega)
      have t2 : decide (j < ts.length) = false := decide_eq_false hjl
      clear hjl
      go_enter Try.func16, Try.ntmps16
      go_wp2_with fail
      refine HV.out.mono ?_
      rw [← HWA.out]
      rintro e w1 ⟨hg1, v0, v1, v2, v3, v4, rfl, ho1, hV1, hp1⟩
      obtain ⟨A, c', A2, c2, hcs, _⟩ := hV1.cells
      simp only [List.cons.injEq, and_true] at hcs
      obtain ⟨rfl, rfl, rfl, rfl, rfl⟩ := hcs
      obtain ⟨hlt1, c0, c1, _, _⟩ := hp1.cells
      rw [HVL.out] at c0
      have hz1 := blk_fr hg1 (by omega) (by omega) HZA.out
      have hs1 := hg1.size
      have HZ1 := Lib.hid hz1; clear hz1
      have HP1 := Lib.hid hp1; clear hp1
      have HV1 := Lib.hid hV1; clear hV1
      have HG1 := Lib.hid hg1; clear hg1
      have HO1 := Lib.hid ho1; clear ho1
      go_wp2_with fail
      go_quiet (fail)
      have hbq := below_drewN ((Below.refl w1.heap.size w1).alloc (Nat.le_refl _) (.cells #[.int .i64 v.k, .int .i64 v.n, .string (strOf v.s), .slice A v.l.length c', .slice A2 v.ms.length c2] 25)) nq
      have hz2 := (hbq.block w.heap.size (by omega)).trans HZ1.out
      obtain ⟨z0, z1, z2, z3, z4⟩ := cells5 hz2
      obtain ⟨q0, q1, q2, q3, q4⟩ := frozen5 hz2
      have HBQ := Lib.hid hbq; clear hbq
      have HZ2 := Lib.hid hz2; clear hz2
      go_wp2_with fail
      refine bodyPost_ret (results5 rfl rfl (set5_row HZ2.out _ _ _ _ _)) rfl ?_
      have hg2 := Fr.trans (Fr.trans HFA.out HG1.out) (Fr.of rb HBQ.out)
      refine ⟨set5_fr hg2 (Nat.le_refl _) _ _ _ _ _, _, _, _, _, _, rfl, (HO1.out.keep HBQ.out.size (fun p hp => HBQ.out.frozen hp)).keep (by simp) (fun p _ => by simp), RdV.keep (fun pp h1 h2 => (cell_set5 _ _ _ (by omega) _ _ _ _ _).trans (HBQ.out.cell h2)) (by omega) (by simp) _ _ HV1.out, set5_rdr (HP1.out.below HBQ.out) hn _ _ _ _ _⟩

/-- the end of what catches: no value, the fault's place, its error -/
def Caught (w w' : World) (b2 b3 b4 : Nat) (a y : Int) : Prop :=
  w'.heap[b2]? = some (.cells #[.int .i64 0, .int .i64 0, .string ⟨#[]⟩, .slice none 0 0, .slice none 0 0] 25 (0, 0)) ∧ w'.heap[b3]? = some (.cells #[.int .i64 a] 3 (0, 0)) ∧ w'.heap[b4]? = some (.cells #[.int .i64 y] 26 (0, 0)) ∧
    ∀ B, B ≤ b2 → B ≤ b3 → B ≤ b4 → Below B w w'

theorem Caught.drew {w w' : World} {b2 b3 b4 : Nat} {a y : Int} (h : Caught w w' b2 b3 b4 a y) : Caught w w'.drew b2 b3 b4 a y := ⟨h.1, h.2.1, h.2.2.1, fun B x2 x3 x4 => (h.2.2.2 B x2 x3 x4).drew⟩
theorem caught_of {w w1 : World} {b2 b3 b4 : Nat} {a y : Int} {u0 u1 u2 u3 u4 a0 y0 : Value} (hb : ∀ B, B ≤ w.heap.size → Below B w w1) (h2 : w1.heap[b2]? = some (.cells #[u0, u1, u2, u3, u4] 25 (0, 0))) (h3 : w1.heap[b3]? = some (.cells #[a0] 3 (0, 0)))
    (h4 : w1.heap[b4]? = some (.cells #[y0] 26 (0, 0))) (hl2 : b2 < w.heap.size) (h23 : b2 ≠ b3) (h24 : b2 ≠ b4) (h34 : b3 ≠ b4) :
    Caught w (((((((w1.setCell ⟨b2, 0, none⟩ (.int .i64 0)).setCell ⟨b2, 1, none⟩ (.int .i64 0)).setCell ⟨b2, 2, none⟩ (.string ⟨#[]⟩)).setCell ⟨b2, 3, none⟩ (.slice none 0 0)).setCell ⟨b2, 4, none⟩ (.slice none 0 0)).setCell ⟨b3, 0, none⟩ (.int .i64 a)).setCell ⟨b4, 0, none⟩ (.int .i64 y)) b2 b3 b4 a y := by
  have r2 := set5_row h2 (.int .i64 0) (.int .i64 0) (.string ⟨#[]⟩) (.slice none 0 0) (.slice none 0 0)
  have r3 := heap_set5 w1 b2 b3 (fun e => h23 e.symm) (.int .i64 0) (.int .i64 0) (.string ⟨#[]⟩) (.slice none 0 0) (.slice none 0 0)
  have r4 := heap_set5 w1 b2 b4 (fun e => h24 e.symm) (.int .i64 0) (.int .i64 0) (.string ⟨#[]⟩) (.slice none 0 0) (.slice none 0 0)
  refine ⟨(heap_setCell_other _ ⟨b4, 0, none⟩ b2 _ h24).trans ((heap_setCell_other _ ⟨b3, 0, none⟩ b2 _ h23).trans r2), (heap_setCell_other _ ⟨b4, 0, none⟩ b3 _ h34).trans (heap_setCell_same _ b3 0 _ _ (.int .i64 a) (r3.trans h3)), heap_setCell_same _ b4 0 _ _ (.int .i64 y) ((heap_setCell_other _ ⟨b3, 0, none⟩ b4 _ (fun e => h34 e.symm)).trans (r4.trans h4)), fun B x2 x3 x4 => ?_⟩
  exact (((((((hb B (by omega)).setCell x2 _).setCell x2 _).setCell x2 _).setCell x2 _).setCell x2 _).setCell x3 _).setCell x4 _

set_option maxRecDepth 100000 in
set_option maxHeartbeats 1000000 in
theorem catch_any (b2 b3 b4 : Nat) (a y : Int) (w : World) (u0 u1 u2 u3 u4 a0 y0 : Value) (h2 : w.heap[b2]? = some (.cells #[u0, u1, u2, u3, u4] 25 (0, 0))) (h3 : w.heap[b3]? = some (.cells #[a0] 3 (0, 0))) (h4 : w.heap[b4]? = some (.cells #[y0] 26 (0, 0)))
    (h23 : b2 ≠ b3) (h24 : b2 ≠ b4) (h34 : b3 ≠ b4) :
    CallsD Try.prog 15 #[.pointer (some ⟨b2, 0, none⟩), .pointer (some ⟨b3, 0, none⟩), .pointer (some ⟨b4, 0, none⟩)] (.panicking ({ v := faultV a y, recovered := false } :: [])) w fun e u' w' =>
      e = .returned (.tuple #[]) ∧ u' = .panicking ({ v := faultV a y, recovered := true } :: []) ∧ Caught w w' b2 b3 b4 a y := by
  unfold faultV
  obtain ⟨z0, z1, z2, z3, z4⟩ := cells5 h2
  obtain ⟨q0, q1, q2, q3, q4⟩ := frozen5 h2
  have z5 : w.cell? ⟨b3, 0, none⟩ = some a0 := (cell_of_row _ _ 0 _ _ _ h3).trans rfl
  have q5 : w.frozen? ⟨b3, 0, none⟩ = false := frozen_of_row _ _ 0 _ _ h3
  have z6 : w.cell? ⟨b4, 0, none⟩ = some y0 := (cell_of_row _ _ 0 _ _ _ h4).trans rfl
  have q6 : w.frozen? ⟨b4, 0, none⟩ = false := frozen_of_row _ _ 0 _ _ h4
  refine callsD_of_wpS Try.func15 rfl fun c₀ cs hu => ?_
  have hta : ∀ w : World, (Instr.typeAssert (.iface 45 (.agg #[.int .i64 a, .int .i64 y])) 20 45 false).run Try.prog w = .ok (.agg #[.int .i64 a, .int .i64 y]) w := fun _ => by kernel_rfl
  rw [show (#[Value.pointer (some ⟨b2, 0, none⟩), .pointer (some ⟨b3, 0, none⟩), .pointer (some ⟨b4, 0, none⟩)] ++ Array.replicate (Try.f15.ntmps - #[Value.pointer (some ⟨b2, 0, none⟩), .pointer (some ⟨b3, 0, none⟩), .pointer (some ⟨b4, 0, none⟩)].size) undef) = #[.pointer (some ⟨b2, 0, none⟩), .pointer (some ⟨b3, 0, none⟩), .pointer (some ⟨b4, 0, none⟩), undef, undef, undef, undef, undef, undef, undef, undef, undef, undef, undef, undef] from rfl]
  apply wpS_seq
  apply wpS_region
  simp [wpOpsS, go_sem, recoverD, hu, Exit.thenS]
  refine wpS_of_wp ?_
  have hl2 : b2 < w.heap.size := (Array.getElem?_eq_some_iff.1 h2).1
  have hl3 : b3 < w.heap.size := (Array.getElem?_eq_some_iff.1 h3).1
  have hl4 : b4 < w.heap.size := (Array.getElem?_eq_some_iff.1 h4).1
  have n2 : b2 ≠ w.heap.size := by omega
  have n3 : b3 ≠ w.heap.size := by omega
  have n4 : b4 ≠ w.heap.size := by omega
  have m2 : w.heap.size ≠ b2 := by omega
  have m3 : w.heap.size ≠ b3 := by omega
  have m4 : w.heap.size ≠ b4 := by omega
  have g23 : b3 ≠ b2 := fun e => h23 e.symm
  have g24 : b4 ≠ b2 := fun e => h24 e.symm
  have g34 : b4 ≠ b3 := fun e => h34 e.symm
  obtain ⟨w1, hw1⟩ : ∃ w1, w1 = w.alloc (.cells #[.int .i64 a, .int .i64 y] 45) := ⟨_, rfl⟩
  have hb1 : ∀ B, B ≤ w.heap.size → Below B w w1 := fun B hB => by rw [hw1]; exact (Below.refl _ _).alloc hB _
  have hz1 : w1.heap[w.heap.size]? = some (.cells #[.int .i64 a, .int .i64 y] 45 (0, 0)) := by rw [hw1]; exact heap_alloc_new w _
  have HW1 := Lib.hid hw1
  have HB1 := Lib.hid hb1
  have HZ1 := Lib.hid hz1
  clear hw1 hb1 hz1
  go_wp2_with fail
  rw [← HW1.out]
  clear z0 z1 z2 z3 z4 z5 z6 q0 q1 q2 q3 q4 q5 q6
  have h2' := ((HB1.out w.heap.size (Nat.le_refl _)).block b2 hl2).trans h2
  have h3' := ((HB1.out w.heap.size (Nat.le_refl _)).block b3 hl3).trans h3
  have h4' := ((HB1.out w.heap.size (Nat.le_refl _)).block b4 hl4).trans h4
  obtain ⟨z0, z1, z2, z3, z4⟩ := cells5 h2'
  obtain ⟨q0, q1, q2, q3, q4⟩ := frozen5 h2'
  have z5 : w1.cell? ⟨b3, 0, none⟩ = some a0 := (cell_of_row _ _ 0 _ _ _ h3').trans rfl
  have q5 : w1.frozen? ⟨b3, 0, none⟩ = false := frozen_of_row _ _ 0 _ _ h3'
  have z6 : w1.cell? ⟨b4, 0, none⟩ = some y0 := (cell_of_row _ _ 0 _ _ _ h4').trans rfl
  have q6 : w1.frozen? ⟨b4, 0, none⟩ = false := frozen_of_row _ _ 0 _ _ h4'
  have y1 : w1.cell? ⟨w.heap.size, 0, none⟩ = some (.int .i64 a) := (cell_of_row _ _ 0 _ _ _ HZ1.out).trans rfl
  have y2 : w1.cell? ⟨w.heap.size, 1, none⟩ = some (.int .i64 y) := (cell_of_row _ _ 1 _ _ _ HZ1.out).trans rfl
  have H2 := Lib.hid h2'
  have H3 := Lib.hid h3'
  have H4 := Lib.hid h4'
  clear h2 h3 h4 h2' h3' h4'
  go_region_held3 (fun w' => w'.cell? ⟨w.heap.size, 0, none⟩ = some (.int .i64 a) ∧ w'.cell? ⟨w.heap.size, 1, none⟩ = some (.int .i64 y)) (go_keep) (fail)
  all_goals
    refine ⟨rfl, _, rfl, _, results_none rfl _ _ _, rfl, rfl, ?_⟩
    exact Caught.drew (caught_of HB1.out H2.out H3.out H4.out hl2 h23 h24 h34)

set_option maxRecDepth 100000 in
set_option maxHeartbeats 1000000 in
theorem catch_idle (b2 b3 b4 : Nat) (w : World) :
    CallsD Try.prog 15 #[.pointer (some ⟨b2, 0, none⟩), .pointer (some ⟨b3, 0, none⟩), .pointer (some ⟨b4, 0, none⟩)] .returning w fun e u' w' => e = .returned (.tuple #[]) ∧ u' = .returning ∧ w' = w := by
  refine callsD_of_wpS Try.func15 rfl fun c₀ cs hu => ?_
  rw [show (#[Value.pointer (some ⟨b2, 0, none⟩), .pointer (some ⟨b3, 0, none⟩), .pointer (some ⟨b4, 0, none⟩)] ++ Array.replicate (Try.f15.ntmps - #[Value.pointer (some ⟨b2, 0, none⟩), .pointer (some ⟨b3, 0, none⟩), .pointer (some ⟨b4, 0, none⟩)].size) undef) = #[.pointer (some ⟨b2, 0, none⟩), .pointer (some ⟨b3, 0, none⟩), .pointer (some ⟨b4, 0, none⟩), undef, undef, undef, undef, undef, undef, undef, undef, undef, undef, undef, undef] from rfl]
  apply wpS_seq
  apply wpS_region
  simp [wpOpsS, go_sem, recoverD, hu, Exit.thenS]
  refine wpS_of_wp ?_
  go_wp2_with fail
  cases c₀
  refine ⟨rfl, _, ?_, _, results_none rfl _ _ _, rfl, rfl, rfl⟩
  simp_all
end Go.Proofs.Ytcbiaflbncfliaa.Re
