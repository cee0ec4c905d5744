/- Merged: PoF. -/
import Derived.Test.YtbfogkcnfnjcaaaTt25
import Derived.Test.YtbfogkcnfnjcaaaTt23
namespace Go.Proofs.Ytbfogkcnfnjcaaa.Po
open Go.Proofs Go.RowKit
open Go.Proofs.Ytbfogkcnfnjcaaa.Utf
open Go.Proofs.Ytbfogkcnfnjcaaa.Sc
open Go.Proofs.Ytbfogkcnfnjcaaa.Re
open Go.Proofs.Ytbfogkcnfnjcaaa.Tr
open Go.Proofs.Ytbfogkcnfnjcaaa.Nu

theorem lt_of_cell {w : World} {a : Addr} {v : Value} (h : w.cell? a = some v) : a.block < w.heap.size := by
  rcases Nat.lt_or_ge a.block w.heap.size with hlt | hge
  · exact hlt
  · simp [World.cell?, Array.getElem?_eq_none hge] at h
theorem _root_.Go.Proofs.Ytbfogkcnfnjcaaa.Re.RdA.back {w w' : World} {lo hi B : Nat} {v : V} {cs : List Value} (h : RdA w' lo hi v cs) (hb : Below B w w') (hB : hi ≤ B) : RdA w lo hi v cs := RdA.keep (fun _ _ hp => (hb.cell (Nat.lt_of_lt_of_le hp hB)).symm) (Nat.le_refl _) (Nat.le_refl _) _ _ h
theorem add_zero_ (a : Addr) : a.add 0 = a := by unfold Addr.add; simp

set_option maxRecDepth 100000 in
set_option maxHeartbeats 1000000 in
theorem find_any (hi : Nat) : ∀ (ps : List (List UInt8)) (v : V) (cs : List Value) (pv : Value) (w : World), hi ≤ w.heap.size → RdA w 0 hi v cs → szA 4611686018427387904 v → RdS w w.heap.size pv ps → (∀ q ∈ ps, q.length ≤ 9223372036854775807) →
    Calls Try.prog 25 #[.agg cs.toArray, pv] w (GivesOV hi (leadV ps v) w) := by
  intro ps
  induction ps with
  | nil =>
    intro v cs pv w hhi hv hz hpv hps
    have HV := Lib.hid hv
    obtain ⟨A0, c0, A20, c20, rfl, -, -, -⟩ := hv.cells
    obtain ⟨Ap, cp, rfl, -, -⟩ := hpv
    clear hv hz hps
    generalize v.k = k at *
    generalize v.n = n at *
    generalize strOf v.s = S at *
    generalize v.l.length = l at *
    generalize v.ms.length = m at *
    obtain ⟨W0, hW0⟩ : ∃ W0, W0 = ((w.alloc (.cells #[.int .i64 k, .int .i64 n, .string S, .slice A0 l c0, .slice A20 m c20] 25)).alloc (.cells #[.int .i64 0, .int .i64 0, .string ⟨#[]⟩, .slice none 0 0, .slice none 0 0] 25)) := ⟨_, rfl⟩
    have HB0 := Lib.hid (show Below w.heap.size w W0 by rw [hW0]; exact ((Below.refl _ _).alloc (Nat.le_refl _) _).alloc (by simp) _)
    have HS0 := Lib.hid (show W0.heap.size = w.heap.size + 2 by rw [hW0, szAl, szAl])
    have hv0 : W0.heap[w.heap.size]? = some (.cells #[.int .i64 k, .int .i64 n, .string S, .slice A0 l c0, .slice A20 m c20] 25 (0, 0)) := by rw [hW0]; exact heapOld (heapNew _ _) _
    have hr0 : W0.heap[w.heap.size + 1]? = some (.cells #[.int .i64 0, .int .i64 0, .string ⟨#[]⟩, .slice none 0 0, .slice none 0 0] 25 (0, 0)) := by
      rw [hW0, show w.heap.size + 1 = (w.alloc (.cells #[.int .i64 k, .int .i64 n, .string S, .slice A0 l c0, .slice A20 m c20] 25)).heap.size by simp]; exact heapNew _ _
    have HR0 := Lib.hid hr0
    have HV0 := Lib.hid hv0
    have HW0 := Lib.hid hW0
    rw [hW0] at hv0 hr0
    obtain ⟨⟨p0, p1, p2, p3, p4⟩, -⟩ := row5 hv0
    obtain ⟨⟨r0, r1, r2, r3, r4⟩, ⟨f0, f1, f2, f3, f4⟩⟩ := row5 hr0
    clear hW0 hv0 hr0
    go_enter Try.func25, Try.ntmps25
    go_wp2
    refine bodyPost_ret (res5b (b := w.heap.size + 1) rfl rfl rfl (by rw [show w.heap.size + 1 = (w.alloc (.cells #[.int .i64 k, .int .i64 n, .string S, .slice A0 l c0, .slice A20 m c20] 25)).heap.size by simp]; exact heapNew _ _)) rfl ?_
    exact ⟨⟨[.int .i64 k, .int .i64 n, .string S, .slice A0 l c0, .slice A20 m c20], rfl, HV.out⟩, ((Below.refl _ _).alloc (Nat.le_refl _) _).alloc (by simp) _⟩
  | cons q r ih =>
    intro v cs pv w hhi hv hz hpv hps
    have HIH := Lib.hid ih
    have HCUT := Lib.hid hpv.cut
    have HPS := Lib.hid hps
    have hnm := nm_of v cs hv
    have HST := Lib.hid (fun (W : World) (hW : Below w.heap.size w W) => step_any hi v cs q W (Nat.le_trans hhi hW.size) (hv.below hW hhi (Nat.le_refl _)) hz (hps q (by simp)))
    have HDN := Lib.hid (fun x (hx : stepV v q = some x) => step_down (sz_down 4611686018427387904) hnm hx hz)
    obtain ⟨A0, c0, A20, c20, rfl, -, -, -⟩ := hv.cells
    obtain ⟨Ap, cp, rfl, -, hpc⟩ := hpv
    obtain ⟨ad, rfl, hadb, hpx⟩ := hpc (by simp)
    have hap := hpx 0 _ (strC_at (q :: r) 0 (by simp))
    rw [add_zero_] at hap
    obtain ⟨X, hX⟩ : ∃ X, strOf q = X := ⟨_, rfl⟩
    rw [show (q :: r)[0] = q from rfl, hX] at hap
    rw [hX] at HST
    have HADL0 := Lib.hid hadb
    obtain ⟨nn, hnn⟩ : ∃ nn, (q :: r).length = nn := ⟨_, rfl⟩
    have hn1 : 0 < nn := by rw [← hnn]; simp
    have b1 : (0 : Int) < (nn : Int) := by omega
    have t1 : ((nn : Int) == 0) = false := beq_eq_false_iff_ne.2 (by omega)
    have t2 : decide ((nn : Int) = 0) = false := decide_eq_false (by omega)
    rw [hnn] at HCUT ⊢
    clear hv hz hps ih hnm hpc hpx hX hadb hnn
    generalize v.k = k at *
    generalize v.n = n at *
    generalize strOf v.s = S at *
    generalize v.l.length = l at *
    generalize v.ms.length = m at *
    obtain ⟨W0, hW0⟩ : ∃ W0, W0 = ((w.alloc (.cells #[.int .i64 k, .int .i64 n, .string S, .slice A0 l c0, .slice A20 m c20] 25)).alloc (.cells #[.int .i64 0, .int .i64 0, .string ⟨#[]⟩, .slice none 0 0, .slice none 0 0] 25)) := ⟨_, rfl⟩
    have HB0 := Lib.hid (show Below w.heap.size w W0 by rw [hW0]; exact ((Below.refl _ _).alloc (Nat.le_refl _) _).alloc (by simp) _)
    have HS0 := Lib.hid (show W0.heap.size = w.heap.size + 2 by rw [hW0, szAl, szAl])
    have hv0 : W0.heap[w.heap.size]? = some (.cells #[.int .i64 k, .int .i64 n, .string S, .slice A0 l c0, .slice A20 m c20] 25 (0, 0)) := by rw [hW0]; exact heapOld (heapNew _ _) _
    have hr0 : W0.heap[w.heap.size + 1]? = some (.cells #[.int .i64 0, .int .i64 0, .string ⟨#[]⟩, .slice none 0 0, .slice none 0 0] 25 (0, 0)) := by
      rw [hW0, show w.heap.size + 1 = (w.alloc (.cells #[.int .i64 k, .int .i64 n, .string S, .slice A0 l c0, .slice A20 m c20] 25)).heap.size by simp]; exact heapNew _ _
    have HR0 := Lib.hid hr0
    have HV0 := Lib.hid hv0
    have HW0 := Lib.hid hW0
    have HAP := Lib.hid (show W0.cell? ad = some (.string X) from (HB0.out.cell HADL0.out).trans hap)
    have HADL := Lib.hid (show ad.block < W0.heap.size by have := HADL0.out; rw [HS0.out]; omega)
    rw [hW0] at hv0 hr0
    clear hW0 hv0 hr0 hap
    go_enter Try.func25, Try.ntmps25
    go_wp2_with fail
    rw [← HW0.out]
    refine wp_region_held_drew (S := fun W' => W'.heap[w.heap.size]? = some (.cells #[.int .i64 k, .int .i64 n, .string S, .slice A0 l c0, .slice A20 m c20] 25 (0, 0)) ∧ W'.cell? ad = some (.string X)) (by kernel_rfl) (⟨HV0.out, HAP.out⟩) (fun hHeld => ?_)
    refine wpAnyH_take (i := 0) (oi := { dst := some 13, op := Op.load 25 (Operand.tmp 2), type := 25, pos := "point.go:95", after := #[], guard := none }) (v := ?_) rfl (by kernel_rfl) (by kernel_rfl) (by kernel_rfl) (fun _ _ _ h => h) (Or.inl ⟨by rfl, ?_⟩) hHeld ?_
    rotate_left
    · intro w hSw; (try dsimp only at hSw); obtain ⟨⟨p0, p1, p2, p3, p4⟩, -⟩ := row5 hSw.1; go_simp; with_reducible rfl
    try simp only [Act.put, List.setIfInBounds_toArray, List.set_cons_zero, List.set_cons_succ]
    refine wpAnyH_take (i := 1) (oi := { dst := some 14, op := Op.move (Operand.tmp 1), type := 32, pos := "point.go:95", after := #[], guard := none }) (v := ?_) rfl (by kernel_rfl) (by kernel_rfl) (by kernel_rfl) (fun _ _ _ h => h) (Or.inl ⟨by rfl, ?_⟩) hHeld ?_
    rotate_left
    · intro w hSw; (try dsimp only at hSw); go_simp; with_reducible rfl
    try simp only [Act.put, List.setIfInBounds_toArray, List.set_cons_zero, List.set_cons_succ]
    refine wpAnyH_take (i := 2) (oi := { dst := some 15, op := Op.indexAddr 32 (Operand.tmp 14) (Operand.const (Value.int IntKind.i64 0)), type := 0, pos := "point.go:95", after := #[{ on := 1, ground := Ground.data }], guard := none }) (v := ?_) rfl (by kernel_rfl) (by kernel_rfl) (by kernel_rfl) (fun _ _ _ h => h) (Or.inl ⟨by rfl, ?_⟩) hHeld ?_
    rotate_left
    · intro w hSw; (try dsimp only at hSw); go_simp; with_reducible rfl
    try simp only [Act.put, List.setIfInBounds_toArray, List.set_cons_zero, List.set_cons_succ]
    refine wpAnyH_take (i := 3) (oi := { dst := some 16, op := Op.load 9 (Operand.tmp 15), type := 9, pos := "point.go:95", after := #[{ on := 2, ground := Ground.data }], guard := none }) (v := ?_) rfl (by kernel_rfl) (by kernel_rfl) (by kernel_rfl) (fun _ _ _ h => h) (Or.inl ⟨by rfl, ?_⟩) hHeld ?_
    rotate_left
    · intro w hSw; (try dsimp only at hSw); have hx := hSw.2; go_simp; with_reducible rfl
    try simp only [Act.put, List.setIfInBounds_toArray, List.set_cons_zero, List.set_cons_succ]
    refine wpAnyH_ready (rs := [4, 8]) (by kernel_rfl) (by simp) ?_
    refine AllReadyH.cons (o := { dst := some 17, op := Op.call { callee := Callee.value (Operand.func 40), args := #[Operand.tmp 13, Operand.tmp 16], argTypes := #[25, 9] }, type := 54, pos := "point.go:95", after := #[{ on := 0, ground := Ground.data }, { on := 3, ground := Ground.data }], guard := none }) rfl (fun K hK => ?_) (AllReadyH.cons (o := { dst := some 6, op := Op.alloc 25, type := 0, pos := "point.go:95", after := #[], guard := none }) rfl (fun K hK => ?_) AllReadyH.nil)
    · go_simp
      go_at_call 40
      refine (HST.out _ (HB0.out.drew)).mono ?_
      rintro e w1 ⟨⟨ca, rfl, hca⟩, hb1⟩
      obtain ⟨y, hy⟩ : ∃ y, (stepV v q).getD V0 = y := ⟨_, rfl⟩
      rw [hy] at hca
      have HY := Lib.hid hy
      have hca0 := hca.back (HB0.out.drew) hhi
      have HCA := Lib.hid hca0
      obtain ⟨xA, xc, xB, xd, rfl, -⟩ := hca.cells
      clear hca hca0 hy
      generalize y.k = xk at *
      generalize y.n = xn at *
      generalize strOf y.s = xs at *
      generalize y.l.length = xl at *
      generalize y.ms.length = xm at *
      have HB1 := Lib.hid (show Below W0.heap.size W0 w1 from (Below.drew (Below.refl W0.heap.size W0)).trans (hb1.mono (Below.drew (Below.refl W0.heap.size W0)).size))
      have HS1 := Lib.hid (show w1.heap[w.heap.size]? = some (.cells #[.int .i64 k, .int .i64 n, .string S, .slice A0 l c0, .slice A20 m c20] 25 (0, 0)) ∧ w1.cell? ad = some (.string X) from ⟨(HB1.out.block w.heap.size (by rw [HS0.out]; omega)).trans HV0.out, (HB1.out.cell HADL.out).trans HAP.out⟩)
      clear hb1
      refine hK.out _ _ (HS1.out) (fun hHeld => ?_)
      clear hK K
      try simp only [Act.put, List.setIfInBounds_toArray, List.set_cons_zero, List.set_cons_succ]
      refine wpAnyH_take (i := 5) (oi := { dst := some 12, op := Op.move (Operand.tmp 17), type := 54, pos := "point.go:95", after := #[{ on := 4, ground := Ground.data }], guard := none }) (v := ?_) rfl (by kernel_rfl) (by kernel_rfl) (by kernel_rfl) (fun _ _ _ h => h) (Or.inl ⟨by rfl, ?_⟩) hHeld ?_
      rotate_left
      · intro w hSw; (try dsimp only at hSw); go_simp; with_reducible rfl
      try simp only [Act.put, List.setIfInBounds_toArray, List.set_cons_zero, List.set_cons_succ]
      refine wpAnyH_take (i := 6) (oi := { dst := some 18, op := Op.extract (Operand.tmp 12) 0, type := 25, pos := "point.go:95", after := #[{ on := 5, ground := Ground.data }], guard := none }) (v := ?_) rfl (by kernel_rfl) (by kernel_rfl) (by kernel_rfl) (fun _ _ _ h => h) (Or.inl ⟨by rfl, ?_⟩) hHeld ?_
      rotate_left
      · intro w hSw; (try dsimp only at hSw); go_simp; with_reducible rfl
      try simp only [Act.put, List.setIfInBounds_toArray, List.set_cons_zero, List.set_cons_succ]
      refine wpAnyH_take (i := 7) (oi := { dst := some 19, op := Op.extract (Operand.tmp 12) 1, type := 4, pos := "point.go:95", after := #[{ on := 5, ground := Ground.data }, { on := 9, ground := Ground.gcOnly Departure.lateStores }], guard := none }) (v := ?_) rfl (by kernel_rfl) (by kernel_rfl) (by kernel_rfl) (fun _ _ _ h => h) (Or.inl ⟨by rfl, ?_⟩) hHeld ?_
      rotate_left
      · intro w hSw; (try dsimp only at hSw); go_simp; with_reducible rfl
      try simp only [Act.put, List.setIfInBounds_toArray, List.set_cons_zero, List.set_cons_succ]
      refine wpAnyH_ready (rs := [8]) (by kernel_rfl) (by simp) ?_
      refine AllReadyH.cons (o := { dst := some 6, op := Op.alloc 25, type := 0, pos := "point.go:95", after := #[], guard := none }) rfl (fun K hK => ?_) AllReadyH.nil
      have HZ := Lib.hid (heapNew w1 (.cells #[.int .i64 0, .int .i64 0, .string ⟨#[]⟩, .slice none 0 0, .slice none 0 0] 25))
      go_simp
      refine hK.out _ _ (⟨heapOld hHeld.1 _, (World.cell?_of_block (Below.heap_alloc _ _ _ (lt_of_cell hHeld.2))).trans hHeld.2⟩) (fun hHeld => ?_)
      clear hK K
      try simp only [Act.put, List.setIfInBounds_toArray, List.set_cons_zero, List.set_cons_succ]
      refine wpAnyH_ready (rs := [9]) (by kernel_rfl) (by simp) ?_
      refine AllReadyH.cons (o := { dst := none, op := Op.store 25 (Operand.tmp 6) (Operand.tmp 18), type := 0, pos := "point.go:95", after := #[{ on := 8, ground := Ground.data }, { on := 6, ground := Ground.data }, { on := 4, ground := Ground.chain }, { on := 0, ground := Ground.phase }, { on := 1, ground := Ground.phase }, { on := 2, ground := Ground.phase }, { on := 3, ground := Ground.phase }, { on := 4, ground := Ground.phase }, { on := 5, ground := Ground.phase }, { on := 6, ground := Ground.phase }, { on := 7, ground := Ground.textOnly Departure.lateStores }, { on := 8, ground := Ground.phase }], guard := none }) rfl (fun K hK => ?_) AllReadyH.nil
      obtain ⟨⟨z0, z1, z2, z3, z4⟩, ⟨y0, y1, y2, y3, y4⟩⟩ := row5 HZ.out
      go_simp
      clear z0 z1 z2 z3 z4 y0 y1 y2 y3 y4
      refine hK.out _ _ (⟨heapOld HS1.out.1 _, (World.cell?_of_block (Below.heap_alloc _ _ _ (lt_of_cell HS1.out.2))).trans HS1.out.2⟩) (fun hHeld => ?_)
      clear hK K
      try simp only [Act.put, List.setIfInBounds_toArray, List.set_cons_zero, List.set_cons_succ]
      refine wpAnyH_take (i := 10) (oi := { dst := some 7, op := Op.assign (Operand.tmp 19), type := 4, pos := "point.go:95", after := #[{ on := 7, ground := Ground.data }, { on := 9, ground := Ground.chain }, { on := 0, ground := Ground.phase }, { on := 1, ground := Ground.phase }, { on := 2, ground := Ground.phase }, { on := 3, ground := Ground.phase }, { on := 4, ground := Ground.phase }, { on := 5, ground := Ground.phase }, { on := 6, ground := Ground.phase }, { on := 7, ground := Ground.phase }, { on := 8, ground := Ground.phase }, { on := 9, ground := Ground.phase }], guard := none }) (v := ?_) rfl (by kernel_rfl) (by kernel_rfl) (by kernel_rfl) (fun _ _ _ h => h) (Or.inl ⟨by rfl, ?_⟩) hHeld ?_
      rotate_left
      · intro w hSw; (try dsimp only at hSw); go_simp; with_reducible rfl
      try simp only [Act.put, List.setIfInBounds_toArray, List.set_cons_zero, List.set_cons_succ]
      refine wpAnyH_done (by kernel_rfl) ?_ _
      clear hHeld
      obtain ⟨W2, hW2⟩ : ∃ W2, W2 = w1.alloc (.cells #[.int .i64 xk, .int .i64 xn, .string xs, .slice xA xl xc, .slice xB xm xd] 25) := ⟨_, rfl⟩
      obtain ⟨E, hE⟩ : ∃ E, E = w1.heap.size := ⟨_, rfl⟩
      have HX2 := Lib.hid (show W2.heap[E]? = some (.cells #[.int .i64 xk, .int .i64 xn, .string xs, .slice xA xl xc, .slice xB xm xd] 25 (0, 0)) by rw [hW2, hE]; exact heapNew _ _)
      have HB2 := Lib.hid (show Below W0.heap.size W0 W2 by rw [hW2]; exact HB1.out.alloc HB1.out.size _)
      have HE := Lib.hid (show w.heap.size + 2 ≤ E by have := HB1.out.size; rw [HS0.out] at this; omega)
      rw [← hW2, ← hE]
      clear hW2 hE HZ HB1 HS1
      clear HST
      have HR2 := Lib.hid ((HB2.out.block (w.heap.size + 1) (by rw [HS0.out]; omega)).trans HR0.out)
      have HBW := Lib.hid (HB0.out.trans (HB2.out.mono HB0.out.size))
      rcases hst : stepV v q with _ | x
      · have HLD := Lib.hid (show leadV (q :: r) v = none by rw [leadV, hst]; rfl)
        clear hst
        obtain ⟨⟨r0, r1, r2, r3, r4⟩, ⟨f0, f1, f2, f3, f4⟩⟩ := row5 HR2.out
        go_wp2
        refine bodyPost_ret (res5b rfl rfl rfl (st5_row HR2.out (.int .i64 0) (.int .i64 0) (.string ⟨#[]⟩) (.slice none 0 0) (.slice none 0 0))) rfl ?_
        rw [HLD.out]
        exact ⟨⟨[.int .i64 0, .int .i64 0, .string ⟨#[]⟩, .slice none 0 0, .slice none 0 0], rfl, rd_zero _ _ _⟩, st5_below HBW.out (by omega) _ _ _ _ _⟩
      · have HLD := Lib.hid (show leadV (q :: r) v = leadV r x by rw [leadV, hst]; rfl)
        obtain ⟨hzx, -⟩ := HDN.out x hst
        have hyx : y = x := by rw [← HY.out, hst]; rfl
        have hca2 := HCA.out
        rw [hyx] at hca2
        obtain ⟨pv', hcut, hpv'⟩ := HCUT.out
        have HCT := Lib.hid hcut
        have HFI := Lib.hid (fun (W : World) (hW : Below w.heap.size w W) => HIH.out x _ pv' W (Nat.le_trans hhi hW.size) (hca2.below hW hhi (Nat.le_refl _)) hzx (hpv'.below hW hW.size) (fun z hz => HPS.out z (by simp [hz])))
        clear hst hzx hyx hca2 hcut hpv'
        go_wp2_with fail
        refine wp_region_held_drew (S := fun W' => W'.heap[E]? = some (.cells #[.int .i64 xk, .int .i64 xn, .string xs, .slice xA xl xc, .slice xB xm xd] 25 (0, 0))) (by kernel_rfl) (HX2.out) (fun hHeld => ?_)
        refine wpAnyH_take (i := 0) (oi := { dst := some 23, op := Op.load 25 (Operand.tmp 6), type := 25, pos := "point.go:99", after := #[], guard := none }) (v := ?_) rfl (by kernel_rfl) (by kernel_rfl) (by kernel_rfl) (fun _ _ _ h => h) (Or.inl ⟨by rfl, ?_⟩) hHeld ?_
        rotate_left
        · intro w hSw; (try dsimp only at hSw); obtain ⟨⟨p0, p1, p2, p3, p4⟩, -⟩ := row5 hSw; go_simp; with_reducible rfl
        try simp only [Act.put, List.setIfInBounds_toArray, List.set_cons_zero, List.set_cons_succ]
        refine wpAnyH_take (i := 1) (oi := { dst := some 24, op := Op.move (Operand.tmp 1), type := 32, pos := "point.go:99", after := #[], guard := none }) (v := ?_) rfl (by kernel_rfl) (by kernel_rfl) (by kernel_rfl) (fun _ _ _ h => h) (Or.inl ⟨by rfl, ?_⟩) hHeld ?_
        rotate_left
        · intro w hSw; (try dsimp only at hSw); go_simp; with_reducible rfl
        try simp only [Act.put, List.setIfInBounds_toArray, List.set_cons_zero, List.set_cons_succ]
        refine wpAnyH_take (i := 2) (oi := { dst := some 25, op := Op.slice 32 (Operand.tmp 24) (some (Operand.const (Value.int IntKind.i64 1))) none none, type := 32, pos := "point.go:99", after := #[{ on := 1, ground := Ground.data }], guard := none }) (v := ?_) rfl (by kernel_rfl) (by kernel_rfl) (by kernel_rfl) (fun _ _ _ h => h) (Or.inl ⟨by rfl, ?_⟩) hHeld ?_
        rotate_left
        · intro w hSw; (try dsimp only at hSw); have hcz := HCT.out; go_simp; with_reducible rfl
        try simp only [Act.put, List.setIfInBounds_toArray, List.set_cons_zero, List.set_cons_succ]
        refine wpAnyH_ready (rs := [3]) (by kernel_rfl) (by simp) ?_
        refine AllReadyH.cons (o := { dst := some 26, op := Op.call { callee := Callee.value (Operand.func 25), args := #[Operand.tmp 23, Operand.tmp 25], argTypes := #[25, 32] }, type := 54, pos := "point.go:99", after := #[{ on := 0, ground := Ground.data }, { on := 2, ground := Ground.data }], guard := none }) rfl (fun K hK => ?_) AllReadyH.nil
        go_simp
        go_at_call 25
        refine (HFI.out _ HBW.out.drew).mono ?_
        rintro e w3 ⟨⟨cb, rfl, hcb⟩, hb3⟩
        have hcb0 := hcb.back HBW.out.drew hhi
        have HCB := Lib.hid hcb0
        obtain ⟨zA, zc, zB, zd, rfl, -⟩ := hcb.cells
        obtain ⟨z, hz⟩ : ∃ z, (leadV r x).getD V0 = z := ⟨_, rfl⟩
        rw [hz] at hcb hcb0 HCB ⊢
        have HZZ := Lib.hid hz
        have HB3 := Lib.hid (show Below w.heap.size w w3 from HBW.out.trans ((Below.drew (Below.refl W2.heap.size W2)).trans hb3 |>.mono HBW.out.size))
        have hr3 := (hb3.block (w.heap.size + 1) (by show w.heap.size + 1 < W2.heap.size; have := HB2.out.size; rw [HS0.out] at this; omega)).trans HR2.out
        have hx3 := (hb3.block E (by show E < W2.heap.size; exact (Array.getElem?_eq_some_iff.1 HX2.out).1)).trans HX2.out
        have HR3 := Lib.hid hr3
        have HX3 := Lib.hid hx3
        clear hcb hcb0 hb3 hr3 hx3 hz
        generalize z.k = zk at *
        generalize z.n = zn at *
        generalize strOf z.s = zs at *
        generalize z.l.length = zl at *
        generalize z.ms.length = zm at *
        refine hK.out _ _ (HX3.out) (fun hHeld => ?_)
        clear hK K
        try simp only [Act.put, List.setIfInBounds_toArray, List.set_cons_zero, List.set_cons_succ]
        refine wpAnyH_take (i := 4) (oi := { dst := some 27, op := Op.extract (Operand.tmp 26) 0, type := 25, pos := "point.go:99", after := #[{ on := 3, ground := Ground.data }], guard := none }) (v := ?_) rfl (by kernel_rfl) (by kernel_rfl) (by kernel_rfl) (fun _ _ _ h => h) (Or.inl ⟨by rfl, ?_⟩) hHeld ?_
        rotate_left
        · intro w hSw; (try dsimp only at hSw); go_simp; with_reducible rfl
        try simp only [Act.put, List.setIfInBounds_toArray, List.set_cons_zero, List.set_cons_succ]
        refine wpAnyH_take (i := 5) (oi := { dst := some 28, op := Op.extract (Operand.tmp 26) 1, type := 4, pos := "point.go:99", after := #[{ on := 3, ground := Ground.data }], guard := none }) (v := ?_) rfl (by kernel_rfl) (by kernel_rfl) (by kernel_rfl) (fun _ _ _ h => h) (Or.inl ⟨by rfl, ?_⟩) hHeld ?_
        rotate_left
        · intro w hSw; (try dsimp only at hSw); go_simp; with_reducible rfl
        try simp only [Act.put, List.setIfInBounds_toArray, List.set_cons_zero, List.set_cons_succ]
        refine wpAnyH_ready (rs := [6]) (by kernel_rfl) (by simp) ?_
        refine AllReadyH.cons (o := { dst := none, op := Op.store 25 (Operand.tmp 4) (Operand.tmp 27), type := 0, pos := "point.go:99", after := #[{ on := 4, ground := Ground.data }, { on := 3, ground := Ground.chain }, { on := 0, ground := Ground.phase }, { on := 1, ground := Ground.phase }, { on := 2, ground := Ground.phase }, { on := 3, ground := Ground.phase }, { on := 4, ground := Ground.phase }, { on := 5, ground := Ground.phase }], guard := none }) rfl (fun K hK => ?_) AllReadyH.nil
        obtain ⟨⟨r0, r1, r2, r3, r4⟩, ⟨f0, f1, f2, f3, f4⟩⟩ := row5 HR3.out
        go_simp
        clear r0 r1 r2 r3 r4 f0 f1 f2 f3 f4
        obtain ⟨W4, hW4⟩ : ∃ W4, W4 = (((((w3.setCell ⟨w.heap.size + 1, 0, none⟩ (.int .i64 zk)).setCell ⟨w.heap.size + 1, 1, none⟩ (.int .i64 zn)).setCell ⟨w.heap.size + 1, 2, none⟩ (.string zs)).setCell ⟨w.heap.size + 1, 3, none⟩ (.slice zA zl zc)).setCell ⟨w.heap.size + 1, 4, none⟩ (.slice zB zm zd)) := ⟨_, rfl⟩
        have HR4 := Lib.hid (show W4.heap[w.heap.size + 1]? = some (.cells #[.int .i64 zk, .int .i64 zn, .string zs, .slice zA zl zc, .slice zB zm zd] 25 (0, 0)) by rw [hW4]; exact st5_row HR3.out _ _ _ _ _)
        have HB4 := Lib.hid (show Below w.heap.size w W4 by rw [hW4]; exact st5_below HB3.out (by omega) _ _ _ _ _)
        have HX4 := Lib.hid (show W4.heap[E]? = some (.cells #[.int .i64 xk, .int .i64 xn, .string xs, .slice xA xl xc, .slice xB xm xd] 25 (0, 0)) by rw [hW4]; exact (st5_other (by have := HE.out; omega) _ _ _ _ _).trans HX3.out)
        rw [← hW4]
        clear hW4
        refine hK.out _ _ (HX4.out) (fun hHeld => ?_)
        clear hK K
        try simp only [Act.put, List.setIfInBounds_toArray, List.set_cons_zero, List.set_cons_succ]
        refine wpAnyH_take (i := 7) (oi := { dst := some 5, op := Op.assign (Operand.tmp 28), type := 4, pos := "point.go:99", after := #[{ on := 5, ground := Ground.data }, { on := 6, ground := Ground.chain }, { on := 0, ground := Ground.phase }, { on := 1, ground := Ground.phase }, { on := 2, ground := Ground.phase }, { on := 3, ground := Ground.phase }, { on := 4, ground := Ground.phase }, { on := 5, ground := Ground.phase }, { on := 6, ground := Ground.phase }], guard := none }) (v := ?_) rfl (by kernel_rfl) (by kernel_rfl) (by kernel_rfl) (fun _ _ _ h => h) (Or.inl ⟨by rfl, ?_⟩) hHeld ?_
        rotate_left
        · intro w hSw; (try dsimp only at hSw); go_simp; with_reducible rfl
        try simp only [Act.put, List.setIfInBounds_toArray, List.set_cons_zero, List.set_cons_succ]
        refine wpAnyH_done (by kernel_rfl) ?_ _
        clear hHeld
        go_wp2
        refine bodyPost_ret (res5b rfl rfl rfl HR4.out) rfl ?_
        rw [HLD.out]
        exact ⟨⟨[.int .i64 zk, .int .i64 zn, .string zs, .slice zA zl zc, .slice zB zm zd], rfl, by rw [HZZ.out]; exact HCB.out⟩, HB4.out⟩
    · go_simp
      refine hK.out _ _ (⟨heapOld hHeld.1 _, (World.cell?_of_block (Below.heap_alloc _ _ _ (lt_of_cell hHeld.2))).trans hHeld.2⟩) (fun hHeld => ?_)
      clear hK K
      try simp only [Act.put, List.setIfInBounds_toArray, List.set_cons_zero, List.set_cons_succ]
      refine wpAnyH_ready (rs := [4]) (by kernel_rfl) (by simp) ?_
      refine AllReadyH.cons (o := { dst := some 17, op := Op.call { callee := Callee.value (Operand.func 40), args := #[Operand.tmp 13, Operand.tmp 16], argTypes := #[25, 9] }, type := 54, pos := "point.go:95", after := #[{ on := 0, ground := Ground.data }, { on := 3, ground := Ground.data }], guard := none }) rfl (fun K hK => ?_) AllReadyH.nil
      go_simp
      go_at_call 40
      refine (HST.out _ (HB0.out.drew.alloc HB0.out.size _)).mono ?_
      rintro e w1 ⟨⟨ca, rfl, hca⟩, hb1⟩
      obtain ⟨y, hy⟩ : ∃ y, (stepV v q).getD V0 = y := ⟨_, rfl⟩
      rw [hy] at hca
      have HY := Lib.hid hy
      have hca0 := hca.back (HB0.out.drew.alloc HB0.out.size _) hhi
      have HCA := Lib.hid hca0
      obtain ⟨xA, xc, xB, xd, rfl, -⟩ := hca.cells
      clear hca hca0 hy
      generalize y.k = xk at *
      generalize y.n = xn at *
      generalize strOf y.s = xs at *
      generalize y.l.length = xl at *
      generalize y.ms.length = xm at *
      have HB1 := Lib.hid (show Below W0.heap.size W0 w1 from ((Below.drew (Below.refl W0.heap.size W0)).alloc (Nat.le_refl _) _).trans (hb1.mono ((Below.drew (Below.refl W0.heap.size W0)).alloc (Nat.le_refl _) _).size))
      have HS1 := Lib.hid (show w1.heap[w.heap.size]? = some (.cells #[.int .i64 k, .int .i64 n, .string S, .slice A0 l c0, .slice A20 m c20] 25 (0, 0)) ∧ w1.cell? ad = some (.string X) from ⟨(HB1.out.block w.heap.size (by rw [HS0.out]; omega)).trans HV0.out, (HB1.out.cell HADL.out).trans HAP.out⟩)
      have hz1 := (hb1.block W0.heap.size (by simp)).trans (heapNew W0 (.cells #[.int .i64 0, .int .i64 0, .string ⟨#[]⟩, .slice none 0 0, .slice none 0 0] 25))
      have HZ := Lib.hid hz1
      clear hb1 hz1
      refine hK.out _ _ (HS1.out) (fun hHeld => ?_)
      clear hK K
      try simp only [Act.put, List.setIfInBounds_toArray, List.set_cons_zero, List.set_cons_succ]
      refine wpAnyH_take (i := 5) (oi := { dst := some 12, op := Op.move (Operand.tmp 17), type := 54, pos := "point.go:95", after := #[{ on := 4, ground := Ground.data }], guard := none }) (v := ?_) rfl (by kernel_rfl) (by kernel_rfl) (by kernel_rfl) (fun _ _ _ h => h) (Or.inl ⟨by rfl, ?_⟩) hHeld ?_
      rotate_left
      · intro w hSw; (try dsimp only at hSw); go_simp; with_reducible rfl
      try simp only [Act.put, List.setIfInBounds_toArray, List.set_cons_zero, List.set_cons_succ]
      refine wpAnyH_take (i := 6) (oi := { dst := some 18, op := Op.extract (Operand.tmp 12) 0, type := 25, pos := "point.go:95", after := #[{ on := 5, ground := Ground.data }], guard := none }) (v := ?_) rfl (by kernel_rfl) (by kernel_rfl) (by kernel_rfl) (fun _ _ _ h => h) (Or.inl ⟨by rfl, ?_⟩) hHeld ?_
      rotate_left
      · intro w hSw; (try dsimp only at hSw); go_simp; with_reducible rfl
      try simp only [Act.put, List.setIfInBounds_toArray, List.set_cons_zero, List.set_cons_succ]
      refine wpAnyH_take (i := 7) (oi := { dst := some 19, op := Op.extract (Operand.tmp 12) 1, type := 4, pos := "point.go:95", after := #[{ on := 5, ground := Ground.data }, { on := 9, ground := Ground.gcOnly Departure.lateStores }], guard := none }) (v := ?_) rfl (by kernel_rfl) (by kernel_rfl) (by kernel_rfl) (fun _ _ _ h => h) (Or.inl ⟨by rfl, ?_⟩) hHeld ?_
      rotate_left
      · intro w hSw; (try dsimp only at hSw); go_simp; with_reducible rfl
      try simp only [Act.put, List.setIfInBounds_toArray, List.set_cons_zero, List.set_cons_succ]
      refine wpAnyH_ready (rs := [9]) (by kernel_rfl) (by simp) ?_
      refine AllReadyH.cons (o := { dst := none, op := Op.store 25 (Operand.tmp 6) (Operand.tmp 18), type := 0, pos := "point.go:95", after := #[{ on := 8, ground := Ground.data }, { on := 6, ground := Ground.data }, { on := 4, ground := Ground.chain }, { on := 0, ground := Ground.phase }, { on := 1, ground := Ground.phase }, { on := 2, ground := Ground.phase }, { on := 3, ground := Ground.phase }, { on := 4, ground := Ground.phase }, { on := 5, ground := Ground.phase }, { on := 6, ground := Ground.phase }, { on := 7, ground := Ground.textOnly Departure.lateStores }, { on := 8, ground := Ground.phase }], guard := none }) rfl (fun K hK => ?_) AllReadyH.nil
      obtain ⟨⟨z0, z1, z2, z3, z4⟩, ⟨y0, y1, y2, y3, y4⟩⟩ := row5 HZ.out
      go_simp
      clear z0 z1 z2 z3 z4 y0 y1 y2 y3 y4
      obtain ⟨W2, hW2⟩ : ∃ W2, W2 = (((((w1.setCell ⟨W0.heap.size, 0, none⟩ (.int .i64 xk)).setCell ⟨W0.heap.size, 1, none⟩ (.int .i64 xn)).setCell ⟨W0.heap.size, 2, none⟩ (.string xs)).setCell ⟨W0.heap.size, 3, none⟩ (.slice xA xl xc)).setCell ⟨W0.heap.size, 4, none⟩ (.slice xB xm xd)) := ⟨_, rfl⟩
      obtain ⟨E, hE⟩ : ∃ E, E = W0.heap.size := ⟨_, rfl⟩
      have HX2 := Lib.hid (show W2.heap[E]? = some (.cells #[.int .i64 xk, .int .i64 xn, .string xs, .slice xA xl xc, .slice xB xm xd] 25 (0, 0)) by rw [hW2, hE]; exact st5_row HZ.out _ _ _ _ _)
      have HB2 := Lib.hid (show Below W0.heap.size W0 W2 by rw [hW2]; exact st5_below HB1.out (Nat.le_refl _) _ _ _ _ _)
      have HE := Lib.hid (show w.heap.size + 2 ≤ E by rw [hE, HS0.out]; exact Nat.le_refl _)
      rw [← hW2, ← hE]
      clear hW2 hE HZ HB1 HS1
      refine hK.out _ _ (⟨(HB2.out.block w.heap.size (by rw [HS0.out]; omega)).trans HV0.out, (HB2.out.cell HADL.out).trans HAP.out⟩) (fun hHeld => ?_)
      clear hK K
      try simp only [Act.put, List.setIfInBounds_toArray, List.set_cons_zero, List.set_cons_succ]
      refine wpAnyH_take (i := 10) (oi := { dst := some 7, op := Op.assign (Operand.tmp 19), type := 4, pos := "point.go:95", after := #[{ on := 7, ground := Ground.data }, { on := 9, ground := Ground.chain }, { on := 0, ground := Ground.phase }, { on := 1, ground := Ground.phase }, { on := 2, ground := Ground.phase }, { on := 3, ground := Ground.phase }, { on := 4, ground := Ground.phase }, { on := 5, ground := Ground.phase }, { on := 6, ground := Ground.phase }, { on := 7, ground := Ground.phase }, { on := 8, ground := Ground.phase }, { on := 9, ground := Ground.phase }], guard := none }) (v := ?_) rfl (by kernel_rfl) (by kernel_rfl) (by kernel_rfl) (fun _ _ _ h => h) (Or.inl ⟨by rfl, ?_⟩) hHeld ?_
      rotate_left
      · intro w hSw; (try dsimp only at hSw); go_simp; with_reducible rfl
      try simp only [Act.put, List.setIfInBounds_toArray, List.set_cons_zero, List.set_cons_succ]
      refine wpAnyH_done (by kernel_rfl) ?_ _
      clear hHeld
      clear HST
      have HR2 := Lib.hid ((HB2.out.block (w.heap.size + 1) (by rw [HS0.out]; omega)).trans HR0.out)
      have HBW := Lib.hid (HB0.out.trans (HB2.out.mono HB0.out.size))
      rcases hst : stepV v q with _ | x
      · have HLD := Lib.hid (show leadV (q :: r) v = none by rw [leadV, hst]; rfl)
        clear hst
        obtain ⟨⟨r0, r1, r2, r3, r4⟩, ⟨f0, f1, f2, f3, f4⟩⟩ := row5 HR2.out
        go_wp2
        refine bodyPost_ret (res5b rfl rfl rfl (st5_row HR2.out (.int .i64 0) (.int .i64 0) (.string ⟨#[]⟩) (.slice none 0 0) (.slice none 0 0))) rfl ?_
        rw [HLD.out]
        exact ⟨⟨[.int .i64 0, .int .i64 0, .string ⟨#[]⟩, .slice none 0 0, .slice none 0 0], rfl, rd_zero _ _ _⟩, st5_below HBW.out (by omega) _ _ _ _ _⟩
      · have HLD := Lib.hid (show leadV (q :: r) v = leadV r x by rw [leadV, hst]; rfl)
        obtain ⟨hzx, -⟩ := HDN.out x hst
        have hyx : y = x := by rw [← HY.out, hst]; rfl
        have hca2 := HCA.out
        rw [hyx] at hca2
        obtain ⟨pv', hcut, hpv'⟩ := HCUT.out
        have HCT := Lib.hid hcut
        have HFI := Lib.hid (fun (W : World) (hW : Below w.heap.size w W) => HIH.out x _ pv' W (Nat.le_trans hhi hW.size) (hca2.below hW hhi (Nat.le_refl _)) hzx (hpv'.below hW hW.size) (fun z hz => HPS.out z (by simp [hz])))
        clear hst hzx hyx hca2 hcut hpv'
        go_wp2_with fail
        refine wp_region_held_drew (S := fun W' => W'.heap[E]? = some (.cells #[.int .i64 xk, .int .i64 xn, .string xs, .slice xA xl xc, .slice xB xm xd] 25 (0, 0))) (by kernel_rfl) (HX2.out) (fun hHeld => ?_)
        refine wpAnyH_take (i := 0) (oi := { dst := some 23, op := Op.load 25 (Operand.tmp 6), type := 25, pos := "point.go:99", after := #[], guard := none }) (v := ?_) rfl (by kernel_rfl) (by kernel_rfl) (by kernel_rfl) (fun _ _ _ h => h) (Or.inl ⟨by rfl, ?_⟩) hHeld ?_
        rotate_left
        · intro w hSw; (try dsimp only at hSw); obtain ⟨⟨p0, p1, p2, p3, p4⟩, -⟩ := row5 hSw; go_simp; with_reducible rfl
        try simp only [Act.put, List.setIfInBounds_toArray, List.set_cons_zero, List.set_cons_succ]
        refine wpAnyH_take (i := 1) (oi := { dst := some 24, op := Op.move (Operand.tmp 1), type := 32, pos := "point.go:99", after := #[], guard := none }) (v := ?_) rfl (by kernel_rfl) (by kernel_rfl) (by kernel_rfl) (fun _ _ _ h => h) (Or.inl ⟨by rfl, ?_⟩) hHeld ?_
        rotate_left
        · intro w hSw; (try dsimp only at hSw); go_simp; with_reducible rfl
        try simp only [Act.put, List.setIfInBounds_toArray, List.set_cons_zero, List.set_cons_succ]
        refine wpAnyH_take (i := 2) (oi := { dst := some 25, op := Op.slice 32 (Operand.tmp 24) (some (Operand.const (Value.int IntKind.i64 1))) none none, type := 32, pos := "point.go:99", after := #[{ on := 1, ground := Ground.data }], guard := none }) (v := ?_) rfl (by kernel_rfl) (by kernel_rfl) (by kernel_rfl) (fun _ _ _ h => h) (Or.inl ⟨by rfl, ?_⟩) hHeld ?_
        rotate_left
        · intro w hSw; (try dsimp only at hSw); have hcz := HCT.out; go_simp; with_reducible rfl
        try simp only [Act.put, List.setIfInBounds_toArray, List.set_cons_zero, List.set_cons_succ]
        refine wpAnyH_ready (rs := [3]) (by kernel_rfl) (by simp) ?_
        refine AllReadyH.cons (o := { dst := some 26, op := Op.call { callee := Callee.value (Operand.func 25), args := #[Operand.tmp 23, Operand.tmp 25], argTypes := #[25, 32] }, type := 54, pos := "point.go:99", after := #[{ on := 0, ground := Ground.data }, { on := 2, ground := Ground.data }], guard := none }) rfl (fun K hK => ?_) AllReadyH.nil
        go_simp
        go_at_call 25
        refine (HFI.out _ HBW.out.drew).mono ?_
        rintro e w3 ⟨⟨cb, rfl, hcb⟩, hb3⟩
        have hcb0 := hcb.back HBW.out.drew hhi
        have HCB := Lib.hid hcb0
        obtain ⟨zA, zc, zB, zd, rfl, -⟩ := hcb.cells
        obtain ⟨z, hz⟩ : ∃ z, (leadV r x).getD V0 = z := ⟨_, rfl⟩
        rw [hz] at hcb hcb0 HCB ⊢
        have HZZ := Lib.hid hz
        have HB3 := Lib.hid (show Below w.heap.size w w3 from HBW.out.trans ((Below.drew (Below.refl W2.heap.size W2)).trans hb3 |>.mono HBW.out.size))
        have hr3 := (hb3.block (w.heap.size + 1) (by show w.heap.size + 1 < W2.heap.size; have := HB2.out.size; rw [HS0.out] at this; omega)).trans HR2.out
        have hx3 := (hb3.block E (by show E < W2.heap.size; exact (Array.getElem?_eq_some_iff.1 HX2.out).1)).trans HX2.out
        have HR3 := Lib.hid hr3
        have HX3 := Lib.hid hx3
        clear hcb hcb0 hb3 hr3 hx3 hz
        generalize z.k = zk at *
        generalize z.n = zn at *
        generalize strOf z.s = zs at *
        generalize z.l.length = zl at *
        generalize z.ms.length = zm at *
        refine hK.out _ _ (HX3.out) (fun hHeld => ?_)
        clear hK K
        try simp only [Act.put, List.setIfInBounds_toArray, List.set_cons_zero, List.set_cons_succ]
        refine wpAnyH_take (i := 4) (oi := { dst := some 27, op := Op.extract (Operand.tmp 26) 0, type := 25, pos := "point.go:99", after := #[{ on := 3, ground := Ground.data }], guard := none }) (v := ?_) rfl (by kernel_rfl) (by kernel_rfl) (by kernel_rfl) (fun _ _ _ h => h) (Or.inl ⟨by rfl, ?_⟩) hHeld ?_
        rotate_left
        · intro w hSw; (try dsimp only at hSw); go_simp; with_reducible rfl
        try simp only [Act.put, List.setIfInBounds_toArray, List.set_cons_zero, List.set_cons_succ]
        refine wpAnyH_take (i := 5) (oi := { dst := some 28, op := Op.extract (Operand.tmp 26) 1, type := 4, pos := "point.go:99", after := #[{ on := 3, ground := Ground.data }], guard := none }) (v := ?_) rfl (by kernel_rfl) (by kernel_rfl) (by kernel_rfl) (fun _ _ _ h => h) (Or.inl ⟨by rfl, ?_⟩) hHeld ?_
        rotate_left
        · intro w hSw; (try dsimp only at hSw); go_simp; with_reducible rfl
        try simp only [Act.put, List.setIfInBounds_toArray, List.set_cons_zero, List.set_cons_succ]
        refine wpAnyH_ready (rs := [6]) (by kernel_rfl) (by simp) ?_
        refine AllReadyH.cons (o := { dst := none, op := Op.store 25 (Operand.tmp 4) (Operand.tmp 27), type := 0, pos := "point.go:99", after := #[{ on := 4, ground := Ground.data }, { on := 3, ground := Ground.chain }, { on := 0, ground := Ground.phase }, { on := 1, ground := Ground.phase }, { on := 2, ground := Ground.phase }, { on := 3, ground := Ground.phase }, { on := 4, ground := Ground.phase }, { on := 5, ground := Ground.phase }], guard := none }) rfl (fun K hK => ?_) AllReadyH.nil
        obtain ⟨⟨r0, r1, r2, r3, r4⟩, ⟨f0, f1, f2, f3, f4⟩⟩ := row5 HR3.out
        go_simp
        clear r0 r1 r2 r3 r4 f0 f1 f2 f3 f4
        obtain ⟨W4, hW4⟩ : ∃ W4, W4 = (((((w3.setCell ⟨w.heap.size + 1, 0, none⟩ (.int .i64 zk)).setCell ⟨w.heap.size + 1, 1, none⟩ (.int .i64 zn)).setCell ⟨w.heap.size + 1, 2, none⟩ (.string zs)).setCell ⟨w.heap.size + 1, 3, none⟩ (.slice zA zl zc)).setCell ⟨w.heap.size + 1, 4, none⟩ (.slice zB zm zd)) := ⟨_, rfl⟩
        have HR4 := Lib.hid (show W4.heap[w.heap.size + 1]? = some (.cells #[.int .i64 zk, .int .i64 zn, .string zs, .slice zA zl zc, .slice zB zm zd] 25 (0, 0)) by rw [hW4]; exact st5_row HR3.out _ _ _ _ _)
        have HB4 := Lib.hid (show Below w.heap.size w W4 by rw [hW4]; exact st5_below HB3.out (by omega) _ _ _ _ _)
        have HX4 := Lib.hid (show W4.heap[E]? = some (.cells #[.int .i64 xk, .int .i64 xn, .string xs, .slice xA xl xc, .slice xB xm xd] 25 (0, 0)) by rw [hW4]; exact (st5_other (by have := HE.out; omega) _ _ _ _ _).trans HX3.out)
        rw [← hW4]
        clear hW4
        refine hK.out _ _ (HX4.out) (fun hHeld => ?_)
        clear hK K
        try simp only [Act.put, List.setIfInBounds_toArray, List.set_cons_zero, List.set_cons_succ]
        refine wpAnyH_take (i := 7) (oi := { dst := some 5, op := Op.assign (Operand.tmp 28), type := 4, pos := "point.go:99", after := #[{ on := 5, ground := Ground.data }, { on := 6, ground := Ground.chain }, { on := 0, ground := Ground.phase }, { on := 1, ground := Ground.phase }, { on := 2, ground := Ground.phase }, { on := 3, ground := Ground.phase }, { on := 4, ground := Ground.phase }, { on := 5, ground := Ground.phase }, { on := 6, ground := Ground.phase }], guard := none }) (v := ?_) rfl (by kernel_rfl) (by kernel_rfl) (by kernel_rfl) (fun _ _ _ h => h) (Or.inl ⟨by rfl, ?_⟩) hHeld ?_
        rotate_left
        · intro w hSw; (try dsimp only at hSw); go_simp; with_reducible rfl
        try simp only [Act.put, List.setIfInBounds_toArray, List.set_cons_zero, List.set_cons_succ]
        refine wpAnyH_done (by kernel_rfl) ?_ _
        clear hHeld
        go_wp2
        refine bodyPost_ret (res5b rfl rfl rfl HR4.out) rfl ?_
        rw [HLD.out]
        exact ⟨⟨[.int .i64 zk, .int .i64 zn, .string zs, .slice zA zl zc, .slice zB zm zd], rfl, by rw [HZZ.out]; exact HCB.out⟩, HB4.out⟩
end Go.Proofs.Ytbfogkcnfnjcaaa.Po
