/- Merged: PaFo PaPa. -/
import Derived.Test.YtbfogkcnfnjcaaaTt29
import Derived.Test.YtbfogkcnfnjcaaaTt34
namespace Go.Proofs.Ytbfogkcnfnjcaaa.Pa
open Go.Proofs Go.RowKit
open Go.Proofs.Ytbfogkcnfnjcaaa.Utf
open Go.Proofs.Ytbfogkcnfnjcaaa.Sc
open Go.Proofs.Ytbfogkcnfnjcaaa.Re
open Go.Proofs.Ytbfogkcnfnjcaaa.Tr
open Go.Proofs.Ytbfogkcnfnjcaaa.Nu
open Go.Proofs.Ytbfogkcnfnjcaaa.Po

theorem getO_down {v x : V} {p : List UInt8} (hn : nmV' v) (h : getO v p = some x) (hz : szA 4611686018427387904 v) : szA 4611686018427387904 x ∧ nmV' x := by
  have hp : p ∈ inN v := (getO_mem h).1
  have hk := inN_6 hp
  exact step_down (p := p) (sz_down 4611686018427387904) hn (by rw [step_6 hk]; exact h) hz
theorem Get_o (hi : Nat) (v : V) (cs : List Value) (nm : List UInt8) (w : World) (hhi : hi ≤ w.heap.size) (hv : RdA w 0 hi v cs) (hz : szA 4611686018427387904 v) :
    Calls Try.prog 37 #[.agg cs.toArray, .string (strOf nm)] w (GivesOV hi (getO v nm) w) := by
  refine (Get_hi hi v cs nm w hhi hv hz).mono ?_
  rintro e w' ⟨⟨cs', rfl, h⟩, hb⟩
  refine ⟨⟨cs', ?_, ?_⟩, hb⟩
  · unfold getO; split
    · rename_i hm; rw [decide_eq_true hm]; rfl
    · rename_i hm; rw [decide_eq_false hm]; rfl
  · unfold getO; split
    · exact h
    · rename_i hm; rw [getV_none (in_len hv) hm] at h; exact h

set_option maxRecDepth 100000 in
set_option maxHeartbeats 1000000 in
theorem follow_any (hi : Nat) : ∀ (ps : List (List UInt8)) (v : V) (cs : List Value) (pv : Value) (w : World), hi ≤ w.heap.size → RdA w 0 hi v cs → szA 4611686018427387904 v → RdS w w.heap.size pv ps → (∀ q ∈ ps, q.length ≤ 9223372036854775807) →
    Calls Try.prog 22 #[.agg cs.toArray, pv] w (GivesOV hi (folV ps v) w) := by
  intro ps
  induction ps with
  | nil =>
    intro v cs pv w hhi hv hz hpv hps
    have HV := Lib.hid hv
    obtain ⟨A0, c0, A20, c20, rfl, -, -, -⟩ := hv.cells
    obtain ⟨Ap, cp, rfl, -, -⟩ := hpv
    clear hv hz hps
    generalize v.k = k at *
    generalize v.n = n at *
    generalize strOf v.s = S at *
    generalize v.l.length = l at *
    generalize v.ms.length = m at *
    obtain ⟨W0, hW0⟩ : ∃ W0, W0 = ((w.alloc (.cells #[.int .i64 k, .int .i64 n, .string S, .slice A0 l c0, .slice A20 m c20] 25)).alloc (.cells #[.int .i64 0, .int .i64 0, .string ⟨#[]⟩, .slice none 0 0, .slice none 0 0] 25)) := ⟨_, rfl⟩
    have HB0 := Lib.hid (show Below w.heap.size w W0 by rw [hW0]; exact ((Below.refl _ _).alloc (Nat.le_refl _) _).alloc (by simp) _)
    have HS0 := Lib.hid (show W0.heap.size = w.heap.size + 2 by rw [hW0, szAl, szAl])
    have hv0 : W0.heap[w.heap.size]? = some (.cells #[.int .i64 k, .int .i64 n, .string S, .slice A0 l c0, .slice A20 m c20] 25 (0, 0)) := by rw [hW0]; exact heapOld (heapNew _ _) _
    have hr0 : W0.heap[w.heap.size + 1]? = some (.cells #[.int .i64 0, .int .i64 0, .string ⟨#[]⟩, .slice none 0 0, .slice none 0 0] 25 (0, 0)) := by
      rw [hW0, show w.heap.size + 1 = (w.alloc (.cells #[.int .i64 k, .int .i64 n, .string S, .slice A0 l c0, .slice A20 m c20] 25)).heap.size by simp]; exact heapNew _ _
    have HR0 := Lib.hid hr0
    have HV0 := Lib.hid hv0
    have HW0 := Lib.hid hW0
    rw [hW0] at hv0 hr0
    obtain ⟨⟨p0, p1, p2, p3, p4⟩, -⟩ := row5 hv0
    obtain ⟨⟨r0, r1, r2, r3, r4⟩, ⟨f0, f1, f2, f3, f4⟩⟩ := row5 hr0
    clear hW0 hv0 hr0
    go_enter Try.func22, Try.ntmps22
    go_wp2
    refine bodyPost_ret (res5b (b := w.heap.size + 1) rfl rfl rfl (by rw [show w.heap.size + 1 = (w.alloc (.cells #[.int .i64 k, .int .i64 n, .string S, .slice A0 l c0, .slice A20 m c20] 25)).heap.size by simp]; exact heapNew _ _)) rfl ?_
    exact ⟨⟨[.int .i64 k, .int .i64 n, .string S, .slice A0 l c0, .slice A20 m c20], rfl, HV.out⟩, ((Below.refl _ _).alloc (Nat.le_refl _) _).alloc (by simp) _⟩
  | cons q r ih =>
    intro v cs pv w hhi hv hz hpv hps
    have HIH := Lib.hid ih
    have HCUT := Lib.hid hpv.cut
    have HPS := Lib.hid hps
    have hnm := nm_of v cs hv
    have HST := Lib.hid (fun (W : World) (hW : Below w.heap.size w W) => Get_o hi v cs q W (Nat.le_trans hhi hW.size) (hv.below hW hhi (Nat.le_refl _)) hz)
    have HDN := Lib.hid (fun x (hx : getO v q = some x) => getO_down hnm hx hz)
    obtain ⟨A0, c0, A20, c20, rfl, -, -, -⟩ := hv.cells
    obtain ⟨Ap, cp, rfl, -, hpc⟩ := hpv
    obtain ⟨ad, rfl, hadb, hpx⟩ := hpc (by simp)
    have hap := hpx 0 _ (strC_at (q :: r) 0 (by simp))
    rw [add_zero_] at hap
    obtain ⟨X, hX⟩ : ∃ X, strOf q = X := ⟨_, rfl⟩
    rw [show (q :: r)[0] = q from rfl, hX] at hap
    rw [hX] at HST
    have HADL0 := Lib.hid hadb
    obtain ⟨nn, hnn⟩ : ∃ nn, (q :: r).length = nn := ⟨_, rfl⟩
    have hn1 : 0 < nn := by rw [← hnn]; simp
    have b1 : (0 : Int) < (nn : Int) := by omega
    have t1 : ((nn : Int) == 0) = false := beq_eq_false_iff_ne.2 (by omega)
    have t2 : decide ((nn : Int) = 0) = false := decide_eq_false (by omega)
    rw [hnn] at HCUT ⊢
    clear hv hz hps ih hnm hpc hpx hX hadb hnn
    generalize v.k = k at *
    generalize v.n = n at *
    generalize strOf v.s = S at *
    generalize v.l.length = l at *
    generalize v.ms.length = m at *
    obtain ⟨W0, hW0⟩ : ∃ W0, W0 = ((w.alloc (.cells #[.int .i64 k, .int .i64 n, .string S, .slice A0 l c0, .slice A20 m c20] 25)).alloc (.cells #[.int .i64 0, .int .i64 0, .string ⟨#[]⟩, .slice none 0 0, .slice none 0 0] 25)) := ⟨_, rfl⟩
    have HB0 := Lib.hid (show Below w.heap.size w W0 by rw [hW0]; exact ((Below.refl _ _).alloc (Nat.le_refl _) _).alloc (by simp) _)
    have HS0 := Lib.hid (show W0.heap.size = w.heap.size + 2 by rw [hW0, szAl, szAl])
    have hv0 : W0.heap[w.heap.size]? = some (.cells #[.int .i64 k, .int .i64 n, .string S, .slice A0 l c0, .slice A20 m c20] 25 (0, 0)) := by rw [hW0]; exact heapOld (heapNew _ _) _
    have hr0 : W0.heap[w.heap.size + 1]? = some (.cells #[.int .i64 0, .int .i64 0, .string ⟨#[]⟩, .slice none 0 0, .slice none 0 0] 25 (0, 0)) := by
      rw [hW0, show w.heap.size + 1 = (w.alloc (.cells #[.int .i64 k, .int .i64 n, .string S, .slice A0 l c0, .slice A20 m c20] 25)).heap.size by simp]; exact heapNew _ _
    have HR0 := Lib.hid hr0
    have HV0 := Lib.hid hv0
    have HW0 := Lib.hid hW0
    have HAP := Lib.hid (show W0.cell? ad = some (.string X) from (HB0.out.cell HADL0.out).trans hap)
    have HADL := Lib.hid (show ad.block < W0.heap.size by have := HADL0.out; rw [HS0.out]; omega)
    rw [hW0] at hv0 hr0
    clear hW0 hv0 hr0 hap
    go_enter Try.func22, Try.ntmps22
    go_wp2_with fail
    rw [← HW0.out]
    refine wp_region_held_drew (S := fun W' => W'.heap[w.heap.size]? = some (.cells #[.int .i64 k, .int .i64 n, .string S, .slice A0 l c0, .slice A20 m c20] 25 (0, 0)) ∧ W'.cell? ad = some (.string X)) (by kernel_rfl) (⟨HV0.out, HAP.out⟩) (fun hHeld => ?_)
    refine wpAnyH_take (i := 0) (oi := { dst := some 13, op := Op.load 25 (Operand.tmp 2), type := 25, pos := "patch.go:80", after := #[], guard := none }) (v := ?_) rfl (by kernel_rfl) (by kernel_rfl) (by kernel_rfl) (fun _ _ _ h => h) (Or.inl ⟨by rfl, ?_⟩) hHeld ?_
    rotate_left
    · intro w hSw; (try dsimp only at hSw); obtain ⟨⟨p0, p1, p2, p3, p4⟩, -⟩ := row5 hSw.1; go_simp; with_reducible rfl
    try simp only [Act.put, List.setIfInBounds_toArray, List.set_cons_zero, List.set_cons_succ]
    refine wpAnyH_take (i := 1) (oi := { dst := some 14, op := Op.move (Operand.tmp 1), type := 32, pos := "patch.go:80", after := #[], guard := none }) (v := ?_) rfl (by kernel_rfl) (by kernel_rfl) (by kernel_rfl) (fun _ _ _ h => h) (Or.inl ⟨by rfl, ?_⟩) hHeld ?_
    rotate_left
    · intro w hSw; (try dsimp only at hSw); go_simp; with_reducible rfl
    try simp only [Act.put, List.setIfInBounds_toArray, List.set_cons_zero, List.set_cons_succ]
    refine wpAnyH_take (i := 2) (oi := { dst := some 15, op := Op.indexAddr 32 (Operand.tmp 14) (Operand.const (Value.int IntKind.i64 0)), type := 0, pos := "patch.go:80", after := #[{ on := 1, ground := Ground.data }], guard := none }) (v := ?_) rfl (by kernel_rfl) (by kernel_rfl) (by kernel_rfl) (fun _ _ _ h => h) (Or.inl ⟨by rfl, ?_⟩) hHeld ?_
    rotate_left
    · intro w hSw; (try dsimp only at hSw); go_simp; with_reducible rfl
    try simp only [Act.put, List.setIfInBounds_toArray, List.set_cons_zero, List.set_cons_succ]
    refine wpAnyH_take (i := 3) (oi := { dst := some 16, op := Op.load 9 (Operand.tmp 15), type := 9, pos := "patch.go:80", after := #[{ on := 2, ground := Ground.data }], guard := none }) (v := ?_) rfl (by kernel_rfl) (by kernel_rfl) (by kernel_rfl) (fun _ _ _ h => h) (Or.inl ⟨by rfl, ?_⟩) hHeld ?_
    rotate_left
    · intro w hSw; (try dsimp only at hSw); have hx := hSw.2; go_simp; with_reducible rfl
    try simp only [Act.put, List.setIfInBounds_toArray, List.set_cons_zero, List.set_cons_succ]
    refine wpAnyH_ready (rs := [4, 8]) (by kernel_rfl) (by simp) ?_
    refine AllReadyH.cons (o := { dst := some 17, op := Op.call { callee := Callee.value (Operand.func 37), args := #[Operand.tmp 13, Operand.tmp 16], argTypes := #[25, 9] }, type := 54, pos := "patch.go:80", after := #[{ on := 0, ground := Ground.data }, { on := 3, ground := Ground.data }], guard := none }) rfl (fun K hK => ?_) (AllReadyH.cons (o := { dst := some 6, op := Op.alloc 25, type := 0, pos := "patch.go:80", after := #[], guard := none }) rfl (fun K hK => ?_) AllReadyH.nil)
    · go_simp
      go_at_call 37
      refine (HST.out _ (HB0.out.drew)).mono ?_
      rintro e w1 ⟨⟨ca, rfl, hca⟩, hb1⟩
      obtain ⟨y, hy⟩ : ∃ y, (getO v q).getD V0 = y := ⟨_, rfl⟩
      rw [hy] at hca
      have HY := Lib.hid hy
      have hca0 := hca.back (HB0.out.drew) hhi
      have HCA := Lib.hid hca0
      obtain ⟨xA, xc, xB, xd, rfl, -⟩ := hca.cells
      clear hca hca0 hy
      generalize y.k = xk at *
      generalize y.n = xn at *
      generalize strOf y.s = xs at *
      generalize y.l.length = xl at *
      generalize y.ms.length = xm at *
      have HB1 := Lib.hid (show Below W0.heap.size W0 w1 from (Below.drew (Below.refl W0.heap.size W0)).trans (hb1.mono (Below.drew (Below.refl W0.heap.size W0)).size))
      have HS1 := Lib.hid (show w1.heap[w.heap.size]? = some (.cells #[.int .i64 k, .int .i64 n, .string S, .slice A0 l c0, .slice A20 m c20] 25 (0, 0)) ∧ w1.cell? ad = some (.string X) from ⟨(HB1.out.block w.heap.size (by rw [HS0.out]; omega)).trans HV0.out, (HB1.out.cell HADL.out).trans HAP.out⟩)
      clear hb1
      refine hK.out _ _ (HS1.out) (fun hHeld => ?_)
      clear hK K
      try simp only [Act.put, List.setIfInBounds_toArray, List.set_cons_zero, List.set_cons_succ]
      refine wpAnyH_take (i := 5) (oi := { dst := some 12, op := Op.move (Operand.tmp 17), type := 54, pos := "patch.go:80", after := #[{ on := 4, ground := Ground.data }], guard := none }) (v := ?_) rfl (by kernel_rfl) (by kernel_rfl) (by kernel_rfl) (fun _ _ _ h => h) (Or.inl ⟨by rfl, ?_⟩) hHeld ?_
      rotate_left
      · intro w hSw; (try dsimp only at hSw); go_simp; with_reducible rfl
      try simp only [Act.put, List.setIfInBounds_toArray, List.set_cons_zero, List.set_cons_succ]
      refine wpAnyH_take (i := 6) (oi := { dst := some 18, op := Op.extract (Operand.tmp 12) 0, type := 25, pos := "patch.go:80", after := #[{ on := 5, ground := Ground.data }], guard := none }) (v := ?_) rfl (by kernel_rfl) (by kernel_rfl) (by kernel_rfl) (fun _ _ _ h => h) (Or.inl ⟨by rfl, ?_⟩) hHeld ?_
      rotate_left
      · intro w hSw; (try dsimp only at hSw); go_simp; with_reducible rfl
      try simp only [Act.put, List.setIfInBounds_toArray, List.set_cons_zero, List.set_cons_succ]
      refine wpAnyH_take (i := 7) (oi := { dst := some 19, op := Op.extract (Operand.tmp 12) 1, type := 4, pos := "patch.go:80", after := #[{ on := 5, ground := Ground.data }, { on := 9, ground := Ground.gcOnly Departure.lateStores }], guard := none }) (v := ?_) rfl (by kernel_rfl) (by kernel_rfl) (by kernel_rfl) (fun _ _ _ h => h) (Or.inl ⟨by rfl, ?_⟩) hHeld ?_
      rotate_left
      · intro w hSw; (try dsimp only at hSw); go_simp; with_reducible rfl
      try simp only [Act.put, List.setIfInBounds_toArray, List.set_cons_zero, List.set_cons_succ]
      refine wpAnyH_ready (rs := [8]) (by kernel_rfl) (by simp) ?_
      refine AllReadyH.cons (o := { dst := some 6, op := Op.alloc 25, type := 0, pos := "patch.go:80", after := #[], guard := none }) rfl (fun K hK => ?_) AllReadyH.nil
      have HZ := Lib.hid (heapNew w1 (.cells #[.int .i64 0, .int .i64 0, .string ⟨#[]⟩, .slice none 0 0, .slice none 0 0] 25))
      go_simp
      refine hK.out _ _ (⟨heapOld hHeld.1 _, (World.cell?_of_block (Below.heap_alloc _ _ _ (lt_of_cell hHeld.2))).trans hHeld.2⟩) (fun hHeld => ?_)
      clear hK K
      try simp only [Act.put, List.setIfInBounds_toArray, List.set_cons_zero, List.set_cons_succ]
      refine wpAnyH_ready (rs := [9]) (by kernel_rfl) (by simp) ?_
      refine AllReadyH.cons (o := { dst := none, op := Op.store 25 (Operand.tmp 6) (Operand.tmp 18), type := 0, pos := "patch.go:80", after := #[{ on := 8, ground := Ground.data }, { on := 6, ground := Ground.data }, { on := 4, ground := Ground.chain }, { on := 0, ground := Ground.phase }, { on := 1, ground := Ground.phase }, { on := 2, ground := Ground.phase }, { on := 3, ground := Ground.phase }, { on := 4, ground := Ground.phase }, { on := 5, ground := Ground.phase }, { on := 6, ground := Ground.phase }, { on := 7, ground := Ground.textOnly Departure.lateStores }, { on := 8, ground := Ground.phase }], guard := none }) rfl (fun K hK => ?_) AllReadyH.nil
      obtain ⟨⟨z0, z1, z2, z3, z4⟩, ⟨y0, y1, y2, y3, y4⟩⟩ := row5 HZ.out
      go_simp
      clear z0 z1 z2 z3 z4 y0 y1 y2 y3 y4
      refine hK.out _ _ (⟨heapOld HS1.out.1 _, (World.cell?_of_block (Below.heap_alloc _ _ _ (lt_of_cell HS1.out.2))).trans HS1.out.2⟩) (fun hHeld => ?_)
      clear hK K
      try simp only [Act.put, List.setIfInBounds_toArray, List.set_cons_zero, List.set_cons_succ]
      refine wpAnyH_take (i := 10) (oi := { dst := some 7, op := Op.assign (Operand.tmp 19), type := 4, pos := "patch.go:80", after := #[{ on := 7, ground := Ground.data }, { on := 9, ground := Ground.chain }, { on := 0, ground := Ground.phase }, { on := 1, ground := Ground.phase }, { on := 2, ground := Ground.phase }, { on := 3, ground := Ground.phase }, { on := 4, ground := Ground.phase }, { on := 5, ground := Ground.phase }, { on := 6, ground := Ground.phase }, { on := 7, ground := Ground.phase }, { on := 8, ground := Ground.phase }, { on := 9, ground := Ground.phase }], guard := none }) (v := ?_) rfl (by kernel_rfl) (by kernel_rfl) (by kernel_rfl) (fun _ _ _ h => h) (Or.inl ⟨by rfl, ?_⟩) hHeld ?_
      rotate_left
      · intro w hSw; (try dsimp only at hSw); go_simp; with_reducible rfl
      try simp only [Act.put, List.setIfInBounds_toArray, List.set_cons_zero, List.set_cons_succ]
      refine wpAnyH_done (by kernel_rfl) ?_ _
      clear hHeld
      obtain ⟨W2, hW2⟩ : ∃ W2, W2 = w1.alloc (.cells #[.int .i64 xk, .int .i64 xn, .string xs, .slice xA xl xc, .slice xB xm xd] 25) := ⟨_, rfl⟩
      obtain ⟨E, hE⟩ : ∃ E, E = w1.heap.size := ⟨_, rfl⟩
      have HX2 := Lib.hid (show W2.heap[E]? = some (.cells #[.int .i64 xk, .int .i64 xn, .string xs, .slice xA xl xc, .slice xB xm xd] 25 (0, 0)) by rw [hW2, hE]; exact heapNew _ _)
      have HB2 := Lib.hid (show Below W0.heap.size W0 W2 by rw [hW2]; exact HB1.out.alloc HB1.out.size _)
      have HE := Lib.hid (show w.heap.size + 2 ≤ E by have := HB1.out.size; rw [HS0.out] at this; omega)
      rw [← hW2, ← hE]
      clear hW2 hE HZ HB1 HS1
      clear HST
      have HR2 := Lib.hid ((HB2.out.block (w.heap.size + 1) (by rw [HS0.out]; omega)).trans HR0.out)
      have HBW := Lib.hid (HB0.out.trans (HB2.out.mono HB0.out.size))
      rcases hst : getO v q with _ | x
      · have HLD := Lib.hid (show folV (q :: r) v = none by rw [folV, hst]; rfl)
        clear hst
        obtain ⟨⟨r0, r1, r2, r3, r4⟩, ⟨f0, f1, f2, f3, f4⟩⟩ := row5 HR2.out
        go_wp2
        refine bodyPost_ret (res5b rfl rfl rfl (st5_row HR2.out (.int .i64 0) (.int .i64 0) (.string ⟨#[]⟩) (.slice none 0 0) (.slice none 0 0))) rfl ?_
        rw [HLD.out]
        exact ⟨⟨[.int .i64 0, .int .i64 0, .string ⟨#[]⟩, .slice none 0 0, .slice none 0 0], rfl, rd_zero _ _ _⟩, st5_below HBW.out (by omega) _ _ _ _ _⟩
      · have HLD := Lib.hid (show folV (q :: r) v = folV r x by rw [folV, hst]; rfl)
        obtain ⟨hzx, -⟩ := HDN.out x hst
        have hyx : y = x := by rw [← HY.out, hst]; rfl
        have hca2 := HCA.out
        rw [hyx] at hca2
        obtain ⟨pv', hcut, hpv'⟩ := HCUT.out
        have HCT := Lib.hid hcut
        have HFI := Lib.hid (fun (W : World) (hW : Below w.heap.size w W) => HIH.out x _ pv' W (Nat.le_trans hhi hW.size) (hca2.below hW hhi (Nat.le_refl _)) hzx (hpv'.below hW hW.size) (fun z hz => HPS.out z (by simp [hz])))
        clear hst hzx hyx hca2 hcut hpv'
        go_wp2_with fail
        refine wp_region_held_drew (S := fun W' => W'.heap[E]? = some (.cells #[.int .i64 xk, .int .i64 xn, .string xs, .slice xA xl xc, .slice xB xm xd] 25 (0, 0))) (by kernel_rfl) (HX2.out) (fun hHeld => ?_)
        refine wpAnyH_take (i := 0) (oi := { dst := some 23, op := Op.load 25 (Operand.tmp 6), type := 25, pos := "patch.go:84", after := #[], guard := none }) (v := ?_) rfl (by kernel_rfl) (by kernel_rfl) (by kernel_rfl) (fun _ _ _ h => h) (Or.inl ⟨by rfl, ?_⟩) hHeld ?_
        rotate_left
        · intro w hSw; (try dsimp only at hSw); obtain ⟨⟨p0, p1, p2, p3, p4⟩, -⟩ := row5 hSw; go_simp; with_reducible rfl
        try simp only [Act.put, List.setIfInBounds_toArray, List.set_cons_zero, List.set_cons_succ]
        refine wpAnyH_take (i := 1) (oi := { dst := some 24, op := Op.move (Operand.tmp 1), type := 32, pos := "patch.go:84", after := #[], guard := none }) (v := ?_) rfl (by kernel_rfl) (by kernel_rfl) (by kernel_rfl) (fun _ _ _ h => h) (Or.inl ⟨by rfl, ?_⟩) hHeld ?_
        rotate_left
        · intro w hSw; (try dsimp only at hSw); go_simp; with_reducible rfl
        try simp only [Act.put, List.setIfInBounds_toArray, List.set_cons_zero, List.set_cons_succ]
        refine wpAnyH_take (i := 2) (oi := { dst := some 25, op := Op.slice 32 (Operand.tmp 24) (some (Operand.const (Value.int IntKind.i64 1))) none none, type := 32, pos := "patch.go:84", after := #[{ on := 1, ground := Ground.data }], guard := none }) (v := ?_) rfl (by kernel_rfl) (by kernel_rfl) (by kernel_rfl) (fun _ _ _ h => h) (Or.inl ⟨by rfl, ?_⟩) hHeld ?_
        rotate_left
        · intro w hSw; (try dsimp only at hSw); have hcz := HCT.out; go_simp; with_reducible rfl
        try simp only [Act.put, List.setIfInBounds_toArray, List.set_cons_zero, List.set_cons_succ]
        refine wpAnyH_ready (rs := [3]) (by kernel_rfl) (by simp) ?_
        refine AllReadyH.cons (o := { dst := some 26, op := Op.call { callee := Callee.value (Operand.func 22), args := #[Operand.tmp 23, Operand.tmp 25], argTypes := #[25, 32] }, type := 54, pos := "patch.go:84", after := #[{ on := 0, ground := Ground.data }, { on := 2, ground := Ground.data }], guard := none }) rfl (fun K hK => ?_) AllReadyH.nil
        go_simp
        go_at_call 22
        refine (HFI.out _ HBW.out.drew).mono ?_
        rintro e w3 ⟨⟨cb, rfl, hcb⟩, hb3⟩
        have hcb0 := hcb.back HBW.out.drew hhi
        have HCB := Lib.hid hcb0
        obtain ⟨zA, zc, zB, zd, rfl, -⟩ := hcb.cells
        obtain ⟨z, hz⟩ : ∃ z, (folV r x).getD V0 = z := ⟨_, rfl⟩
        rw [hz] at hcb hcb0 HCB ⊢
        have HZZ := Lib.hid hz
        have HB3 := Lib.hid (show Below w.heap.size w w3 from HBW.out.trans ((Below.drew (Below.refl W2.heap.size W2)).trans hb3 |>.mono HBW.out.size))
        have hr3 := (hb3.block (w.heap.size + 1) (by show w.heap.size + 1 < W2.heap.size; have := HB2.out.size; rw [HS0.out] at this; omega)).trans HR2.out
        have hx3 := (hb3.block E (by show E < W2.heap.size; exact (Array.getElem?_eq_some_iff.1 HX2.out).1)).trans HX2.out
        have HR3 := Lib.hid hr3
        have HX3 := Lib.hid hx3
        clear hcb hcb0 hb3 hr3 hx3 hz
        generalize z.k = zk at *
        generalize z.n = zn at *
        generalize strOf z.s = zs at *
        generalize z.l.length = zl at *
        generalize z.ms.length = zm at *
        refine hK.out _ _ (HX3.out) (fun hHeld => ?_)
        clear hK K
        try simp only [Act.put, List.setIfInBounds_toArray, List.set_cons_zero, List.set_cons_succ]
        refine wpAnyH_take (i := 4) (oi := { dst := some 27, op := Op.extract (Operand.tmp 26) 0, type := 25, pos := "patch.go:84", after := #[{ on := 3, ground := Ground.data }], guard := none }) (v := ?_) rfl (by kernel_rfl) (by kernel_rfl) (by kernel_rfl) (fun _ _ _ h => h) (Or.inl ⟨by rfl, ?_⟩) hHeld ?_
        rotate_left
        · intro w hSw; (try dsimp only at hSw); go_simp; with_reducible rfl
        try simp only [Act.put, List.setIfInBounds_toArray, List.set_cons_zero, List.set_cons_succ]
        refine wpAnyH_take (i := 5) (oi := { dst := some 28, op := Op.extract (Operand.tmp 26) 1, type := 4, pos := "patch.go:84", after := #[{ on := 3, ground := Ground.data }], guard := none }) (v := ?_) rfl (by kernel_rfl) (by kernel_rfl) (by kernel_rfl) (fun _ _ _ h => h) (Or.inl ⟨by rfl, ?_⟩) hHeld ?_
        rotate_left
        · intro w hSw; (try dsimp only at hSw); go_simp; with_reducible rfl
        try simp only [Act.put, List.setIfInBounds_toArray, List.set_cons_zero, List.set_cons_succ]
        refine wpAnyH_ready (rs := [6]) (by kernel_rfl) (by simp) ?_
        refine AllReadyH.cons (o := { dst := none, op := Op.store 25 (Operand.tmp 4) (Operand.tmp 27), type := 0, pos := "patch.go:84", after := #[{ on := 4, ground := Ground.data }, { on := 3, ground := Ground.chain }, { on := 0, ground := Ground.phase }, { on := 1, ground := Ground.phase }, { on := 2, ground := Ground.phase }, { on := 3, ground := Ground.phase }, { on := 4, ground := Ground.phase }, { on := 5, ground := Ground.phase }], guard := none }) rfl (fun K hK => ?_) AllReadyH.nil
        obtain ⟨⟨r0, r1, r2, r3, r4⟩, ⟨f0, f1, f2, f3, f4⟩⟩ := row5 HR3.out
        go_simp
        clear r0 r1 r2 r3 r4 f0 f1 f2 f3 f4
        obtain ⟨W4, hW4⟩ : ∃ W4, W4 = (((((w3.setCell ⟨w.heap.size + 1, 0, none⟩ (.int .i64 zk)).setCell ⟨w.heap.size + 1, 1, none⟩ (.int .i64 zn)).setCell ⟨w.heap.size + 1, 2, none⟩ (.string zs)).setCell ⟨w.heap.size + 1, 3, none⟩ (.slice zA zl zc)).setCell ⟨w.heap.size + 1, 4, none⟩ (.slice zB zm zd)) := ⟨_, rfl⟩
        have HR4 := Lib.hid (show W4.heap[w.heap.size + 1]? = some (.cells #[.int .i64 zk, .int .i64 zn, .string zs, .slice zA zl zc, .slice zB zm zd] 25 (0, 0)) by rw [hW4]; exact st5_row HR3.out _ _ _ _ _)
        have HB4 := Lib.hid (show Below w.heap.size w W4 by rw [hW4]; exact st5_below HB3.out (by omega) _ _ _ _ _)
        have HX4 := Lib.hid (show W4.heap[E]? = some (.cells #[.int .i64 xk, .int .i64 xn, .string xs, .slice xA xl xc, .slice xB xm xd] 25 (0, 0)) by rw [hW4]; exact (st5_other (by have := HE.out; omega) _ _ _ _ _).trans HX3.out)
        rw [← hW4]
        clear hW4
        refine hK.out _ _ (HX4.out) (fun hHeld => ?_)
        clear hK K
        try simp only [Act.put, List.setIfInBounds_toArray, List.set_cons_zero, List.set_cons_succ]
        refine wpAnyH_take (i := 7) (oi := { dst := some 5, op := Op.assign (Operand.tmp 28), type := 4, pos := "patch.go:84", after := #[{ on := 5, ground := Ground.data }, { on := 6, ground := Ground.chain }, { on := 0, ground := Ground.phase }, { on := 1, ground := Ground.phase }, { on := 2, ground := Ground.phase }, { on := 3, ground := Ground.phase }, { on := 4, ground := Ground.phase }, { on := 5, ground := Ground.phase }, { on := 6, ground := Ground.phase }], guard := none }) (v := ?_) rfl (by kernel_rfl) (by kernel_rfl) (by kernel_rfl) (fun _ _ _ h => h) (Or.inl ⟨by rfl, ?_⟩) hHeld ?_
        rotate_left
        · intro w hSw; (try dsimp only at hSw); go_simp; with_reducible rfl
        try simp only [Act.put, List.setIfInBounds_toArray, List.set_cons_zero, List.set_cons_succ]
        refine wpAnyH_done (by kernel_rfl) ?_ _
        clear hHeld
        go_wp2
        refine bodyPost_ret (res5b rfl rfl rfl HR4.out) rfl ?_
        rw [HLD.out]
        exact ⟨⟨[.int .i64 zk, .int .i64 zn, .string zs, .slice zA zl zc, .slice zB zm zd], rfl, by rw [HZZ.out]; exact HCB.out⟩, HB4.out⟩
    · go_simp
      refine hK.out _ _ (⟨heapOld hHeld.1 _, (World.cell?_of_block (Below.heap_alloc _ _ _ (lt_of_cell hHeld.2))).trans hHeld.2⟩) (fun hHeld => ?_)
      clear hK K
      try simp only [Act.put, List.setIfInBounds_toArray, List.set_cons_zero, List.set_cons_succ]
      refine wpAnyH_ready (rs := [4]) (by kernel_rfl) (by simp) ?_
      refine AllReadyH.cons (o := { dst := some 17, op := Op.call { callee := Callee.value (Operand.func 37), args := #[Operand.tmp 13, Operand.tmp 16], argTypes := #[25, 9] }, type := 54, pos := "patch.go:80", after := #[{ on := 0, ground := Ground.data }, { on := 3, ground := Ground.data }], guard := none }) rfl (fun K hK => ?_) AllReadyH.nil
      go_simp
      go_at_call 37
      refine (HST.out _ (HB0.out.drew.alloc HB0.out.size _)).mono ?_
      rintro e w1 ⟨⟨ca, rfl, hca⟩, hb1⟩
      obtain ⟨y, hy⟩ : ∃ y, (getO v q).getD V0 = y := ⟨_, rfl⟩
      rw [hy] at hca
      have HY := Lib.hid hy
      have hca0 := hca.back (HB0.out.drew.alloc HB0.out.size _) hhi
      have HCA := Lib.hid hca0
      obtain ⟨xA, xc, xB, xd, rfl, -⟩ := hca.cells
      clear hca hca0 hy
      generalize y.k = xk at *
      generalize y.n = xn at *
      generalize strOf y.s = xs at *
      generalize y.l.length = xl at *
      generalize y.ms.length = xm at *
      have HB1 := Lib.hid (show Below W0.heap.size W0 w1 from ((Below.drew (Below.refl W0.heap.size W0)).alloc (Nat.le_refl _) _).trans (hb1.mono ((Below.drew (Below.refl W0.heap.size W0)).alloc (Nat.le_refl _) _).size))
      have HS1 := Lib.hid (show w1.heap[w.heap.size]? = some (.cells #[.int .i64 k, .int .i64 n, .string S, .slice A0 l c0, .slice A20 m c20] 25 (0, 0)) ∧ w1.cell? ad = some (.string X) from ⟨(HB1.out.block w.heap.size (by rw [HS0.out]; omega)).trans HV0.out, (HB1.out.cell HADL.out).trans HAP.out⟩)
      have hz1 := (hb1.block W0.heap.size (by simp)).trans (heapNew W0 (.cells #[.int .i64 0, .int .i64 0, .string ⟨#[]⟩, .slice none 0 0, .slice none 0 0] 25))
      have HZ := Lib.hid hz1
      clear hb1 hz1
      refine hK.out _ _ (HS1.out) (fun hHeld => ?_)
      clear hK K
      try simp only [Act.put, List.setIfInBounds_toArray, List.set_cons_zero, List.set_cons_succ]
      refine wpAnyH_take (i := 5) (oi := { dst := some 12, op := Op.move (Operand.tmp 17), type := 54, pos := "patch.go:80", after := #[{ on := 4, ground := Ground.data }], guard := none }) (v := ?_) rfl (by kernel_rfl) (by kernel_rfl) (by kernel_rfl) (fun _ _ _ h => h) (Or.inl ⟨by rfl, ?_⟩) hHeld ?_
      rotate_left
      · intro w hSw; (try dsimp only at hSw); go_simp; with_reducible rfl
      try simp only [Act.put, List.setIfInBounds_toArray, List.set_cons_zero, List.set_cons_succ]
      refine wpAnyH_take (i := 6) (oi := { dst := some 18, op := Op.extract (Operand.tmp 12) 0, type := 25, pos := "patch.go:80", after := #[{ on := 5, ground := Ground.data }], guard := none }) (v := ?_) rfl (by kernel_rfl) (by kernel_rfl) (by kernel_rfl) (fun _ _ _ h => h) (Or.inl ⟨by rfl, ?_⟩) hHeld ?_
      rotate_left
      · intro w hSw; (try dsimp only at hSw); go_simp; with_reducible rfl
      try simp only [Act.put, List.setIfInBounds_toArray, List.set_cons_zero, List.set_cons_succ]
      refine wpAnyH_take (i := 7) (oi := { dst := some 19, op := Op.extract (Operand.tmp 12) 1, type := 4, pos := "patch.go:80", after := #[{ on := 5, ground := Ground.data }, { on := 9, ground := Ground.gcOnly Departure.lateStores }], guard := none }) (v := ?_) rfl (by kernel_rfl) (by kernel_rfl) (by kernel_rfl) (fun _ _ _ h => h) (Or.inl ⟨by rfl, ?_⟩) hHeld ?_
      rotate_left
      · intro w hSw; (try dsimp only at hSw); go_simp; with_reducible rfl
      try simp only [Act.put, List.setIfInBounds_toArray, List.set_cons_zero, List.set_cons_succ]
      refine wpAnyH_ready (rs := [9]) (by kernel_rfl) (by simp) ?_
      refine AllReadyH.cons (o := { dst := none, op := Op.store 25 (Operand.tmp 6) (Operand.tmp 18), type := 0, pos := "patch.go:80", after := #[{ on := 8, ground := Ground.data }, { on := 6, ground := Ground.data }, { on := 4, ground := Ground.chain }, { on := 0, ground := Ground.phase }, { on := 1, ground := Ground.phase }, { on := 2, ground := Ground.phase }, { on := 3, ground := Ground.phase }, { on := 4, ground := Ground.phase }, { on := 5, ground := Ground.phase }, { on := 6, ground := Ground.phase }, { on := 7, ground := Ground.textOnly Departure.lateStores }, { on := 8, ground := Ground.phase }], guard := none }) rfl (fun K hK => ?_) AllReadyH.nil
      obtain ⟨⟨z0, z1, z2, z3, z4⟩, ⟨y0, y1, y2, y3, y4⟩⟩ := row5 HZ.out
      go_simp
      clear z0 z1 z2 z3 z4 y0 y1 y2 y3 y4
      obtain ⟨W2, hW2⟩ : ∃ W2, W2 = (((((w1.setCell ⟨W0.heap.size, 0, none⟩ (.int .i64 xk)).setCell ⟨W0.heap.size, 1, none⟩ (.int .i64 xn)).setCell ⟨W0.heap.size, 2, none⟩ (.string xs)).setCell ⟨W0.heap.size, 3, none⟩ (.slice xA xl xc)).setCell ⟨W0.heap.size, 4, none⟩ (.slice xB xm xd)) := ⟨_, rfl⟩
      obtain ⟨E, hE⟩ : ∃ E, E = W0.heap.size := ⟨_, rfl⟩
      have HX2 := Lib.hid (show W2.heap[E]? = some (.cells #[.int .i64 xk, .int .i64 xn, .string xs, .slice xA xl xc, .slice xB xm xd] 25 (0, 0)) by rw [hW2, hE]; exact st5_row HZ.out _ _ _ _ _)
      have HB2 := Lib.hid (show Below W0.heap.size W0 W2 by rw [hW2]; exact st5_below HB1.out (Nat.le_refl _) _ _ _ _ _)
      have HE := Lib.hid (show w.heap.size + 2 ≤ E by rw [hE, HS0.out]; exact Nat.le_refl _)
      rw [← hW2, ← hE]
      clear hW2 hE HZ HB1 HS1
      refine hK.out _ _ (⟨(HB2.out.block w.heap.size (by rw [HS0.out]; omega)).trans HV0.out, (HB2.out.cell HADL.out).trans HAP.out⟩) (fun hHeld => ?_)
      clear hK K
      try simp only [Act.put, List.setIfInBounds_toArray, List.set_cons_zero, List.set_cons_succ]
      refine wpAnyH_take (i := 10) (oi := { dst := some 7, op := Op.assign (Operand.tmp 19), type := 4, pos := "patch.go:80", after := #[{ on := 7, ground := Ground.data }, { on := 9, ground := Ground.chain }, { on := 0, ground := Ground.phase }, { on := 1, ground := Ground.phase }, { on := 2, ground := Ground.phase }, { on := 3, ground := Ground.phase }, { on := 4, ground := Ground.phase }, { on := 5, ground := Ground.phase }, { on := 6, ground := Ground.phase }, { on := 7, ground := Ground.phase }, { on := 8, ground := Ground.phase }, { on := 9, ground := Ground.phase }], guard := none }) (v := ?_) rfl (by kernel_rfl) (by kernel_rfl) (by kernel_rfl) (fun _ _ _ h => h) (Or.inl ⟨by rfl, ?_⟩) hHeld ?_
      rotate_left
      · intro w hSw; (try dsimp only at hSw); go_simp; with_reducible rfl
      try simp only [Act.put, List.setIfInBounds_toArray, List.set_cons_zero, List.set_cons_succ]
      refine wpAnyH_done (by kernel_rfl) ?_ _
      clear hHeld
      clear HST
      have HR2 := Lib.hid ((HB2.out.block (w.heap.size + 1) (by rw [HS0.out]; omega)).trans HR0.out)
      have HBW := Lib.hid (HB0.out.trans (HB2.out.mono HB0.out.size))
      rcases hst : getO v q with _ | x
      · have HLD := Lib.hid (show folV (q :: r) v = none by rw [folV, hst]; rfl)
        clear hst
        obtain ⟨⟨r0, r1, r2, r3, r4⟩, ⟨f0, f1, f2, f3, f4⟩⟩ := row5 HR2.out
        go_wp2
        refine bodyPost_ret (res5b rfl rfl rfl (st5_row HR2.out (.int .i64 0) (.int .i64 0) (.string ⟨#[]⟩) (.slice none 0 0) (.slice none 0 0))) rfl ?_
        rw [HLD.out]
        exact ⟨⟨[.int .i64 0, .int .i64 0, .string ⟨#[]⟩, .slice none 0 0, .slice none 0 0], rfl, rd_zero _ _ _⟩, st5_below HBW.out (by omega) _ _ _ _ _⟩
      · have HLD := Lib.hid (show folV (q :: r) v = folV r x by rw [folV, hst]; rfl)
        obtain ⟨hzx, -⟩ := HDN.out x hst
        have hyx : y = x := by rw [← HY.out, hst]; rfl
        have hca2 := HCA.out
        rw [hyx] at hca2
        obtain ⟨pv', hcut, hpv'⟩ := HCUT.out
        have HCT := Lib.hid hcut
        have HFI := Lib.hid (fun (W : World) (hW : Below w.heap.size w W) => HIH.out x _ pv' W (Nat.le_trans hhi hW.size) (hca2.below hW hhi (Nat.le_refl _)) hzx (hpv'.below hW hW.size) (fun z hz => HPS.out z (by simp [hz])))
        clear hst hzx hyx hca2 hcut hpv'
        go_wp2_with fail
        refine wp_region_held_drew (S := fun W' => W'.heap[E]? = some (.cells #[.int .i64 xk, .int .i64 xn, .string xs, .slice xA xl xc, .slice xB xm xd] 25 (0, 0))) (by kernel_rfl) (HX2.out) (fun hHeld => ?_)
        refine wpAnyH_take (i := 0) (oi := { dst := some 23, op := Op.load 25 (Operand.tmp 6), type := 25, pos := "patch.go:84", after := #[], guard := none }) (v := ?_) rfl (by kernel_rfl) (by kernel_rfl) (by kernel_rfl) (fun _ _ _ h => h) (Or.inl ⟨by rfl, ?_⟩) hHeld ?_
        rotate_left
        · intro w hSw; (try dsimp only at hSw); obtain ⟨⟨p0, p1, p2, p3, p4⟩, -⟩ := row5 hSw; go_simp; with_reducible rfl
        try simp only [Act.put, List.setIfInBounds_toArray, List.set_cons_zero, List.set_cons_succ]
        refine wpAnyH_take (i := 1) (oi := { dst := some 24, op := Op.move (Operand.tmp 1), type := 32, pos := "patch.go:84", after := #[], guard := none }) (v := ?_) rfl (by kernel_rfl) (by kernel_rfl) (by kernel_rfl) (fun _ _ _ h => h) (Or.inl ⟨by rfl, ?_⟩) hHeld ?_
        rotate_left
        · intro w hSw; (try dsimp only at hSw); go_simp; with_reducible rfl
        try simp only [Act.put, List.setIfInBounds_toArray, List.set_cons_zero, List.set_cons_succ]
        refine wpAnyH_take (i := 2) (oi := { dst := some 25, op := Op.slice 32 (Operand.tmp 24) (some (Operand.const (Value.int IntKind.i64 1))) none none, type := 32, pos := "patch.go:84", after := #[{ on := 1, ground := Ground.data }], guard := none }) (v := ?_) rfl (by kernel_rfl) (by kernel_rfl) (by kernel_rfl) (fun _ _ _ h => h) (Or.inl ⟨by rfl, ?_⟩) hHeld ?_
        rotate_left
        · intro w hSw; (try dsimp only at hSw); have hcz := HCT.out; go_simp; with_reducible rfl
        try simp only [Act.put, List.setIfInBounds_toArray, List.set_cons_zero, List.set_cons_succ]
        refine wpAnyH_ready (rs := [3]) (by kernel_rfl) (by simp) ?_
        refine AllReadyH.cons (o := { dst := some 26, op := Op.call { callee := Callee.value (Operand.func 22), args := #[Operand.tmp 23, Operand.tmp 25], argTypes := #[25, 32] }, type := 54, pos := "patch.go:84", after := #[{ on := 0, ground := Ground.data }, { on := 2, ground := Ground.data }], guard := none }) rfl (fun K hK => ?_) AllReadyH.nil
        go_simp
        go_at_call 22
        refine (HFI.out _ HBW.out.drew).mono ?_
        rintro e w3 ⟨⟨cb, rfl, hcb⟩, hb3⟩
        have hcb0 := hcb.back HBW.out.drew hhi
        have HCB := Lib.hid hcb0
        obtain ⟨zA, zc, zB, zd, rfl, -⟩ := hcb.cells
        obtain ⟨z, hz⟩ : ∃ z, (folV r x).getD V0 = z := ⟨_, rfl⟩
        rw [hz] at hcb hcb0 HCB ⊢
        have HZZ := Lib.hid hz
        have HB3 := Lib.hid (show Below w.heap.size w w3 from HBW.out.trans ((Below.drew (Below.refl W2.heap.size W2)).trans hb3 |>.mono HBW.out.size))
        have hr3 := (hb3.block (w.heap.size + 1) (by show w.heap.size + 1 < W2.heap.size; have := HB2.out.size; rw [HS0.out] at this; omega)).trans HR2.out
        have hx3 := (hb3.block E (by show E < W2.heap.size; exact (Array.getElem?_eq_some_iff.1 HX2.out).1)).trans HX2.out
        have HR3 := Lib.hid hr3
        have HX3 := Lib.hid hx3
        clear hcb hcb0 hb3 hr3 hx3 hz
        generalize z.k = zk at *
        generalize z.n = zn at *
        generalize strOf z.s = zs at *
        generalize z.l.length = zl at *
        generalize z.ms.length = zm at *
        refine hK.out _ _ (HX3.out) (fun hHeld => ?_)
        clear hK K
        try simp only [Act.put, List.setIfInBounds_toArray, List.set_cons_zero, List.set_cons_succ]
        refine wpAnyH_take (i := 4) (oi := { dst := some 27, op := Op.extract (Operand.tmp 26) 0, type := 25, pos := "patch.go:84", after := #[{ on := 3, ground := Ground.data }], guard := none }) (v := ?_) rfl (by kernel_rfl) (by kernel_rfl) (by kernel_rfl) (fun _ _ _ h => h) (Or.inl ⟨by rfl, ?_⟩) hHeld ?_
        rotate_left
        · intro w hSw; (try dsimp only at hSw); go_simp; with_reducible rfl
        try simp only [Act.put, List.setIfInBounds_toArray, List.set_cons_zero, List.set_cons_succ]
        refine wpAnyH_take (i := 5) (oi := { dst := some 28, op := Op.extract (Operand.tmp 26) 1, type := 4, pos := "patch.go:84", after := #[{ on := 3, ground := Ground.data }], guard := none }) (v := ?_) rfl (by kernel_rfl) (by kernel_rfl) (by kernel_rfl) (fun _ _ _ h => h) (Or.inl ⟨by rfl, ?_⟩) hHeld ?_
        rotate_left
        · intro w hSw; (try dsimp only at hSw); go_simp; with_reducible rfl
        try simp only [Act.put, List.setIfInBounds_toArray, List.set_cons_zero, List.set_cons_succ]
        refine wpAnyH_ready (rs := [6]) (by kernel_rfl) (by simp) ?_
        refine AllReadyH.cons (o := { dst := none, op := Op.store 25 (Operand.tmp 4) (Operand.tmp 27), type := 0, pos := "patch.go:84", after := #[{ on := 4, ground := Ground.data }, { on := 3, ground := Ground.chain }, { on := 0, ground := Ground.phase }, { on := 1, ground := Ground.phase }, { on := 2, ground := Ground.phase }, { on := 3, ground := Ground.phase }, { on := 4, ground := Ground.phase }, { on := 5, ground := Ground.phase }], guard := none }) rfl (fun K hK => ?_) AllReadyH.nil
        obtain ⟨⟨r0, r1, r2, r3, r4⟩, ⟨f0, f1, f2, f3, f4⟩⟩ := row5 HR3.out
        go_simp
        clear r0 r1 r2 r3 r4 f0 f1 f2 f3 f4
        obtain ⟨W4, hW4⟩ : ∃ W4, W4 = (((((w3.setCell ⟨w.heap.size + 1, 0, none⟩ (.int .i64 zk)).setCell ⟨w.heap.size + 1, 1, none⟩ (.int .i64 zn)).setCell ⟨w.heap.size + 1, 2, none⟩ (.string zs)).setCell ⟨w.heap.size + 1, 3, none⟩ (.slice zA zl zc)).setCell ⟨w.heap.size + 1, 4, none⟩ (.slice zB zm zd)) := ⟨_, rfl⟩
        have HR4 := Lib.hid (show W4.heap[w.heap.size + 1]? = some (.cells #[.int .i64 zk, .int .i64 zn, .string zs, .slice zA zl zc, .slice zB zm zd] 25 (0, 0)) by rw [hW4]; exact st5_row HR3.out _ _ _ _ _)
        have HB4 := Lib.hid (show Below w.heap.size w W4 by rw [hW4]; exact st5_below HB3.out (by omega) _ _ _ _ _)
        have HX4 := Lib.hid (show W4.heap[E]? = some (.cells #[.int .i64 xk, .int .i64 xn, .string xs, .slice xA xl xc, .slice xB xm xd] 25 (0, 0)) by rw [hW4]; exact (st5_other (by have := HE.out; omega) _ _ _ _ _).trans HX3.out)
        rw [← hW4]
        clear hW4
        refine hK.out _ _ (HX4.out) (fun hHeld => ?_)
        clear hK K
        try simp only [Act.put, List.setIfInBounds_toArray, List.set_cons_zero, List.set_cons_succ]
        refine wpAnyH_take (i := 7) (oi := { dst := some 5, op := Op.assign (Operand.tmp 28), type := 4, pos := "patch.go:84", after := #[{ on := 5, ground := Ground.data }, { on := 6, ground := Ground.chain }, { on := 0, ground := Ground.phase }, { on := 1, ground := Ground.phase }, { on := 2, ground := Ground.phase }, { on := 3, ground := Ground.phase }, { on := 4, ground := Ground.phase }, { on := 5, ground := Ground.phase }, { on := 6, ground := Ground.phase }], guard := none }) (v := ?_) rfl (by kernel_rfl) (by kernel_rfl) (by kernel_rfl) (fun _ _ _ h => h) (Or.inl ⟨by rfl, ?_⟩) hHeld ?_
        rotate_left
        · intro w hSw; (try dsimp only at hSw); go_simp; with_reducible rfl
        try simp only [Act.put, List.setIfInBounds_toArray, List.set_cons_zero, List.set_cons_succ]
        refine wpAnyH_done (by kernel_rfl) ?_ _
        clear hHeld
        go_wp2
        refine bodyPost_ret (res5b rfl rfl rfl HR4.out) rfl ?_
        rw [HLD.out]
        exact ⟨⟨[.int .i64 zk, .int .i64 zn, .string zs, .slice zA zl zc, .slice zB zm zd], rfl, by rw [HZZ.out]; exact HCB.out⟩, HB4.out⟩
end Go.Proofs.Ytbfogkcnfnjcaaa.Pa
namespace Go.Proofs.Ytbfogkcnfnjcaaa.Pa
open Go.Proofs Go.RowKit Go.Lib
open Go.Proofs.Ytbfogkcnfnjcaaa.Utf
open Go.Proofs.Ytbfogkcnfnjcaaa.Sc
open Go.Proofs.Ytbfogkcnfnjcaaa.Re
open Go.Proofs.Ytbfogkcnfnjcaaa.Tr
open Go.Proofs.Ytbfogkcnfnjcaaa.Po

theorem infoStrs : (Try.prog.info? 32).map (fun i => (i.zero, i.size, i.bytes)) = some (some (.slice none 0 0), 1, 24) := by kernel_rfl
def pth (nm : List UInt8) : List (List UInt8) := (prts (47 :: nm)).getD []
def fitP (v p : V) : Prop := v.k = 6 ∧ p.k = 6 ∧ p.ms.length ≤ 400 ∧ (∀ nm ∈ p.ns, ∃ ps, prts (47 :: nm) = some ps ∧ okP ps v) ∧ p.ns.Pairwise apN
theorem slash_app (l : List UInt8) : (⟨#[47]⟩ : ByteArray) ++ strOf l = strOf (47 :: l) := by
  apply ByteArray.ext
  rw [ByteArray.data_append]
  simp [strOf]
def RdP (w : World) (B : Nat) (val : Value) (L : List (List (List UInt8))) : Prop :=
  ∃ xs : List Value, w.ownsRow B 32 1 val L.length xs ∧ ∀ i (h1 : i < xs.length) (h2 : i < L.length), w.ownsRow B 9 1 xs[i] L[i].length (strC L[i])
def GivesPaths (v p : V) (w : World) (e : Ending) (w' : World) : Prop :=
  (∃ (val : Value) (b : Bool), e = .returned (.tuple #[val, .bool b]) ∧ (b = true ↔ fitP v p) ∧ (b = true → RdP w' w.heap.size val (p.ns.map pth))) ∧ Below w.heap.size w w'
theorem ok_fol : ∀ {ps : List (List UInt8)} {v : V}, ps ≠ [] → (okP ps v ↔ ∃ h, folV ps.dropLast v = some h ∧ h.k = 6)
  | [], _, h => absurd rfl h
  | [p], v, _ => by
    rw [show [p].dropLast = [] from rfl, folV]
    exact ⟨fun h => ⟨v, rfl, h⟩, fun ⟨h, e, hk⟩ => by injection e with e; subst e; exact hk⟩
  | p :: q :: r, v, _ => by
    rw [show (p :: q :: r).dropLast = p :: (q :: r).dropLast from rfl, folV, okP_cons (by simp)]
    constructor
    · rintro ⟨y, h1, h2⟩
      obtain ⟨h, h3, h4⟩ := (ok_fol (by simp)).1 h2
      exact ⟨h, by rw [h1]; exact h3, h4⟩
    · rintro ⟨h, h1, h2⟩
      obtain ⟨y, h3, h4⟩ := Option.bind_eq_some_iff.1 h1
      exact ⟨y, h3, (ok_fol (by simp)).2 ⟨h, h4, h2⟩⟩
theorem pgo_ne : ∀ (l : List UInt8) (b : Bool) (part : List UInt8) (ps : List (List UInt8)), pgo b part l = some ps → ps ≠ []
  | [], false, part, ps, h => by rw [pgo_f_nil] at h; injection h with h; subst h; simp
  | [], true, part, ps, h => by rw [pgo_t_nil] at h; cases h
  | c :: r, true, part, ps, h => by
    rw [pgo_t_cons] at h
    split at h
    · exact pgo_ne r _ _ _ h
    · split at h
      · exact pgo_ne r _ _ _ h
      · cases h
  | c :: r, false, part, ps, h => by
    rw [pgo_f_cons] at h
    split at h
    · exact pgo_ne r _ _ _ h
    · split at h
      · obtain ⟨q, _, rfl⟩ := Option.map_eq_some_iff.1 h
        simp
      · exact pgo_ne r _ _ _ h
theorem prts_ne {nm : List UInt8} {ps : List (List UInt8)} (h : prts (47 :: nm) = some ps) : ps ≠ [] := by
  rw [prts, if_pos rfl] at h
  exact pgo_ne _ _ _ _ h
theorem _root_.Go.Proofs.Ytbfogkcnfnjcaaa.Po.RdS.init {B : Nat} {w : World} {v : Value} {ps : List (List UInt8)} (h : RdS w B v ps) (hn : ps.length - 1 < 9223372036854775807) :
    ∃ v', (∀ W, (Instr.sliceAt 32 v none (some (.int .i64 ((ps.length : Int) - 1))) none).run Try.prog W = .ok v' W ∨ ps = []) ∧ RdS w B v' ps.dropLast := by
  obtain ⟨A, c, rfl, hlc, hc⟩ := h
  have hu : Try.prog.underlying 32 = some (.slice (Try.prog.elem 32)) := by kernel_rfl
  have hz : ∀ W, (sizeOf (Try.prog.elem 32)).run Try.prog W = .ok 1 W := fun W => by kernel_rfl
  by_cases h0 : ps = []
  · subst h0
    exact ⟨.slice none 0 0, fun _ => .inr rfl, RdS.nil _ _⟩
  · have hp : 0 < ps.length := List.length_pos_iff.2 h0
    refine ⟨sliced A 0 (ps.length - 1) c 1, fun W => .inl ?_, ?_⟩
    · have e : ((ps.length : Int) - 1) = ((ps.length - 1 : Nat) : Int) := by clear hc; omega
      rw [e, run_sliceAt_slice W _ _ _ _ _ hu, run_slice_h W _ _ _ _ hu .i64 ((ps.length - 1 : Nat) : Int) (by omega) (by omega), hz]
      rfl
    · have hcp : 0 < c := by omega
      refine ⟨A.map fun a => a.add 0, c, by unfold sliced; rw [List.length_dropLast, Nat.sub_zero, Nat.sub_zero, Nat.zero_mul, if_neg (by omega)], by rw [List.length_dropLast]; omega, fun h1 => ?_⟩
      obtain ⟨ad, rfl, hb, hx⟩ := hc hp
      refine ⟨ad.add 0, rfl, by rw [blk_add]; exact hb, fun j u hu => ?_⟩
      rw [Go.Deep.add_add, Nat.zero_add]
      refine hx j u ?_
      unfold strC at hu ⊢
      rw [List.getElem?_map] at hu ⊢
      rw [List.getElem?_dropLast] at hu
      split at hu
      · exact hu
      · cases hu
def PI (B : Nat) (v : V) (d : List M6) (k : Nat) (xs : List Value) (w : World) : Prop :=
  ∀ i (h1 : i < xs.length) (h2 : i < d.length), i < k → ∃ ps, prts (47 :: d[i].nm) = some ps ∧ okP ps v ∧ w.ownsRow B 9 1 xs[i] ps.length (strC ps)
theorem PI.below {B : Nat} {v : V} {d : List M6} {k : Nat} {xs : List Value} {w w' : World} (h : PI B v d k xs w) (hb : Below w.heap.size w w') : PI B v d k xs w' := fun i h1 h2 h3 => by
  obtain ⟨ps, e1, e2, e3⟩ := h i h1 h2 h3
  exact ⟨ps, e1, e2, own_below e3 hb⟩
theorem PI.next {B : Nat} {v : V} {d : List M6} {k base n : Nat} {xs : List Value} {w w' : World} {a x : Value} {ps : List (List UInt8)} (h : PI B v d k xs w) (hl : xs.length = k) (ha : w.ownsRow base 32 1 a n xs) (hg : w.grownBy w' a.ownBlock) (hk : k < d.length) (e1 : prts (47 :: d[k].nm) = some ps) (e2 : okP ps v) (e3 : w.ownsRow B 9 1 x ps.length (strC ps)) : PI B v d (k + 1) (xs ++ [x]) w' := fun i h1 h2 h3 => by
  have keep : ∀ {y : Value} {qs : List (List UInt8)}, w.ownsRow B 9 1 y qs.length (strC qs) → w'.ownsRow B 9 1 y qs.length (strC qs) := fun hy => hy.kept hg (own_apart hy ha (by decide))
  by_cases e : i < k
  · obtain ⟨qs, f1, f2, f3⟩ := h i (by omega) h2 e
    refine ⟨qs, f1, f2, ?_⟩
    rw [List.getElem_append_left (by omega)]
    exact keep f3
  · obtain rfl : i = k := by omega
    refine ⟨ps, e1, e2, ?_⟩
    rw [List.getElem_append_right (by omega)]
    simp only [hl, Nat.sub_self, List.getElem_cons_zero]
    exact keep e3

set_option maxRecDepth 100000 in
set_option maxHeartbeats 1000000 in
theorem paths_any (v p : V) (cv cp : List Value) (w : World) (hv : RdA w 0 w.heap.size v cv) (hp : RdA w 0 w.heap.size p cp) (zv : szA 4611686018427387904 v) (zp : ∀ nm ∈ p.ns, nm.length ≤ 4398046511000) (zl : p.ms.length ≤ 10000000) :
    Calls Try.prog 21 #[.agg cv.toArray, .agg cp.toArray] w (GivesPaths v p w) := by
  obtain ⟨i0, hi, hz0, hz1, hz2⟩ := info_parts infoStrs
  have I0 := Lib.hid hi
  have I1 := Lib.hid hz0
  have I2 := Lib.hid hz1
  have I3 := Lib.hid hz2
  clear hi hz0 hz1 hz2
  have hfit : fitP v p ↔ v.k = 6 ∧ p.k = 6 ∧ p.ms.length ≤ 400 ∧ (∀ nm ∈ p.ns, ∃ ps, prts (47 :: nm) = some ps ∧ okP ps v) ∧ p.ns.Pairwise apN := Iff.rfl
  have HFO0 := Lib.hid (fun (ps : List (List UInt8)) (W : World) (pv : Value) (hb : Below w.heap.size w W) (hr : RdS W W.heap.size pv ps) (hps : ∀ q ∈ ps, q.length ≤ 9223372036854775807) => follow_any w.heap.size ps v cv pv W hb.size (hv.below hb (Nat.le_refl _) (Nat.le_refl _)) zv hr hps)
  obtain ⟨A0, c0, A20, c20, rfl, -⟩ := hv.cells
  obtain ⟨B0, e0, B20, e20, rfl, hnl, -, hpm⟩ := hp.cells
  have hcap := (hp.caps rfl).2
  obtain ⟨d, hd⟩ := mems_of hnl hpm
  have HD := Lib.hid (show RawM w w.heap.size B20 d from fun h => by
    obtain ⟨g, o, e, _, g2, hr⟩ := hd.2.2.1 h
    exact ⟨g, o, e, g2, hr⟩)
  have HNS := Lib.hid hd.2.1
  have HDL := Lib.hid hd.1
  have HZP := Lib.hid (show ∀ i (h : i < d.length), d[i].nm.length ≤ 4398046511000 from fun i h => zp _ (by rw [← hd.2.1]; exact List.mem_map.2 ⟨_, List.getElem_mem h, rfl⟩))
  have HMEM := Lib.hid (show ∀ i (h : i < d.length), d[i].nm ∈ p.ns from fun i h => by rw [← hd.2.1]; exact List.mem_map.2 ⟨_, List.getElem_mem h, rfl⟩)
  clear hv hp zv zp hpm hd
  obtain ⟨vk, hvk⟩ : ∃ x, v.k = x := ⟨_, rfl⟩
  obtain ⟨pk, hpk⟩ : ∃ x, p.k = x := ⟨_, rfl⟩
  obtain ⟨len, hln⟩ : ∃ x, p.ms.length = x := ⟨_, rfl⟩
  rw [hvk] at HFO0 hfit ⊢
  rw [hpk, hln] at hfit
  rw [hpk, hln]
  rw [hln] at HDL zl hcap
  have HCAP := Lib.hid hcap
  clear hcap
  have HNL := Lib.hid (hnl.trans hln)
  clear hvk hpk hln hnl
  have HFIT := Lib.hid hfit
  clear hfit
  generalize v.n = vn at *
  generalize strOf v.s = VS at *
  generalize v.l.length = vl at *
  generalize v.ms.length = vm at *
  generalize p.n = pn at *
  generalize strOf p.s = PS at *
  generalize p.l.length = pl at *
  obtain ⟨W0, hW0⟩ : ∃ W0, W0 = ((w.alloc (.cells #[.int .i64 vk, .int .i64 vn, .string VS, .slice A0 vl c0, .slice A20 vm c20] 25)).alloc (.cells #[.int .i64 pk, .int .i64 pn, .string PS, .slice B0 pl e0, .slice B20 len e20] 25)) := ⟨_, rfl⟩
  have HB0 := Lib.hid (show Below w.heap.size w W0 by rw [hW0]; exact ((Below.refl _ _).alloc (Nat.le_refl _) _).alloc (by simp) _)
  have HS0 := Lib.hid (show W0.heap.size = w.heap.size + 2 by rw [hW0, szAl, szAl])
  have hv0 : W0.heap[w.heap.size]? = some (.cells #[.int .i64 vk, .int .i64 vn, .string VS, .slice A0 vl c0, .slice A20 vm c20] 25 (0, 0)) := by rw [hW0]; exact heapOld (heapNew _ _) _
  have hp0 : W0.heap[w.heap.size + 1]? = some (.cells #[.int .i64 pk, .int .i64 pn, .string PS, .slice B0 pl e0, .slice B20 len e20] 25 (0, 0)) := by
    rw [hW0, show w.heap.size + 1 = (w.alloc (.cells #[.int .i64 vk, .int .i64 vn, .string VS, .slice A0 vl c0, .slice A20 vm c20] 25)).heap.size by simp]; exact heapNew _ _
  have HV0 := Lib.hid hv0
  have HP0 := Lib.hid hp0
  have HW0 := Lib.hid hW0
  rw [hW0] at hv0 hp0
  obtain ⟨⟨p0, p1, p2, p3, p4⟩, -⟩ := row5 hv0
  obtain ⟨⟨r0, r1, r2, r3, r4⟩, -⟩ := row5 hp0
  clear hW0 hv0 hp0
  by_cases h6 : vk = 6
  rotate_left
  · have t1 : (vk != 6) = true := by rw [bne_iff_ne]; exact h6
    have t1b : (vk == 6) = false := beq_eq_false_iff_ne.2 h6
    have HF := Lib.hid (show ¬ fitP v p from fun h => h6 (HFIT.out.1 h).1)
    go_enter Try.func21, Try.ntmps21
    go_wp2
    rw [← HW0.out]
    go_ret2
    exact ⟨⟨_, false, rfl, by simpa using HF.out, fun h => by cases h⟩, HB0.out⟩
  by_cases h7 : pk = 6
  rotate_left
  · have t1 : (vk != 6) = false := by rw [bne_eq_false_iff_eq]; exact h6
    have t1b : (vk == 6) = true := beq_iff_eq.2 h6
    have t2 : (pk != 6) = true := by rw [bne_iff_ne]; exact h7
    have t2b : (pk == 6) = false := beq_eq_false_iff_ne.2 h7
    have HF := Lib.hid (show ¬ fitP v p from fun h => h7 (HFIT.out.1 h).2.1)
    clear h6
    go_enter Try.func21, Try.ntmps21
    go_wp2
    rw [← HW0.out]
    go_ret2
    exact ⟨⟨_, false, rfl, by simpa using HF.out, fun h => by cases h⟩, HB0.out⟩
  subst h6
  subst h7
  by_cases h4 : 400 < len
  · have t3 : decide (400 < (len : Int)) = true := decide_eq_true (by omega)
    have t3b : decide ((len : Int) > 400) = true := decide_eq_true (by omega)
    have HF := Lib.hid (show ¬ fitP v p from fun h => by have := (HFIT.out.1 h).2.2.1; omega)
    go_enter Try.func21, Try.ntmps21
    go_wp2
    rw [← HW0.out]
    go_ret2
    exact ⟨⟨_, false, rfl, by simpa using HF.out, fun h => by cases h⟩, HB0.out⟩
  have t3 : decide (400 < (len : Int)) = false := decide_eq_false (by omega)
  have t3b : decide ((len : Int) > 400) = false := decide_eq_false (by omega)
  have H4 := Lib.hid (show len ≤ 400 by omega)
  clear h4 zl
  go_enter Try.func21, Try.ntmps21
  go_wp2_with fail
  rw [← HW0.out]
  clear p0 p1 p2 p3 p4 r0 r1 r2 r3 r4 t3 t3b
  go_loopw [6, 30] (fun a si wr => ∃ (k : Nat) (xs : List Value), si = .int .i64 k ∧ k ≤ len ∧ Aside (wr.ownsRow W0.heap.size 32 1 a k xs) ∧ Aside (Below W0.heap.size W0 wr) ∧ Aside (PI w.heap.size v d k xs wr)) (fun _ si _ => len - (intOf si).toNat)
  case atStart => exact ⟨0, [], rfl, by omega, (show World.ownsRow _ _ _ _ _ _ _ from World.ownsRow_nil _ _ _ _), (show Below _ _ _ from Below.refl _ _), (show PI w.heap.size v d 0 [] W0 from fun i h1 => by simp at h1)⟩
  case round =>
    obtain ⟨k, xs, rfl, hk, hown, hbel, hpi⟩ := hrel
    have HOW := Lib.hid hown.out
    have HPI := Lib.hid hpi.out
    have HBL := Lib.hid hbel.out
    have HBW := Lib.hid (show Below w.heap.size w wr from HB0.out.trans (hbel.out.mono HB0.out.size))
    clear hown hpi hbel
    have h400 := H4.out
    by_cases hlt : k < len
    · have t1 : decide ((k : Int) < (len : Int)) = true := decide_eq_true (by omega)
      have t2 : decide (k < len) = true := decide_eq_true hlt
      have k0 : (0 : Int) ≤ (k : Int) := by omega
      have k1 : (k : Int) < (len : Int) := by omega
      have k2 : ((k : Int)).toNat = k := by omega
      have hkl : k < d.length := by rw [HDL.out]; exact hlt
      have HKL := Lib.hid hkl
      have HLT := Lib.hid hlt
      obtain ⟨b, off, rfl, hb, hcl⟩ := HD.out (by omega)
      have hx := (hcl k hkl).keep (W' := wr) (fun j => HBW.out.cell (p := ⟨b, j, none⟩) hb)
      have hzp := HZP.out k hkl
      have hmm := HMEM.out k hkl
      obtain ⟨x, hxe⟩ : ∃ x, d[k]'hkl = x := ⟨_, rfl⟩
      have HXE := Lib.hid hxe
      rw [hxe] at hx hzp hmm
      clear hxe hcl hb
      obtain ⟨xx, xk, xn, xs', xA, xl, xc, xB, xm, xd⟩ := x
      simp only [M6At] at hx hzp hmm
      obtain ⟨a0, a1, a2, a3, a4, a5⟩ := hx
      have HPA := Lib.hid (fun (W : World) => Parts_any (strOf (47 :: xx)) (by rw [strOf_size, List.length_cons]; omega) W)
      rw [strOf_data] at HPA
      have HZQ := Lib.hid (show ∀ ps, prts (47 :: xx) = some ps → ps.length ≤ 4398046511001 ∧ ∀ q ∈ ps, q.length ≤ 4398046511001 from fun ps h => ⟨by have := (prts_len h).1; rw [List.length_cons] at this; omega, fun q hq => by have := prts_each h q hq; rw [List.length_cons] at this; omega⟩)
      have HMM := Lib.hid hmm
      obtain ⟨X, hX⟩ : ∃ X, strOf xx = X := ⟨_, rfl⟩
      obtain ⟨PX, hPX⟩ : ∃ PX, strOf (47 :: xx) = PX := ⟨_, rfl⟩
      have hadd : ∀ W : World, (Op.stringOp .add ⟨#[47]⟩ X).run Try.prog W = .ok (.string PX) W := fun W => by
        rw [← hPX, ← slash_app, hX]
        exact run_string_add_sum W _ _ (by show 1 + X.size ≤ 9223372036854775807; rw [← hX, strOf_size]; omega)
      rw [hX] at a0
      rw [hPX] at HPA
      clear hX hPX hmm hzp
      obtain ⟨W2, hW2⟩ : ∃ W2, W2 = wr.alloc (.cells #[.string X, .int .i64 xk, .int .i64 xn, .string xs', .slice xA xl xc, .slice xB xm xd] 36) := ⟨_, rfl⟩
      have HW2 := Lib.hid hW2
      have HB2 := Lib.hid (show Below wr.heap.size wr W2 by rw [hW2]; exact (Below.refl _ _).alloc (Nat.le_refl _) _)
      clear hW2
      go_wp2_with fail
      rw [← HW2.out]
      refine (HPA.out _).mono ?_
      rintro e w4 ⟨hres, hb4⟩
      have HB4 := Lib.hid (show Below wr.heap.size wr w4 from HB2.out.trans (hb4.mono HB2.out.size))
      have hv4 := (HB4.out.block w.heap.size (by have := HBL.out.size; rw [HS0.out] at this; omega)).trans ((HBL.out.block w.heap.size (by rw [HS0.out]; omega)).trans HV0.out)
      have HV4 := Lib.hid hv4
      have HL4 := Lib.hid (show w.heap.size < w4.heap.size ∧ w.heap.size + 1 < w4.heap.size by have := HB4.out.size; have := HBL.out.size; rw [HS0.out] at this; omega)
      clear a0 a1 a2 a3 a4 a5 hadd hv4
      rcases hres with ⟨ps, pv, hps, rfl, hown⟩ | ⟨hps, rfl⟩
      rotate_left
      · have HF := Lib.hid (show ¬ fitP v p from fun h => by
          obtain ⟨qs, h1, _⟩ := (HFIT.out.1 h).2.2.2.1 xx HMM.out
          rw [hps] at h1
          cases h1)
        clear hps hb4
        go_wp2
        go_ret2
        exact ⟨⟨_, false, rfl, by simpa using HF.out, fun h => by cases h⟩, HBW.out.trans (HB4.out.mono HBW.out.size)⟩
      · have HPS := Lib.hid hps
        have HPO := Lib.hid (own_mono (B' := w.heap.size) hown (Nat.le_trans HBW.out.size HB2.out.size))
        have HNE := Lib.hid (prts_ne hps)
        have hrs := RdS.of_own hown
        obtain ⟨hz1, hz2⟩ := HZQ.out ps hps
        have HQS := Lib.hid hz2
        obtain ⟨pv', hcut, hpv'⟩ := hrs.init (by omega)
        have HCT := Lib.hid (show ∀ W, (Instr.sliceAt 32 pv none (some (.int .i64 ((ps.length : Int) - 1))) none).run Try.prog W = .ok pv' W from fun W => (hcut W).resolve_right HNE.out)
        have HFO := Lib.hid (fun (W : World) (hW : Below w4.heap.size w4 W) => HFO0.out ps.dropLast W pv' ((HBW.out.trans (HB4.out.mono HBW.out.size)).trans (hW.mono (HBW.out.trans (HB4.out.mono HBW.out.size)).size)) (hpv'.below hW hW.size) (fun q hq => Nat.le_trans (HQS.out q (List.dropLast_subset _ hq)) (by omega)))
        have HOKF := Lib.hid (ok_fol (ps := ps) (v := v) HNE.out)
        obtain ⟨Ap, cpp, rfl, hlc, -⟩ := hrs
        have hwrap : IntKind.i64.wrap ((ps.length : Int) - 1) = (ps.length : Int) - 1 := IntWalk.i64_in _ (by have := List.length_pos_iff.2 HNE.out; omega)
        have HWRAP := Lib.hid hwrap
        obtain ⟨nn, hnn⟩ : ∃ nn, ps.length = nn := ⟨_, rfl⟩
        have HNN := Lib.hid hnn
        rw [hnn] at HCT HWRAP HPO ⊢
        clear hown hps hz1 hz2 hcut hpv' hlc hwrap hnn hb4
        go_wp2_with fail
        refine wp_region_held_drew (S := fun W' => W'.heap[w.heap.size]? = some (.cells #[.int .i64 6, .int .i64 vn, .string VS, .slice A0 vl c0, .slice A20 vm c20] 25 (0, 0))) (by kernel_rfl) (HV4.out) (fun hHeld => ?_)
        refine wpAnyH_take (i := 0) (oi := { dst := some 44, op := Op.load 25 (Operand.tmp 2), type := 25, pos := "patch.go:45", after := #[], guard := none }) (v := ?_) rfl (by kernel_rfl) (by kernel_rfl) (by kernel_rfl) (fun _ _ _ h => h) (Or.inl ⟨by rfl, ?_⟩) hHeld ?_
        rotate_left
        · intro w hSw; (try dsimp only at hSw); obtain ⟨⟨p0, p1, p2, p3, p4⟩, -⟩ := row5 hSw; go_simp; with_reducible rfl
        try simp only [Act.put, List.setIfInBounds_toArray, List.set_cons_zero, List.set_cons_succ]
        refine wpAnyH_take (i := 1) (oi := { dst := some 45, op := Op.move (Operand.tmp 9), type := 32, pos := "patch.go:45", after := #[], guard := none }) (v := ?_) rfl (by kernel_rfl) (by kernel_rfl) (by kernel_rfl) (fun _ _ _ h => h) (Or.inl ⟨by rfl, ?_⟩) hHeld ?_
        rotate_left
        · intro w hSw; (try dsimp only at hSw); go_simp; with_reducible rfl
        try simp only [Act.put, List.setIfInBounds_toArray, List.set_cons_zero, List.set_cons_succ]
        refine wpAnyH_take (i := 2) (oi := { dst := some 46, op := Op.move (Operand.tmp 9), type := 32, pos := "patch.go:45", after := #[], guard := none }) (v := ?_) rfl (by kernel_rfl) (by kernel_rfl) (by kernel_rfl) (fun _ _ _ h => h) (Or.inl ⟨by rfl, ?_⟩) hHeld ?_
        rotate_left
        · intro w hSw; (try dsimp only at hSw); go_simp; with_reducible rfl
        try simp only [Act.put, List.setIfInBounds_toArray, List.set_cons_zero, List.set_cons_succ]
        refine wpAnyH_take (i := 3) (oi := { dst := some 47, op := Op.call { callee := Callee.builtin Builtin.len, args := #[Operand.tmp 46], argTypes := #[32] }, type := 3, pos := "patch.go:45", after := #[{ on := 2, ground := Ground.data }], guard := none }) (v := ?_) rfl (by kernel_rfl) (by kernel_rfl) (by kernel_rfl) (fun _ _ _ h => h) (Or.inl ⟨by rfl, ?_⟩) hHeld ?_
        rotate_left
        · intro w hSw; (try dsimp only at hSw); go_simp; with_reducible rfl
        try simp only [Act.put, List.setIfInBounds_toArray, List.set_cons_zero, List.set_cons_succ]
        refine wpAnyH_take (i := 4) (oi := { dst := some 48, op := Op.binOp BinOp.sub 3 (Operand.tmp 47) (Operand.const (Value.int IntKind.i64 1)) 3, type := 3, pos := "patch.go:45", after := #[{ on := 3, ground := Ground.data }], guard := none }) (v := ?_) rfl (by kernel_rfl) (by kernel_rfl) (by kernel_rfl) (fun _ _ _ h => h) (Or.inl ⟨by rfl, ?_⟩) hHeld ?_
        rotate_left
        · intro w hSw; (try dsimp only at hSw); have hq := HWRAP.out; go_simp; (try rw [hq]); with_reducible rfl
        try simp only [Act.put, List.setIfInBounds_toArray, List.set_cons_zero, List.set_cons_succ]
        refine wpAnyH_take (i := 5) (oi := { dst := some 49, op := Op.slice 32 (Operand.tmp 45) none (some (Operand.tmp 48)) none, type := 32, pos := "patch.go:45", after := #[{ on := 1, ground := Ground.data }, { on := 4, ground := Ground.data }], guard := none }) (v := ?_) rfl (by kernel_rfl) (by kernel_rfl) (by kernel_rfl) (fun _ _ _ h => h) (Or.inl ⟨by rfl, ?_⟩) hHeld ?_
        rotate_left
        · intro w hSw; (try dsimp only at hSw); have hcz := HCT.out; go_simp; with_reducible rfl
        try simp only [Act.put, List.setIfInBounds_toArray, List.set_cons_zero, List.set_cons_succ]
        refine wpAnyH_ready (rs := [6, 10]) (by kernel_rfl) (by simp) ?_
        refine AllReadyH.cons (o := { dst := some 50, op := Op.call { callee := Callee.value (Operand.func 22), args := #[Operand.tmp 44, Operand.tmp 49], argTypes := #[25, 32] }, type := 54, pos := "patch.go:45", after := #[{ on := 0, ground := Ground.data }, { on := 5, ground := Ground.data }], guard := none }) rfl (fun K hK => ?_) (AllReadyH.cons (o := { dst := some 11, op := Op.alloc 25, type := 0, pos := "patch.go:45", after := #[], guard := none }) rfl (fun K hK => ?_) AllReadyH.nil)
        · go_simp
          go_at_call 22
          refine (HFO.out _ (Below.drew (Below.refl w4.heap.size w4))).mono ?_
          rintro e w5 ⟨⟨ca, rfl, hca⟩, hb5⟩
          obtain ⟨y, hy⟩ : ∃ y, (folV ps.dropLast v).getD V0 = y := ⟨_, rfl⟩
          rw [hy] at hca
          have HY := Lib.hid hy
          obtain ⟨yA, yc, yB, yd, rfl, -⟩ := hca.cells
          clear hca hy
          obtain ⟨yk, hyk⟩ : ∃ yk, y.k = yk := ⟨_, rfl⟩
          have HYK := Lib.hid hyk
          rw [hyk]
          clear hyk
          generalize y.n = yn at *
          generalize strOf y.s = ys at *
          generalize y.l.length = yl at *
          generalize y.ms.length = ym at *
          have HB5 := Lib.hid (show Below w4.heap.size w4 w5 from (Below.drew (Below.refl w4.heap.size w4)).trans (hb5.mono (Below.drew (Below.refl w4.heap.size w4)).size))
          have HV5 := Lib.hid (show w5.heap[w.heap.size]? = some (.cells #[.int .i64 6, .int .i64 vn, .string VS, .slice A0 vl c0, .slice A20 vm c20] 25 (0, 0)) from (HB5.out.block w.heap.size HL4.out.1).trans HV4.out)
          clear hb5
          refine hK.out _ _ (HV5.out) (fun hHeld => ?_)
          clear hK K
          try simp only [Act.put, List.setIfInBounds_toArray, List.set_cons_zero, List.set_cons_succ]
          refine wpAnyH_take (i := 7) (oi := { dst := some 43, op := Op.move (Operand.tmp 50), type := 54, pos := "patch.go:45", after := #[{ on := 6, ground := Ground.data }], guard := none }) (v := ?_) rfl (by kernel_rfl) (by kernel_rfl) (by kernel_rfl) (fun _ _ _ h => h) (Or.inl ⟨by rfl, ?_⟩) hHeld ?_
          rotate_left
          · intro w hSw; (try dsimp only at hSw); go_simp; with_reducible rfl
          try simp only [Act.put, List.setIfInBounds_toArray, List.set_cons_zero, List.set_cons_succ]
          refine wpAnyH_take (i := 8) (oi := { dst := some 51, op := Op.extract (Operand.tmp 43) 0, type := 25, pos := "patch.go:45", after := #[{ on := 7, ground := Ground.data }], guard := none }) (v := ?_) rfl (by kernel_rfl) (by kernel_rfl) (by kernel_rfl) (fun _ _ _ h => h) (Or.inl ⟨by rfl, ?_⟩) hHeld ?_
          rotate_left
          · intro w hSw; (try dsimp only at hSw); go_simp; with_reducible rfl
          try simp only [Act.put, List.setIfInBounds_toArray, List.set_cons_zero, List.set_cons_succ]
          refine wpAnyH_take (i := 9) (oi := { dst := some 52, op := Op.extract (Operand.tmp 43) 1, type := 4, pos := "patch.go:45", after := #[{ on := 7, ground := Ground.data }, { on := 11, ground := Ground.gcOnly Departure.lateStores }], guard := none }) (v := ?_) rfl (by kernel_rfl) (by kernel_rfl) (by kernel_rfl) (fun _ _ _ h => h) (Or.inl ⟨by rfl, ?_⟩) hHeld ?_
          rotate_left
          · intro w hSw; (try dsimp only at hSw); go_simp; with_reducible rfl
          try simp only [Act.put, List.setIfInBounds_toArray, List.set_cons_zero, List.set_cons_succ]
          refine wpAnyH_ready (rs := [10]) (by kernel_rfl) (by simp) ?_
          refine AllReadyH.cons (o := { dst := some 11, op := Op.alloc 25, type := 0, pos := "patch.go:45", after := #[], guard := none }) rfl (fun K hK => ?_) AllReadyH.nil
          have HZ := Lib.hid (heapNew w5 (.cells #[.int .i64 0, .int .i64 0, .string ⟨#[]⟩, .slice none 0 0, .slice none 0 0] 25))
          go_simp
          refine hK.out _ _ (heapOld hHeld _) (fun hHeld => ?_)
          clear hK K
          try simp only [Act.put, List.setIfInBounds_toArray, List.set_cons_zero, List.set_cons_succ]
          refine wpAnyH_ready (rs := [11]) (by kernel_rfl) (by simp) ?_
          refine AllReadyH.cons (o := { dst := none, op := Op.store 25 (Operand.tmp 11) (Operand.tmp 51), type := 0, pos := "patch.go:45", after := #[{ on := 10, ground := Ground.data }, { on := 8, ground := Ground.data }, { on := 6, ground := Ground.chain }, { on := 0, ground := Ground.phase }, { on := 1, ground := Ground.phase }, { on := 2, ground := Ground.phase }, { on := 3, ground := Ground.phase }, { on := 4, ground := Ground.phase }, { on := 5, ground := Ground.phase }, { on := 6, ground := Ground.phase }, { on := 7, ground := Ground.phase }, { on := 8, ground := Ground.phase }, { on := 9, ground := Ground.textOnly Departure.lateStores }, { on := 10, ground := Ground.phase }], guard := none }) rfl (fun K hK => ?_) AllReadyH.nil
          obtain ⟨⟨z0, z1, z2, z3, z4⟩, ⟨y0, y1, y2, y3, y4⟩⟩ := row5 HZ.out
          go_simp
          clear z0 z1 z2 z3 z4 y0 y1 y2 y3 y4
          refine hK.out _ _ (heapOld HV5.out _) (fun hHeld => ?_)
          clear hK K
          try simp only [Act.put, List.setIfInBounds_toArray, List.set_cons_zero, List.set_cons_succ]
          refine wpAnyH_take (i := 12) (oi := { dst := some 12, op := Op.assign (Operand.tmp 52), type := 4, pos := "patch.go:45", after := #[{ on := 9, ground := Ground.data }, { on := 11, ground := Ground.chain }, { on := 0, ground := Ground.phase }, { on := 1, ground := Ground.phase }, { on := 2, ground := Ground.phase }, { on := 3, ground := Ground.phase }, { on := 4, ground := Ground.phase }, { on := 5, ground := Ground.phase }, { on := 6, ground := Ground.phase }, { on := 7, ground := Ground.phase }, { on := 8, ground := Ground.phase }, { on := 9, ground := Ground.phase }, { on := 10, ground := Ground.phase }, { on := 11, ground := Ground.phase }], guard := none }) (v := ?_) rfl (by kernel_rfl) (by kernel_rfl) (by kernel_rfl) (fun _ _ _ h => h) (Or.inl ⟨by rfl, ?_⟩) hHeld ?_
          rotate_left
          · intro w hSw; (try dsimp only at hSw); go_simp; with_reducible rfl
          try simp only [Act.put, List.setIfInBounds_toArray, List.set_cons_zero, List.set_cons_succ]
          refine wpAnyH_done (by kernel_rfl) ?_ _
          clear hHeld
          obtain ⟨W6, hW6⟩ : ∃ W6, W6 = w5.alloc (.cells #[.int .i64 yk, .int .i64 yn, .string ys, .slice yA yl yc, .slice yB ym yd] 25) := ⟨_, rfl⟩
          obtain ⟨E, hE⟩ : ∃ E, E = w5.heap.size := ⟨_, rfl⟩
          have HX6 := Lib.hid (show W6.heap[E]? = some (.cells #[.int .i64 yk, .int .i64 yn, .string ys, .slice yA yl yc, .slice yB ym yd] 25 (0, 0)) by rw [hW6, hE]; exact heapNew _ _)
          have HB6 := Lib.hid (show Below w4.heap.size w4 W6 by rw [hW6]; exact HB5.out.alloc HB5.out.size _)
          rw [← hW6, ← hE]
          clear hW6 hE HZ HB5 HV5
          have HBW6 := Lib.hid (HBW.out.trans ((HB4.out.trans (HB6.out.mono HB4.out.size)).mono HBW.out.size))
          rcases hfo : folV ps.dropLast v with _ | h
          · have HF := Lib.hid (show ¬ fitP v p from fun hf => by
              obtain ⟨qs, h1, h2⟩ := (HFIT.out.1 hf).2.2.2.1 xx HMM.out
              rw [HPS.out] at h1
              injection h1 with h1
              subst h1
              obtain ⟨h, h3, _⟩ := HOKF.out.1 h2
              rw [hfo] at h3
              cases h3)
            clear hfo
            go_wp2
            go_ret2
            exact ⟨⟨_, false, rfl, by simpa using HF.out, fun h => by cases h⟩, HBW6.out⟩
          · obtain rfl : y = h := by rw [← HY.out, hfo]; rfl
            have HFO6 := Lib.hid hfo
            obtain ⟨⟨q0, q1, q2, q3, q4⟩, -⟩ := row5 HX6.out
            clear hfo
            by_cases hy6 : yk = 6
            rotate_left
            · have s1 : (yk != 6) = true := by rw [bne_iff_ne]; exact hy6
              have s2 : (yk == 6) = false := beq_eq_false_iff_ne.2 hy6
              have HF := Lib.hid (show ¬ fitP v p from fun hf => by
                obtain ⟨qs, h1, h2⟩ := (HFIT.out.1 hf).2.2.2.1 xx HMM.out
                rw [HPS.out] at h1
                injection h1 with h1
                subst h1
                obtain ⟨h, h3, h4⟩ := HOKF.out.1 h2
                rw [HFO6.out] at h3
                injection h3 with h3
                subst h3
                exact hy6 (HYK.out.symm.trans h4))
              clear hy6
              go_wp2
              go_ret2
              exact ⟨⟨_, false, rfl, by simpa using HF.out, fun h => by cases h⟩, HBW6.out⟩
            · have s1 : (yk != 6) = false := by rw [bne_eq_false_iff_eq]; exact hy6
              have s2 : (yk == 6) = true := beq_iff_eq.2 hy6
              have HOK := Lib.hid (show okP ps v from HOKF.out.2 ⟨y, HFO6.out, HYK.out.trans hy6⟩)
              have HOW6 := Lib.hid (own_below HOW.out (HB4.out.trans (HB6.out.mono HB4.out.size)))
              have HPO6 := Lib.hid (own_below HPO.out HB6.out)
              have HPI6 := Lib.hid (HPI.out.below (HB4.out.trans (HB6.out.mono HB4.out.size)))
              have HBL6 := Lib.hid (show Below W0.heap.size W0 W6 from HBL.out.trans ((HB4.out.trans (HB6.out.mono HB4.out.size)).mono HBL.out.size))
              have NEW : ∀ j u, [Value.slice Ap nn cpp][j]? = some u → (W6.alloc (.cells #[.slice Ap nn cpp] 32)).cell? ((⟨W6.heap.size, 0, none⟩ : Addr).add j) = some u := fun j u hu => by
                rw [Addr.add_lit, Nat.zero_add]; unfold World.cell?; rw [heapNew]; simpa using hu
              have HNEW := Lib.hid NEW; clear NEW
              clear hy6
              go_wp2_with (at_builtin; refine wpList_append_own _ rfl _ _ 51 rfl W0.heap.size 32 i0 _ 1 24 Try.underlying51 I0.out I1.out I2.out I3.out rfl (by decide) u6 k xs rfl (HOW6.out.alloc _) ⟨W6.heap.size, 0, none⟩ 1 1 [Value.slice Ap nn cpp] rfl rfl HNEW.out ?qc3 ?qc4 ?qc5 ?qc6 ?qc)
              case qc3 => simp [Value.oneCell']
              case qc4 => have := HLT.out; unfold maxLen; omega
              case qc5 => have := HLT.out; omega
              case qc6 => have := HBL6.out.size; simp; omega
              intro v' w7 hown hgrow hnil
              have HO7 := Lib.hid hown
              have HG7 := Lib.hid (show Below W0.heap.size W0 w7 from Below.grown (HBL6.out.alloc HBL6.out.size _) hgrow (by have := HBL6.out.size; rw [szAl]; omega) (fun g hg => (HOW6.out.lt g hg).1))
              have HPI7 := Lib.hid (show PI w.heap.size v d (k + 1) (xs ++ [Value.slice Ap nn cpp]) w7 from PI.next (HPI6.out.below ((Below.refl _ _).alloc (Nat.le_refl _) _)) (by have := HOW6.out.1; omega) (HOW6.out.alloc _) hgrow HKL.out (by rw [HXE.out]; exact HPS.out) HOK.out (by rw [HNN.out]; exact HPO6.out.alloc _))
              clear hown hgrow hnil
              have hlt := HLT.out
              go_wp2
              go_roundw
              case rel => exact ⟨k + 1, xs ++ [Value.slice Ap nn cpp], by go_num, by omega, (show World.ownsRow _ _ _ _ _ _ _ from HO7.out), (show Below _ _ _ from HG7.out), (show PI _ _ _ _ _ _ from HPI7.out)⟩
              case measure => simp [intOf]; omega
        · go_simp
          refine hK.out _ _ (heapOld hHeld _) (fun hHeld => ?_)
          clear hK K
          try simp only [Act.put, List.setIfInBounds_toArray, List.set_cons_zero, List.set_cons_succ]
          refine wpAnyH_ready (rs := [6]) (by kernel_rfl) (by simp) ?_
          refine AllReadyH.cons (o := { dst := some 50, op := Op.call { callee := Callee.value (Operand.func 22), args := #[Operand.tmp 44, Operand.tmp 49], argTypes := #[25, 32] }, type := 54, pos := "patch.go:45", after := #[{ on := 0, ground := Ground.data }, { on := 5, ground := Ground.data }], guard := none }) rfl (fun K hK => ?_) AllReadyH.nil
          go_simp
          go_at_call 22
          refine (HFO.out _ ((Below.drew (Below.refl w4.heap.size w4)).alloc (Nat.le_refl _) _)).mono ?_
          rintro e w5 ⟨⟨ca, rfl, hca⟩, hb5⟩
          obtain ⟨y, hy⟩ : ∃ y, (folV ps.dropLast v).getD V0 = y := ⟨_, rfl⟩
          rw [hy] at hca
          have HY := Lib.hid hy
          obtain ⟨yA, yc, yB, yd, rfl, -⟩ := hca.cells
          clear hca hy
          obtain ⟨yk, hyk⟩ : ∃ yk, y.k = yk := ⟨_, rfl⟩
          have HYK := Lib.hid hyk
          rw [hyk]
          clear hyk
          generalize y.n = yn at *
          generalize strOf y.s = ys at *
          generalize y.l.length = yl at *
          generalize y.ms.length = ym at *
          have HB5 := Lib.hid (show Below w4.heap.size w4 w5 from ((Below.drew (Below.refl w4.heap.size w4)).alloc (Nat.le_refl _) _).trans (hb5.mono ((Below.drew (Below.refl w4.heap.size w4)).alloc (Nat.le_refl _) _).size))
          have HV5 := Lib.hid (show w5.heap[w.heap.size]? = some (.cells #[.int .i64 6, .int .i64 vn, .string VS, .slice A0 vl c0, .slice A20 vm c20] 25 (0, 0)) from (HB5.out.block w.heap.size HL4.out.1).trans HV4.out)
          have hz1 := (hb5.block w4.heap.size (by simp)).trans (heapNew w4 (.cells #[.int .i64 0, .int .i64 0, .string ⟨#[]⟩, .slice none 0 0, .slice none 0 0] 25))
          have HZ := Lib.hid hz1
          clear hb5 hz1
          refine hK.out _ _ (HV5.out) (fun hHeld => ?_)
          clear hK K
          try simp only [Act.put, List.setIfInBounds_toArray, List.set_cons_zero, List.set_cons_succ]
          refine wpAnyH_take (i := 7) (oi := { dst := some 43, op := Op.move (Operand.tmp 50), type := 54, pos := "patch.go:45", after := #[{ on := 6, ground := Ground.data }], guard := none }) (v := ?_) rfl (by kernel_rfl) (by kernel_rfl) (by kernel_rfl) (fun _ _ _ h => h) (Or.inl ⟨by rfl, ?_⟩) hHeld ?_
          rotate_left
          · intro w hSw; (try dsimp only at hSw); go_simp; with_reducible rfl
          try simp only [Act.put, List.setIfInBounds_toArray, List.set_cons_zero, List.set_cons_succ]
          refine wpAnyH_take (i := 8) (oi := { dst := some 51, op := Op.extract (Operand.tmp 43) 0, type := 25, pos := "patch.go:45", after := #[{ on := 7, ground := Ground.data }], guard := none }) (v := ?_) rfl (by kernel_rfl) (by kernel_rfl) (by kernel_rfl) (fun _ _ _ h => h) (Or.inl ⟨by rfl, ?_⟩) hHeld ?_
          rotate_left
          · intro w hSw; (try dsimp only at hSw); go_simp; with_reducible rfl
          try simp only [Act.put, List.setIfInBounds_toArray, List.set_cons_zero, List.set_cons_succ]
          refine wpAnyH_take (i := 9) (oi := { dst := some 52, op := Op.extract (Operand.tmp 43) 1, type := 4, pos := "patch.go:45", after := #[{ on := 7, ground := Ground.data }, { on := 11, ground := Ground.gcOnly Departure.lateStores }], guard := none }) (v := ?_) rfl (by kernel_rfl) (by kernel_rfl) (by kernel_rfl) (fun _ _ _ h => h) (Or.inl ⟨by rfl, ?_⟩) hHeld ?_
          rotate_left
          · intro w hSw; (try dsimp only at hSw); go_simp; with_reducible rfl
          try simp only [Act.put, List.setIfInBounds_toArray, List.set_cons_zero, List.set_cons_succ]
          refine wpAnyH_ready (rs := [11]) (by kernel_rfl) (by simp) ?_
          refine AllReadyH.cons (o := { dst := none, op := Op.store 25 (Operand.tmp 11) (Operand.tmp 51), type := 0, pos := "patch.go:45", after := #[{ on := 10, ground := Ground.data }, { on := 8, ground := Ground.data }, { on := 6, ground := Ground.chain }, { on := 0, ground := Ground.phase }, { on := 1, ground := Ground.phase }, { on := 2, ground := Ground.phase }, { on := 3, ground := Ground.phase }, { on := 4, ground := Ground.phase }, { on := 5, ground := Ground.phase }, { on := 6, ground := Ground.phase }, { on := 7, ground := Ground.phase }, { on := 8, ground := Ground.phase }, { on := 9, ground := Ground.textOnly Departure.lateStores }, { on := 10, ground := Ground.phase }], guard := none }) rfl (fun K hK => ?_) AllReadyH.nil
          obtain ⟨⟨z0, z1, z2, z3, z4⟩, ⟨y0, y1, y2, y3, y4⟩⟩ := row5 HZ.out
          go_simp
          clear z0 z1 z2 z3 z4 y0 y1 y2 y3 y4
          obtain ⟨W6, hW6⟩ : ∃ W6, W6 = (((((w5.setCell ⟨w4.heap.size, 0, none⟩ (.int .i64 yk)).setCell ⟨w4.heap.size, 1, none⟩ (.int .i64 yn)).setCell ⟨w4.heap.size, 2, none⟩ (.string ys)).setCell ⟨w4.heap.size, 3, none⟩ (.slice yA yl yc)).setCell ⟨w4.heap.size, 4, none⟩ (.slice yB ym yd)) := ⟨_, rfl⟩
          obtain ⟨E, hE⟩ : ∃ E, E = w4.heap.size := ⟨_, rfl⟩
          have HX6 := Lib.hid (show W6.heap[E]? = some (.cells #[.int .i64 yk, .int .i64 yn, .string ys, .slice yA yl yc, .slice yB ym yd] 25 (0, 0)) by rw [hW6, hE]; exact st5_row HZ.out _ _ _ _ _)
          have HB6 := Lib.hid (show Below w4.heap.size w4 W6 by rw [hW6]; exact st5_below HB5.out (Nat.le_refl _) _ _ _ _ _)
          rw [← hW6, ← hE]
          clear hW6 hE HZ HB5 HV5
          refine hK.out _ _ ((HB6.out.block w.heap.size HL4.out.1).trans HV4.out) (fun hHeld => ?_)
          clear hK K
          try simp only [Act.put, List.setIfInBounds_toArray, List.set_cons_zero, List.set_cons_succ]
          refine wpAnyH_take (i := 12) (oi := { dst := some 12, op := Op.assign (Operand.tmp 52), type := 4, pos := "patch.go:45", after := #[{ on := 9, ground := Ground.data }, { on := 11, ground := Ground.chain }, { on := 0, ground := Ground.phase }, { on := 1, ground := Ground.phase }, { on := 2, ground := Ground.phase }, { on := 3, ground := Ground.phase }, { on := 4, ground := Ground.phase }, { on := 5, ground := Ground.phase }, { on := 6, ground := Ground.phase }, { on := 7, ground := Ground.phase }, { on := 8, ground := Ground.phase }, { on := 9, ground := Ground.phase }, { on := 10, ground := Ground.phase }, { on := 11, ground := Ground.phase }], guard := none }) (v := ?_) rfl (by kernel_rfl) (by kernel_rfl) (by kernel_rfl) (fun _ _ _ h => h) (Or.inl ⟨by rfl, ?_⟩) hHeld ?_
          rotate_left
          · intro w hSw; (try dsimp only at hSw); go_simp; with_reducible rfl
          try simp only [Act.put, List.setIfInBounds_toArray, List.set_cons_zero, List.set_cons_succ]
          refine wpAnyH_done (by kernel_rfl) ?_ _
          clear hHeld
          have HBW6 := Lib.hid (HBW.out.trans ((HB4.out.trans (HB6.out.mono HB4.out.size)).mono HBW.out.size))
          rcases hfo : folV ps.dropLast v with _ | h
          · have HF := Lib.hid (show ¬ fitP v p from fun hf => by
              obtain ⟨qs, h1, h2⟩ := (HFIT.out.1 hf).2.2.2.1 xx HMM.out
              rw [HPS.out] at h1
              injection h1 with h1
              subst h1
              obtain ⟨h, h3, _⟩ := HOKF.out.1 h2
              rw [hfo] at h3
              cases h3)
            clear hfo
            go_wp2
            go_ret2
            exact ⟨⟨_, false, rfl, by simpa using HF.out, fun h => by cases h⟩, HBW6.out⟩
          · obtain rfl : y = h := by rw [← HY.out, hfo]; rfl
            have HFO6 := Lib.hid hfo
            obtain ⟨⟨q0, q1, q2, q3, q4⟩, -⟩ := row5 HX6.out
            clear hfo
            by_cases hy6 : yk = 6
            rotate_left
            · have s1 : (yk != 6) = true := by rw [bne_iff_ne]; exact hy6
              have s2 : (yk == 6) = false := beq_eq_false_iff_ne.2 hy6
              have HF := Lib.hid (show ¬ fitP v p from fun hf => by
                obtain ⟨qs, h1, h2⟩ := (HFIT.out.1 hf).2.2.2.1 xx HMM.out
                rw [HPS.out] at h1
                injection h1 with h1
                subst h1
                obtain ⟨h, h3, h4⟩ := HOKF.out.1 h2
                rw [HFO6.out] at h3
                injection h3 with h3
                subst h3
                exact hy6 (HYK.out.symm.trans h4))
              clear hy6
              go_wp2
              go_ret2
              exact ⟨⟨_, false, rfl, by simpa using HF.out, fun h => by cases h⟩, HBW6.out⟩
            · have s1 : (yk != 6) = false := by rw [bne_eq_false_iff_eq]; exact hy6
              have s2 : (yk == 6) = true := beq_iff_eq.2 hy6
              have HOK := Lib.hid (show okP ps v from HOKF.out.2 ⟨y, HFO6.out, HYK.out.trans hy6⟩)
              have HOW6 := Lib.hid (own_below HOW.out (HB4.out.trans (HB6.out.mono HB4.out.size)))
              have HPO6 := Lib.hid (own_below HPO.out HB6.out)
              have HPI6 := Lib.hid (HPI.out.below (HB4.out.trans (HB6.out.mono HB4.out.size)))
              have HBL6 := Lib.hid (show Below W0.heap.size W0 W6 from HBL.out.trans ((HB4.out.trans (HB6.out.mono HB4.out.size)).mono HBL.out.size))
              have NEW : ∀ j u, [Value.slice Ap nn cpp][j]? = some u → (W6.alloc (.cells #[.slice Ap nn cpp] 32)).cell? ((⟨W6.heap.size, 0, none⟩ : Addr).add j) = some u := fun j u hu => by
                rw [Addr.add_lit, Nat.zero_add]; unfold World.cell?; rw [heapNew]; simpa using hu
              have HNEW := Lib.hid NEW; clear NEW
              clear hy6
              go_wp2_with (at_builtin; refine wpList_append_own _ rfl _ _ 51 rfl W0.heap.size 32 i0 _ 1 24 Try.underlying51 I0.out I1.out I2.out I3.out rfl (by decide) u6 k xs rfl (HOW6.out.alloc _) ⟨W6.heap.size, 0, none⟩ 1 1 [Value.slice Ap nn cpp] rfl rfl HNEW.out ?rc3 ?rc4 ?rc5 ?rc6 ?rc)
              case rc3 => simp [Value.oneCell']
              case rc4 => have := HLT.out; unfold maxLen; omega
              case rc5 => have := HLT.out; omega
              case rc6 => have := HBL6.out.size; simp; omega
              intro v' w7 hown hgrow hnil
              have HO7 := Lib.hid hown
              have HG7 := Lib.hid (show Below W0.heap.size W0 w7 from Below.grown (HBL6.out.alloc HBL6.out.size _) hgrow (by have := HBL6.out.size; rw [szAl]; omega) (fun g hg => (HOW6.out.lt g hg).1))
              have HPI7 := Lib.hid (show PI w.heap.size v d (k + 1) (xs ++ [Value.slice Ap nn cpp]) w7 from PI.next (HPI6.out.below ((Below.refl _ _).alloc (Nat.le_refl _) _)) (by have := HOW6.out.1; omega) (HOW6.out.alloc _) hgrow HKL.out (by rw [HXE.out]; exact HPS.out) HOK.out (by rw [HNN.out]; exact HPO6.out.alloc _))
              clear hown hgrow hnil
              have hlt := HLT.out
              go_wp2
              go_roundw
              case rel => exact ⟨k + 1, xs ++ [Value.slice Ap nn cpp], by go_num, by omega, (show World.ownsRow _ _ _ _ _ _ _ from HO7.out), (show Below _ _ _ from HG7.out), (show PI _ _ _ _ _ _ from HPI7.out)⟩
              case measure => simp [intOf]; omega
    · have t1 : decide ((k : Int) < (len : Int)) = false := decide_eq_false (by omega)
      have t2 : decide (k < len) = false := decide_eq_false hlt
      obtain rfl : k = len := by omega
      have HAP := Lib.hid (fun (W : World) (hW : Below w.heap.size w W) => areApart_any d B20 e20 W (fun h => by
        obtain ⟨g, o, e, g1, hr⟩ := (HD.out.keep (w' := W) (fun p hp => hW.cell (p := p) hp)) h
        exact ⟨g, o, e, by have := hW.size; omega, hr⟩) (by rw [HDL.out]; exact HCAP.out) (by rw [HDL.out]; omega))
      rw [HDL.out] at HAP
      have hpr := (HBL.out.block (w.heap.size + 1) (by rw [HS0.out]; omega)).trans HP0.out
      obtain ⟨⟨r0, r1, r2, r3, r4⟩, -⟩ := row5 hpr
      have HLX := Lib.hid (HOW.out.1)
      clear hpr
      go_wp2_with fail
      refine (HAP.out _ HBW.out).mono ?_
      rintro e w5 ⟨⟨ap, rfl, hap⟩, hb5⟩
      have HB5 := Lib.hid (show Below w.heap.size w w5 from HBW.out.trans (hb5.mono HBW.out.size))
      have HPI5 := Lib.hid (HPI.out.below hb5)
      have HOW5 := Lib.hid (own_below HOW.out hb5)
      have HAPP := Lib.hid hap
      clear hap hb5
      go_wp2
      go_ret2
      refine ⟨⟨_, ap, rfl, ?_, fun hap => ?_⟩, HB5.out⟩
      · rw [HAPP.out, HFIT.out, HNS.out]
        constructor
        · intro h
          refine ⟨by trivial, by trivial, h400, fun nm hnm => ?_, h⟩
          rw [← HNS.out] at hnm
          obtain ⟨m, hm, rfl⟩ := List.mem_map.1 hnm
          obtain ⟨i, hi, rfl⟩ := List.getElem_of_mem hm
          obtain ⟨ps, e1, e2, _⟩ := HPI5.out i (by rw [HLX.out]; rw [HDL.out] at hi; omega) hi (by rw [HDL.out] at hi; omega)
          exact ⟨ps, e1, e2⟩
        · intro h; exact h.2.2.2.2
      · have hxl : xs.length = k := by have := HLX.out; omega
        refine ⟨xs, ?_, fun i h1 h2 => ?_⟩
        · rw [List.length_map, HNL.out]
          exact own_mono HOW5.out HB0.out.size
        · have hid : i < d.length := by rw [HDL.out]; omega
          obtain ⟨ps, e1, e2, e3⟩ := HPI5.out i h1 hid (by omega)
          have e4 : (p.ns.map pth)[i] = ps := by
            have e5 : p.ns[i]'(by simpa using h2) = d[i].nm := by
              have : (d.map M6.nm)[i]'(by rw [List.length_map]; exact hid) = p.ns[i]'(by simpa using h2) := by simp only [HNS.out]
              rw [← this, List.getElem_map]
            rw [List.getElem_map, e5]
            unfold pth
            rw [e1]
            rfl
          rw [e4]
          exact e3
end Go.Proofs.Ytbfogkcnfnjcaaa.Pa
