/- Merged: PaAw. -/
import Derived.Test.YtbfogkcnfnjcaaaTt37
import Derived.Test.YtbfogkcnfnjcaaaTt39
import Derived.Test.YtbfogkcnfnjcaaaTt35
import Derived.Test.YtbfogkcnfnjcaaaTt19
set_option linter.unusedSimpArgs false
namespace Go.Proofs.Ytbfogkcnfnjcaaa.Pa
open Go.Proofs Go.RowKit
open Go.Proofs.Ytbfogkcnfnjcaaa.Utf
open Go.Proofs.Ytbfogkcnfnjcaaa.Sc
open Go.Proofs.Ytbfogkcnfnjcaaa.Re
open Go.Proofs.Ytbfogkcnfnjcaaa.Tr
open Go.Proofs.Ytbfogkcnfnjcaaa.Po
open Go.Proofs.Ytbfogkcnfnjcaaa.Em (lenV szU wfV szA_of)

set_option maxRecDepth 100000 in
set_option maxHeartbeats 1000000 in
theorem awake_any9 (w : World) : Calls Try.prog 7 #[] w (Gives (.bool true) w) := by
  have HBw := Lib.hid (Below.refl w.heap.size w)
  go_enter Try.func7, Try.ntmps7
  go_wp2_with fail
  refine (Value_any2 ⟨#[123, 34, 97, 34, 58, 123, 34, 98, 34, 58, 49, 125, 44, 34, 99, 34, 58, 50, 125]⟩ _ (by decide) aw9_1).mono ?_
  rintro e w1 ⟨vA, vc, vB, vd, rfl, hv, hb⟩
  have HBw1 := Lib.hid (HBw.out.trans (hb.mono HBw.out.size))
  have hv2 := RdA.of_RdV _ _ hv
  clear hb
  have Fw1_v := Lib.hid (Below.refl w1.heap.size w1)
  obtain ⟨v, hvv⟩ : ∃ x : V, awV = x := ⟨_, rfl⟩
  have HEv := Lib.hid hvv
  rw [hvv] at hv2 ⊢
  have Hv := Lib.hid hv2.wide
  clear hv hv2 hvv
  generalize v.k = vk at *
  generalize v.n = vn at *
  generalize strOf v.s = vS at *
  generalize v.l.length = vl at *
  generalize v.ms.length = vm at *
  obtain ⟨W1, hW1⟩ : ∃ W1, W1 = w1.alloc (.cells #[.int .i64 vk, .int .i64 vn, .string vS, .slice vA vl vc, .slice vB vm vd] 25) := ⟨_, rfl⟩
  have hb : Below w1.heap.size w1 W1 := by rw [hW1]; exact (Below.refl _ _).alloc (Nat.le_refl _) _
  have FW1_v := Lib.hid (Fw1_v.out.trans (hb.mono Fw1_v.out.size))
  have HBW1 := Lib.hid (HBw1.out.trans (hb.mono HBw1.out.size))
  have RW1_0 := Lib.hid (show W1.heap[w1.heap.size]? = some (.cells #[.int .i64 vk, .int .i64 vn, .string vS, .slice vA vl vc, .slice vB vm vd] 25 (0, 0)) by rw [hW1]; exact heapNew _ _)
  have LW1_0 := Lib.hid (show w1.heap.size < W1.heap.size by rw [hW1, szAl]; exact Nat.lt_succ_self _)
  have HW1 := Lib.hid hW1
  clear hW1 hb
  have q0 := RW1_0.out
  rw [HW1.out] at q0
  obtain ⟨⟨p0_0, p0_1, p0_2, p0_3, p0_4⟩, -⟩ := row5 q0
  clear q0
  go_wp2_with fail
  rw [← HW1.out]
  clear p0_0 p0_1 p0_2 p0_3 p0_4
  refine (Value_any2 ⟨#[123, 34, 97, 47, 98, 34, 58, 110, 117, 108, 108, 44, 34, 99, 34, 58, 51, 44, 34, 100, 34, 58, 52, 125]⟩ _ (by decide) aw9_2).mono ?_
  rintro e w2 ⟨pA, pc, pB, pd, rfl, hp, hb⟩
  have Rw2_0 := Lib.hid (show w2.heap[w1.heap.size]? = some (.cells #[.int .i64 vk, .int .i64 vn, .string vS, .slice vA vl vc, .slice vB vm vd] 25 (0, 0)) from (hb.block _ LW1_0.out).trans RW1_0.out)
  have Lw2_0 := Lib.hid (show w1.heap.size < w2.heap.size from Nat.lt_of_lt_of_le LW1_0.out hb.size)
  have Fw2_v := Lib.hid (FW1_v.out.trans (hb.mono FW1_v.out.size))
  have HBw2 := Lib.hid (HBW1.out.trans (hb.mono HBW1.out.size))
  have hp2 := RdA.of_RdV _ _ hp
  clear hb
  have Fw2_p := Lib.hid (Below.refl w2.heap.size w2)
  obtain ⟨p, hpv⟩ : ∃ x : V, awP = x := ⟨_, rfl⟩
  have HEp := Lib.hid hpv
  rw [hpv] at hp2 ⊢
  have Hp := Lib.hid hp2.wide
  clear hp hp2 hpv
  generalize p.k = pk at *
  generalize p.n = pn at *
  generalize strOf p.s = pS at *
  generalize p.l.length = pl at *
  generalize p.ms.length = pm at *
  obtain ⟨W2, hW2⟩ : ∃ W2, W2 = w2.alloc (.cells #[.int .i64 pk, .int .i64 pn, .string pS, .slice pA pl pc, .slice pB pm pd] 25) := ⟨_, rfl⟩
  have hb : Below w2.heap.size w2 W2 := by rw [hW2]; exact (Below.refl _ _).alloc (Nat.le_refl _) _
  have RW2_0 := Lib.hid (show W2.heap[w1.heap.size]? = some (.cells #[.int .i64 vk, .int .i64 vn, .string vS, .slice vA vl vc, .slice vB vm vd] 25 (0, 0)) from (hb.block _ Lw2_0.out).trans Rw2_0.out)
  have LW2_0 := Lib.hid (show w1.heap.size < W2.heap.size from Nat.lt_of_lt_of_le Lw2_0.out hb.size)
  have FW2_v := Lib.hid (Fw2_v.out.trans (hb.mono Fw2_v.out.size))
  have FW2_p := Lib.hid (Fw2_p.out.trans (hb.mono Fw2_p.out.size))
  have HBW2 := Lib.hid (HBw2.out.trans (hb.mono HBw2.out.size))
  have RW2_1 := Lib.hid (show W2.heap[w2.heap.size]? = some (.cells #[.int .i64 pk, .int .i64 pn, .string pS, .slice pA pl pc, .slice pB pm pd] 25 (0, 0)) by rw [hW2]; exact heapNew _ _)
  have LW2_1 := Lib.hid (show w2.heap.size < W2.heap.size by rw [hW2, szAl]; exact Nat.lt_succ_self _)
  have HW2 := Lib.hid hW2
  clear hW2 hb
  have q0 := RW2_0.out
  rw [HW2.out] at q0
  obtain ⟨⟨p0_0, p0_1, p0_2, p0_3, p0_4⟩, -⟩ := row5 q0
  clear q0
  have q1 := RW2_1.out
  rw [HW2.out] at q1
  obtain ⟨⟨p1_0, p1_1, p1_2, p1_3, p1_4⟩, -⟩ := row5 q1
  clear q1
  go_wp2_with fail
  rw [← HW2.out]
  clear p0_0 p0_1 p0_2 p0_3 p0_4 p1_0 p1_1 p1_2 p1_3 p1_4
  refine (Value_any2 ⟨#[123, 34, 97, 34, 58, 49, 44, 34, 97, 47, 98, 34, 58, 50, 125]⟩ _ (by decide) aw9_3).mono ?_
  rintro e w3 ⟨qA, qc, qB, qd, rfl, hq, hb⟩
  have Rw3_0 := Lib.hid (show w3.heap[w1.heap.size]? = some (.cells #[.int .i64 vk, .int .i64 vn, .string vS, .slice vA vl vc, .slice vB vm vd] 25 (0, 0)) from (hb.block _ LW2_0.out).trans RW2_0.out)
  have Lw3_0 := Lib.hid (show w1.heap.size < w3.heap.size from Nat.lt_of_lt_of_le LW2_0.out hb.size)
  have Rw3_1 := Lib.hid (show w3.heap[w2.heap.size]? = some (.cells #[.int .i64 pk, .int .i64 pn, .string pS, .slice pA pl pc, .slice pB pm pd] 25 (0, 0)) from (hb.block _ LW2_1.out).trans RW2_1.out)
  have Lw3_1 := Lib.hid (show w2.heap.size < w3.heap.size from Nat.lt_of_lt_of_le LW2_1.out hb.size)
  have Fw3_v := Lib.hid (FW2_v.out.trans (hb.mono FW2_v.out.size))
  have Fw3_p := Lib.hid (FW2_p.out.trans (hb.mono FW2_p.out.size))
  have HBw3 := Lib.hid (HBW2.out.trans (hb.mono HBW2.out.size))
  have hq2 := RdA.of_RdV _ _ hq
  clear hb
  have Fw3_q := Lib.hid (Below.refl w3.heap.size w3)
  obtain ⟨q, hqv⟩ : ∃ x : V, awQ = x := ⟨_, rfl⟩
  have HEq := Lib.hid hqv
  rw [hqv] at hq2 ⊢
  have Hq := Lib.hid hq2.wide
  clear hq hq2 hqv
  generalize q.k = qk at *
  generalize q.n = qn at *
  generalize strOf q.s = qS at *
  generalize q.l.length = ql at *
  generalize q.ms.length = qm at *
  obtain ⟨W3, hW3⟩ : ∃ W3, W3 = w3.alloc (.cells #[.int .i64 qk, .int .i64 qn, .string qS, .slice qA ql qc, .slice qB qm qd] 25) := ⟨_, rfl⟩
  have hb : Below w3.heap.size w3 W3 := by rw [hW3]; exact (Below.refl _ _).alloc (Nat.le_refl _) _
  have RW3_0 := Lib.hid (show W3.heap[w1.heap.size]? = some (.cells #[.int .i64 vk, .int .i64 vn, .string vS, .slice vA vl vc, .slice vB vm vd] 25 (0, 0)) from (hb.block _ Lw3_0.out).trans Rw3_0.out)
  have LW3_0 := Lib.hid (show w1.heap.size < W3.heap.size from Nat.lt_of_lt_of_le Lw3_0.out hb.size)
  have RW3_1 := Lib.hid (show W3.heap[w2.heap.size]? = some (.cells #[.int .i64 pk, .int .i64 pn, .string pS, .slice pA pl pc, .slice pB pm pd] 25 (0, 0)) from (hb.block _ Lw3_1.out).trans Rw3_1.out)
  have LW3_1 := Lib.hid (show w2.heap.size < W3.heap.size from Nat.lt_of_lt_of_le Lw3_1.out hb.size)
  have FW3_v := Lib.hid (Fw3_v.out.trans (hb.mono Fw3_v.out.size))
  have FW3_p := Lib.hid (Fw3_p.out.trans (hb.mono Fw3_p.out.size))
  have FW3_q := Lib.hid (Fw3_q.out.trans (hb.mono Fw3_q.out.size))
  have HBW3 := Lib.hid (HBw3.out.trans (hb.mono HBw3.out.size))
  have RW3_2 := Lib.hid (show W3.heap[w3.heap.size]? = some (.cells #[.int .i64 qk, .int .i64 qn, .string qS, .slice qA ql qc, .slice qB qm qd] 25 (0, 0)) by rw [hW3]; exact heapNew _ _)
  have LW3_2 := Lib.hid (show w3.heap.size < W3.heap.size by rw [hW3, szAl]; exact Nat.lt_succ_self _)
  have HW3 := Lib.hid hW3
  clear hW3 hb
  have q0 := RW3_0.out
  rw [HW3.out] at q0
  obtain ⟨⟨p0_0, p0_1, p0_2, p0_3, p0_4⟩, -⟩ := row5 q0
  clear q0
  have q1 := RW3_1.out
  rw [HW3.out] at q1
  obtain ⟨⟨p1_0, p1_1, p1_2, p1_3, p1_4⟩, -⟩ := row5 q1
  clear q1
  have q2 := RW3_2.out
  rw [HW3.out] at q2
  obtain ⟨⟨p2_0, p2_1, p2_2, p2_3, p2_4⟩, -⟩ := row5 q2
  clear q2
  go_wp2_with fail
  rw [← HW3.out]
  clear p0_0 p0_1 p0_2 p0_3 p0_4 p1_0 p1_1 p1_2 p1_3 p1_4 p2_0 p2_1 p2_2 p2_3 p2_4
  refine (Apply_any v p [.int .i64 vk, .int .i64 vn, .string vS, .slice vA vl vc, .slice vB vm vd] [.int .i64 pk, .int .i64 pn, .string pS, .slice pA pl pc, .slice pB pm pd] _ (Hv.out.below FW3_v.out (Nat.le_refl _) FW3_v.out.size) (Hp.out.below FW3_p.out (Nat.le_refl _) FW3_p.out.size) (by rw [← HEv.out]; exact (aw9_wf _ (.inl rfl)).1) (by rw [← HEp.out]; exact (aw9_wf _ (.inr (.inl rfl))).1) (by rw [← HEv.out]; exact Nat.le_trans (aw9_wf _ (.inl rfl)).2.1 (by decide)) (by rw [← HEp.out]; exact Nat.le_trans (aw9_wf _ (.inr (.inl rfl))).2.1 (by decide))).mono ?_
  rintro e w4 ⟨⟨xs, xe, rfl, hx⟩, hb⟩
  have Rw4_0 := Lib.hid (show w4.heap[w1.heap.size]? = some (.cells #[.int .i64 vk, .int .i64 vn, .string vS, .slice vA vl vc, .slice vB vm vd] 25 (0, 0)) from (hb.block _ LW3_0.out).trans RW3_0.out)
  have Lw4_0 := Lib.hid (show w1.heap.size < w4.heap.size from Nat.lt_of_lt_of_le LW3_0.out hb.size)
  have Rw4_1 := Lib.hid (show w4.heap[w2.heap.size]? = some (.cells #[.int .i64 pk, .int .i64 pn, .string pS, .slice pA pl pc, .slice pB pm pd] 25 (0, 0)) from (hb.block _ LW3_1.out).trans RW3_1.out)
  have Lw4_1 := Lib.hid (show w2.heap.size < w4.heap.size from Nat.lt_of_lt_of_le LW3_1.out hb.size)
  have Rw4_2 := Lib.hid (show w4.heap[w3.heap.size]? = some (.cells #[.int .i64 qk, .int .i64 qn, .string qS, .slice qA ql qc, .slice qB qm qd] 25 (0, 0)) from (hb.block _ LW3_2.out).trans RW3_2.out)
  have Lw4_2 := Lib.hid (show w3.heap.size < w4.heap.size from Nat.lt_of_lt_of_le LW3_2.out hb.size)
  have Fw4_v := Lib.hid (FW3_v.out.trans (hb.mono FW3_v.out.size))
  have Fw4_p := Lib.hid (FW3_p.out.trans (hb.mono FW3_p.out.size))
  have Fw4_q := Lib.hid (FW3_q.out.trans (hb.mono FW3_q.out.size))
  have HBw4 := Lib.hid (HBW3.out.trans (hb.mono HBW3.out.size))
  obtain ⟨F, e0, h1⟩ : ∃ F, xe = 0 ∧ RdF w4 awW xs F ∧ ∀ k ∈ F, k < w4.heap.size := by
    rcases hx with ⟨_, e0, F, h1, _, h3⟩ | ⟨h0, _⟩
    · rw [← HEv.out, ← HEp.out, aw9_w] at h1
      exact ⟨F, e0, h1, fun k hk => (h3 k hk).2⟩
    · rw [← HEv.out, ← HEp.out] at h0
      exact absurd aw9_fit h0
  subst e0
  clear hx
  have hx := RdF.toA (lo := 0) (hi := w4.heap.size) _ _ _ (fun k hk => ⟨Nat.zero_le _, h1.2 k hk⟩) h1.1
  obtain ⟨x, hxv⟩ : ∃ x : V, awW = x := ⟨_, rfl⟩
  have HEx := Lib.hid hxv
  rw [hxv] at hx
  obtain ⟨xA, xc, xB, xd, ex, -⟩ := hx.cells
  subst ex
  have Hx := Lib.hid hx
  clear h1 hx hxv
  generalize x.k = xk at *
  generalize x.n = xn at *
  generalize strOf x.s = xS at *
  generalize x.l.length = xl at *
  generalize x.ms.length = xm at *
  clear hb
  have Fw4_x := Lib.hid (Below.refl w4.heap.size w4)
  obtain ⟨W4, hW4⟩ : ∃ W4, W4 = w4.alloc (.cells #[.int .i64 xk, .int .i64 xn, .string xS, .slice xA xl xc, .slice xB xm xd] 25) := ⟨_, rfl⟩
  have hb : Below w4.heap.size w4 W4 := by rw [hW4]; exact (Below.refl _ _).alloc (Nat.le_refl _) _
  have RW4_0 := Lib.hid (show W4.heap[w1.heap.size]? = some (.cells #[.int .i64 vk, .int .i64 vn, .string vS, .slice vA vl vc, .slice vB vm vd] 25 (0, 0)) from (hb.block _ Lw4_0.out).trans Rw4_0.out)
  have LW4_0 := Lib.hid (show w1.heap.size < W4.heap.size from Nat.lt_of_lt_of_le Lw4_0.out hb.size)
  have RW4_1 := Lib.hid (show W4.heap[w2.heap.size]? = some (.cells #[.int .i64 pk, .int .i64 pn, .string pS, .slice pA pl pc, .slice pB pm pd] 25 (0, 0)) from (hb.block _ Lw4_1.out).trans Rw4_1.out)
  have LW4_1 := Lib.hid (show w2.heap.size < W4.heap.size from Nat.lt_of_lt_of_le Lw4_1.out hb.size)
  have RW4_2 := Lib.hid (show W4.heap[w3.heap.size]? = some (.cells #[.int .i64 qk, .int .i64 qn, .string qS, .slice qA ql qc, .slice qB qm qd] 25 (0, 0)) from (hb.block _ Lw4_2.out).trans Rw4_2.out)
  have LW4_2 := Lib.hid (show w3.heap.size < W4.heap.size from Nat.lt_of_lt_of_le Lw4_2.out hb.size)
  have FW4_v := Lib.hid (Fw4_v.out.trans (hb.mono Fw4_v.out.size))
  have FW4_p := Lib.hid (Fw4_p.out.trans (hb.mono Fw4_p.out.size))
  have FW4_q := Lib.hid (Fw4_q.out.trans (hb.mono Fw4_q.out.size))
  have FW4_x := Lib.hid (Fw4_x.out.trans (hb.mono Fw4_x.out.size))
  have HBW4 := Lib.hid (HBw4.out.trans (hb.mono HBw4.out.size))
  have RW4_3 := Lib.hid (show W4.heap[w4.heap.size]? = some (.cells #[.int .i64 xk, .int .i64 xn, .string xS, .slice xA xl xc, .slice xB xm xd] 25 (0, 0)) by rw [hW4]; exact heapNew _ _)
  have LW4_3 := Lib.hid (show w4.heap.size < W4.heap.size by rw [hW4, szAl]; exact Nat.lt_succ_self _)
  have HW4 := Lib.hid hW4
  clear hW4 hb
  have HTX := Lib.hid (show Calls Try.prog 16 #[.agg #[.int .i64 xk, .int .i64 xn, .string xS, .slice xA xl xc, .slice xB xm xd]] W4 (fun e w' => e = .returned (.tuple #[.string ⟨#[123, 34, 97, 34, 58, 123, 125, 44, 34, 99, 34, 58, 51, 44, 34, 100, 34, 58, 52, 125]⟩, .int .i64 0]) ∧ Below W4.heap.size W4 w') from by
    have hw := aw9_wf x (by rw [← HEx.out]; exact .inr (.inr (.inr rfl)))
    refine (Em.Text_any x [.int .i64 xk, .int .i64 xn, .string xS, .slice xA xl xc, .slice xB xm xd] 0 W4 hw.2.2 (by have := hw.2.1; omega) (szA_of _ x hw.1 (by have := hw.2.1; omega)) (RdA.below Hx.out FW4_x.out (Nat.le_refl _) FW4_x.out.size)).mono ?_
    rintro e w' ⟨h1, h2⟩
    refine ⟨?_, h2⟩
    rw [← HEx.out, aw9_t, aw9_c] at h1
    exact h1)
  have q0 := RW4_0.out
  rw [HW4.out] at q0
  obtain ⟨⟨p0_0, p0_1, p0_2, p0_3, p0_4⟩, -⟩ := row5 q0
  clear q0
  have q1 := RW4_1.out
  rw [HW4.out] at q1
  obtain ⟨⟨p1_0, p1_1, p1_2, p1_3, p1_4⟩, -⟩ := row5 q1
  clear q1
  have q2 := RW4_2.out
  rw [HW4.out] at q2
  obtain ⟨⟨p2_0, p2_1, p2_2, p2_3, p2_4⟩, -⟩ := row5 q2
  clear q2
  have q3 := RW4_3.out
  rw [HW4.out] at q3
  obtain ⟨⟨p3_0, p3_1, p3_2, p3_3, p3_4⟩, -⟩ := row5 q3
  clear q3
  go_wp2_with fail
  rw [← HW4.out]
  clear p0_0 p0_1 p0_2 p0_3 p0_4 p1_0 p1_1 p1_2 p1_3 p1_4 p2_0 p2_1 p2_2 p2_3 p2_4 p3_0 p3_1 p3_2 p3_3 p3_4
  refine (HTX.out).mono ?_
  rintro e w5 ⟨rfl, hb⟩
  have Rw5_0 := Lib.hid (show w5.heap[w1.heap.size]? = some (.cells #[.int .i64 vk, .int .i64 vn, .string vS, .slice vA vl vc, .slice vB vm vd] 25 (0, 0)) from (hb.block _ LW4_0.out).trans RW4_0.out)
  have Lw5_0 := Lib.hid (show w1.heap.size < w5.heap.size from Nat.lt_of_lt_of_le LW4_0.out hb.size)
  have Rw5_1 := Lib.hid (show w5.heap[w2.heap.size]? = some (.cells #[.int .i64 pk, .int .i64 pn, .string pS, .slice pA pl pc, .slice pB pm pd] 25 (0, 0)) from (hb.block _ LW4_1.out).trans RW4_1.out)
  have Lw5_1 := Lib.hid (show w2.heap.size < w5.heap.size from Nat.lt_of_lt_of_le LW4_1.out hb.size)
  have Rw5_2 := Lib.hid (show w5.heap[w3.heap.size]? = some (.cells #[.int .i64 qk, .int .i64 qn, .string qS, .slice qA ql qc, .slice qB qm qd] 25 (0, 0)) from (hb.block _ LW4_2.out).trans RW4_2.out)
  have Lw5_2 := Lib.hid (show w3.heap.size < w5.heap.size from Nat.lt_of_lt_of_le LW4_2.out hb.size)
  have Rw5_3 := Lib.hid (show w5.heap[w4.heap.size]? = some (.cells #[.int .i64 xk, .int .i64 xn, .string xS, .slice xA xl xc, .slice xB xm xd] 25 (0, 0)) from (hb.block _ LW4_3.out).trans RW4_3.out)
  have Lw5_3 := Lib.hid (show w4.heap.size < w5.heap.size from Nat.lt_of_lt_of_le LW4_3.out hb.size)
  have Fw5_v := Lib.hid (FW4_v.out.trans (hb.mono FW4_v.out.size))
  have Fw5_p := Lib.hid (FW4_p.out.trans (hb.mono FW4_p.out.size))
  have Fw5_q := Lib.hid (FW4_q.out.trans (hb.mono FW4_q.out.size))
  have Fw5_x := Lib.hid (FW4_x.out.trans (hb.mono FW4_x.out.size))
  have HBw5 := Lib.hid (HBW4.out.trans (hb.mono HBW4.out.size))
  clear hb
  obtain ⟨⟨p0_0, p0_1, p0_2, p0_3, p0_4⟩, -⟩ := row5 Rw5_0.out
  obtain ⟨⟨p1_0, p1_1, p1_2, p1_3, p1_4⟩, -⟩ := row5 Rw5_1.out
  obtain ⟨⟨p2_0, p2_1, p2_2, p2_3, p2_4⟩, -⟩ := row5 Rw5_2.out
  obtain ⟨⟨p3_0, p3_1, p3_2, p3_3, p3_4⟩, -⟩ := row5 Rw5_3.out
  go_wp2_with fail
  clear p0_0 p0_1 p0_2 p0_3 p0_4 p1_0 p1_1 p1_2 p1_3 p1_4 p2_0 p2_1 p2_2 p2_3 p2_4 p3_0 p3_1 p3_2 p3_3 p3_4
  refine (Apply_any v q [.int .i64 vk, .int .i64 vn, .string vS, .slice vA vl vc, .slice vB vm vd] [.int .i64 qk, .int .i64 qn, .string qS, .slice qA ql qc, .slice qB qm qd] _ (Hv.out.below Fw5_v.out (Nat.le_refl _) Fw5_v.out.size) (Hq.out.below Fw5_q.out (Nat.le_refl _) Fw5_q.out.size) (by rw [← HEv.out]; exact (aw9_wf _ (.inl rfl)).1) (by rw [← HEq.out]; exact (aw9_wf _ (.inr (.inr (.inl rfl)))).1) (by rw [← HEv.out]; exact Nat.le_trans (aw9_wf _ (.inl rfl)).2.1 (by decide)) (by rw [← HEq.out]; exact Nat.le_trans (aw9_wf _ (.inr (.inr (.inl rfl)))).2.1 (by decide))).mono ?_
  rintro e w6 ⟨⟨ys, ye, rfl, hy⟩, hb⟩
  have Rw6_0 := Lib.hid (show w6.heap[w1.heap.size]? = some (.cells #[.int .i64 vk, .int .i64 vn, .string vS, .slice vA vl vc, .slice vB vm vd] 25 (0, 0)) from (hb.block _ Lw5_0.out).trans Rw5_0.out)
  have Lw6_0 := Lib.hid (show w1.heap.size < w6.heap.size from Nat.lt_of_lt_of_le Lw5_0.out hb.size)
  have Rw6_1 := Lib.hid (show w6.heap[w2.heap.size]? = some (.cells #[.int .i64 pk, .int .i64 pn, .string pS, .slice pA pl pc, .slice pB pm pd] 25 (0, 0)) from (hb.block _ Lw5_1.out).trans Rw5_1.out)
  have Lw6_1 := Lib.hid (show w2.heap.size < w6.heap.size from Nat.lt_of_lt_of_le Lw5_1.out hb.size)
  have Rw6_2 := Lib.hid (show w6.heap[w3.heap.size]? = some (.cells #[.int .i64 qk, .int .i64 qn, .string qS, .slice qA ql qc, .slice qB qm qd] 25 (0, 0)) from (hb.block _ Lw5_2.out).trans Rw5_2.out)
  have Lw6_2 := Lib.hid (show w3.heap.size < w6.heap.size from Nat.lt_of_lt_of_le Lw5_2.out hb.size)
  have Rw6_3 := Lib.hid (show w6.heap[w4.heap.size]? = some (.cells #[.int .i64 xk, .int .i64 xn, .string xS, .slice xA xl xc, .slice xB xm xd] 25 (0, 0)) from (hb.block _ Lw5_3.out).trans Rw5_3.out)
  have Lw6_3 := Lib.hid (show w4.heap.size < w6.heap.size from Nat.lt_of_lt_of_le Lw5_3.out hb.size)
  have Fw6_v := Lib.hid (Fw5_v.out.trans (hb.mono Fw5_v.out.size))
  have Fw6_p := Lib.hid (Fw5_p.out.trans (hb.mono Fw5_p.out.size))
  have Fw6_q := Lib.hid (Fw5_q.out.trans (hb.mono Fw5_q.out.size))
  have Fw6_x := Lib.hid (Fw5_x.out.trans (hb.mono Fw5_x.out.size))
  have HBw6 := Lib.hid (HBw5.out.trans (hb.mono HBw5.out.size))
  obtain ⟨e0, ey⟩ : ye = 90 ∧ ys = [.int .i64 0, .int .i64 0, .string ⟨#[]⟩, .slice none 0 0, .slice none 0 0] := by
    rcases hy with ⟨h0, _⟩ | ⟨_, h1, h2⟩
    · rw [← HEv.out, ← HEq.out] at h0
      exact absurd h0 aw9_not
    · exact ⟨h1, h2⟩
  subst e0 ey
  clear hy
  clear hb
  obtain ⟨W6, hW6⟩ : ∃ W6, W6 = w6.alloc (.cells #[.int .i64 0, .int .i64 0, .string ⟨#[]⟩, .slice none 0 0, .slice none 0 0] 25) := ⟨_, rfl⟩
  have hb : Below w6.heap.size w6 W6 := by rw [hW6]; exact (Below.refl _ _).alloc (Nat.le_refl _) _
  have RW6_0 := Lib.hid (show W6.heap[w1.heap.size]? = some (.cells #[.int .i64 vk, .int .i64 vn, .string vS, .slice vA vl vc, .slice vB vm vd] 25 (0, 0)) from (hb.block _ Lw6_0.out).trans Rw6_0.out)
  have LW6_0 := Lib.hid (show w1.heap.size < W6.heap.size from Nat.lt_of_lt_of_le Lw6_0.out hb.size)
  have RW6_1 := Lib.hid (show W6.heap[w2.heap.size]? = some (.cells #[.int .i64 pk, .int .i64 pn, .string pS, .slice pA pl pc, .slice pB pm pd] 25 (0, 0)) from (hb.block _ Lw6_1.out).trans Rw6_1.out)
  have LW6_1 := Lib.hid (show w2.heap.size < W6.heap.size from Nat.lt_of_lt_of_le Lw6_1.out hb.size)
  have RW6_2 := Lib.hid (show W6.heap[w3.heap.size]? = some (.cells #[.int .i64 qk, .int .i64 qn, .string qS, .slice qA ql qc, .slice qB qm qd] 25 (0, 0)) from (hb.block _ Lw6_2.out).trans Rw6_2.out)
  have LW6_2 := Lib.hid (show w3.heap.size < W6.heap.size from Nat.lt_of_lt_of_le Lw6_2.out hb.size)
  have RW6_3 := Lib.hid (show W6.heap[w4.heap.size]? = some (.cells #[.int .i64 xk, .int .i64 xn, .string xS, .slice xA xl xc, .slice xB xm xd] 25 (0, 0)) from (hb.block _ Lw6_3.out).trans Rw6_3.out)
  have LW6_3 := Lib.hid (show w4.heap.size < W6.heap.size from Nat.lt_of_lt_of_le Lw6_3.out hb.size)
  have FW6_v := Lib.hid (Fw6_v.out.trans (hb.mono Fw6_v.out.size))
  have FW6_p := Lib.hid (Fw6_p.out.trans (hb.mono Fw6_p.out.size))
  have FW6_q := Lib.hid (Fw6_q.out.trans (hb.mono Fw6_q.out.size))
  have FW6_x := Lib.hid (Fw6_x.out.trans (hb.mono Fw6_x.out.size))
  have HBW6 := Lib.hid (HBw6.out.trans (hb.mono HBw6.out.size))
  have RW6_4 := Lib.hid (show W6.heap[w6.heap.size]? = some (.cells #[.int .i64 0, .int .i64 0, .string ⟨#[]⟩, .slice none 0 0, .slice none 0 0] 25 (0, 0)) by rw [hW6]; exact heapNew _ _)
  have LW6_4 := Lib.hid (show w6.heap.size < W6.heap.size by rw [hW6, szAl]; exact Nat.lt_succ_self _)
  have HW6 := Lib.hid hW6
  clear hW6 hb
  have q0 := RW6_0.out
  rw [HW6.out] at q0
  obtain ⟨⟨p0_0, p0_1, p0_2, p0_3, p0_4⟩, -⟩ := row5 q0
  clear q0
  have q1 := RW6_1.out
  rw [HW6.out] at q1
  obtain ⟨⟨p1_0, p1_1, p1_2, p1_3, p1_4⟩, -⟩ := row5 q1
  clear q1
  have q2 := RW6_2.out
  rw [HW6.out] at q2
  obtain ⟨⟨p2_0, p2_1, p2_2, p2_3, p2_4⟩, -⟩ := row5 q2
  clear q2
  have q3 := RW6_3.out
  rw [HW6.out] at q3
  obtain ⟨⟨p3_0, p3_1, p3_2, p3_3, p3_4⟩, -⟩ := row5 q3
  clear q3
  have q4 := RW6_4.out
  rw [HW6.out] at q4
  obtain ⟨⟨p4_0, p4_1, p4_2, p4_3, p4_4⟩, -⟩ := row5 q4
  clear q4
  go_wp2_with fail
  rw [← HW6.out]
  clear p0_0 p0_1 p0_2 p0_3 p0_4 p1_0 p1_1 p1_2 p1_3 p1_4 p2_0 p2_1 p2_2 p2_3 p2_4 p3_0 p3_1 p3_2 p3_3 p3_4 p4_0 p4_1 p4_2 p4_3 p4_4
  refine (Fits_any v p [.int .i64 vk, .int .i64 vn, .string vS, .slice vA vl vc, .slice vB vm vd] [.int .i64 pk, .int .i64 pn, .string pS, .slice pA pl pc, .slice pB pm pd] _ (Hv.out.below FW6_v.out (Nat.le_refl _) FW6_v.out.size) (Hp.out.below FW6_p.out (Nat.le_refl _) FW6_p.out.size) (by rw [← HEv.out]; exact (aw9_wf _ (.inl rfl)).1) (by rw [← HEp.out]; exact (aw9_wf _ (.inr (.inl rfl))).1) (by rw [← HEv.out]; exact Nat.le_trans (aw9_wf _ (.inl rfl)).2.1 (by decide)) (by rw [← HEp.out]; exact Nat.le_trans (aw9_wf _ (.inr (.inl rfl))).2.1 (by decide))).mono ?_
  rintro e w7 ⟨⟨b, rfl, hx⟩, hb⟩
  have Rw7_0 := Lib.hid (show w7.heap[w1.heap.size]? = some (.cells #[.int .i64 vk, .int .i64 vn, .string vS, .slice vA vl vc, .slice vB vm vd] 25 (0, 0)) from (hb.block _ LW6_0.out).trans RW6_0.out)
  have Lw7_0 := Lib.hid (show w1.heap.size < w7.heap.size from Nat.lt_of_lt_of_le LW6_0.out hb.size)
  have Rw7_1 := Lib.hid (show w7.heap[w2.heap.size]? = some (.cells #[.int .i64 pk, .int .i64 pn, .string pS, .slice pA pl pc, .slice pB pm pd] 25 (0, 0)) from (hb.block _ LW6_1.out).trans RW6_1.out)
  have Lw7_1 := Lib.hid (show w2.heap.size < w7.heap.size from Nat.lt_of_lt_of_le LW6_1.out hb.size)
  have Rw7_2 := Lib.hid (show w7.heap[w3.heap.size]? = some (.cells #[.int .i64 qk, .int .i64 qn, .string qS, .slice qA ql qc, .slice qB qm qd] 25 (0, 0)) from (hb.block _ LW6_2.out).trans RW6_2.out)
  have Lw7_2 := Lib.hid (show w3.heap.size < w7.heap.size from Nat.lt_of_lt_of_le LW6_2.out hb.size)
  have Rw7_3 := Lib.hid (show w7.heap[w4.heap.size]? = some (.cells #[.int .i64 xk, .int .i64 xn, .string xS, .slice xA xl xc, .slice xB xm xd] 25 (0, 0)) from (hb.block _ LW6_3.out).trans RW6_3.out)
  have Lw7_3 := Lib.hid (show w4.heap.size < w7.heap.size from Nat.lt_of_lt_of_le LW6_3.out hb.size)
  have Rw7_4 := Lib.hid (show w7.heap[w6.heap.size]? = some (.cells #[.int .i64 0, .int .i64 0, .string ⟨#[]⟩, .slice none 0 0, .slice none 0 0] 25 (0, 0)) from (hb.block _ LW6_4.out).trans RW6_4.out)
  have Lw7_4 := Lib.hid (show w6.heap.size < w7.heap.size from Nat.lt_of_lt_of_le LW6_4.out hb.size)
  have Fw7_v := Lib.hid (FW6_v.out.trans (hb.mono FW6_v.out.size))
  have Fw7_p := Lib.hid (FW6_p.out.trans (hb.mono FW6_p.out.size))
  have Fw7_q := Lib.hid (FW6_q.out.trans (hb.mono FW6_q.out.size))
  have Fw7_x := Lib.hid (FW6_x.out.trans (hb.mono FW6_x.out.size))
  have HBw7 := Lib.hid (HBW6.out.trans (hb.mono HBW6.out.size))
  obtain rfl : b = true := hx.2 (by rw [← HEv.out, ← HEp.out]; exact aw9_fit)
  clear hx
  clear hb
  obtain ⟨⟨p0_0, p0_1, p0_2, p0_3, p0_4⟩, -⟩ := row5 Rw7_0.out
  obtain ⟨⟨p1_0, p1_1, p1_2, p1_3, p1_4⟩, -⟩ := row5 Rw7_1.out
  obtain ⟨⟨p2_0, p2_1, p2_2, p2_3, p2_4⟩, -⟩ := row5 Rw7_2.out
  obtain ⟨⟨p3_0, p3_1, p3_2, p3_3, p3_4⟩, -⟩ := row5 Rw7_3.out
  obtain ⟨⟨p4_0, p4_1, p4_2, p4_3, p4_4⟩, -⟩ := row5 Rw7_4.out
  go_wp2_with fail
  clear p0_0 p0_1 p0_2 p0_3 p0_4 p1_0 p1_1 p1_2 p1_3 p1_4 p2_0 p2_1 p2_2 p2_3 p2_4 p3_0 p3_1 p3_2 p3_3 p3_4 p4_0 p4_1 p4_2 p4_3 p4_4
  refine (Fits_any v q [.int .i64 vk, .int .i64 vn, .string vS, .slice vA vl vc, .slice vB vm vd] [.int .i64 qk, .int .i64 qn, .string qS, .slice qA ql qc, .slice qB qm qd] _ (Hv.out.below Fw7_v.out (Nat.le_refl _) Fw7_v.out.size) (Hq.out.below Fw7_q.out (Nat.le_refl _) Fw7_q.out.size) (by rw [← HEv.out]; exact (aw9_wf _ (.inl rfl)).1) (by rw [← HEq.out]; exact (aw9_wf _ (.inr (.inr (.inl rfl)))).1) (by rw [← HEv.out]; exact Nat.le_trans (aw9_wf _ (.inl rfl)).2.1 (by decide)) (by rw [← HEq.out]; exact Nat.le_trans (aw9_wf _ (.inr (.inr (.inl rfl)))).2.1 (by decide))).mono ?_
  rintro e w8 ⟨⟨b, rfl, hx⟩, hb⟩
  have Rw8_0 := Lib.hid (show w8.heap[w1.heap.size]? = some (.cells #[.int .i64 vk, .int .i64 vn, .string vS, .slice vA vl vc, .slice vB vm vd] 25 (0, 0)) from (hb.block _ Lw7_0.out).trans Rw7_0.out)
  have Lw8_0 := Lib.hid (show w1.heap.size < w8.heap.size from Nat.lt_of_lt_of_le Lw7_0.out hb.size)
  have Rw8_1 := Lib.hid (show w8.heap[w2.heap.size]? = some (.cells #[.int .i64 pk, .int .i64 pn, .string pS, .slice pA pl pc, .slice pB pm pd] 25 (0, 0)) from (hb.block _ Lw7_1.out).trans Rw7_1.out)
  have Lw8_1 := Lib.hid (show w2.heap.size < w8.heap.size from Nat.lt_of_lt_of_le Lw7_1.out hb.size)
  have Rw8_2 := Lib.hid (show w8.heap[w3.heap.size]? = some (.cells #[.int .i64 qk, .int .i64 qn, .string qS, .slice qA ql qc, .slice qB qm qd] 25 (0, 0)) from (hb.block _ Lw7_2.out).trans Rw7_2.out)
  have Lw8_2 := Lib.hid (show w3.heap.size < w8.heap.size from Nat.lt_of_lt_of_le Lw7_2.out hb.size)
  have Rw8_3 := Lib.hid (show w8.heap[w4.heap.size]? = some (.cells #[.int .i64 xk, .int .i64 xn, .string xS, .slice xA xl xc, .slice xB xm xd] 25 (0, 0)) from (hb.block _ Lw7_3.out).trans Rw7_3.out)
  have Lw8_3 := Lib.hid (show w4.heap.size < w8.heap.size from Nat.lt_of_lt_of_le Lw7_3.out hb.size)
  have Rw8_4 := Lib.hid (show w8.heap[w6.heap.size]? = some (.cells #[.int .i64 0, .int .i64 0, .string ⟨#[]⟩, .slice none 0 0, .slice none 0 0] 25 (0, 0)) from (hb.block _ Lw7_4.out).trans Rw7_4.out)
  have Lw8_4 := Lib.hid (show w6.heap.size < w8.heap.size from Nat.lt_of_lt_of_le Lw7_4.out hb.size)
  have Fw8_v := Lib.hid (Fw7_v.out.trans (hb.mono Fw7_v.out.size))
  have Fw8_p := Lib.hid (Fw7_p.out.trans (hb.mono Fw7_p.out.size))
  have Fw8_q := Lib.hid (Fw7_q.out.trans (hb.mono Fw7_q.out.size))
  have Fw8_x := Lib.hid (Fw7_x.out.trans (hb.mono Fw7_x.out.size))
  have HBw8 := Lib.hid (HBw7.out.trans (hb.mono HBw7.out.size))
  obtain rfl : b = false := by
    cases b
    · rfl
    · have := hx.1 rfl
      rw [← HEv.out, ← HEq.out] at this
      exact absurd this aw9_not
  clear hx
  clear hb
  go_wp2
  go_ret
  exact ⟨rfl, HBw8.out⟩
end Go.Proofs.Ytbfogkcnfnjcaaa.Pa
