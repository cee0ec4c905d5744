/- Merged: PaAw PaW1 PaW2 PaS7 PaTu. -/
import Derived.Test.YtbfogkcnfnjcaaaTt38
import Derived.Test.YtbfogkcnfnjcaaaTt40
import Derived.Test.YtbfogkcnfnjcaaaTt36
import Derived.Test.YtbfogkcnfnjcaaaTt20
set_option linter.unusedSimpArgs false
namespace Go.Proofs.Ytbfogkcnfnjcaaa.Pa
open Go.Proofs Go.RowKit
open Go.Proofs.Ytbfogkcnfnjcaaa.Utf
open Go.Proofs.Ytbfogkcnfnjcaaa.Sc
open Go.Proofs.Ytbfogkcnfnjcaaa.Re
open Go.Proofs.Ytbfogkcnfnjcaaa.Tr
open Go.Proofs.Ytbfogkcnfnjcaaa.Po
open Go.Proofs.Ytbfogkcnfnjcaaa.Em (lenV szU wfV szA_of)

set_option maxRecDepth 100000 in
set_option maxHeartbeats 1000000 in
theorem awake_any9 (w : World) : Calls Try.prog 7 #[] w (Gives (.bool true) w) := by
  have HBw := Lib.hid (Below.refl w.heap.size w)
  go_enter Try.func7, Try.ntmps7
  go_wp2_with fail
  refine (Value_any2 ⟨#[123, 34, 97, 34, 58, 123, 34, 98, 34, 58, 49, 125, 44, 34, 99, 34, 58, 50, 125]⟩ _ (by decide) aw9_1).mono ?_
  rintro e w1 ⟨vA, vc, vB, vd, rfl, hv, hb⟩
  have HBw1 := Lib.hid (HBw.out.trans (hb.mono HBw.out.size))
  have hv2 := RdA.of_RdV _ _ hv
  clear hb
  have Fw1_v := Lib.hid (Below.refl w1.heap.size w1)
  obtain ⟨v, hvv⟩ : ∃ x : V, awV = x := ⟨_, rfl⟩
  have HEv := Lib.hid hvv
  rw [hvv] at hv2 ⊢
  have Hv := Lib.hid hv2.wide
  clear hv hv2 hvv
  generalize v.k = vk at *
  generalize v.n = vn at *
  generalize strOf v.s = vS at *
  generalize v.l.length = vl at *
  generalize v.ms.length = vm at *
  obtain ⟨W1, hW1⟩ : ∃ W1, W1 = w1.alloc (.cells #[.int .i64 vk, .int .i64 vn, .string vS, .slice vA vl vc, .slice vB vm vd] 25) := ⟨_, rfl⟩
  have hb : Below w1.heap.size w1 W1 := by rw [hW1]; exact (Below.refl _ _).alloc (Nat.le_refl _) _
  have FW1_v := Lib.hid (Fw1_v.out.trans (hb.mono Fw1_v.out.size))
  have HBW1 := Lib.hid (HBw1.out.trans (hb.mono HBw1.out.size))
  have RW1_0 := Lib.hid (show W1.heap[w1.heap.size]? = some (.cells #[.int .i64 vk, .int .i64 vn, .string vS, .slice vA vl vc, .slice vB vm vd] 25 (0, 0)) by rw [hW1]; exact heapNew _ _)
  have LW1_0 := Lib.hid (show w1.heap.size < W1.heap.size by rw [hW1, szAl]; exact Nat.lt_succ_self _)
  have HW1 := Lib.hid hW1
  clear hW1 hb
  have q0 := RW1_0.out
  rw [HW1.out] at q0
  obtain ⟨⟨p0_0, p0_1, p0_2, p0_3, p0_4⟩, -⟩ := row5 q0
  clear q0
  go_wp2_with fail
  rw [← HW1.out]
  clear p0_0 p0_1 p0_2 p0_3 p0_4
  refine (Value_any2 ⟨#[123, 34, 97, 47, 98, 34, 58, 110, 117, 108, 108, 44, 34, 99, 34, 58, 51, 44, 34, 100, 34, 58, 52, 125]⟩ _ (by decide) aw9_2).mono ?_
  rintro e w2 ⟨pA, pc, pB, pd, rfl, hp, hb⟩
  have Rw2_0 := Lib.hid (show w2.heap[w1.heap.size]? = some (.cells #[.int .i64 vk, .int .i64 vn, .string vS, .slice vA vl vc, .slice vB vm vd] 25 (0, 0)) from (hb.block _ LW1_0.out).trans RW1_0.out)
  have Lw2_0 := Lib.hid (show w1.heap.size < w2.heap.size from Nat.lt_of_lt_of_le LW1_0.out hb.size)
  have Fw2_v := Lib.hid (FW1_v.out.trans (hb.mono FW1_v.out.size))
  have HBw2 := Lib.hid (HBW1.out.trans (hb.mono HBW1.out.size))
  have hp2 := RdA.of_RdV _ _ hp
  clear hb
  have Fw2_p := Lib.hid (Below.refl w2.heap.size w2)
  obtain ⟨p, hpv⟩ : ∃ x : V, awP = x := ⟨_, rfl⟩
  have HEp := Lib.hid hpv
  rw [hpv] at hp2 ⊢
  have Hp := Lib.hid hp2.wide
  clear hp hp2 hpv
  generalize p.k = pk at *
  generalize p.n = pn at *
  generalize strOf p.s = pS at *
  generalize p.l.length = pl at *
  generalize p.ms.length = pm at *
  obtain ⟨W2, hW2⟩ : ∃ W2, W2 = w2.alloc (.cells #[.int .i64 pk, .int .i64 pn, .string pS, .slice pA pl pc, .slice pB pm pd] 25) := ⟨_, rfl⟩
  have hb : Below w2.heap.size w2 W2 := by rw [hW2]; exact (Below.refl _ _).alloc (Nat.le_refl _) _
  have RW2_0 := Lib.hid (show W2.heap[w1.heap.size]? = some (.cells #[.int .i64 vk, .int .i64 vn, .string vS, .slice vA vl vc, .slice vB vm vd] 25 (0, 0)) from (hb.block _ Lw2_0.out).trans Rw2_0.out)
  have LW2_0 := Lib.hid (show w1.heap.size < W2.heap.size from Nat.lt_of_lt_of_le Lw2_0.out hb.size)
  have FW2_v := Lib.hid (Fw2_v.out.trans (hb.mono Fw2_v.out.size))
  have FW2_p := Lib.hid (Fw2_p.out.trans (hb.mono Fw2_p.out.size))
  have HBW2 := Lib.hid (HBw2.out.trans (hb.mono HBw2.out.size))
  have RW2_1 := Lib.hid (show W2.heap[w2.heap.size]? = some (.cells #[.int .i64 pk, .int .i64 pn, .string pS, .slice pA pl pc, .slice pB pm pd] 25 (0, 0)) by rw [hW2]; exact heapNew _ _)
  have LW2_1 := Lib.hid (show w2.heap.size < W2.heap.size by rw [hW2, szAl]; exact Nat.lt_succ_self _)
  have HW2 := Lib.hid hW2
  clear hW2 hb
  have q0 := RW2_0.out
  rw [HW2.out] at q0
  obtain ⟨⟨p0_0, p0_1, p0_2, p0_3, p0_4⟩, -⟩ := row5 q0
  clear q0
  have q1 := RW2_1.out
  rw [HW2.out] at q1
  obtain ⟨⟨p1_0, p1_1, p1_2, p1_3, p1_4⟩, -⟩ := row5 q1
  clear q1
  go_wp2_with fail
  rw [← HW2.out]
  clear p0_0 p0_1 p0_2 p0_3 p0_4 p1_0 p1_1 p1_2 p1_3 p1_4
  refine (Value_any2 ⟨#[123, 34, 97, 34, 58, 49, 44, 34, 97, 47, 98, 34, 58, 50, 125]⟩ _ (by decide) aw9_3).mono ?_
  rintro e w3 ⟨qA, qc, qB, qd, rfl, hq, hb⟩
  have Rw3_0 := Lib.hid (show w3.heap[w1.heap.size]? = some (.cells #[.int .i64 vk, .int .i64 vn, .string vS, .slice vA vl vc, .slice vB vm vd] 25 (0, 0)) from (hb.block _ LW2_0.out).trans RW2_0.out)
  have Lw3_0 := Lib.hid (show w1.heap.size < w3.heap.size from Nat.lt_of_lt_of_le LW2_0.out hb.size)
  have Rw3_1 := Lib.hid (show w3.heap[w2.heap.size]? = some (.cells #[.int .i64 pk, .int .i64 pn, .string pS, .slice pA pl pc, .slice pB pm pd] 25 (0, 0)) from (hb.block _ LW2_1.out).trans RW2_1.out)
  have Lw3_1 := Lib.hid (show w2.heap.size < w3.heap.size from Nat.lt_of_lt_of_le LW2_1.out hb.size)
  have Fw3_v := Lib.hid (FW2_v.out.trans (hb.mono FW2_v.out.size))
  have Fw3_p := Lib.hid (FW2_p.out.trans (hb.mono FW2_p.out.size))
  have HBw3 := Lib.hid (HBW2.out.trans (hb.mono HBW2.out.size))
  have hq2 := RdA.of_RdV _ _ hq
  clear hb
  have Fw3_q := Lib.hid (Below.refl w3.heap.size w3)
  obtain ⟨q, hqv⟩ : ∃ x : V, awQ = x := ⟨_, rfl⟩
  have HEq := Lib.hid hqv
  rw [hqv] at hq2 ⊢
  have Hq := Lib.hid hq2.wide
  clear hq hq2 hqv
  generalize q.k = qk at *
  generalize q.n = qn at *
  generalize strOf q.s = qS at *
  generalize q.l.length = ql at *
  generalize q.ms.length = qm at *
  obtain ⟨W3, hW3⟩ : ∃ W3, W3 = w3.alloc (.cells #[.int .i64 qk, .int .i64 qn, .string qS, .slice qA ql qc, .slice qB qm qd] 25) := ⟨_, rfl⟩
  have hb : Below w3.heap.size w3 W3 := by rw [hW3]; exact (Below.refl _ _).alloc (Nat.le_refl _) _
  have RW3_0 := Lib.hid (show W3.heap[w1.heap.size]? = some (.cells #[.int .i64 vk, .int .i64 vn, .string vS, .slice vA vl vc, .slice vB vm vd] 25 (0, 0)) from (hb.block _ Lw3_0.out).trans Rw3_0.out)
  have LW3_0 := Lib.hid (show w1.heap.size < W3.heap.size from Nat.lt_of_lt_of_le Lw3_0.out hb.size)
  have RW3_1 := Lib.hid (show W3.heap[w2.heap.size]? = some (.cells #[.int .i64 pk, .int .i64 pn, .string pS, .slice pA pl pc, .slice pB pm pd] 25 (0, 0)) from (hb.block _ Lw3_1.out).trans Rw3_1.out)
  have LW3_1 := Lib.hid (show w2.heap.size < W3.heap.size from Nat.lt_of_lt_of_le Lw3_1.out hb.size)
  have FW3_v := Lib.hid (Fw3_v.out.trans (hb.mono Fw3_v.out.size))
  have FW3_p := Lib.hid (Fw3_p.out.trans (hb.mono Fw3_p.out.size))
  have FW3_q := Lib.hid (Fw3_q.out.trans (hb.mono Fw3_q.out.size))
  have HBW3 := Lib.hid (HBw3.out.trans (hb.mono HBw3.out.size))
  have RW3_2 := Lib.hid (show W3.heap[w3.heap.size]? = some (.cells #[.int .i64 qk, .int .i64 qn, .string qS, .slice qA ql qc, .slice qB qm qd] 25 (0, 0)) by rw [hW3]; exact heapNew _ _)
  have LW3_2 := Lib.hid (show w3.heap.size < W3.heap.size by rw [hW3, szAl]; exact Nat.lt_succ_self _)
  have HW3 := Lib.hid hW3
  clear hW3 hb
  have q0 := RW3_0.out
  rw [HW3.out] at q0
  obtain ⟨⟨p0_0, p0_1, p0_2, p0_3, p0_4⟩, -⟩ := row5 q0
  clear q0
  have q1 := RW3_1.out
  rw [HW3.out] at q1
  obtain ⟨⟨p1_0, p1_1, p1_2, p1_3, p1_4⟩, -⟩ := row5 q1
  clear q1
  have q2 := RW3_2.out
  rw [HW3.out] at q2
  obtain ⟨⟨p2_0, p2_1, p2_2, p2_3, p2_4⟩, -⟩ := row5 q2
  clear q2
  go_wp2_with fail
  rw [← HW3.out]
  clear p0_0 p0_1 p0_2 p0_3 p0_4 p1_0 p1_1 p1_2 p1_3 p1_4 p2_0 p2_1 p2_2 p2_3 p2_4
  refine (Apply_any v p [.int .i64 vk, .int .i64 vn, .string vS, .slice vA vl vc, .slice vB vm vd] [.int .i64 pk, .int .i64 pn, .string pS, .slice pA pl pc, .slice pB pm pd] _ (Hv.out.below FW3_v.out (Nat.le_refl _) FW3_v.out.size) (Hp.out.below FW3_p.out (Nat.le_refl _) FW3_p.out.size) (by rw [← HEv.out]; exact (aw9_wf _ (.inl rfl)).1) (by rw [← HEp.out]; exact (aw9_wf _ (.inr (.inl rfl))).1) (by rw [← HEv.out]; exact Nat.le_trans (aw9_wf _ (.inl rfl)).2.1 (by decide)) (by rw [← HEp.out]; exact Nat.le_trans (aw9_wf _ (.inr (.inl rfl))).2.1 (by decide))).mono ?_
  rintro e w4 ⟨⟨xs, xe, rfl, hx⟩, hb⟩
  have Rw4_0 := Lib.hid (show w4.heap[w1.heap.size]? = some (.cells #[.int .i64 vk, .int .i64 vn, .string vS, .slice vA vl vc, .slice vB vm vd] 25 (0, 0)) from (hb.block _ LW3_0.out).trans RW3_0.out)
  have Lw4_0 := Lib.hid (show w1.heap.size < w4.heap.size from Nat.lt_of_lt_of_le LW3_0.out hb.size)
  have Rw4_1 := Lib.hid (show w4.heap[w2.heap.size]? = some (.cells #[.int .i64 pk, .int .i64 pn, .string pS, .slice pA pl pc, .slice pB pm pd] 25 (0, 0)) from (hb.block _ LW3_1.out).trans RW3_1.out)
  have Lw4_1 := Lib.hid (show w2.heap.size < w4.heap.size from Nat.lt_of_lt_of_le LW3_1.out hb.size)
  have Rw4_2 := Lib.hid (show w4.heap[w3.heap.size]? = some (.cells #[.int .i64 qk, .int .i64 qn, .string qS, .slice qA ql qc, .slice qB qm qd] 25 (0, 0)) from (hb.block _ LW3_2.out).trans RW3_2.out)
  have Lw4_2 := Lib.hid (show w3.heap.size < w4.heap.size from Nat.lt_of_lt_of_le LW3_2.out hb.size)
  have Fw4_v := Lib.hid (FW3_v.out.trans (hb.mono FW3_v.out.size))
  have Fw4_p := Lib.hid (FW3_p.out.trans (hb.mono FW3_p.out.size))
  have Fw4_q := Lib.hid (FW3_q.out.trans (hb.mono FW3_q.out.size))
  have HBw4 := Lib.hid (HBW3.out.trans (hb.mono HBW3.out.size))
  obtain ⟨F, e0, h1⟩ : ∃ F, xe = 0 ∧ RdF w4 awW xs F ∧ ∀ k ∈ F, k < w4.heap.size := by
    rcases hx with ⟨_, e0, F, h1, _, h3⟩ | ⟨h0, _⟩
    · rw [← HEv.out, ← HEp.out, aw9_w] at h1
      exact ⟨F, e0, h1, fun k hk => (h3 k hk).2⟩
    · rw [← HEv.out, ← HEp.out] at h0
      exact absurd aw9_fit h0
  subst e0
  clear hx
  have hx := RdF.toA (lo := 0) (hi := w4.heap.size) _ _ _ (fun k hk => ⟨Nat.zero_le _, h1.2 k hk⟩) h1.1
  obtain ⟨x, hxv⟩ : ∃ x : V, awW = x := ⟨_, rfl⟩
  have HEx := Lib.hid hxv
  rw [hxv] at hx
  obtain ⟨xA, xc, xB, xd, ex, -⟩ := hx.cells
  subst ex
  have Hx := Lib.hid hx
  clear h1 hx hxv
  generalize x.k = xk at *
  generalize x.n = xn at *
  generalize strOf x.s = xS at *
  generalize x.l.length = xl at *
  generalize x.ms.length = xm at *
  clear hb
  have Fw4_x := Lib.hid (Below.refl w4.heap.size w4)
  obtain ⟨W4, hW4⟩ : ∃ W4, W4 = w4.alloc (.cells #[.int .i64 xk, .int .i64 xn, .string xS, .slice xA xl xc, .slice xB xm xd] 25) := ⟨_, rfl⟩
  have hb : Below w4.heap.size w4 W4 := by rw [hW4]; exact (Below.refl _ _).alloc (Nat.le_refl _) _
  have RW4_0 := Lib.hid (show W4.heap[w1.heap.size]? = some (.cells #[.int .i64 vk, .int .i64 vn, .string vS, .slice vA vl vc, .slice vB vm vd] 25 (0, 0)) from (hb.block _ Lw4_0.out).trans Rw4_0.out)
  have LW4_0 := Lib.hid (show w1.heap.size < W4.heap.size from Nat.lt_of_lt_of_le Lw4_0.out hb.size)
  have RW4_1 := Lib.hid (show W4.heap[w2.heap.size]? = some (.cells #[.int .i64 pk, .int .i64 pn, .string pS, .slice pA pl pc, .slice pB pm pd] 25 (0, 0)) from (hb.block _ Lw4_1.out).trans Rw4_1.out)
  have LW4_1 := Lib.hid (show w2.heap.size < W4.heap.size from Nat.lt_of_lt_of_le Lw4_1.out hb.size)
  have RW4_2 := Lib.hid (show W4.heap[w3.heap.size]? = some (.cells #[.int .i64 qk, .int .i64 qn, .string qS, .slice qA ql qc, .slice qB qm qd] 25 (0, 0)) from (hb.block _ Lw4_2.out).trans Rw4_2.out)
  have LW4_2 := Lib.hid (show w3.heap.size < W4.heap.size from Nat.lt_of_lt_of_le Lw4_2.out hb.size)
  have FW4_v := Lib.hid (Fw4_v.out.trans (hb.mono Fw4_v.out.size))
  have FW4_p := Lib.hid (Fw4_p.out.trans (hb.mono Fw4_p.out.size))
  have FW4_q := Lib.hid (Fw4_q.out.trans (hb.mono Fw4_q.out.size))
  have FW4_x := Lib.hid (Fw4_x.out.trans (hb.mono Fw4_x.out.size))
  have HBW4 := Lib.hid (HBw4.out.trans (hb.mono HBw4.out.size))
  have RW4_3 := Lib.hid (show W4.heap[w4.heap.size]? = some (.cells #[.int .i64 xk, .int .i64 xn, .string xS, .slice xA xl xc, .slice xB xm xd] 25 (0, 0)) by rw [hW4]; exact heapNew _ _)
  have LW4_3 := Lib.hid (show w4.heap.size < W4.heap.size by rw [hW4, szAl]; exact Nat.lt_succ_self _)
  have HW4 := Lib.hid hW4
  clear hW4 hb
  have HTX := Lib.hid (show Calls Try.prog 16 #[.agg #[.int .i64 xk, .int .i64 xn, .string xS, .slice xA xl xc, .slice xB xm xd]] W4 (fun e w' => e = .returned (.tuple #[.string ⟨#[123, 34, 97, 34, 58, 123, 125, 44, 34, 99, 34, 58, 51, 44, 34, 100, 34, 58, 52, 125]⟩, .int .i64 0]) ∧ Below W4.heap.size W4 w') from by
    have hw := aw9_wf x (by rw [← HEx.out]; exact .inr (.inr (.inr rfl)))
    refine (Em.Text_any x [.int .i64 xk, .int .i64 xn, .string xS, .slice xA xl xc, .slice xB xm xd] 0 W4 hw.2.2 (by have := hw.2.1; omega) (szA_of _ x hw.1 (by have := hw.2.1; omega)) (RdA.below Hx.out FW4_x.out (Nat.le_refl _) FW4_x.out.size)).mono ?_
    rintro e w' ⟨h1, h2⟩
    refine ⟨?_, h2⟩
    rw [← HEx.out, aw9_t, aw9_c] at h1
    exact h1)
  have q0 := RW4_0.out
  rw [HW4.out] at q0
  obtain ⟨⟨p0_0, p0_1, p0_2, p0_3, p0_4⟩, -⟩ := row5 q0
  clear q0
  have q1 := RW4_1.out
  rw [HW4.out] at q1
  obtain ⟨⟨p1_0, p1_1, p1_2, p1_3, p1_4⟩, -⟩ := row5 q1
  clear q1
  have q2 := RW4_2.out
  rw [HW4.out] at q2
  obtain ⟨⟨p2_0, p2_1, p2_2, p2_3, p2_4⟩, -⟩ := row5 q2
  clear q2
  have q3 := RW4_3.out
  rw [HW4.out] at q3
  obtain ⟨⟨p3_0, p3_1, p3_2, p3_3, p3_4⟩, -⟩ := row5 q3
  clear q3
  go_wp2_with fail
  rw [← HW4.out]
  clear p0_0 p0_1 p0_2 p0_3 p0_4 p1_0 p1_1 p1_2 p1_3 p1_4 p2_0 p2_1 p2_2 p2_3 p2_4 p3_0 p3_1 p3_2 p3_3 p3_4
  refine (HTX.out).mono ?_
  rintro e w5 ⟨rfl, hb⟩
  have Rw5_0 := Lib.hid (show w5.heap[w1.heap.size]? = some (.cells #[.int .i64 vk, .int .i64 vn, .string vS, .slice vA vl vc, .slice vB vm vd] 25 (0, 0)) from (hb.block _ LW4_0.out).trans RW4_0.out)
  have Lw5_0 := Lib.hid (show w1.heap.size < w5.heap.size from Nat.lt_of_lt_of_le LW4_0.out hb.size)
  have Rw5_1 := Lib.hid (show w5.heap[w2.heap.size]? = some (.cells #[.int .i64 pk, .int .i64 pn, .string pS, .slice pA pl pc, .slice pB pm pd] 25 (0, 0)) from (hb.block _ LW4_1.out).trans RW4_1.out)
  have Lw5_1 := Lib.hid (show w2.heap.size < w5.heap.size from Nat.lt_of_lt_of_le LW4_1.out hb.size)
  have Rw5_2 := Lib.hid (show w5.heap[w3.heap.size]? = some (.cells #[.int .i64 qk, .int .i64 qn, .string qS, .slice qA ql qc, .slice qB qm qd] 25 (0, 0)) from (hb.block _ LW4_2.out).trans RW4_2.out)
  have Lw5_2 := Lib.hid (show w3.heap.size < w5.heap.size from Nat.lt_of_lt_of_le LW4_2.out hb.size)
  have Rw5_3 := Lib.hid (show w5.heap[w4.heap.size]? = some (.cells #[.int .i64 xk, .int .i64 xn, .string xS, .slice xA xl xc, .slice xB xm xd] 25 (0, 0)) from (hb.block _ LW4_3.out).trans RW4_3.out)
  have Lw5_3 := Lib.hid (show w4.heap.size < w5.heap.size from Nat.lt_of_lt_of_le LW4_3.out hb.size)
  have Fw5_v := Lib.hid (FW4_v.out.trans (hb.mono FW4_v.out.size))
  have Fw5_p := Lib.hid (FW4_p.out.trans (hb.mono FW4_p.out.size))
  have Fw5_q := Lib.hid (FW4_q.out.trans (hb.mono FW4_q.out.size))
  have Fw5_x := Lib.hid (FW4_x.out.trans (hb.mono FW4_x.out.size))
  have HBw5 := Lib.hid (HBW4.out.trans (hb.mono HBW4.out.size))
  clear hb
  obtain ⟨⟨p0_0, p0_1, p0_2, p0_3, p0_4⟩, -⟩ := row5 Rw5_0.out
  obtain ⟨⟨p1_0, p1_1, p1_2, p1_3, p1_4⟩, -⟩ := row5 Rw5_1.out
  obtain ⟨⟨p2_0, p2_1, p2_2, p2_3, p2_4⟩, -⟩ := row5 Rw5_2.out
  obtain ⟨⟨p3_0, p3_1, p3_2, p3_3, p3_4⟩, -⟩ := row5 Rw5_3.out
  go_wp2_with fail
  clear p0_0 p0_1 p0_2 p0_3 p0_4 p1_0 p1_1 p1_2 p1_3 p1_4 p2_0 p2_1 p2_2 p2_3 p2_4 p3_0 p3_1 p3_2 p3_3 p3_4
  refine (Apply_any v q [.int .i64 vk, .int .i64 vn, .string vS, .slice vA vl vc, .slice vB vm vd] [.int .i64 qk, .int .i64 qn, .string qS, .slice qA ql qc, .slice qB qm qd] _ (Hv.out.below Fw5_v.out (Nat.le_refl _) Fw5_v.out.size) (Hq.out.below Fw5_q.out (Nat.le_refl _) Fw5_q.out.size) (by rw [← HEv.out]; exact (aw9_wf _ (.inl rfl)).1) (by rw [← HEq.out]; exact (aw9_wf _ (.inr (.inr (.inl rfl)))).1) (by rw [← HEv.out]; exact Nat.le_trans (aw9_wf _ (.inl rfl)).2.1 (by decide)) (by rw [← HEq.out]; exact Nat.le_trans (aw9_wf _ (.inr (.inr (.inl rfl)))).2.1 (by decide))).mono ?_
  rintro e w6 ⟨⟨ys, ye, rfl, hy⟩, hb⟩
  have Rw6_0 := Lib.hid (show w6.heap[w1.heap.size]? = some (.cells #[.int .i64 vk, .int .i64 vn, .string vS, .slice vA vl vc, .slice vB vm vd] 25 (0, 0)) from (hb.block _ Lw5_0.out).trans Rw5_0.out)
  have Lw6_0 := Lib.hid (show w1.heap.size < w6.heap.size from Nat.lt_of_lt_of_le Lw5_0.out hb.size)
  have Rw6_1 := Lib.hid (show w6.heap[w2.heap.size]? = some (.cells #[.int .i64 pk, .int .i64 pn, .string pS, .slice pA pl pc, .slice pB pm pd] 25 (0, 0)) from (hb.block _ Lw5_1.out).trans Rw5_1.out)
  have Lw6_1 := Lib.hid (show w2.heap.size < w6.heap.size from Nat.lt_of_lt_of_le Lw5_1.out hb.size)
  have Rw6_2 := Lib.hid (show w6.heap[w3.heap.size]? = some (.cells #[.int .i64 qk, .int .i64 qn, .string qS, .slice qA ql qc, .slice qB qm qd] 25 (0, 0)) from (hb.block _ Lw5_2.out).trans Rw5_2.out)
  have Lw6_2 := Lib.hid (show w3.heap.size < w6.heap.size from Nat.lt_of_lt_of_le Lw5_2.out hb.size)
  have Rw6_3 := Lib.hid (show w6.heap[w4.heap.size]? = some (.cells #[.int .i64 xk, .int .i64 xn, .string xS, .slice xA xl xc, .slice xB xm xd] 25 (0, 0)) from (hb.block _ Lw5_3.out).trans Rw5_3.out)
  have Lw6_3 := Lib.hid (show w4.heap.size < w6.heap.size from Nat.lt_of_lt_of_le Lw5_3.out hb.size)
  have Fw6_v := Lib.hid (Fw5_v.out.trans (hb.mono Fw5_v.out.size))
  have Fw6_p := Lib.hid (Fw5_p.out.trans (hb.mono Fw5_p.out.size))
  have Fw6_q := Lib.hid (Fw5_q.out.trans (hb.mono Fw5_q.out.size))
  have Fw6_x := Lib.hid (Fw5_x.out.trans (hb.mono Fw5_x.out.size))
  have HBw6 := Lib.hid (HBw5.out.trans (hb.mono HBw5.out.size))
  obtain ⟨e0, ey⟩ : ye = 90 ∧ ys = [.int .i64 0, .int .i64 0, .string ⟨#[]⟩, .slice none 0 0, .slice none 0 0] := by
    rcases hy with ⟨h0, _⟩ | ⟨_, h1, h2⟩
    · rw [← HEv.out, ← HEq.out] at h0
      exact absurd h0 aw9_not
    · exact ⟨h1, h2⟩
  subst e0 ey
  clear hy
  clear hb
  obtain ⟨W6, hW6⟩ : ∃ W6, W6 = w6.alloc (.cells #[.int .i64 0, .int .i64 0, .string ⟨#[]⟩, .slice none 0 0, .slice none 0 0] 25) := ⟨_, rfl⟩
  have hb : Below w6.heap.size w6 W6 := by rw [hW6]; exact (Below.refl _ _).alloc (Nat.le_refl _) _
  have RW6_0 := Lib.hid (show W6.heap[w1.heap.size]? = some (.cells #[.int .i64 vk, .int .i64 vn, .string vS, .slice vA vl vc, .slice vB vm vd] 25 (0, 0)) from (hb.block _ Lw6_0.out).trans Rw6_0.out)
  have LW6_0 := Lib.hid (show w1.heap.size < W6.heap.size from Nat.lt_of_lt_of_le Lw6_0.out hb.size)
  have RW6_1 := Lib.hid (show W6.heap[w2.heap.size]? = some (.cells #[.int .i64 pk, .int .i64 pn, .string pS, .slice pA pl pc, .slice pB pm pd] 25 (0, 0)) from (hb.block _ Lw6_1.out).trans Rw6_1.out)
  have LW6_1 := Lib.hid (show w2.heap.size < W6.heap.size from Nat.lt_of_lt_of_le Lw6_1.out hb.size)
  have RW6_2 := Lib.hid (show W6.heap[w3.heap.size]? = some (.cells #[.int .i64 qk, .int .i64 qn, .string qS, .slice qA ql qc, .slice qB qm qd] 25 (0, 0)) from (hb.block _ Lw6_2.out).trans Rw6_2.out)
  have LW6_2 := Lib.hid (show w3.heap.size < W6.heap.size from Nat.lt_of_lt_of_le Lw6_2.out hb.size)
  have RW6_3 := Lib.hid (show W6.heap[w4.heap.size]? = some (.cells #[.int .i64 xk, .int .i64 xn, .string xS, .slice xA xl xc, .slice xB xm xd] 25 (0, 0)) from (hb.block _ Lw6_3.out).trans Rw6_3.out)
  have LW6_3 := Lib.hid (show w4.heap.size < W6.heap.size from Nat.lt_of_lt_of_le Lw6_3.out hb.size)
  have FW6_v := Lib.hid (Fw6_v.out.trans (hb.mono Fw6_v.out.size))
  have FW6_p := Lib.hid (Fw6_p.out.trans (hb.mono Fw6_p.out.size))
  have FW6_q := Lib.hid (Fw6_q.out.trans (hb.mono Fw6_q.out.size))
  have FW6_x := Lib.hid (Fw6_x.out.trans (hb.mono Fw6_x.out.size))
  have HBW6 := Lib.hid (HBw6.out.trans (hb.mono HBw6.out.size))
  have RW6_4 := Lib.hid (show W6.heap[w6.heap.size]? = some (.cells #[.int .i64 0, .int .i64 0, .string ⟨#[]⟩, .slice none 0 0, .slice none 0 0] 25 (0, 0)) by rw [hW6]; exact heapNew _ _)
  have LW6_4 := Lib.hid (show w6.heap.size < W6.heap.size by rw [hW6, szAl]; exact Nat.lt_succ_self _)
  have HW6 := Lib.hid hW6
  clear hW6 hb
  have q0 := RW6_0.out
  rw [HW6.out] at q0
  obtain ⟨⟨p0_0, p0_1, p0_2, p0_3, p0_4⟩, -⟩ := row5 q0
  clear q0
  have q1 := RW6_1.out
  rw [HW6.out] at q1
  obtain ⟨⟨p1_0, p1_1, p1_2, p1_3, p1_4⟩, -⟩ := row5 q1
  clear q1
  have q2 := RW6_2.out
  rw [HW6.out] at q2
  obtain ⟨⟨p2_0, p2_1, p2_2, p2_3, p2_4⟩, -⟩ := row5 q2
  clear q2
  have q3 := RW6_3.out
  rw [HW6.out] at q3
  obtain ⟨⟨p3_0, p3_1, p3_2, p3_3, p3_4⟩, -⟩ := row5 q3
  clear q3
  have q4 := RW6_4.out
  rw [HW6.out] at q4
  obtain ⟨⟨p4_0, p4_1, p4_2, p4_3, p4_4⟩, -⟩ := row5 q4
  clear q4
  go_wp2_with fail
  rw [← HW6.out]
  clear p0_0 p0_1 p0_2 p0_3 p0_4 p1_0 p1_1 p1_2 p1_3 p1_4 p2_0 p2_1 p2_2 p2_3 p2_4 p3_0 p3_1 p3_2 p3_3 p3_4 p4_0 p4_1 p4_2 p4_3 p4_4
  refine (Fits_any v p [.int .i64 vk, .int .i64 vn, .string vS, .slice vA vl vc, .slice vB vm vd] [.int .i64 pk, .int .i64 pn, .string pS, .slice pA pl pc, .slice pB pm pd] _ (Hv.out.below FW6_v.out (Nat.le_refl _) FW6_v.out.size) (Hp.out.below FW6_p.out (Nat.le_refl _) FW6_p.out.size) (by rw [← HEv.out]; exact (aw9_wf _ (.inl rfl)).1) (by rw [← HEp.out]; exact (aw9_wf _ (.inr (.inl rfl))).1) (by rw [← HEv.out]; exact Nat.le_trans (aw9_wf _ (.inl rfl)).2.1 (by decide)) (by rw [← HEp.out]; exact Nat.le_trans (aw9_wf _ (.inr (.inl rfl))).2.1 (by decide))).mono ?_
  rintro e w7 ⟨⟨b, rfl, hx⟩, hb⟩
  have Rw7_0 := Lib.hid (show w7.heap[w1.heap.size]? = some (.cells #[.int .i64 vk, .int .i64 vn, .string vS, .slice vA vl vc, .slice vB vm vd] 25 (0, 0)) from (hb.block _ LW6_0.out).trans RW6_0.out)
  have Lw7_0 := Lib.hid (show w1.heap.size < w7.heap.size from Nat.lt_of_lt_of_le LW6_0.out hb.size)
  have Rw7_1 := Lib.hid (show w7.heap[w2.heap.size]? = some (.cells #[.int .i64 pk, .int .i64 pn, .string pS, .slice pA pl pc, .slice pB pm pd] 25 (0, 0)) from (hb.block _ LW6_1.out).trans RW6_1.out)
  have Lw7_1 := Lib.hid (show w2.heap.size < w7.heap.size from Nat.lt_of_lt_of_le LW6_1.out hb.size)
  have Rw7_2 := Lib.hid (show w7.heap[w3.heap.size]? = some (.cells #[.int .i64 qk, .int .i64 qn, .string qS, .slice qA ql qc, .slice qB qm qd] 25 (0, 0)) from (hb.block _ LW6_2.out).trans RW6_2.out)
  have Lw7_2 := Lib.hid (show w3.heap.size < w7.heap.size from Nat.lt_of_lt_of_le LW6_2.out hb.size)
  have Rw7_3 := Lib.hid (show w7.heap[w4.heap.size]? = some (.cells #[.int .i64 xk, .int .i64 xn, .string xS, .slice xA xl xc, .slice xB xm xd] 25 (0, 0)) from (hb.block _ LW6_3.out).trans RW6_3.out)
  have Lw7_3 := Lib.hid (show w4.heap.size < w7.heap.size from Nat.lt_of_lt_of_le LW6_3.out hb.size)
  have Rw7_4 := Lib.hid (show w7.heap[w6.heap.size]? = some (.cells #[.int .i64 0, .int .i64 0, .string ⟨#[]⟩, .slice none 0 0, .slice none 0 0] 25 (0, 0)) from (hb.block _ LW6_4.out).trans RW6_4.out)
  have Lw7_4 := Lib.hid (show w6.heap.size < w7.heap.size from Nat.lt_of_lt_of_le LW6_4.out hb.size)
  have Fw7_v := Lib.hid (FW6_v.out.trans (hb.mono FW6_v.out.size))
  have Fw7_p := Lib.hid (FW6_p.out.trans (hb.mono FW6_p.out.size))
  have Fw7_q := Lib.hid (FW6_q.out.trans (hb.mono FW6_q.out.size))
  have Fw7_x := Lib.hid (FW6_x.out.trans (hb.mono FW6_x.out.size))
  have HBw7 := Lib.hid (HBW6.out.trans (hb.mono HBW6.out.size))
  obtain rfl : b = true := hx.2 (by rw [← HEv.out, ← HEp.out]; exact aw9_fit)
  clear hx
  clear hb
  obtain ⟨⟨p0_0, p0_1, p0_2, p0_3, p0_4⟩, -⟩ := row5 Rw7_0.out
  obtain ⟨⟨p1_0, p1_1, p1_2, p1_3, p1_4⟩, -⟩ := row5 Rw7_1.out
  obtain ⟨⟨p2_0, p2_1, p2_2, p2_3, p2_4⟩, -⟩ := row5 Rw7_2.out
  obtain ⟨⟨p3_0, p3_1, p3_2, p3_3, p3_4⟩, -⟩ := row5 Rw7_3.out
  obtain ⟨⟨p4_0, p4_1, p4_2, p4_3, p4_4⟩, -⟩ := row5 Rw7_4.out
  go_wp2_with fail
  clear p0_0 p0_1 p0_2 p0_3 p0_4 p1_0 p1_1 p1_2 p1_3 p1_4 p2_0 p2_1 p2_2 p2_3 p2_4 p3_0 p3_1 p3_2 p3_3 p3_4 p4_0 p4_1 p4_2 p4_3 p4_4
  refine (Fits_any v q [.int .i64 vk, .int .i64 vn, .string vS, .slice vA vl vc, .slice vB vm vd] [.int .i64 qk, .int .i64 qn, .string qS, .slice qA ql qc, .slice qB qm qd] _ (Hv.out.below Fw7_v.out (Nat.le_refl _) Fw7_v.out.size) (Hq.out.below Fw7_q.out (Nat.le_refl _) Fw7_q.out.size) (by rw [← HEv.out]; exact (aw9_wf _ (.inl rfl)).1) (by rw [← HEq.out]; exact (aw9_wf _ (.inr (.inr (.inl rfl)))).1) (by rw [← HEv.out]; exact Nat.le_trans (aw9_wf _ (.inl rfl)).2.1 (by decide)) (by rw [← HEq.out]; exact Nat.le_trans (aw9_wf _ (.inr (.inr (.inl rfl)))).2.1 (by decide))).mono ?_
  rintro e w8 ⟨⟨b, rfl, hx⟩, hb⟩
  have Rw8_0 := Lib.hid (show w8.heap[w1.heap.size]? = some (.cells #[.int .i64 vk, .int .i64 vn, .string vS, .slice vA vl vc, .slice vB vm vd] 25 (0, 0)) from (hb.block _ Lw7_0.out).trans Rw7_0.out)
  have Lw8_0 := Lib.hid (show w1.heap.size < w8.heap.size from Nat.lt_of_lt_of_le Lw7_0.out hb.size)
  have Rw8_1 := Lib.hid (show w8.heap[w2.heap.size]? = some (.cells #[.int .i64 pk, .int .i64 pn, .string pS, .slice pA pl pc, .slice pB pm pd] 25 (0, 0)) from (hb.block _ Lw7_1.out).trans Rw7_1.out)
  have Lw8_1 := Lib.hid (show w2.heap.size < w8.heap.size from Nat.lt_of_lt_of_le Lw7_1.out hb.size)
  have Rw8_2 := Lib.hid (show w8.heap[w3.heap.size]? = some (.cells #[.int .i64 qk, .int .i64 qn, .string qS, .slice qA ql qc, .slice qB qm qd] 25 (0, 0)) from (hb.block _ Lw7_2.out).trans Rw7_2.out)
  have Lw8_2 := Lib.hid (show w3.heap.size < w8.heap.size from Nat.lt_of_lt_of_le Lw7_2.out hb.size)
  have Rw8_3 := Lib.hid (show w8.heap[w4.heap.size]? = some (.cells #[.int .i64 xk, .int .i64 xn, .string xS, .slice xA xl xc, .slice xB xm xd] 25 (0, 0)) from (hb.block _ Lw7_3.out).trans Rw7_3.out)
  have Lw8_3 := Lib.hid (show w4.heap.size < w8.heap.size from Nat.lt_of_lt_of_le Lw7_3.out hb.size)
  have Rw8_4 := Lib.hid (show w8.heap[w6.heap.size]? = some (.cells #[.int .i64 0, .int .i64 0, .string ⟨#[]⟩, .slice none 0 0, .slice none 0 0] 25 (0, 0)) from (hb.block _ Lw7_4.out).trans Rw7_4.out)
  have Lw8_4 := Lib.hid (show w6.heap.size < w8.heap.size from Nat.lt_of_lt_of_le Lw7_4.out hb.size)
  have Fw8_v := Lib.hid (Fw7_v.out.trans (hb.mono Fw7_v.out.size))
  have Fw8_p := Lib.hid (Fw7_p.out.trans (hb.mono Fw7_p.out.size))
  have Fw8_q := Lib.hid (Fw7_q.out.trans (hb.mono Fw7_q.out.size))
  have Fw8_x := Lib.hid (Fw7_x.out.trans (hb.mono Fw7_x.out.size))
  have HBw8 := Lib.hid (HBw7.out.trans (hb.mono HBw7.out.size))
  obtain rfl : b = false := by
    cases b
    · rfl
    · have := hx.1 rfl
      rw [← HEv.out, ← HEq.out] at this
      exact absurd this aw9_not
  clear hx
  clear hb
  go_wp2
  go_ret
  exact ⟨rfl, HBw8.out⟩
end Go.Proofs.Ytbfogkcnfnjcaaa.Pa
set_option linter.unusedSimpArgs false
namespace Go.Proofs.Ytbfogkcnfnjcaaa.Pa
open Go.Proofs Go.RowKit
open Go.Proofs.Ytbfogkcnfnjcaaa.Utf
open Go.Proofs.Ytbfogkcnfnjcaaa.Sc
open Go.Proofs.Ytbfogkcnfnjcaaa.Re
open Go.Proofs.Ytbfogkcnfnjcaaa.Tr
open Go.Proofs.Ytbfogkcnfnjcaaa.Po
open Go.Proofs.Ytbfogkcnfnjcaaa.Em (lenV szU wfV szA_of chk Check_any)

theorem ty_chk {v : V} (h : chk v = 0) : tyV v := ty_of_all v (Em.chk_ok h).2.2
theorem ty_lst {p : V} (h : tyV p) : ∀ m ∈ lst p, tyV m.2 := fun m hm => by
  obtain ⟨nm, _, h2, _⟩ := lst_mem hm
  exact ty_ms h _ h2
end Go.Proofs.Ytbfogkcnfnjcaaa.Pa
set_option linter.unusedSimpArgs false
namespace Go.Proofs.Ytbfogkcnfnjcaaa.Pa
open Go.Proofs Go.RowKit
open Go.Proofs.Ytbfogkcnfnjcaaa.Utf
open Go.Proofs.Ytbfogkcnfnjcaaa.Sc
open Go.Proofs.Ytbfogkcnfnjcaaa.Re
open Go.Proofs.Ytbfogkcnfnjcaaa.Tr
open Go.Proofs.Ytbfogkcnfnjcaaa.Po
open Go.Proofs.Ytbfogkcnfnjcaaa.Em (lenV szU wfV szA_of chk Check_any)

def Six (w : World) (b o : Nat) (v0 v1 v2 v3 v4 v5 : Value) : Prop := w.cell? ⟨b, o, none⟩ = some v0 ∧ w.cell? ⟨b, o + 1, none⟩ = some v1 ∧ w.cell? ⟨b, o + 2, none⟩ = some v2 ∧ w.cell? ⟨b, o + 3, none⟩ = some v3 ∧ w.cell? ⟨b, o + 4, none⟩ = some v4 ∧ w.cell? ⟨b, o + 5, none⟩ = some v5
theorem Six.keep {w w' : World} {b o : Nat} {v0 v1 v2 v3 v4 v5 : Value} (h : Six w b o v0 v1 v2 v3 v4 v5) (c : ∀ i, w'.cell? ⟨b, i, none⟩ = w.cell? ⟨b, i, none⟩) : Six w' b o v0 v1 v2 v3 v4 v5 :=
  ⟨(c _).trans h.1, (c _).trans h.2.1, (c _).trans h.2.2.1, (c _).trans h.2.2.2.1, (c _).trans h.2.2.2.2.1, (c _).trans h.2.2.2.2.2⟩
end Go.Proofs.Ytbfogkcnfnjcaaa.Pa
set_option linter.unusedSimpArgs false
namespace Go.Proofs.Ytbfogkcnfnjcaaa.Pa
open Go.Proofs Go.RowKit
open Go.Proofs.Ytbfogkcnfnjcaaa.Utf
open Go.Proofs.Ytbfogkcnfnjcaaa.Sc
open Go.Proofs.Ytbfogkcnfnjcaaa.Re
open Go.Proofs.Ytbfogkcnfnjcaaa.Tr
open Go.Proofs.Ytbfogkcnfnjcaaa.Po
open Go.Proofs.Ytbfogkcnfnjcaaa.Em (lenV szU wfV szA_of chk Check_any)

def Five (w : World) (b o : Nat) (v0 v1 v2 v3 v4 : Value) : Prop := w.cell? ⟨b, o, none⟩ = some v0 ∧ w.cell? ⟨b, o + 1, none⟩ = some v1 ∧ w.cell? ⟨b, o + 2, none⟩ = some v2 ∧ w.cell? ⟨b, o + 3, none⟩ = some v3 ∧ w.cell? ⟨b, o + 4, none⟩ = some v4
theorem Five.keep {w w' : World} {b o : Nat} {v0 v1 v2 v3 v4 : Value} (h : Five w b o v0 v1 v2 v3 v4) (c : ∀ i, w'.cell? ⟨b, i, none⟩ = w.cell? ⟨b, i, none⟩) : Five w' b o v0 v1 v2 v3 v4 :=
  ⟨(c _).trans h.1, (c _).trans h.2.1, (c _).trans h.2.2.1, (c _).trans h.2.2.2.1, (c _).trans h.2.2.2.2⟩
set_option maxRecDepth 100000 in
set_option maxHeartbeats 2000000 in
theorem rSame7_any (h : Nat) : ∀ (a b : V) (ca cb : List Value) (w : World), ht a ≤ h → szA 4611686018427387904 a → Eq7 a b → RdA w 0 w.heap.size a ca → RdA w 0 w.heap.size b cb →
    Calls Try.prog 15 #[.agg ca.toArray, .agg cb.toArray] w fun e w' => e = .returned (.bool true) ∧ Below w.heap.size w w' := by
  induction h with
  | zero => intro a b ca cb w hh; rw [ht_eq] at hh; omega
  | succ h ih =>
    intro a b ca cb w hh hz heq ra rb
    obtain ⟨ek, en, es, -, -⟩ := den_parts heq.den
    obtain ⟨el, hls⟩ := heq.lists
    have em := heq.mems
    have hht := ht_eq a
    obtain ⟨-, -, -, hz4, hz5, -, hz7, hz8⟩ := (szA_eq _ a).1 hz
    have HAT := Lib.hid (fun (i : Nat) (h1 : i < a.ms.length) (h0 : i < a.ns.length) => heq.at_ h1 h0)
    have HLS := Lib.hid hls
    have HND := Lib.hid ((ndV_eq b).1 heq.nd.2).1
    have hna := ns_len heq.len.1
    have hnb := ns_len heq.len.2
    have HNA := Lib.hid hna
    have HNB := Lib.hid hnb
    have HIL := Lib.hid (fun (v u : V) (hv : v ∈ a.l) (hq : Eq7 v u) (cv cu : List Value) (W : World) => ih v u cv cu W (by have := htL_mem hv; omega) (szAL_mem hz7 hv) hq)
    have HIM := Lib.hid (fun (v u : V) (hv : v ∈ a.ms) (hq : Eq7 v u) (cv cu : List Value) (W : World) => ih v u cv cu W (by have := htL_mem hv; omega) (szAL_mem hz8 hv) hq)
    obtain ⟨A1, c1, A2, c2, rfl, -, hla, hma⟩ := ra.cells
    obtain ⟨B1, d1, B2, d2, rfl, -, hlb, hmb⟩ := rb.cells
    obtain ⟨da, hda⟩ := mems_of hna hma
    obtain ⟨db, hdb⟩ := mems_of hnb hmb
    have HDA := Lib.hid hda
    have HDB := Lib.hid hdb
    rw [el] at hla
    rw [← ek, ← en, ← es, ← el, ← em]
    obtain ⟨l, hl⟩ : ∃ l, a.l.length = l := ⟨_, rfl⟩
    obtain ⟨m, hm⟩ : ∃ m, a.ms.length = m := ⟨_, rfl⟩
    have HNL := Lib.hid hl
    have HNL2 := Lib.hid (el.symm.trans hl)
    have HNM := Lib.hid hm
    have HNM2 := Lib.hid (em.symm.trans hm)
    have HSL := Lib.hid (show l < 4611686018427387904 by omega)
    have HSM := Lib.hid (show m < 4611686018427387904 by omega)
    rw [← el] at hla hlb
    rw [hl] at hla hlb
    have HLA := Lib.hid hla
    have HLB := Lib.hid hlb
    rw [hl, hm]
    clear ih ra rb hh hz heq ek en es el hls em hht hz4 hz5 hz7 hz8 hna hnb hla hma hlb hmb hda hdb hl hm
    generalize a.k = k at *
    generalize a.n = n at *
    generalize strOf a.s = S at *
    have q1 : (k != k) = false := by simp
    have q2 : (n != n) = false := by simp
    have q3 : (S.toList != S.toList) = false := by simp
    have q4 : ((l : Int) != (l : Int)) = false := by simp
    have q5 : ((m : Int) != (m : Int)) = false := by simp
    obtain ⟨W0, hW0⟩ : ∃ W0, W0 = ((w.alloc (.cells #[.int .i64 k, .int .i64 n, .string S, .slice A1 l c1, .slice A2 m c2] 25)).alloc (.cells #[.int .i64 k, .int .i64 n, .string S, .slice B1 l d1, .slice B2 m d2] 25)) := ⟨_, rfl⟩
    have HBW0 := Lib.hid (show Below w.heap.size w W0 by rw [hW0]; exact ((Below.refl _ _).alloc (Nat.le_refl _) _).alloc (by simp) _)
    have hs0 : W0.heap.size = w.heap.size + 2 := by rw [hW0, szAl, szAl]
    have RW0_0 := Lib.hid (show W0.heap[w.heap.size]? = some (.cells #[.int .i64 k, .int .i64 n, .string S, .slice A1 l c1, .slice A2 m c2] 25 (0, 0)) by rw [hW0]; exact heapOld ((show (w.alloc (.cells #[.int .i64 k, .int .i64 n, .string S, .slice A1 l c1, .slice A2 m c2] 25)).heap[w.heap.size]? = some (.cells #[.int .i64 k, .int .i64 n, .string S, .slice A1 l c1, .slice A2 m c2] 25 (0, 0)) from by rw [show w.heap.size = w.heap.size by simp]; exact heapNew _ _)) _)
    have LW0_0 := Lib.hid (show w.heap.size < W0.heap.size by omega)
    have RW0_1 := Lib.hid (show W0.heap[w.heap.size + 1]? = some (.cells #[.int .i64 k, .int .i64 n, .string S, .slice B1 l d1, .slice B2 m d2] 25 (0, 0)) by rw [hW0]; exact (show ((w.alloc (.cells #[.int .i64 k, .int .i64 n, .string S, .slice A1 l c1, .slice A2 m c2] 25)).alloc (.cells #[.int .i64 k, .int .i64 n, .string S, .slice B1 l d1, .slice B2 m d2] 25)).heap[w.heap.size + 1]? = some (.cells #[.int .i64 k, .int .i64 n, .string S, .slice B1 l d1, .slice B2 m d2] 25 (0, 0)) from by rw [show w.heap.size + 1 = (w.alloc (.cells #[.int .i64 k, .int .i64 n, .string S, .slice A1 l c1, .slice A2 m c2] 25)).heap.size by simp]; exact heapNew _ _))
    have LW0_1 := Lib.hid (show w.heap.size + 1 < W0.heap.size by omega)
    have HW0 := Lib.hid hW0
    clear hW0 hs0
    go_enter Try.func15, Try.ntmps15
    have q0 := RW0_0.out
    rw [HW0.out] at q0
    obtain ⟨⟨p0_0, p0_1, p0_2, p0_3, p0_4⟩, -⟩ := row5 q0
    clear q0
    have q1 := RW0_1.out
    rw [HW0.out] at q1
    obtain ⟨⟨p1_0, p1_1, p1_2, p1_3, p1_4⟩, -⟩ := row5 q1
    clear q1
    go_wp2_with fail
    rw [← HW0.out]
    clear p0_0 p0_1 p0_2 p0_3 p0_4 p1_0 p1_1 p1_2 p1_3 p1_4
    go_loopw [5] (fun si wr => ∃ i : Nat, si = .int .i64 i ∧ i ≤ l ∧ Aside (Below W0.heap.size W0 wr)) (fun si _ => l - (intOf si).toNat)
    case atStart => exact ⟨0, rfl, by omega, (show Below _ _ _ from Below.refl _ _)⟩
    case round =>
      obtain ⟨i, rfl, hi, hbel⟩ := hrel
      obtain ⟨wo, hwo⟩ : ∃ wo, wo = wr := ⟨_, rfl⟩
      subst hwo
      have hb := hbel.out
      have HBL := Lib.hid hb
      clear hbel
      have Rwo_0 := Lib.hid (show wo.heap[w.heap.size]? = some (.cells #[.int .i64 k, .int .i64 n, .string S, .slice A1 l c1, .slice A2 m c2] 25 (0, 0)) from (hb.block _ LW0_0.out).trans RW0_0.out)
      have Lwo_0 := Lib.hid (show w.heap.size < wo.heap.size from Nat.lt_of_lt_of_le LW0_0.out hb.size)
      have Rwo_1 := Lib.hid (show wo.heap[w.heap.size + 1]? = some (.cells #[.int .i64 k, .int .i64 n, .string S, .slice B1 l d1, .slice B2 m d2] 25 (0, 0)) from (hb.block _ LW0_1.out).trans RW0_1.out)
      have Lwo_1 := Lib.hid (show w.heap.size + 1 < wo.heap.size from Nat.lt_of_lt_of_le LW0_1.out hb.size)
      have HBwo := Lib.hid (HBW0.out.trans (hb.mono HBW0.out.size))
      clear hb
      by_cases hlt : i < l
      · have t1 : decide ((i : Int) < (l : Int)) = true := decide_eq_true (by omega)
        have t2 : decide (i < l) = true := decide_eq_true hlt
        have k0 : (0 : Int) ≤ (i : Int) := by omega
        have k1 : (i : Int) < (l : Int) := by omega
        have k2 : ((i : Int)).toNat = i := by omega
        have HLT := Lib.hid hlt
        have hl9 := HSL.out
        obtain ⟨g, o1, rfl, _, hg, hR⟩ := HLA.out (by omega)
        obtain ⟨g2, o2, rfl, _, hg2, hR2⟩ := HLB.out (by omega)
        have hia : i < a.l.length := by rw [HNL.out]; exact hlt
        have hib : i < b.l.length := by rw [HNL2.out]; exact hlt
        obtain ⟨xa, hxa, hva⟩ := RdAL.at_ _ o1 hR i hia
        obtain ⟨xb, hxb, hvb⟩ := RdAL.at_ _ o2 hR2 i hib
        have heq := HLS.out i hia hib
        have hmem : a.l[i] ∈ a.l := List.getElem_mem hia
        have hCAL := HIL.out _ b.l[i] hmem heq xa xb
        obtain ⟨va, hqa⟩ : ∃ x, a.l[i] = x := ⟨_, rfl⟩
        obtain ⟨vb, hqb⟩ : ∃ x, b.l[i] = x := ⟨_, rfl⟩
        rw [hqa] at hva
        rw [hqb] at hvb
        obtain ⟨qA, qc, qB, qd, rfl, -⟩ := hva.cells
        obtain ⟨rA, rc, rB, rd, rfl, -⟩ := hvb.cells
        have HCAL := Lib.hid (fun (W : World) (hW : Below w.heap.size w W) => hCAL W (by rw [hqa]; exact hva.below hW (Nat.le_refl _) hW.size) (by rw [hqb]; exact hvb.below hW (Nat.le_refl _) hW.size))
        have HG := Lib.hid (show g < w.heap.size ∧ g2 < w.heap.size from ⟨hg, hg2⟩)
        have hf1 : Five w g (o1 + i * 5) (.int .i64 va.k) (.int .i64 va.n) (.string (strOf va.s)) (.slice qA va.l.length qc) (.slice qB va.ms.length qd) := ⟨hxa 0 _ rfl, hxa 1 _ rfl, hxa 2 _ rfl, hxa 3 _ rfl, hxa 4 _ rfl⟩
        have hf2 : Five w g2 (o2 + i * 5) (.int .i64 vb.k) (.int .i64 vb.n) (.string (strOf vb.s)) (.slice rA vb.l.length rc) (.slice rB vb.ms.length rd) := ⟨hxb 0 _ rfl, hxb 1 _ rfl, hxb 2 _ rfl, hxb 3 _ rfl, hxb 4 _ rfl⟩
        have HF1 := Lib.hid hf1
        have HF2 := Lib.hid hf2
        clear hf1 hf2 hxa hxb hva hvb hR hR2 hg hg2 heq hmem hCAL hqa hqb hia hib hlt
        generalize va.k = qk at *
        generalize va.n = qn at *
        generalize strOf va.s = qS at *
        generalize va.l.length = ql at *
        generalize va.ms.length = qm at *
        generalize vb.k = rk at *
        generalize vb.n = rn at *
        generalize strOf vb.s = rS at *
        generalize vb.l.length = rl at *
        generalize vb.ms.length = rm at *
        obtain ⟨⟨p0_0, p0_1, p0_2, p0_3, p0_4⟩, -⟩ := row5 Rwo_0.out
        obtain ⟨⟨p1_0, p1_1, p1_2, p1_3, p1_4⟩, -⟩ := row5 Rwo_1.out
        go_wp2_with fail
        clear p0_0 p0_1 p0_2 p0_3 p0_4 p1_0 p1_1 p1_2 p1_3 p1_4
        have HS := Lib.hid (show wo.heap[w.heap.size]? = some (.cells #[.int .i64 k, .int .i64 n, .string S, .slice (some ⟨g, o1, none⟩) l c1, .slice A2 m c2] 25 (0, 0)) ∧ wo.heap[w.heap.size + 1]? = some (.cells #[.int .i64 k, .int .i64 n, .string S, .slice (some ⟨g2, o2, none⟩) l d1, .slice B2 m d2] 25 (0, 0)) ∧ Five wo g (o1 + i * 5) (.int .i64 qk) (.int .i64 qn) (.string qS) (.slice qA ql qc) (.slice qB qm qd) ∧ Five wo g2 (o2 + i * 5) (.int .i64 rk) (.int .i64 rn) (.string rS) (.slice rA rl rc) (.slice rB rm rd) from ⟨Rwo_0.out, Rwo_1.out, HF1.out.keep (fun j => HBwo.out.cell (p := ⟨g, j, none⟩) HG.out.1), HF2.out.keep (fun j => HBwo.out.cell (p := ⟨g2, j, none⟩) HG.out.2)⟩)
        refine wp_region_held_drew (S := fun W' => W'.heap[w.heap.size]? = some (.cells #[.int .i64 k, .int .i64 n, .string S, .slice (some ⟨g, o1, none⟩) l c1, .slice A2 m c2] 25 (0, 0)) ∧ W'.heap[w.heap.size + 1]? = some (.cells #[.int .i64 k, .int .i64 n, .string S, .slice (some ⟨g2, o2, none⟩) l d1, .slice B2 m d2] 25 (0, 0)) ∧ Five W' g (o1 + i * 5) (.int .i64 qk) (.int .i64 qn) (.string qS) (.slice qA ql qc) (.slice qB qm qd) ∧ Five W' g2 (o2 + i * 5) (.int .i64 rk) (.int .i64 rn) (.string rS) (.slice rA rl rc) (.slice rB rm rd)) (by kernel_rfl) (HS.out) (fun hHeld => ?_)
        refine wpAnyH_take (i := 0) (oi := { dst := some 53, op := Op.fieldAddr 25 (Operand.tmp 2) 3, type := 0, pos := "ref.go:57", after := #[], guard := none }) (v := ?_) rfl (by kernel_rfl) (by kernel_rfl) (by kernel_rfl) (fun _ _ _ h => h) (Or.inl ⟨by rfl, ?_⟩) hHeld ?_
        rotate_left
        · intro w hSw; (try dsimp only at hSw); go_simp; with_reducible rfl
        try simp only [Act.put, List.setIfInBounds_toArray, List.set_cons_zero, List.set_cons_succ]
        refine wpAnyH_take (i := 1) (oi := { dst := some 54, op := Op.load 22 (Operand.tmp 53), type := 22, pos := "ref.go:57", after := #[{ on := 0, ground := Ground.data }], guard := none }) (v := ?_) rfl (by kernel_rfl) (by kernel_rfl) (by kernel_rfl) (fun _ _ _ h => h) (Or.inl ⟨by rfl, ?_⟩) hHeld ?_
        rotate_left
        · intro w hSw; (try dsimp only at hSw); obtain ⟨⟨p0, p1, p2, p3, p4⟩, -⟩ := row5 hSw.1; go_simp; with_reducible rfl
        try simp only [Act.put, List.setIfInBounds_toArray, List.set_cons_zero, List.set_cons_succ]
        refine wpAnyH_take (i := 2) (oi := { dst := some 55, op := Op.move (Operand.tmp 5), type := 3, pos := "ref.go:57", after := #[], guard := none }) (v := ?_) rfl (by kernel_rfl) (by kernel_rfl) (by kernel_rfl) (fun _ _ _ h => h) (Or.inl ⟨by rfl, ?_⟩) hHeld ?_
        rotate_left
        · intro w hSw; (try dsimp only at hSw); go_simp; with_reducible rfl
        try simp only [Act.put, List.setIfInBounds_toArray, List.set_cons_zero, List.set_cons_succ]
        refine wpAnyH_take (i := 3) (oi := { dst := some 56, op := Op.indexAddr 22 (Operand.tmp 54) (Operand.tmp 55), type := 0, pos := "ref.go:57", after := #[{ on := 1, ground := Ground.data }, { on := 2, ground := Ground.data }], guard := none }) (v := ?_) rfl (by kernel_rfl) (by kernel_rfl) (by kernel_rfl) (fun _ _ _ h => h) (Or.inl ⟨by rfl, ?_⟩) hHeld ?_
        rotate_left
        · intro w hSw; (try dsimp only at hSw); go_simp; with_reducible rfl
        try simp only [Act.put, List.setIfInBounds_toArray, List.set_cons_zero, List.set_cons_succ]
        refine wpAnyH_take (i := 4) (oi := { dst := some 57, op := Op.load 25 (Operand.tmp 56), type := 25, pos := "ref.go:57", after := #[{ on := 3, ground := Ground.data }], guard := none }) (v := ?_) rfl (by kernel_rfl) (by kernel_rfl) (by kernel_rfl) (fun _ _ _ h => h) (Or.inl ⟨by rfl, ?_⟩) hHeld ?_
        rotate_left
        · intro w hSw; (try dsimp only at hSw); obtain ⟨a0, a1, a2, a3, a4⟩ := hSw.2.2.1; go_simp; with_reducible rfl
        try simp only [Act.put, List.setIfInBounds_toArray, List.set_cons_zero, List.set_cons_succ]
        refine wpAnyH_take (i := 5) (oi := { dst := some 58, op := Op.fieldAddr 25 (Operand.tmp 3) 3, type := 0, pos := "ref.go:57", after := #[], guard := none }) (v := ?_) rfl (by kernel_rfl) (by kernel_rfl) (by kernel_rfl) (fun _ _ _ h => h) (Or.inl ⟨by rfl, ?_⟩) hHeld ?_
        rotate_left
        · intro w hSw; (try dsimp only at hSw); go_simp; with_reducible rfl
        try simp only [Act.put, List.setIfInBounds_toArray, List.set_cons_zero, List.set_cons_succ]
        refine wpAnyH_take (i := 6) (oi := { dst := some 59, op := Op.load 22 (Operand.tmp 58), type := 22, pos := "ref.go:57", after := #[{ on := 5, ground := Ground.data }], guard := none }) (v := ?_) rfl (by kernel_rfl) (by kernel_rfl) (by kernel_rfl) (fun _ _ _ h => h) (Or.inl ⟨by rfl, ?_⟩) hHeld ?_
        rotate_left
        · intro w hSw; (try dsimp only at hSw); obtain ⟨⟨p0, p1, p2, p3, p4⟩, -⟩ := row5 hSw.2.1; go_simp; with_reducible rfl
        try simp only [Act.put, List.setIfInBounds_toArray, List.set_cons_zero, List.set_cons_succ]
        refine wpAnyH_take (i := 7) (oi := { dst := some 60, op := Op.move (Operand.tmp 5), type := 3, pos := "ref.go:57", after := #[], guard := none }) (v := ?_) rfl (by kernel_rfl) (by kernel_rfl) (by kernel_rfl) (fun _ _ _ h => h) (Or.inl ⟨by rfl, ?_⟩) hHeld ?_
        rotate_left
        · intro w hSw; (try dsimp only at hSw); go_simp; with_reducible rfl
        try simp only [Act.put, List.setIfInBounds_toArray, List.set_cons_zero, List.set_cons_succ]
        refine wpAnyH_take (i := 8) (oi := { dst := some 61, op := Op.indexAddr 22 (Operand.tmp 59) (Operand.tmp 60), type := 0, pos := "ref.go:57", after := #[{ on := 6, ground := Ground.data }, { on := 7, ground := Ground.data }], guard := none }) (v := ?_) rfl (by kernel_rfl) (by kernel_rfl) (by kernel_rfl) (fun _ _ _ h => h) (Or.inl ⟨by rfl, ?_⟩) hHeld ?_
        rotate_left
        · intro w hSw; (try dsimp only at hSw); go_simp; with_reducible rfl
        try simp only [Act.put, List.setIfInBounds_toArray, List.set_cons_zero, List.set_cons_succ]
        refine wpAnyH_take (i := 9) (oi := { dst := some 62, op := Op.load 25 (Operand.tmp 61), type := 25, pos := "ref.go:57", after := #[{ on := 8, ground := Ground.data }], guard := none }) (v := ?_) rfl (by kernel_rfl) (by kernel_rfl) (by kernel_rfl) (fun _ _ _ h => h) (Or.inl ⟨by rfl, ?_⟩) hHeld ?_
        rotate_left
        · intro w hSw; (try dsimp only at hSw); obtain ⟨a0, a1, a2, a3, a4⟩ := hSw.2.2.2; go_simp; with_reducible rfl
        try simp only [Act.put, List.setIfInBounds_toArray, List.set_cons_zero, List.set_cons_succ]
        refine wpAnyH_ready (rs := [10]) (by kernel_rfl) (by simp) ?_
        refine AllReadyH.cons (o := { dst := some 63, op := Op.call { callee := Callee.value (Operand.func 15), args := #[Operand.tmp 57, Operand.tmp 62], argTypes := #[25, 25] }, type := 4, pos := "ref.go:57", after := #[{ on := 4, ground := Ground.data }, { on := 9, ground := Ground.data }], guard := none }) rfl (fun K hK => ?_) AllReadyH.nil
        go_simp
        go_at_call 15
        refine (HCAL.out _ HBwo.out.drew).mono ?_
        rintro e w5 ⟨rfl, hb5⟩
        have HB5 := Lib.hid (show Below wo.heap.size wo w5 from (Below.drew (Below.refl wo.heap.size wo)).trans hb5)
        clear hb5
        refine hK.out _ _ (⟨(HB5.out.block _ Lwo_0.out).trans HS.out.1, (HB5.out.block _ Lwo_1.out).trans HS.out.2.1, HS.out.2.2.1.keep (fun j => HB5.out.cell (p := ⟨g, j, none⟩) (Nat.lt_of_lt_of_le HG.out.1 HBwo.out.size)), HS.out.2.2.2.keep (fun j => HB5.out.cell (p := ⟨g2, j, none⟩) (Nat.lt_of_lt_of_le HG.out.2 HBwo.out.size))⟩) (fun hHeld => ?_)
        clear hK K
        try simp only [Act.put, List.setIfInBounds_toArray, List.set_cons_zero, List.set_cons_succ]
        refine wpAnyH_take (i := 11) (oi := { dst := some 64, op := Op.unOp UnOp.not 4 (Operand.tmp 63), type := 4, pos := "ref.go:57", after := #[{ on := 10, ground := Ground.data }], guard := none }) (v := ?_) rfl (by kernel_rfl) (by kernel_rfl) (by kernel_rfl) (fun _ _ _ h => h) (Or.inl ⟨by rfl, ?_⟩) hHeld ?_
        rotate_left
        · intro w hSw; (try dsimp only at hSw); go_simp; with_reducible rfl
        try simp only [Act.put, List.setIfInBounds_toArray, List.set_cons_zero, List.set_cons_succ]
        refine wpAnyH_done (by kernel_rfl) ?_ _
        clear hHeld
        go_wp2_with fail
        go_roundw
        case rel => exact ⟨i + 1, by go_num, by have := HLT.out; omega, (show Below _ _ _ from HBL.out.trans (HB5.out.mono HBL.out.size))⟩
        case measure => have := HLT.out; simp [intOf]; omega
      · have t1 : decide ((i : Int) < (l : Int)) = false := decide_eq_false (by omega)
        have t2 : decide (i < l) = false := decide_eq_false hlt
        clear hlt hi HBL
        obtain ⟨⟨p0_0, p0_1, p0_2, p0_3, p0_4⟩, -⟩ := row5 Rwo_0.out
        obtain ⟨⟨p1_0, p1_1, p1_2, p1_3, p1_4⟩, -⟩ := row5 Rwo_1.out
        go_wp2_with fail
        clear p0_0 p0_1 p0_2 p0_3 p0_4 p1_0 p1_1 p1_2 p1_3 p1_4
        clear t1 t2
        go_loopw [6] (fun si wr => ∃ i : Nat, si = .int .i64 i ∧ i ≤ m ∧ Aside (Below wo.heap.size wo wr)) (fun si _ => m - (intOf si).toNat)
        case atStart => exact ⟨0, rfl, by omega, (show Below _ _ _ from Below.refl _ _)⟩
        case round =>
          obtain ⟨i, rfl, hi, hbel⟩ := hrel
          obtain ⟨wi, hwi⟩ : ∃ wi, wi = wr := ⟨_, rfl⟩
          subst hwi
          have hb := hbel.out
          have HBI := Lib.hid hb
          clear hbel
          have Rwi_0 := Lib.hid (show wi.heap[w.heap.size]? = some (.cells #[.int .i64 k, .int .i64 n, .string S, .slice A1 l c1, .slice A2 m c2] 25 (0, 0)) from (hb.block _ Lwo_0.out).trans Rwo_0.out)
          have Lwi_0 := Lib.hid (show w.heap.size < wi.heap.size from Nat.lt_of_lt_of_le Lwo_0.out hb.size)
          have Rwi_1 := Lib.hid (show wi.heap[w.heap.size + 1]? = some (.cells #[.int .i64 k, .int .i64 n, .string S, .slice B1 l d1, .slice B2 m d2] 25 (0, 0)) from (hb.block _ Lwo_1.out).trans Rwo_1.out)
          have Lwi_1 := Lib.hid (show w.heap.size + 1 < wi.heap.size from Nat.lt_of_lt_of_le Lwo_1.out hb.size)
          have HBwi := Lib.hid (HBwo.out.trans (hb.mono HBwo.out.size))
          clear hb
          by_cases hlt : i < m
          · have t1 : decide ((i : Int) < (m : Int)) = true := decide_eq_true (by omega)
            have t2 : decide (i < m) = true := decide_eq_true hlt
            have k0 : (0 : Int) ≤ (i : Int) := by omega
            have k1 : (i : Int) < (m : Int) := by omega
            have k2 : ((i : Int)).toNat = i := by omega
            have HLT := Lib.hid hlt
            have hm9 := HSM.out
            obtain ⟨g, o1, rfl, _, hg, hR⟩ := HDA.out.2.2.1 (by rw [HDA.out.1, HNM.out]; omega)
            obtain ⟨g2, o2, rfl, _, hg2, hR2⟩ := HDB.out.2.2.1 (by rw [HDB.out.1, HNM2.out]; omega)
            have hia : i < a.ms.length := by rw [HNM.out]; exact hlt
            have hin : i < a.ns.length := by rw [HNA.out]; exact hia
            have hid : i < da.length := by rw [HDA.out.1]; exact hia
            obtain ⟨J, hJ, hJe, heq⟩ : ∃ J, ∃ hJ : J < b.ms.length, b.ns.idxOf a.ns[i] = J ∧ Eq7 a.ms[i] b.ms[J] := by
              obtain ⟨h1, h2, h3⟩ := HAT.out i hia hin
              exact ⟨_, h1, rfl, h3⟩
            have hna : a.ns[i] = da[i].nm := by
              have : (da.map M6.nm)[i]'(by rw [List.length_map]; exact hid) = a.ns[i] := by simp only [HDA.out.2.1]
              rw [← this, List.getElem_map]
            have hJn : ∀ q (h : q < b.ns.length), b.ns[q] = a.ns[i] ↔ q = J := fun q h => by
              constructor
              · intro e; rw [← hJe, ← e]; exact (idxOf_nodup HND.out h).symm
              · rintro rfl; subst hJe; exact List.getElem_idxOf h
            rw [hna] at hJn
            have hmem : a.ms[i] ∈ a.ms := List.getElem_mem hia
            have hCAL := HIM.out _ _ hmem heq
            have hva := HDA.out.2.2.2 i hid hia
            have hjd : J < db.length := by rw [HDB.out.1]; exact hJ
            have hvb := HDB.out.2.2.2 J hjd hJ
            have HJM := Lib.hid (show J < m by rw [← HNM2.out]; exact hJ)
            have HJN := Lib.hid (show ∀ q (h : q < db.length), db[q].nm = da[i].nm ↔ q = J from fun q h => by
              have hq : q < b.ns.length := by rw [HNB.out, ← HDB.out.1]; exact h
              have : (db.map M6.nm)[q]'(by rw [List.length_map]; exact h) = b.ns[q] := by simp only [HDB.out.2.1]
              rw [List.getElem_map] at this
              rw [this]
              exact hJn q hq)
            have HCAL := Lib.hid (fun (W : World) (hW : Below w.heap.size w W) => hCAL _ _ W (hva.below hW (Nat.le_refl _) hW.size) (hvb.below hW (Nat.le_refl _) hW.size))
            have HG := Lib.hid (show g < w.heap.size ∧ g2 < w.heap.size from ⟨hg, hg2⟩)
            have hsa := hR i hid
            have hsb := hR2 J hjd
            have HRB := Lib.hid hR2
            obtain ⟨ma, hma⟩ : ∃ x, da[i]'hid = x := ⟨_, rfl⟩
            obtain ⟨mb, hmb⟩ : ∃ x, db[J]'hjd = x := ⟨_, rfl⟩
            rw [hma] at HCAL HJN hsa
            rw [hmb] at HCAL hsb
            obtain ⟨qq, qk, qn, qS, qA, ql, qc, qB, qm, qd⟩ := ma
            obtain ⟨rr, rk, rn, rS, rA, rl, rc, rB, rm, rd⟩ := mb
            simp only [m6tail, M6At] at HCAL hsa hsb HJN
            have HSA := Lib.hid (show Six w g (o1 + i * 6) (.string (strOf qq)) (.int .i64 qk) (.int .i64 qn) (.string qS) (.slice qA ql qc) (.slice qB qm qd) from hsa)
            have HSB := Lib.hid (show Six w g2 (o2 + J * 6) (.string (strOf rr)) (.int .i64 rk) (.int .i64 rn) (.string rS) (.slice rA rl rc) (.slice rB rm rd) from hsb)
            clear hsa hsb hva hvb hR hR2 hg hg2 heq hmem hCAL hjd hJn hJe hJ hna hin hid hia hma hmb hlt
            obtain ⟨⟨p0_0, p0_1, p0_2, p0_3, p0_4⟩, -⟩ := row5 Rwi_0.out
            obtain ⟨⟨p1_0, p1_1, p1_2, p1_3, p1_4⟩, -⟩ := row5 Rwi_1.out
            go_wp2_with fail
            clear p0_0 p0_1 p0_2 p0_3 p0_4 p1_0 p1_1 p1_2 p1_3 p1_4
            go_loopw [7, 8] (fun av sk wr => ∃ q : Nat, sk = .int .i64 ((q : Int) - 1) ∧ q ≤ m ∧ av = .int .i64 (if q ≤ J then (J : Int) else -1) ∧ Aside (Below wi.heap.size wi wr)) (fun _ sk _ => (intOf sk + 1).toNat)
            case atStart => exact ⟨m, rfl, Nat.le_refl _, by rw [if_neg (by have := HJM.out; omega)], (show Below _ _ _ from Below.refl _ _)⟩
            case round =>
              obtain ⟨q, rfl, hq, rfl, hbel⟩ := hrel
              obtain ⟨wq, hwq⟩ : ∃ wq, wq = wr := ⟨_, rfl⟩
              subst hwq
              have hb := hbel.out
              have HBQ := Lib.hid hb
              clear hbel
              have Rwq_0 := Lib.hid (show wq.heap[w.heap.size]? = some (.cells #[.int .i64 k, .int .i64 n, .string S, .slice A1 l c1, .slice (some ⟨g, o1, none⟩) m c2] 25 (0, 0)) from (hb.block _ Lwi_0.out).trans Rwi_0.out)
              have Lwq_0 := Lib.hid (show w.heap.size < wq.heap.size from Nat.lt_of_lt_of_le Lwi_0.out hb.size)
              have Rwq_1 := Lib.hid (show wq.heap[w.heap.size + 1]? = some (.cells #[.int .i64 k, .int .i64 n, .string S, .slice B1 l d1, .slice (some ⟨g2, o2, none⟩) m d2] 25 (0, 0)) from (hb.block _ Lwi_1.out).trans Rwi_1.out)
              have Lwq_1 := Lib.hid (show w.heap.size + 1 < wq.heap.size from Nat.lt_of_lt_of_le Lwi_1.out hb.size)
              have HBwq := Lib.hid (HBwi.out.trans (hb.mono HBwi.out.size))
              clear hb
              by_cases hq0 : 0 < q
              · obtain ⟨r, rfl⟩ : ∃ r, q = r + 1 := ⟨q - 1, by omega⟩
                have e1 : (((r + 1 : Nat) : Int) - 1) = (r : Int) := by omega
                rw [e1]
                have s1 : decide ((r : Int) ≥ 0) = true := decide_eq_true (by omega)
                have s2 : decide ((0 : Int) ≤ (r : Int)) = true := decide_eq_true (by omega)
                have j0 : (0 : Int) ≤ (r : Int) := by omega
                have j1 : (r : Int) < (m : Int) := by omega
                have j2 : ((r : Int)).toNat = r := by omega
                have HQ := Lib.hid hq
                have hrd : r < db.length := by rw [HDB.out.1, HNM2.out]; omega
                have hn1 := (HRB.out r hrd).1
                have hjn := HJN.out r hrd
                have bp := (HBwq.out.cell (p := ⟨g2, o2 + r * 6, none⟩) HG.out.2).trans hn1
                have ap := (HBwq.out.cell (p := ⟨g, o1 + i * 6, none⟩) HG.out.1).trans HSA.out.1
                by_cases he : r = J
                · have hne : ((strOf db[r].nm).toList == (strOf qq).toList) = true := by rw [hjn.2 he]; simp
                  have HIF := Lib.hid (show (if r ≤ J then (J : Int) else -1) = (r : Int) by rw [if_pos (by omega), he])
                  generalize strOf db[r].nm = Y1 at *
                  generalize strOf qq = Y2 at *
                  generalize (if r + 1 ≤ J then (J : Int) else -1) = av at *
                  clear he hjn hn1 hrd
                  obtain ⟨⟨p0_0, p0_1, p0_2, p0_3, p0_4⟩, -⟩ := row5 Rwq_0.out
                  obtain ⟨⟨p1_0, p1_1, p1_2, p1_3, p1_4⟩, -⟩ := row5 Rwq_1.out
                  go_wp2_with (go_quiet (fail))
                  go_roundw
                  case rel => exact ⟨r, by go_num, by have := HQ.out; omega, by rw [HIF.out], (show Below _ _ _ from bDrewN HBQ.out _)⟩
                  case measure => simp [intOf]
                · have hne : ((strOf db[r].nm).toList == (strOf qq).toList) = false := by
                    rw [strOf_list, strOf_list]
                    exact beq_eq_false_iff_ne.2 fun e => he (hjn.1 e)
                  have HIF := Lib.hid (show (if r ≤ J then (J : Int) else -1) = (if r + 1 ≤ J then (J : Int) else -1) by
                    by_cases h1 : r + 1 ≤ J
                    · rw [if_pos h1, if_pos (by omega)]
                    · rw [if_neg h1, if_neg (by omega)])
                  generalize strOf db[r].nm = Y1 at *
                  generalize strOf qq = Y2 at *
                  obtain ⟨av, hav⟩ : ∃ x, (if r + 1 ≤ J then (J : Int) else -1) = x := ⟨_, rfl⟩
                  rw [hav] at HIF ⊢
                  clear he hjn hn1 hrd hav
                  obtain ⟨⟨p0_0, p0_1, p0_2, p0_3, p0_4⟩, -⟩ := row5 Rwq_0.out
                  obtain ⟨⟨p1_0, p1_1, p1_2, p1_3, p1_4⟩, -⟩ := row5 Rwq_1.out
                  go_wp2_with (go_quiet (fail))
                  go_roundw
                  case rel => exact ⟨r, by go_num, by have := HQ.out; omega, by rw [HIF.out], (show Below _ _ _ from bDrewN HBQ.out _)⟩
                  case measure => simp [intOf]
              · obtain rfl : q = 0 := by omega
                rw [if_pos (Nat.zero_le _)]
                have s1 : decide ((((0 : Nat) : Int) - 1) ≥ 0) = false := by decide
                have s2 : decide ((0 : Int) ≤ (((0 : Nat) : Int) - 1)) = false := by decide
                have s3 : decide ((J : Int) < 0) = false := decide_eq_false (by omega)
                have j0 : (0 : Int) ≤ (J : Int) := by omega
                have j1 : (J : Int) < (m : Int) := by have := HJM.out; omega
                have j2 : ((J : Int)).toNat = J := by omega
                have hjm := HJM.out
                generalize strOf qq = QN at *
                generalize strOf rr = RN at *
                clear hq hq0
                obtain ⟨⟨p0_0, p0_1, p0_2, p0_3, p0_4⟩, -⟩ := row5 Rwq_0.out
                obtain ⟨⟨p1_0, p1_1, p1_2, p1_3, p1_4⟩, -⟩ := row5 Rwq_1.out
                go_wp2_with fail
                clear p0_0 p0_1 p0_2 p0_3 p0_4 p1_0 p1_1 p1_2 p1_3 p1_4
                have HS := Lib.hid (show wq.heap[w.heap.size]? = some (.cells #[.int .i64 k, .int .i64 n, .string S, .slice A1 l c1, .slice (some ⟨g, o1, none⟩) m c2] 25 (0, 0)) ∧ wq.heap[w.heap.size + 1]? = some (.cells #[.int .i64 k, .int .i64 n, .string S, .slice B1 l d1, .slice (some ⟨g2, o2, none⟩) m d2] 25 (0, 0)) ∧ Six wq g (o1 + i * 6) (.string QN) (.int .i64 qk) (.int .i64 qn) (.string qS) (.slice qA ql qc) (.slice qB qm qd) ∧ Six wq g2 (o2 + J * 6) (.string RN) (.int .i64 rk) (.int .i64 rn) (.string rS) (.slice rA rl rc) (.slice rB rm rd) from ⟨Rwq_0.out, Rwq_1.out, HSA.out.keep (fun j => HBwq.out.cell (p := ⟨g, j, none⟩) HG.out.1), HSB.out.keep (fun j => HBwq.out.cell (p := ⟨g2, j, none⟩) HG.out.2)⟩)
                refine wp_region_held_drew (S := fun W' => W'.heap[w.heap.size]? = some (.cells #[.int .i64 k, .int .i64 n, .string S, .slice A1 l c1, .slice (some ⟨g, o1, none⟩) m c2] 25 (0, 0)) ∧ W'.heap[w.heap.size + 1]? = some (.cells #[.int .i64 k, .int .i64 n, .string S, .slice B1 l d1, .slice (some ⟨g2, o2, none⟩) m d2] 25 (0, 0)) ∧ Six W' g (o1 + i * 6) (.string QN) (.int .i64 qk) (.int .i64 qn) (.string qS) (.slice qA ql qc) (.slice qB qm qd) ∧ Six W' g2 (o2 + J * 6) (.string RN) (.int .i64 rk) (.int .i64 rn) (.string rS) (.slice rA rl rc) (.slice rB rm rd)) (by kernel_rfl) (HS.out) (fun hHeld => ?_)
                refine wpAnyH_take (i := 0) (oi := { dst := some 94, op := Op.move (Operand.tmp 7), type := 3, pos := "ref.go:68", after := #[], guard := none }) (v := ?_) rfl (by kernel_rfl) (by kernel_rfl) (by kernel_rfl) (fun _ _ _ h => h) (Or.inl ⟨by rfl, ?_⟩) hHeld ?_
                rotate_left
                · intro w hSw; (try dsimp only at hSw); go_simp; with_reducible rfl
                try simp only [Act.put, List.setIfInBounds_toArray, List.set_cons_zero, List.set_cons_succ]
                refine wpAnyH_take (i := 1) (oi := { dst := some 95, op := Op.binOp BinOp.lss 3 (Operand.tmp 94) (Operand.const (Value.int IntKind.i64 0)) 3, type := 4, pos := "ref.go:68", after := #[{ on := 0, ground := Ground.data }], guard := none }) (v := ?_) rfl (by kernel_rfl) (by kernel_rfl) (by kernel_rfl) (fun _ _ _ h => h) (Or.inl ⟨by rfl, ?_⟩) hHeld ?_
                rotate_left
                · intro w hSw; (try dsimp only at hSw); go_simp; with_reducible rfl
                try simp only [Act.put, List.setIfInBounds_toArray, List.set_cons_zero, List.set_cons_succ]
                refine wpAnyH_take (i := 2) (oi := { dst := some 96, op := Op.move (Operand.tmp 95), type := 4, pos := "ref.go:68", after := #[{ on := 1, ground := Ground.data }], guard := none }) (v := ?_) rfl (by kernel_rfl) (by kernel_rfl) (by kernel_rfl) (fun _ _ _ h => h) (Or.inl ⟨by rfl, ?_⟩) hHeld ?_
                rotate_left
                · intro w hSw; (try dsimp only at hSw); go_simp; with_reducible rfl
                try simp only [Act.put, List.setIfInBounds_toArray, List.set_cons_zero, List.set_cons_succ]
                refine wpAnyH_take (i := 3) (oi := { dst := some 97, op := Op.fieldAddr 25 (Operand.tmp 2) 4, type := 0, pos := "ref.go:68", after := #[{ on := 2, ground := Ground.guard }], guard := some (2, false) }) (v := ?_) rfl (by kernel_rfl) (by kernel_rfl) (by kernel_rfl) (fun _ _ _ h => h) (Or.inl ⟨by rfl, ?_⟩) hHeld ?_
                rotate_left
                · intro w hSw; (try dsimp only at hSw); go_simp; with_reducible rfl
                try simp only [Act.put, List.setIfInBounds_toArray, List.set_cons_zero, List.set_cons_succ]
                refine wpAnyH_take (i := 4) (oi := { dst := some 98, op := Op.load 23 (Operand.tmp 97), type := 23, pos := "ref.go:68", after := #[{ on := 3, ground := Ground.data }, { on := 2, ground := Ground.guard }], guard := some (2, false) }) (v := ?_) rfl (by kernel_rfl) (by kernel_rfl) (by kernel_rfl) (fun _ _ _ h => h) (Or.inl ⟨by rfl, ?_⟩) hHeld ?_
                rotate_left
                · intro w hSw; (try dsimp only at hSw); obtain ⟨⟨p0, p1, p2, p3, p4⟩, -⟩ := row5 hSw.1; go_simp; with_reducible rfl
                try simp only [Act.put, List.setIfInBounds_toArray, List.set_cons_zero, List.set_cons_succ]
                refine wpAnyH_take (i := 5) (oi := { dst := some 99, op := Op.move (Operand.tmp 6), type := 3, pos := "ref.go:68", after := #[{ on := 2, ground := Ground.guard }], guard := some (2, false) }) (v := ?_) rfl (by kernel_rfl) (by kernel_rfl) (by kernel_rfl) (fun _ _ _ h => h) (Or.inl ⟨by rfl, ?_⟩) hHeld ?_
                rotate_left
                · intro w hSw; (try dsimp only at hSw); go_simp; with_reducible rfl
                try simp only [Act.put, List.setIfInBounds_toArray, List.set_cons_zero, List.set_cons_succ]
                refine wpAnyH_take (i := 6) (oi := { dst := some 100, op := Op.indexAddr 23 (Operand.tmp 98) (Operand.tmp 99), type := 0, pos := "ref.go:68", after := #[{ on := 4, ground := Ground.data }, { on := 5, ground := Ground.data }, { on := 2, ground := Ground.guard }], guard := some (2, false) }) (v := ?_) rfl (by kernel_rfl) (by kernel_rfl) (by kernel_rfl) (fun _ _ _ h => h) (Or.inl ⟨by rfl, ?_⟩) hHeld ?_
                rotate_left
                · intro w hSw; (try dsimp only at hSw); go_simp; with_reducible rfl
                try simp only [Act.put, List.setIfInBounds_toArray, List.set_cons_zero, List.set_cons_succ]
                refine wpAnyH_take (i := 7) (oi := { dst := some 101, op := Op.fieldAddr 36 (Operand.tmp 100) 1, type := 0, pos := "ref.go:68", after := #[{ on := 6, ground := Ground.data }, { on := 2, ground := Ground.guard }], guard := some (2, false) }) (v := ?_) rfl (by kernel_rfl) (by kernel_rfl) (by kernel_rfl) (fun _ _ _ h => h) (Or.inl ⟨by rfl, ?_⟩) hHeld ?_
                rotate_left
                · intro w hSw; (try dsimp only at hSw); go_simp; with_reducible rfl
                try simp only [Act.put, List.setIfInBounds_toArray, List.set_cons_zero, List.set_cons_succ]
                refine wpAnyH_take (i := 8) (oi := { dst := some 102, op := Op.load 25 (Operand.tmp 101), type := 25, pos := "ref.go:68", after := #[{ on := 7, ground := Ground.data }, { on := 2, ground := Ground.guard }], guard := some (2, false) }) (v := ?_) rfl (by kernel_rfl) (by kernel_rfl) (by kernel_rfl) (fun _ _ _ h => h) (Or.inl ⟨by rfl, ?_⟩) hHeld ?_
                rotate_left
                · intro w hSw; (try dsimp only at hSw); obtain ⟨a0, a1, a2, a3, a4, a5⟩ := hSw.2.2.1; have b2 : w.cell? ⟨g, o1 + i * 6 + 1 + 1, none⟩ = some (.int .i64 qn) := a2; have b3 : w.cell? ⟨g, o1 + i * 6 + 1 + 2, none⟩ = some (.string qS) := a3; have b4 : w.cell? ⟨g, o1 + i * 6 + 1 + 3, none⟩ = some (.slice qA ql qc) := a4; have b5 : w.cell? ⟨g, o1 + i * 6 + 1 + 4, none⟩ = some (.slice qB qm qd) := a5; go_simp; with_reducible rfl
                try simp only [Act.put, List.setIfInBounds_toArray, List.set_cons_zero, List.set_cons_succ]
                refine wpAnyH_take (i := 9) (oi := { dst := some 103, op := Op.fieldAddr 25 (Operand.tmp 3) 4, type := 0, pos := "ref.go:68", after := #[{ on := 2, ground := Ground.guard }], guard := some (2, false) }) (v := ?_) rfl (by kernel_rfl) (by kernel_rfl) (by kernel_rfl) (fun _ _ _ h => h) (Or.inl ⟨by rfl, ?_⟩) hHeld ?_
                rotate_left
                · intro w hSw; (try dsimp only at hSw); go_simp; with_reducible rfl
                try simp only [Act.put, List.setIfInBounds_toArray, List.set_cons_zero, List.set_cons_succ]
                refine wpAnyH_take (i := 10) (oi := { dst := some 104, op := Op.load 23 (Operand.tmp 103), type := 23, pos := "ref.go:68", after := #[{ on := 9, ground := Ground.data }, { on := 2, ground := Ground.guard }], guard := some (2, false) }) (v := ?_) rfl (by kernel_rfl) (by kernel_rfl) (by kernel_rfl) (fun _ _ _ h => h) (Or.inl ⟨by rfl, ?_⟩) hHeld ?_
                rotate_left
                · intro w hSw; (try dsimp only at hSw); obtain ⟨⟨p0, p1, p2, p3, p4⟩, -⟩ := row5 hSw.2.1; go_simp; with_reducible rfl
                try simp only [Act.put, List.setIfInBounds_toArray, List.set_cons_zero, List.set_cons_succ]
                refine wpAnyH_take (i := 11) (oi := { dst := some 105, op := Op.move (Operand.tmp 7), type := 3, pos := "ref.go:68", after := #[{ on := 2, ground := Ground.guard }], guard := some (2, false) }) (v := ?_) rfl (by kernel_rfl) (by kernel_rfl) (by kernel_rfl) (fun _ _ _ h => h) (Or.inl ⟨by rfl, ?_⟩) hHeld ?_
                rotate_left
                · intro w hSw; (try dsimp only at hSw); go_simp; with_reducible rfl
                try simp only [Act.put, List.setIfInBounds_toArray, List.set_cons_zero, List.set_cons_succ]
                refine wpAnyH_take (i := 12) (oi := { dst := some 106, op := Op.indexAddr 23 (Operand.tmp 104) (Operand.tmp 105), type := 0, pos := "ref.go:68", after := #[{ on := 10, ground := Ground.data }, { on := 11, ground := Ground.data }, { on := 2, ground := Ground.guard }], guard := some (2, false) }) (v := ?_) rfl (by kernel_rfl) (by kernel_rfl) (by kernel_rfl) (fun _ _ _ h => h) (Or.inl ⟨by rfl, ?_⟩) hHeld ?_
                rotate_left
                · intro w hSw; (try dsimp only at hSw); go_simp; with_reducible rfl
                try simp only [Act.put, List.setIfInBounds_toArray, List.set_cons_zero, List.set_cons_succ]
                refine wpAnyH_take (i := 13) (oi := { dst := some 107, op := Op.fieldAddr 36 (Operand.tmp 106) 1, type := 0, pos := "ref.go:68", after := #[{ on := 12, ground := Ground.data }, { on := 2, ground := Ground.guard }], guard := some (2, false) }) (v := ?_) rfl (by kernel_rfl) (by kernel_rfl) (by kernel_rfl) (fun _ _ _ h => h) (Or.inl ⟨by rfl, ?_⟩) hHeld ?_
                rotate_left
                · intro w hSw; (try dsimp only at hSw); go_simp; with_reducible rfl
                try simp only [Act.put, List.setIfInBounds_toArray, List.set_cons_zero, List.set_cons_succ]
                refine wpAnyH_take (i := 14) (oi := { dst := some 108, op := Op.load 25 (Operand.tmp 107), type := 25, pos := "ref.go:68", after := #[{ on := 13, ground := Ground.data }, { on := 2, ground := Ground.guard }], guard := some (2, false) }) (v := ?_) rfl (by kernel_rfl) (by kernel_rfl) (by kernel_rfl) (fun _ _ _ h => h) (Or.inl ⟨by rfl, ?_⟩) hHeld ?_
                rotate_left
                · intro w hSw; (try dsimp only at hSw); obtain ⟨a0, a1, a2, a3, a4, a5⟩ := hSw.2.2.2; have b2 : w.cell? ⟨g2, o2 + J * 6 + 1 + 1, none⟩ = some (.int .i64 rn) := a2; have b3 : w.cell? ⟨g2, o2 + J * 6 + 1 + 2, none⟩ = some (.string rS) := a3; have b4 : w.cell? ⟨g2, o2 + J * 6 + 1 + 3, none⟩ = some (.slice rA rl rc) := a4; have b5 : w.cell? ⟨g2, o2 + J * 6 + 1 + 4, none⟩ = some (.slice rB rm rd) := a5; go_simp; with_reducible rfl
                try simp only [Act.put, List.setIfInBounds_toArray, List.set_cons_zero, List.set_cons_succ]
                refine wpAnyH_ready (rs := [15]) (by kernel_rfl) (by simp) ?_
                refine AllReadyH.cons (o := { dst := some 109, op := Op.call { callee := Callee.value (Operand.func 15), args := #[Operand.tmp 102, Operand.tmp 108], argTypes := #[25, 25] }, type := 4, pos := "ref.go:68", after := #[{ on := 8, ground := Ground.data }, { on := 14, ground := Ground.data }, { on := 2, ground := Ground.chain }, { on := 2, ground := Ground.guard }], guard := some (2, false) }) rfl (fun K hK => ?_) AllReadyH.nil
                go_simp
                go_at_call 15
                refine (HCAL.out _ HBwq.out.drew).mono ?_
                rintro e w5 ⟨rfl, hb5⟩
                have HB5 := Lib.hid (show Below wq.heap.size wq w5 from (Below.drew (Below.refl wq.heap.size wq)).trans hb5)
                clear hb5
                refine hK.out _ _ (⟨(HB5.out.block _ Lwq_0.out).trans HS.out.1, (HB5.out.block _ Lwq_1.out).trans HS.out.2.1, HS.out.2.2.1.keep (fun j => HB5.out.cell (p := ⟨g, j, none⟩) (Nat.lt_of_lt_of_le HG.out.1 HBwq.out.size)), HS.out.2.2.2.keep (fun j => HB5.out.cell (p := ⟨g2, j, none⟩) (Nat.lt_of_lt_of_le HG.out.2 HBwq.out.size))⟩) (fun hHeld => ?_)
                clear hK K
                try simp only [Act.put, List.setIfInBounds_toArray, List.set_cons_zero, List.set_cons_succ]
                refine wpAnyH_take (i := 16) (oi := { dst := some 110, op := Op.unOp UnOp.not 4 (Operand.tmp 109), type := 4, pos := "ref.go:68", after := #[{ on := 15, ground := Ground.data }, { on := 2, ground := Ground.guard }], guard := some (2, false) }) (v := ?_) rfl (by kernel_rfl) (by kernel_rfl) (by kernel_rfl) (fun _ _ _ h => h) (Or.inl ⟨by rfl, ?_⟩) hHeld ?_
                rotate_left
                · intro w hSw; (try dsimp only at hSw); go_simp; with_reducible rfl
                try simp only [Act.put, List.setIfInBounds_toArray, List.set_cons_zero, List.set_cons_succ]
                refine wpAnyH_take (i := 17) (oi := { dst := some 111, op := Op.pick (Operand.tmp 96) (Operand.const (Value.bool true)) (Operand.tmp 110), type := 4, pos := "ref.go:68", after := #[{ on := 2, ground := Ground.data }, { on := 16, ground := Ground.data }], guard := none }) (v := ?_) rfl (by kernel_rfl) (by kernel_rfl) (by kernel_rfl) (fun _ _ _ h => h) (Or.inl ⟨by rfl, ?_⟩) hHeld ?_
                rotate_left
                · intro w hSw; (try dsimp only at hSw); go_simp; with_reducible rfl
                try simp only [Act.put, List.setIfInBounds_toArray, List.set_cons_zero, List.set_cons_succ]
                refine wpAnyH_done (by kernel_rfl) ?_ _
                clear hHeld
                go_wp2_with fail
                go_roundw
                case rel => exact ⟨i + 1, by go_num, by have := HLT.out; omega, (show Below _ _ _ from (HBI.out.trans (HBQ.out.mono HBI.out.size)).trans (HB5.out.mono (HBI.out.trans (HBQ.out.mono HBI.out.size)).size))⟩
                case measure => have := HLT.out; simp [intOf]; omega
          · have t1 : decide ((i : Int) < (m : Int)) = false := decide_eq_false (by omega)
            have t2 : decide (i < m) = false := decide_eq_false hlt
            clear hlt hi
            obtain ⟨⟨p0_0, p0_1, p0_2, p0_3, p0_4⟩, -⟩ := row5 Rwi_0.out
            obtain ⟨⟨p1_0, p1_1, p1_2, p1_3, p1_4⟩, -⟩ := row5 Rwi_1.out
            go_wp2
            go_ret
            exact ⟨rfl, HBwi.out⟩
end Go.Proofs.Ytbfogkcnfnjcaaa.Pa
namespace Go.Proofs.Ytbfogkcnfnjcaaa.Pa
open Go.Proofs Go.RowKit Go.Lib
open Go.Proofs.Ytbfogkcnfnjcaaa.Utf
open Go.Proofs.Ytbfogkcnfnjcaaa.Sc
open Go.Proofs.Ytbfogkcnfnjcaaa.Re
open Go.Proofs.Ytbfogkcnfnjcaaa.Tr
open Go.Proofs.Ytbfogkcnfnjcaaa.Po
open Go.Proofs.Ytbfogkcnfnjcaaa.Em (lenV lenL szU szUL wfV wfL chk)

def mkT (p : V) (T : List M3) : V := .mk p.k p.n p.s p.l (tN T) (tV T)
theorem tNV_zip (T : List M3) : (tN T).zip (tV T) = T.map fun t => (t.1.nm, t.2.1) := by
  unfold tN tV
  rw [List.zip_map']
theorem mapT_back {w : World} {p : V} {cs : List Value} {F : List Nat} (h : RdF w p cs F) : ∃ A c A2 c2 FL FM T, cs = [.int .i64 p.k, .int .i64 p.n, .string (strOf p.s), .slice A p.l.length c, .slice A2 p.ms.length c2] ∧ F = FL ++ FM ∧ tN T = p.ns ∧ tV T = p.ms ∧ MapT w A2 T FM ∧
    ∀ (w' : World) (T' : List M3) (FM' : List Nat), (∀ k ∈ FL, w'.heap[k]? = w.heap[k]?) → T'.length = T.length → MapT w' A2 T' FM' → RdF w' (mkT p T') cs (FL ++ FM') := by
  obtain ⟨A, c, A2, c2, FL, FM, e, hn, rfl, hl, hm⟩ := h.cells
  have hcap := h.caps e
  subst e
  have key : ∀ T : List M3, tV T = p.ms → ∀ (w' : World) (T' : List M3) (FM' : List Nat), (∀ k ∈ FL, w'.heap[k]? = w.heap[k]?) → T'.length = T.length → MapT w' A2 T' FM' → RdF w' (mkT p T') [.int .i64 p.k, .int .i64 p.n, .string (strOf p.s), .slice A p.l.length c, .slice A2 p.ms.length c2] (FL ++ FM') := by
    intro T hT w' T' FM' hk hlen hmt
    have hml : T'.length = p.ms.length := by rw [hlen, ← hT, tV_len]
    refine RdF.of_cells ⟨A, c, A2, c2, FL, FM', hcap.1, ?_, ?_, ?_, rfl, ?_, ?_⟩
    · show (tV T').length ≤ c2; rw [tV_len, hml]; exact hcap.2
    · show _ = [Value.int .i64 p.k, .int .i64 p.n, .string (strOf p.s), .slice A p.l.length c, .slice A2 (tV T').length c2]
      rw [tV_len, hml]
    · show (tN T').length = (tV T').length; rw [tN_len, tV_len]
    · rcases hl with hl | ⟨g, G, h0, e1, e2, hr⟩
      · exact .inl hl
      · exact .inr ⟨g, G, h0, e1, e2, RdFL.keep _ _ _ _ (hk g (by rw [e2]; simp)) (fun k hkk => hk k (by rw [e2]; exact List.mem_cons_of_mem _ hkk)) hr⟩
    · by_cases h0 : 0 < T'.length
      · obtain ⟨g, e1, e2, hc⟩ := hmt.at_ h0
        refine .inr ⟨g, tF T', by show 0 < (tV T').length; rw [tV_len]; exact h0, e1, e2, ?_⟩
        refine RdFM.of_items (tV T') (tN T') (T'.map fun t => t.2.2) 0 (by rw [List.length_map, tV_len]) (by rw [tN_len, tV_len]) fun j h1 h2 h3 => ?_
        have hj : j < T'.length := by rwa [tV_len] at h1
        refine ⟨m6tail T'[j].1, ?_, ?_⟩
        · have := hc j hj
          rw [Nat.zero_add, tN_get]
          exact this
        · rw [tV_get, List.getElem_map]
          exact hmt.rd _ (List.getElem_mem hj)
      · exact .inl ⟨by show (tV T').length = 0; rw [tV_len]; omega, hmt.none_ (by omega)⟩
  rcases hm with ⟨h0, rfl⟩ | ⟨g, T', h0, rfl, rfl, hr⟩
  · refine ⟨A, c, A2, c2, FL, [], [], rfl, rfl, ?_, ?_, ⟨fun h => by simp at h, fun _ => rfl, fun t h => by cases h⟩, key [] (by rw [List.eq_nil_of_length_eq_zero h0]; rfl)⟩
    · rw [List.eq_nil_of_length_eq_zero (hn.trans h0)]; rfl
    · rw [List.eq_nil_of_length_eq_zero h0]; rfl
  · obtain ⟨T, t1, t2, t3, t4, t5⟩ := mf_build p.ms p.ns T' 0 hr hn
    refine ⟨A, c, _, c2, FL, g :: T', T, rfl, rfl, t1, t2, ⟨fun _ => ⟨g, rfl, by rw [t3], fun j h => by have := t4 j h; rwa [Nat.zero_add] at this⟩, fun h => ?_, t5⟩, key T t2⟩
    rw [← t2, tV_len] at h0
    omega
def swp (T : List M3) (a b : Nat) (x y : M3) : List M3 := (T.set a y).set b x
theorem set_len2 (T : List M3) (a b : Nat) (x y : M3) : (swp T a b x y).length = T.length := by unfold swp; rw [List.length_set, List.length_set]
theorem swp_perm {T : List M3} {a b : Nat} (ha : a < T.length) (hb : b < T.length) : (swp T a b T[a] T[b]).Perm T := by
  have h : ∀ (l : List M3) (a b : Nat) (ha : a < l.length) (hb : b < l.length), ((l.set a l[b]).set b l[a]).Perm l := by
    intro l a b ha hb
    exact List.set_set_perm ha hb
  exact h T a b ha hb
theorem tF_perm {T R : List M3} (h : T.Perm R) : ∀ k, k ∈ tF T ↔ k ∈ tF R := fun k => by
  constructor
  · intro hk
    obtain ⟨t, ht, h2⟩ := tF_of hk
    exact tF_mem (h.mem_iff.1 ht) h2
  · intro hk
    obtain ⟨t, ht, h2⟩ := tF_of hk
    exact tF_mem (h.mem_iff.2 ht) h2
theorem turn_facts {p : V} {T R : List M3} (h1 : tN T = p.ns) (h2 : tV T = p.ms) (h : R.Perm T) : (mkT p R).k = p.k ∧ (mkT p R).ms.length = p.ms.length ∧ (mkT p R).ns.Perm p.ns ∧ ((mkT p R).ns.zip (mkT p R).ms).Perm (p.ns.zip p.ms) ∧ szU (mkT p R) = szU p ∧ (wfV p → wfV (mkT p R)) := by
  have hN : (tN R).Perm p.ns := by rw [← h1]; exact h.map _
  have hV : (tV R).Perm p.ms := by rw [← h2]; exact h.map _
  refine ⟨rfl, hV.length_eq, hN, ?_, ?_, fun hw => ?_⟩
  · show ((tN R).zip (tV R)).Perm (p.ns.zip p.ms)
    rw [tNV_zip, ← h1, ← h2, tNV_zip]
    exact h.map _
  · rw [szU_eq', szU_eq' p]
    show 1 + p.s.length + szUL p.l + ((tN R).map fun x => 1 + x.length).sum + szUL (tV R) = _
    rw [szUL_perm hV, sum_perm (hN.map _)]
  · rw [wfV_eq] at hw ⊢
    exact ⟨hw.1, hw.2.1, hw.2.2.1, wfL_perm hV.symm hw.2.2.2⟩
end Go.Proofs.Ytbfogkcnfnjcaaa.Pa
