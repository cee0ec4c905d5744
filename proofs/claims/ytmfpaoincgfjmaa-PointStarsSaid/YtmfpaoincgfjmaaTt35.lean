/- Merged: PoAw PoW6 PoLs. -/
import Derived.Test.YtmfpaoincgfjmaaTt34
import Derived.Test.YtmfpaoincgfjmaaTt19
import Derived.Test.YtmfpaoincgfjmaaTt29
import Derived.Test.YtmfpaoincgfjmaaTt16
import Derived.Test.YtmfpaoincgfjmaaTt15
import Derived.Test.YtmfpaoincgfjmaaTt21
import Derived.Test.YtmfpaoincgfjmaaTt27
import Derived.Test.YtmfpaoincgfjmaaTt6
import Derived.Test.YtmfpaoincgfjmaaTt5
import Derived.Test.YtmfpaoincgfjmaaTt23
set_option linter.unusedSimpArgs false
namespace Go.Proofs.Ytmfpaoincgfjmaa.Po
open Go.Proofs Go.RowKit
open Go.Proofs.Ytmfpaoincgfjmaa.Utf
open Go.Proofs.Ytmfpaoincgfjmaa.Sc
open Go.Proofs.Ytmfpaoincgfjmaa.Re
open Go.Proofs.Ytmfpaoincgfjmaa.Tr
open Go.Proofs.Ytmfpaoincgfjmaa.Nu

theorem _root_.Go.Proofs.Ytmfpaoincgfjmaa.Re.RdA.more {w : World} {lo hi hi' : Nat} {v : V} {cs : List Value} (h : RdA w lo hi v cs) (hh : hi ≤ hi') : RdA w lo hi' v cs := RdA.keep (fun _ _ _ => rfl) (Nat.le_refl _) hh _ _ h

set_option maxRecDepth 100000 in
set_option maxHeartbeats 1000000 in
theorem awake_any8 (w : World) : Calls Try.prog 10 #[] w (Gives (.bool true) w) := by
  have HBw := Lib.hid (Below.refl w.heap.size w)
  go_enter Try.func10, Try.ntmps10
  go_wp2_with fail
  refine (Value_any2 ⟨#[123, 34, 97, 34, 58, 91, 123, 34, 98, 34, 58, 49, 125, 44, 123, 34, 98, 34, 58, 91, 50, 44, 51, 93, 125, 93, 125]⟩ _ (by decide) aw8_1).mono ?_
  rintro e w1 ⟨vA, vc, vB, vd, rfl, hv, hb⟩
  have HBw1 := Lib.hid (HBw.out.trans (hb.mono HBw.out.size))
  have HV := Lib.hid (RdA.of_RdV _ _ hv)
  clear hv
  clear hb
  have Fw1_v := Lib.hid (Below.refl w1.heap.size w1)
  obtain ⟨v, hvv⟩ : ∃ v, docV = v := ⟨_, rfl⟩
  have HVV := Lib.hid hvv
  rw [hvv] at HV ⊢
  clear hvv
  generalize v.k = vk at *
  generalize v.n = vn at *
  generalize strOf v.s = vS at *
  generalize v.l.length = vl at *
  generalize v.ms.length = vm at *
  have HFI := Lib.hid (fun (W : World) (p : List UInt8) (r : V × Int) (hr : leadsV leadV p docV = r) (hp : p.length ≤ 4398046511104) (hb : Below w1.heap.size w1 W) => show Calls Try.prog 17 #[.agg #[.int .i64 vk, .int .i64 vn, .string vS, .slice vA vl vc, .slice vB vm vd], .string ⟨p.toArray⟩] W (GivesVE r W) from by
    rw [← hr, HVV.out]
    exact Find_any v _ p W ((RdA.keep (lo' := 0) (hi' := w1.heap.size) (fun q _ hq => hb.cell (p := q) hq) (Nat.zero_le _) (Nat.le_refl _) _ _ HV.out).more hb.size) (by rw [← HVV.out]; exact aw8_sz) hp)
  have HEA := Lib.hid (fun (W : World) (p : List UInt8) (r : V × Int) (hr : leadsV eachV p docV = r) (hp : p.length ≤ 4398046511104) (hb : Below w1.heap.size w1 W) => show Calls Try.prog 19 #[.agg #[.int .i64 vk, .int .i64 vn, .string vS, .slice vA vl vc, .slice vB vm vd], .string ⟨p.toArray⟩] W (GivesVE r W) from by
    rw [← hr, HVV.out]
    exact Each_any v _ p W ((RdA.keep (lo' := 0) (hi' := w1.heap.size) (fun q _ hq => hb.cell (p := q) hq) (Nat.zero_le _) (Nat.le_refl _) _ _ HV.out).more hb.size) (by rw [← HVV.out]; exact aw8_sz) hp (by rw [← HVV.out]; exact aw8_cnt))
  obtain ⟨W1, hW1⟩ : ∃ W1, W1 = w1.alloc (.cells #[.int .i64 vk, .int .i64 vn, .string vS, .slice vA vl vc, .slice vB vm vd] 36) := ⟨_, rfl⟩
  have hb : Below w1.heap.size w1 W1 := by rw [hW1]; exact (Below.refl _ _).alloc (Nat.le_refl _) _
  have FW1_v := Lib.hid (Fw1_v.out.trans (hb.mono Fw1_v.out.size))
  have HBW1 := Lib.hid (HBw1.out.trans (hb.mono HBw1.out.size))
  have RW1_0 := Lib.hid (show W1.heap[w1.heap.size]? = some (.cells #[.int .i64 vk, .int .i64 vn, .string vS, .slice vA vl vc, .slice vB vm vd] 36 (0, 0)) by rw [hW1]; exact heapNew _ _)
  have LW1_0 := Lib.hid (show w1.heap.size < W1.heap.size by rw [hW1, szAl]; exact Nat.lt_succ_self _)
  have HW1 := Lib.hid hW1
  clear hW1 hb
  have q0 := RW1_0.out
  rw [HW1.out] at q0
  obtain ⟨⟨p0_0, p0_1, p0_2, p0_3, p0_4⟩, -⟩ := row5 q0
  clear q0
  go_wp2_with fail
  rw [← HW1.out]
  clear p0_0 p0_1 p0_2 p0_3 p0_4
  refine (HFI.out _ [47, 97, 47, 48, 47, 98] (nmV 1, 0) aw8_2 (by decide) FW1_v.out).mono ?_
  rintro e w2 ⟨⟨xs, rfl, hx⟩, hb⟩
  have Rw2_0 := Lib.hid (show w2.heap[w1.heap.size]? = some (.cells #[.int .i64 vk, .int .i64 vn, .string vS, .slice vA vl vc, .slice vB vm vd] 36 (0, 0)) from (hb.block _ LW1_0.out).trans RW1_0.out)
  have Lw2_0 := Lib.hid (show w1.heap.size < w2.heap.size from Nat.lt_of_lt_of_le LW1_0.out hb.size)
  have Fw2_v := Lib.hid (FW1_v.out.trans (hb.mono FW1_v.out.size))
  have HBw2 := Lib.hid (HBW1.out.trans (hb.mono HBW1.out.size))
  have Hx := Lib.hid (RdA.keep (lo' := 0) (hi' := w2.heap.size) (fun _ _ _ => rfl) (Nat.zero_le _) (Nat.le_refl _) _ _ hx)
  obtain ⟨xA, xc, xB, xd, ex, -⟩ := hx.cells
  subst ex
  clear hx
  obtain ⟨xv, hxv⟩ : ∃ xv, (nmV 1 : V) = xv := ⟨_, rfl⟩
  have HxV := Lib.hid hxv
  simp only at Hx ⊢
  rw [hxv] at Hx ⊢
  clear hxv
  generalize xv.k = xk at *
  obtain ⟨xn, hxn⟩ : ∃ x, xv.n = x := ⟨_, rfl⟩
  have HxN := Lib.hid hxn
  rw [hxn] at Hx ⊢
  clear hxn
  generalize strOf xv.s = xS at *
  generalize xv.l.length = xl at *
  generalize xv.ms.length = xm at *
  clear hb
  have Fw2_x := Lib.hid (Below.refl w2.heap.size w2)
  obtain ⟨W2, hW2⟩ : ∃ W2, W2 = w2.alloc (.cells #[.int .i64 xk, .int .i64 xn, .string xS, .slice xA xl xc, .slice xB xm xd] 36) := ⟨_, rfl⟩
  have hb : Below w2.heap.size w2 W2 := by rw [hW2]; exact (Below.refl _ _).alloc (Nat.le_refl _) _
  have RW2_0 := Lib.hid (show W2.heap[w1.heap.size]? = some (.cells #[.int .i64 vk, .int .i64 vn, .string vS, .slice vA vl vc, .slice vB vm vd] 36 (0, 0)) from (hb.block _ Lw2_0.out).trans Rw2_0.out)
  have LW2_0 := Lib.hid (show w1.heap.size < W2.heap.size from Nat.lt_of_lt_of_le Lw2_0.out hb.size)
  have FW2_v := Lib.hid (Fw2_v.out.trans (hb.mono Fw2_v.out.size))
  have FW2_x := Lib.hid (Fw2_x.out.trans (hb.mono Fw2_x.out.size))
  have HBW2 := Lib.hid (HBw2.out.trans (hb.mono HBw2.out.size))
  have RW2_1 := Lib.hid (show W2.heap[w2.heap.size]? = some (.cells #[.int .i64 xk, .int .i64 xn, .string xS, .slice xA xl xc, .slice xB xm xd] 36 (0, 0)) by rw [hW2]; exact heapNew _ _)
  have LW2_1 := Lib.hid (show w2.heap.size < W2.heap.size by rw [hW2, szAl]; exact Nat.lt_succ_self _)
  have HW2 := Lib.hid hW2
  clear hW2 hb
  obtain rfl : xn = 1 := by have h := HxN.out; rw [← HxV.out] at h; exact h.symm
  have q0 := RW2_0.out
  rw [HW2.out] at q0
  obtain ⟨⟨p0_0, p0_1, p0_2, p0_3, p0_4⟩, -⟩ := row5 q0
  clear q0
  have q1 := RW2_1.out
  rw [HW2.out] at q1
  obtain ⟨⟨p1_0, p1_1, p1_2, p1_3, p1_4⟩, -⟩ := row5 q1
  clear q1
  go_wp2_with fail
  rw [← HW2.out]
  clear p0_0 p0_1 p0_2 p0_3 p0_4 p1_0 p1_1 p1_2 p1_3 p1_4
  refine (HEA.out _ [47, 97, 47, 42, 47, 98] (numsV, 0) aw8_3 (by decide) FW2_v.out).mono ?_
  rintro e w3 ⟨⟨ys, rfl, hy⟩, hb⟩
  have Rw3_0 := Lib.hid (show w3.heap[w1.heap.size]? = some (.cells #[.int .i64 vk, .int .i64 vn, .string vS, .slice vA vl vc, .slice vB vm vd] 36 (0, 0)) from (hb.block _ LW2_0.out).trans RW2_0.out)
  have Lw3_0 := Lib.hid (show w1.heap.size < w3.heap.size from Nat.lt_of_lt_of_le LW2_0.out hb.size)
  have Rw3_1 := Lib.hid (show w3.heap[w2.heap.size]? = some (.cells #[.int .i64 xk, .int .i64 1, .string xS, .slice xA xl xc, .slice xB xm xd] 36 (0, 0)) from (hb.block _ LW2_1.out).trans RW2_1.out)
  have Lw3_1 := Lib.hid (show w2.heap.size < w3.heap.size from Nat.lt_of_lt_of_le LW2_1.out hb.size)
  have Fw3_v := Lib.hid (FW2_v.out.trans (hb.mono FW2_v.out.size))
  have Fw3_x := Lib.hid (FW2_x.out.trans (hb.mono FW2_x.out.size))
  have HBw3 := Lib.hid (HBW2.out.trans (hb.mono HBW2.out.size))
  have Hy := Lib.hid (RdA.keep (lo' := 0) (hi' := w3.heap.size) (fun _ _ _ => rfl) (Nat.zero_le _) (Nat.le_refl _) _ _ hy)
  obtain ⟨yA, yc, yB, yd, ey, -⟩ := hy.cells
  subst ey
  clear hy
  obtain ⟨yv, hyv⟩ : ∃ yv, (numsV : V) = yv := ⟨_, rfl⟩
  have HyV := Lib.hid hyv
  simp only at Hy ⊢
  rw [hyv] at Hy ⊢
  clear hyv
  generalize yv.k = yk at *
  obtain ⟨yn, hyn⟩ : ∃ x, yv.n = x := ⟨_, rfl⟩
  have HyN := Lib.hid hyn
  rw [hyn] at Hy ⊢
  clear hyn
  generalize strOf yv.s = yS at *
  generalize yv.l.length = yl at *
  generalize yv.ms.length = ym at *
  clear hb
  have Fw3_y := Lib.hid (Below.refl w3.heap.size w3)
  obtain ⟨W3, hW3⟩ : ∃ W3, W3 = w3.alloc (.cells #[.int .i64 yk, .int .i64 yn, .string yS, .slice yA yl yc, .slice yB ym yd] 36) := ⟨_, rfl⟩
  have hb : Below w3.heap.size w3 W3 := by rw [hW3]; exact (Below.refl _ _).alloc (Nat.le_refl _) _
  have RW3_0 := Lib.hid (show W3.heap[w1.heap.size]? = some (.cells #[.int .i64 vk, .int .i64 vn, .string vS, .slice vA vl vc, .slice vB vm vd] 36 (0, 0)) from (hb.block _ Lw3_0.out).trans Rw3_0.out)
  have LW3_0 := Lib.hid (show w1.heap.size < W3.heap.size from Nat.lt_of_lt_of_le Lw3_0.out hb.size)
  have RW3_1 := Lib.hid (show W3.heap[w2.heap.size]? = some (.cells #[.int .i64 xk, .int .i64 1, .string xS, .slice xA xl xc, .slice xB xm xd] 36 (0, 0)) from (hb.block _ Lw3_1.out).trans Rw3_1.out)
  have LW3_1 := Lib.hid (show w2.heap.size < W3.heap.size from Nat.lt_of_lt_of_le Lw3_1.out hb.size)
  have FW3_v := Lib.hid (Fw3_v.out.trans (hb.mono Fw3_v.out.size))
  have FW3_x := Lib.hid (Fw3_x.out.trans (hb.mono Fw3_x.out.size))
  have FW3_y := Lib.hid (Fw3_y.out.trans (hb.mono Fw3_y.out.size))
  have HBW3 := Lib.hid (HBw3.out.trans (hb.mono HBw3.out.size))
  have RW3_2 := Lib.hid (show W3.heap[w3.heap.size]? = some (.cells #[.int .i64 yk, .int .i64 yn, .string yS, .slice yA yl yc, .slice yB ym yd] 36 (0, 0)) by rw [hW3]; exact heapNew _ _)
  have LW3_2 := Lib.hid (show w3.heap.size < W3.heap.size by rw [hW3, szAl]; exact Nat.lt_succ_self _)
  have HW3 := Lib.hid hW3
  clear hW3 hb
  have q0 := RW3_0.out
  rw [HW3.out] at q0
  obtain ⟨⟨p0_0, p0_1, p0_2, p0_3, p0_4⟩, -⟩ := row5 q0
  clear q0
  have q1 := RW3_1.out
  rw [HW3.out] at q1
  obtain ⟨⟨p1_0, p1_1, p1_2, p1_3, p1_4⟩, -⟩ := row5 q1
  clear q1
  have q2 := RW3_2.out
  rw [HW3.out] at q2
  obtain ⟨⟨p2_0, p2_1, p2_2, p2_3, p2_4⟩, -⟩ := row5 q2
  clear q2
  go_wp2_with fail
  rw [← HW3.out]
  clear p0_0 p0_1 p0_2 p0_3 p0_4 p1_0 p1_1 p1_2 p1_3 p1_4 p2_0 p2_1 p2_2 p2_3 p2_4
  refine (HFI.out _ [47, 97, 47, 50] (V0, 81) aw8_4 (by decide) FW3_v.out).mono ?_
  rintro e w4 ⟨⟨ds, rfl, hd⟩, hb⟩
  have Rw4_0 := Lib.hid (show w4.heap[w1.heap.size]? = some (.cells #[.int .i64 vk, .int .i64 vn, .string vS, .slice vA vl vc, .slice vB vm vd] 36 (0, 0)) from (hb.block _ LW3_0.out).trans RW3_0.out)
  have Lw4_0 := Lib.hid (show w1.heap.size < w4.heap.size from Nat.lt_of_lt_of_le LW3_0.out hb.size)
  have Rw4_1 := Lib.hid (show w4.heap[w2.heap.size]? = some (.cells #[.int .i64 xk, .int .i64 1, .string xS, .slice xA xl xc, .slice xB xm xd] 36 (0, 0)) from (hb.block _ LW3_1.out).trans RW3_1.out)
  have Lw4_1 := Lib.hid (show w2.heap.size < w4.heap.size from Nat.lt_of_lt_of_le LW3_1.out hb.size)
  have Rw4_2 := Lib.hid (show w4.heap[w3.heap.size]? = some (.cells #[.int .i64 yk, .int .i64 yn, .string yS, .slice yA yl yc, .slice yB ym yd] 36 (0, 0)) from (hb.block _ LW3_2.out).trans RW3_2.out)
  have Lw4_2 := Lib.hid (show w3.heap.size < w4.heap.size from Nat.lt_of_lt_of_le LW3_2.out hb.size)
  have Fw4_v := Lib.hid (FW3_v.out.trans (hb.mono FW3_v.out.size))
  have Fw4_x := Lib.hid (FW3_x.out.trans (hb.mono FW3_x.out.size))
  have Fw4_y := Lib.hid (FW3_y.out.trans (hb.mono FW3_y.out.size))
  have HBw4 := Lib.hid (HBW3.out.trans (hb.mono HBW3.out.size))
  have Hd := Lib.hid (RdA.keep (lo' := 0) (hi' := w4.heap.size) (fun _ _ _ => rfl) (Nat.zero_le _) (Nat.le_refl _) _ _ hd)
  obtain ⟨dA, dc, dB, dd, ed, -⟩ := hd.cells
  subst ed
  clear hd
  obtain ⟨dv, hdv⟩ : ∃ dv, (V0 : V) = dv := ⟨_, rfl⟩
  have HdV := Lib.hid hdv
  simp only at Hd ⊢
  rw [hdv] at Hd ⊢
  clear hdv
  generalize dv.k = dk at *
  obtain ⟨dn, hdn⟩ : ∃ x, dv.n = x := ⟨_, rfl⟩
  have HdN := Lib.hid hdn
  rw [hdn] at Hd ⊢
  clear hdn
  generalize strOf dv.s = dS at *
  generalize dv.l.length = dl at *
  generalize dv.ms.length = dm at *
  clear hb
  have Fw4_d := Lib.hid (Below.refl w4.heap.size w4)
  obtain ⟨W4, hW4⟩ : ∃ W4, W4 = w4.alloc (.cells #[.int .i64 dk, .int .i64 dn, .string dS, .slice dA dl dc, .slice dB dm dd] 36) := ⟨_, rfl⟩
  have hb : Below w4.heap.size w4 W4 := by rw [hW4]; exact (Below.refl _ _).alloc (Nat.le_refl _) _
  have RW4_0 := Lib.hid (show W4.heap[w1.heap.size]? = some (.cells #[.int .i64 vk, .int .i64 vn, .string vS, .slice vA vl vc, .slice vB vm vd] 36 (0, 0)) from (hb.block _ Lw4_0.out).trans Rw4_0.out)
  have LW4_0 := Lib.hid (show w1.heap.size < W4.heap.size from Nat.lt_of_lt_of_le Lw4_0.out hb.size)
  have RW4_1 := Lib.hid (show W4.heap[w2.heap.size]? = some (.cells #[.int .i64 xk, .int .i64 1, .string xS, .slice xA xl xc, .slice xB xm xd] 36 (0, 0)) from (hb.block _ Lw4_1.out).trans Rw4_1.out)
  have LW4_1 := Lib.hid (show w2.heap.size < W4.heap.size from Nat.lt_of_lt_of_le Lw4_1.out hb.size)
  have RW4_2 := Lib.hid (show W4.heap[w3.heap.size]? = some (.cells #[.int .i64 yk, .int .i64 yn, .string yS, .slice yA yl yc, .slice yB ym yd] 36 (0, 0)) from (hb.block _ Lw4_2.out).trans Rw4_2.out)
  have LW4_2 := Lib.hid (show w3.heap.size < W4.heap.size from Nat.lt_of_lt_of_le Lw4_2.out hb.size)
  have FW4_v := Lib.hid (Fw4_v.out.trans (hb.mono Fw4_v.out.size))
  have FW4_x := Lib.hid (Fw4_x.out.trans (hb.mono Fw4_x.out.size))
  have FW4_y := Lib.hid (Fw4_y.out.trans (hb.mono Fw4_y.out.size))
  have FW4_d := Lib.hid (Fw4_d.out.trans (hb.mono Fw4_d.out.size))
  have HBW4 := Lib.hid (HBw4.out.trans (hb.mono HBw4.out.size))
  have RW4_3 := Lib.hid (show W4.heap[w4.heap.size]? = some (.cells #[.int .i64 dk, .int .i64 dn, .string dS, .slice dA dl dc, .slice dB dm dd] 36 (0, 0)) by rw [hW4]; exact heapNew _ _)
  have LW4_3 := Lib.hid (show w4.heap.size < W4.heap.size by rw [hW4, szAl]; exact Nat.lt_succ_self _)
  have HW4 := Lib.hid hW4
  clear hW4 hb
  have q0 := RW4_0.out
  rw [HW4.out] at q0
  obtain ⟨⟨p0_0, p0_1, p0_2, p0_3, p0_4⟩, -⟩ := row5 q0
  clear q0
  have q1 := RW4_1.out
  rw [HW4.out] at q1
  obtain ⟨⟨p1_0, p1_1, p1_2, p1_3, p1_4⟩, -⟩ := row5 q1
  clear q1
  have q2 := RW4_2.out
  rw [HW4.out] at q2
  obtain ⟨⟨p2_0, p2_1, p2_2, p2_3, p2_4⟩, -⟩ := row5 q2
  clear q2
  have q3 := RW4_3.out
  rw [HW4.out] at q3
  obtain ⟨⟨p3_0, p3_1, p3_2, p3_3, p3_4⟩, -⟩ := row5 q3
  clear q3
  go_wp2_with fail
  rw [← HW4.out]
  clear p0_0 p0_1 p0_2 p0_3 p0_4 p1_0 p1_1 p1_2 p1_3 p1_4 p2_0 p2_1 p2_2 p2_3 p2_4 p3_0 p3_1 p3_2 p3_3 p3_4
  refine (HFI.out _ [97] (V0, 80) aw8_5 (by decide) FW4_v.out).mono ?_
  rintro e w5 ⟨⟨qs, rfl, hq⟩, hb⟩
  have Rw5_0 := Lib.hid (show w5.heap[w1.heap.size]? = some (.cells #[.int .i64 vk, .int .i64 vn, .string vS, .slice vA vl vc, .slice vB vm vd] 36 (0, 0)) from (hb.block _ LW4_0.out).trans RW4_0.out)
  have Lw5_0 := Lib.hid (show w1.heap.size < w5.heap.size from Nat.lt_of_lt_of_le LW4_0.out hb.size)
  have Rw5_1 := Lib.hid (show w5.heap[w2.heap.size]? = some (.cells #[.int .i64 xk, .int .i64 1, .string xS, .slice xA xl xc, .slice xB xm xd] 36 (0, 0)) from (hb.block _ LW4_1.out).trans RW4_1.out)
  have Lw5_1 := Lib.hid (show w2.heap.size < w5.heap.size from Nat.lt_of_lt_of_le LW4_1.out hb.size)
  have Rw5_2 := Lib.hid (show w5.heap[w3.heap.size]? = some (.cells #[.int .i64 yk, .int .i64 yn, .string yS, .slice yA yl yc, .slice yB ym yd] 36 (0, 0)) from (hb.block _ LW4_2.out).trans RW4_2.out)
  have Lw5_2 := Lib.hid (show w3.heap.size < w5.heap.size from Nat.lt_of_lt_of_le LW4_2.out hb.size)
  have Rw5_3 := Lib.hid (show w5.heap[w4.heap.size]? = some (.cells #[.int .i64 dk, .int .i64 dn, .string dS, .slice dA dl dc, .slice dB dm dd] 36 (0, 0)) from (hb.block _ LW4_3.out).trans RW4_3.out)
  have Lw5_3 := Lib.hid (show w4.heap.size < w5.heap.size from Nat.lt_of_lt_of_le LW4_3.out hb.size)
  have Fw5_v := Lib.hid (FW4_v.out.trans (hb.mono FW4_v.out.size))
  have Fw5_x := Lib.hid (FW4_x.out.trans (hb.mono FW4_x.out.size))
  have Fw5_y := Lib.hid (FW4_y.out.trans (hb.mono FW4_y.out.size))
  have Fw5_d := Lib.hid (FW4_d.out.trans (hb.mono FW4_d.out.size))
  have HBw5 := Lib.hid (HBW4.out.trans (hb.mono HBW4.out.size))
  have Hq := Lib.hid (RdA.keep (lo' := 0) (hi' := w5.heap.size) (fun _ _ _ => rfl) (Nat.zero_le _) (Nat.le_refl _) _ _ hq)
  obtain ⟨qA, qc, qB, qd, eq, -⟩ := hq.cells
  subst eq
  clear hq
  obtain ⟨qv, hqv⟩ : ∃ qv, (V0 : V) = qv := ⟨_, rfl⟩
  have HqV := Lib.hid hqv
  simp only at Hq ⊢
  rw [hqv] at Hq ⊢
  clear hqv
  generalize qv.k = qk at *
  obtain ⟨qn, hqn⟩ : ∃ x, qv.n = x := ⟨_, rfl⟩
  have HqN := Lib.hid hqn
  rw [hqn] at Hq ⊢
  clear hqn
  generalize strOf qv.s = qS at *
  generalize qv.l.length = ql at *
  generalize qv.ms.length = qm at *
  clear hb
  have Fw5_q := Lib.hid (Below.refl w5.heap.size w5)
  obtain ⟨W5, hW5⟩ : ∃ W5, W5 = w5.alloc (.cells #[.int .i64 qk, .int .i64 qn, .string qS, .slice qA ql qc, .slice qB qm qd] 36) := ⟨_, rfl⟩
  have hb : Below w5.heap.size w5 W5 := by rw [hW5]; exact (Below.refl _ _).alloc (Nat.le_refl _) _
  have RW5_0 := Lib.hid (show W5.heap[w1.heap.size]? = some (.cells #[.int .i64 vk, .int .i64 vn, .string vS, .slice vA vl vc, .slice vB vm vd] 36 (0, 0)) from (hb.block _ Lw5_0.out).trans Rw5_0.out)
  have LW5_0 := Lib.hid (show w1.heap.size < W5.heap.size from Nat.lt_of_lt_of_le Lw5_0.out hb.size)
  have RW5_1 := Lib.hid (show W5.heap[w2.heap.size]? = some (.cells #[.int .i64 xk, .int .i64 1, .string xS, .slice xA xl xc, .slice xB xm xd] 36 (0, 0)) from (hb.block _ Lw5_1.out).trans Rw5_1.out)
  have LW5_1 := Lib.hid (show w2.heap.size < W5.heap.size from Nat.lt_of_lt_of_le Lw5_1.out hb.size)
  have RW5_2 := Lib.hid (show W5.heap[w3.heap.size]? = some (.cells #[.int .i64 yk, .int .i64 yn, .string yS, .slice yA yl yc, .slice yB ym yd] 36 (0, 0)) from (hb.block _ Lw5_2.out).trans Rw5_2.out)
  have LW5_2 := Lib.hid (show w3.heap.size < W5.heap.size from Nat.lt_of_lt_of_le Lw5_2.out hb.size)
  have RW5_3 := Lib.hid (show W5.heap[w4.heap.size]? = some (.cells #[.int .i64 dk, .int .i64 dn, .string dS, .slice dA dl dc, .slice dB dm dd] 36 (0, 0)) from (hb.block _ Lw5_3.out).trans Rw5_3.out)
  have LW5_3 := Lib.hid (show w4.heap.size < W5.heap.size from Nat.lt_of_lt_of_le Lw5_3.out hb.size)
  have FW5_v := Lib.hid (Fw5_v.out.trans (hb.mono Fw5_v.out.size))
  have FW5_x := Lib.hid (Fw5_x.out.trans (hb.mono Fw5_x.out.size))
  have FW5_y := Lib.hid (Fw5_y.out.trans (hb.mono Fw5_y.out.size))
  have FW5_d := Lib.hid (Fw5_d.out.trans (hb.mono Fw5_d.out.size))
  have FW5_q := Lib.hid (Fw5_q.out.trans (hb.mono Fw5_q.out.size))
  have HBW5 := Lib.hid (HBw5.out.trans (hb.mono HBw5.out.size))
  have RW5_4 := Lib.hid (show W5.heap[w5.heap.size]? = some (.cells #[.int .i64 qk, .int .i64 qn, .string qS, .slice qA ql qc, .slice qB qm qd] 36 (0, 0)) by rw [hW5]; exact heapNew _ _)
  have LW5_4 := Lib.hid (show w5.heap.size < W5.heap.size by rw [hW5, szAl]; exact Nat.lt_succ_self _)
  have HW5 := Lib.hid hW5
  clear hW5 hb
  have HYV := Lib.hid (HyV.out)
  have HTX := Lib.hid (show Calls Try.prog 22 #[.agg #[.int .i64 yk, .int .i64 yn, .string yS, .slice yA yl yc, .slice yB ym yd]] W5 (fun e w' => e = .returned (.tuple #[.string ⟨#[91, 49, 44, 50, 44, 51, 93]⟩, .int .i64 0]) ∧ Below W5.heap.size W5 w') from by
    refine (Em.Text_any yv [.int .i64 yk, .int .i64 yn, .string yS, .slice yA yl yc, .slice yB ym yd] 0 W5 (by rw [← HyV.out]; exact aw8_len) (by rw [← HyV.out]; exact aw8_su) (by rw [← HyV.out]; exact aw8_szn) (RdA.below Hy.out FW5_y.out (Nat.le_refl _) FW5_y.out.size)).mono ?_
    rintro e w' ⟨h1, h2⟩
    refine ⟨?_, h2⟩
    rw [← HyV.out, aw8_7, aw8_6] at h1
    exact h1)
  have q0 := RW5_0.out
  rw [HW5.out] at q0
  obtain ⟨⟨p0_0, p0_1, p0_2, p0_3, p0_4⟩, -⟩ := row5 q0
  clear q0
  have q1 := RW5_1.out
  rw [HW5.out] at q1
  obtain ⟨⟨p1_0, p1_1, p1_2, p1_3, p1_4⟩, -⟩ := row5 q1
  clear q1
  have q2 := RW5_2.out
  rw [HW5.out] at q2
  obtain ⟨⟨p2_0, p2_1, p2_2, p2_3, p2_4⟩, -⟩ := row5 q2
  clear q2
  have q3 := RW5_3.out
  rw [HW5.out] at q3
  obtain ⟨⟨p3_0, p3_1, p3_2, p3_3, p3_4⟩, -⟩ := row5 q3
  clear q3
  have q4 := RW5_4.out
  rw [HW5.out] at q4
  obtain ⟨⟨p4_0, p4_1, p4_2, p4_3, p4_4⟩, -⟩ := row5 q4
  clear q4
  go_wp2_with fail
  rw [← HW5.out]
  clear p0_0 p0_1 p0_2 p0_3 p0_4 p1_0 p1_1 p1_2 p1_3 p1_4 p2_0 p2_1 p2_2 p2_3 p2_4 p3_0 p3_1 p3_2 p3_3 p3_4 p4_0 p4_1 p4_2 p4_3 p4_4
  refine (HTX.out).mono ?_
  rintro e w6 ⟨rfl, hb⟩
  have Rw6_0 := Lib.hid (show w6.heap[w1.heap.size]? = some (.cells #[.int .i64 vk, .int .i64 vn, .string vS, .slice vA vl vc, .slice vB vm vd] 36 (0, 0)) from (hb.block _ LW5_0.out).trans RW5_0.out)
  have Lw6_0 := Lib.hid (show w1.heap.size < w6.heap.size from Nat.lt_of_lt_of_le LW5_0.out hb.size)
  have Rw6_1 := Lib.hid (show w6.heap[w2.heap.size]? = some (.cells #[.int .i64 xk, .int .i64 1, .string xS, .slice xA xl xc, .slice xB xm xd] 36 (0, 0)) from (hb.block _ LW5_1.out).trans RW5_1.out)
  have Lw6_1 := Lib.hid (show w2.heap.size < w6.heap.size from Nat.lt_of_lt_of_le LW5_1.out hb.size)
  have Rw6_2 := Lib.hid (show w6.heap[w3.heap.size]? = some (.cells #[.int .i64 yk, .int .i64 yn, .string yS, .slice yA yl yc, .slice yB ym yd] 36 (0, 0)) from (hb.block _ LW5_2.out).trans RW5_2.out)
  have Lw6_2 := Lib.hid (show w3.heap.size < w6.heap.size from Nat.lt_of_lt_of_le LW5_2.out hb.size)
  have Rw6_3 := Lib.hid (show w6.heap[w4.heap.size]? = some (.cells #[.int .i64 dk, .int .i64 dn, .string dS, .slice dA dl dc, .slice dB dm dd] 36 (0, 0)) from (hb.block _ LW5_3.out).trans RW5_3.out)
  have Lw6_3 := Lib.hid (show w4.heap.size < w6.heap.size from Nat.lt_of_lt_of_le LW5_3.out hb.size)
  have Rw6_4 := Lib.hid (show w6.heap[w5.heap.size]? = some (.cells #[.int .i64 qk, .int .i64 qn, .string qS, .slice qA ql qc, .slice qB qm qd] 36 (0, 0)) from (hb.block _ LW5_4.out).trans RW5_4.out)
  have Lw6_4 := Lib.hid (show w5.heap.size < w6.heap.size from Nat.lt_of_lt_of_le LW5_4.out hb.size)
  have Fw6_v := Lib.hid (FW5_v.out.trans (hb.mono FW5_v.out.size))
  have Fw6_x := Lib.hid (FW5_x.out.trans (hb.mono FW5_x.out.size))
  have Fw6_y := Lib.hid (FW5_y.out.trans (hb.mono FW5_y.out.size))
  have Fw6_d := Lib.hid (FW5_d.out.trans (hb.mono FW5_d.out.size))
  have Fw6_q := Lib.hid (FW5_q.out.trans (hb.mono FW5_q.out.size))
  have HBw6 := Lib.hid (HBW5.out.trans (hb.mono HBW5.out.size))
  clear hb
  obtain ⟨⟨p0_0, p0_1, p0_2, p0_3, p0_4⟩, -⟩ := row5 Rw6_0.out
  obtain ⟨⟨p1_0, p1_1, p1_2, p1_3, p1_4⟩, -⟩ := row5 Rw6_1.out
  obtain ⟨⟨p2_0, p2_1, p2_2, p2_3, p2_4⟩, -⟩ := row5 Rw6_2.out
  obtain ⟨⟨p3_0, p3_1, p3_2, p3_3, p3_4⟩, -⟩ := row5 Rw6_3.out
  obtain ⟨⟨p4_0, p4_1, p4_2, p4_3, p4_4⟩, -⟩ := row5 Rw6_4.out
  have HPT := Lib.hid (fun (W : World) (v : Value) (h : Rd W W.heap.size v (strC [[120, 47, 121]])) => show Calls Try.prog 12 #[v] W (Gives (.string ⟨#[47, 120, 126, 49, 121]⟩) W) from by
    have := Text_any v [[120, 47, 121]] W h (by decide)
    rw [aw8_8] at this
    exact this)
  go_wp2_with fail
  clear p0_0 p0_1 p0_2 p0_3 p0_4 p1_0 p1_1 p1_2 p1_3 p1_4 p2_0 p2_1 p2_2 p2_3 p2_4 p3_0 p3_1 p3_2 p3_3 p3_4 p4_0 p4_1 p4_2 p4_3 p4_4
  refine (HPT.out _ _ ⟨_, 1, rfl, fun _ => ⟨⟨w6.heap.size, 0, none⟩, rfl, by simp, fun j u hu => cells_new w6 _ _ j u hu⟩⟩).mono ?_
  rintro e w7 ⟨rfl, hb⟩
  have HB7 := Lib.hid (HBw6.out.trans (((Below.refl w6.heap.size w6).alloc (Nat.le_refl _) _).trans (hb.mono (by simp)) |>.mono HBw6.out.size))
  clear hb
  go_wp2_with fail
  go_ret
  exact ⟨rfl, HB7.out⟩
end Go.Proofs.Ytmfpaoincgfjmaa.Po
set_option linter.unusedSimpArgs false
namespace Go.Proofs.Ytmfpaoincgfjmaa.Po
open Go.Proofs Go.RowKit
open Go.Proofs.Ytmfpaoincgfjmaa.Utf
open Go.Proofs.Ytmfpaoincgfjmaa.Sc
open Go.Proofs.Ytmfpaoincgfjmaa.Re
open Go.Proofs.Ytmfpaoincgfjmaa.Tr
open Go.Proofs.Ytmfpaoincgfjmaa.Em

theorem _root_.Go.Proofs.Ytmfpaoincgfjmaa.Re.RdA.wide {w : World} {lo hi : Nat} {v : V} {cs : List Value} (h : RdA w lo hi v cs) : RdA w 0 hi v cs := RdA.keep (fun _ _ _ => rfl) (Nat.zero_le _) (Nat.le_refl _) _ _ h
theorem same_self (v : V) (ca cb : List Value) (w : World) (hz : szA 4611686018427387904 v) (ha : RdA w 0 w.heap.size v ca) (hb : RdA w 0 w.heap.size v cb) :
    Calls Try.prog 21 #[.agg ca.toArray, .agg cb.toArray] w fun e w' => e = .returned (.bool true) ∧ Below w.heap.size w w' := by
  refine (SameA_any (ht v) v v ca cb w (Nat.le_refl _) hz ha hb).mono ?_
  rintro e w' ⟨⟨b, rfl, h⟩, hb⟩
  obtain rfl : b = true := h.2 rfl
  exact ⟨rfl, hb⟩
end Go.Proofs.Ytmfpaoincgfjmaa.Po
namespace Go.Proofs.Ytmfpaoincgfjmaa.Po
open Go.Proofs Go.RowKit
open Go.Proofs.Ytmfpaoincgfjmaa.Utf
open Go.Proofs.Ytmfpaoincgfjmaa.Sc
open Go.Proofs.Ytmfpaoincgfjmaa.Re
open Go.Proofs.Ytmfpaoincgfjmaa.Tr
open Go.Proofs.Ytmfpaoincgfjmaa.Nu

theorem own_low {w : World} {base E size n : Nat} {v : Value} {xs : List Value} (h : w.ownsRow base E size v n xs) (p : Addr) (hp : p.block < base) (u : Value) : (w.setCell p u).ownsRow base E size v n xs := by
  obtain ⟨hl, h⟩ := h
  refine ⟨hl, ?_⟩
  rcases h with h | ⟨g, cap, cur, rfl, h1, h2, h3⟩
  · exact .inl h
  · exact .inr ⟨g, cap, cur, rfl, h1, by rw [heap_setCell_other w p g u (by omega)]; exact h2, h3⟩
structure NxI (w : World) (B : Nat) (s : Value) (nx : List V) (rows : List (List Value)) : Prop where
  len : rows.length = nx.length
  five : ∀ r ∈ rows, r.length = 5
  row : ∀ k (h1 : k < nx.length) (h2 : k < rows.length), ∃ lo hi, B ≤ lo ∧ hi ≤ w.heap.size ∧ (∀ g, s.ownBlock = some g → g < lo ∨ hi ≤ g) ∧ RdA w lo hi nx[k] rows[k]
  own : w.ownsRow B 36 5 s nx.length rows.flatten
theorem NxI.nil (w : World) (B : Nat) : NxI w B (.slice none 0 0) [] [] :=
  ⟨rfl, (fun r h => by cases h), (fun k h => by simp at h), World.ownsRow_nil _ _ _ _⟩
theorem NxI.keep {w w' : World} {B : Nat} {s : Value} {nx : List V} {rows : List (List Value)} (h : NxI w B s nx rows) (hb : Below w.heap.size w w') : NxI w' B s nx rows :=
  ⟨h.len, h.five, (fun k h1 h2 => by
    obtain ⟨lo, hi, a, b, c, d⟩ := h.row k h1 h2
    exact ⟨lo, hi, a, Nat.le_trans b hb.size, c, RdA.keep (fun p _ hp => hb.cell (p := p) (Nat.lt_of_lt_of_le hp b)) (Nat.le_refl _) (Nat.le_refl _) _ _ d⟩), own_below h.own hb⟩
theorem NxI.set {w : World} {B : Nat} {s : Value} {nx : List V} {rows : List (List Value)} (h : NxI w B s nx rows) (p : Addr) (hp : p.block < B) (u : Value) : NxI (w.setCell p u) B s nx rows :=
  ⟨h.len, h.five, (fun k h1 h2 => by
    obtain ⟨lo, hi, a, b, c, d⟩ := h.row k h1 h2
    refine ⟨lo, hi, a, by simpa using b, c, RdA.keep (fun q hq _ => World.cell?_setCell_other w p q u (fun e => by rw [e] at hp; omega)) (Nat.le_refl _) (Nat.le_refl _) _ _ d⟩), own_low h.own p hp u⟩
theorem NxI.app {w w2 w' : World} {B lo hi : Nat} {s s' : Value} {nx ls : List V} {rows rows2 : List (List Value)} (h : NxI w B s nx rows) (hb : Below w.heap.size w w2) (hl : rows2.length = ls.length) (h5 : ∀ r ∈ rows2, r.length = 5) (hlo : w.heap.size ≤ lo) (hhi : hi ≤ w2.heap.size)
    (hr : ∀ k (h1 : k < ls.length) (h2 : k < rows2.length), RdA w2 lo hi ls[k] rows2[k]) (hB : B ≤ w.heap.size) (ho : w'.ownsRow B 36 5 s' (nx.length + ls.length) (rows.flatten ++ rows2.flatten)) (hg : w2.grownBy w' s.ownBlock) (hat : ∀ g, s'.ownBlock = some g → s.ownBlock = some g ∨ w2.heap.size ≤ g) : NxI w' B s' (nx ++ ls) (rows ++ rows2) where
  len := by simp [h.len, hl]
  five := fun r hr => by
    rcases List.mem_append.1 hr with k | k
    · exact h.five r k
    · exact h5 r k
  row := fun k h1 h2 => by
    have hsz := hg.size
    have hs1 := hb.size
    by_cases hk : k < nx.length
    · rw [List.getElem_append_left hk, List.getElem_append_left (by rw [h.len]; exact hk)]
      obtain ⟨l1, l2, a, b, c, d⟩ := (h.keep hb).row k hk (by rw [h.len]; exact hk)
      refine ⟨l1, l2, a, by omega, fun g hgg => ?_, RdA.keep (fun p hp1 hp2 => World.cell?_of_block (hg.block p.block (by omega) (fun e => by rcases c _ e.symm with q | q <;> omega))) (Nat.le_refl _) (Nat.le_refl _) _ _ d⟩
      rcases hat g hgg with q | q
      · exact c g q
      · exact .inr (by omega)
    · have e := h.len
      have hb2 : k - nx.length < ls.length := by simp at h1; omega
      rw [List.getElem_append_right (by omega), List.getElem_append_right (by omega)]
      have := hr (k - nx.length) hb2 (by omega)
      refine ⟨lo, hi, by omega, by omega, fun g hgg => ?_, ?_⟩
      · rcases hat g hgg with q | q
        · have := (h.own.lt g q).2; exact .inl (by omega)
        · exact .inr (by omega)
      · have hk2 : RdA w2 lo hi ls[k - nx.length] (rows2[k - rows.length]'(by simp at h2; omega)) := by simpa only [e] using this
        exact RdA.keep (fun p hp1 hp2 => World.cell?_of_block (hg.block p.block (by omega) (fun e2 => by have := (h.own.lt _ e2.symm).2; omega))) (Nat.le_refl _) (Nat.le_refl _) _ _ hk2
  own := by rw [List.length_append, List.flatten_append]; exact ho
theorem NxI.rd {w : World} {B : Nat} {A : Option Addr} {c : Nat} {nx : List V} {rows : List (List Value)} (h : NxI w B (.slice A nx.length c) nx rows) : RdA w 0 w.heap.size (lsV nx) [.int .i64 5, .int .i64 0, .string ⟨#[]⟩, .slice A nx.length c, .slice none 0 0] := by
  rw [lsV, RdA]
  refine ⟨A, c, none, 0, rfl, rfl, fun h0 => ?_, fun h0 => by simp at h0⟩
  obtain ⟨gg, e, g1, g2, hc⟩ := own_at h.own h0
  refine ⟨gg, 0, e, Nat.zero_le _, g2, RdAL_of nx 0 fun k hk => ?_⟩
  have hkr : k < rows.length := by rw [h.len]; exact hk
  have := hc.sub h.five k hkr
  obtain ⟨lo, hi, a, b, -, d⟩ := h.row k hk hkr
  exact ⟨rows[k], fun j u hu => (this j u hu).1, RdA.keep (fun _ _ _ => rfl) (Nat.zero_le _) b _ _ d⟩
theorem NxI.slice {w : World} {B : Nat} {s : Value} {nx : List V} {rows : List (List Value)} (h : NxI w B s nx rows) : ∃ A c, s = .slice A nx.length c := by
  rcases h.own.2 with ⟨e, e0⟩ | ⟨g, cap, cur, e, _⟩
  · exact ⟨none, 0, by rw [e, e0]⟩
  · exact ⟨_, cap, e⟩
theorem sub_rowsI {w : World} {lo hi : Nat} {A : Option Addr} {ls : List V} (h : 0 < ls.length → ∃ g o, A = some ⟨g, o, none⟩ ∧ lo ≤ g ∧ g < hi ∧ RdAL w lo hi g o ls) :
    ∃ rows : List (List Value), rows.length = ls.length ∧ (∀ r ∈ rows, r.length = 5) ∧ (∀ u ∈ rows.flatten, u.oneCell' = true) ∧ (∀ ad, A = some ad → ∀ j u, rows.flatten[j]? = some u → w.cell? (ad.add j) = some u) ∧ (A = none → ls.length = 0) ∧
      ∀ k (h1 : k < ls.length) (h2 : k < rows.length), RdA w lo hi ls[k] rows[k] := by
  by_cases h0 : 0 < ls.length
  · obtain ⟨g, o, rfl, _, hg, hr⟩ := h h0
    obtain ⟨rows, r1, r2, r3, r4⟩ := rowsL hr
    refine ⟨rows, r1, r2.1, rows_one (s := 5) r3, fun ad e j u hu => ?_, (fun e => by cases e), r4⟩
    injection e with e
    subst e
    rw [Addr.add_lit]
    exact rows_flat (by decide) r2 j u hu
  · have e : ls = [] := List.eq_nil_of_length_eq_zero (by omega)
    subst e
    exact ⟨[], rfl, (fun r h => by cases h), (fun u h => by simp at h), (fun ad _ j u hu => by simp at hu), (fun _ => rfl), (fun k h => by simp at h)⟩
theorem wpList_append_lay {P : Program} {w : World} {ops : Array Oper} {rest : List Oper} {o : Oper} {a : Act} {Q : Exit → Act → World → Prop} (hgd : o.guard = none) (s x : Operand) (t : TypeId)
    (ho : o.op = .call { callee := .builtin .append, args := #[s, x], argTypes := #[t, t] }) (base : Nat) (e : TypeId) (i : TypeInfo) (z : Value) (size bytes : Nat) (ht : P.underlying t = some (.slice e)) (hi : P.info? e = some i) (hz : i.zero = some z)
    (hsize : i.size = size) (hby : i.bytes = bytes) (hzs : z.cells.size = size) (hsz : 0 < size) (v : Value) (n : Nat) (xs : List Value) (hs : a.eval s = v) (hown : w.ownsRow base e size v n xs)
    (A : Option Addr) (m c : Nat) (news : List Value) (hx : a.eval x = .slice A m c) (hl : news.length = m * size) (hA : A = none → m = 0) (hnews : ∀ ad, A = some ad → ∀ j u, news[j]? = some u → w.cell? (ad.add j) = some u) (h1 : ∀ u ∈ news, u.oneCell' = true)
    (h63 : n + m ≤ maxLen) (hbytes : (n + m) * bytes ≤ 140737488355328) (hbase : base ≤ w.heap.size)
    (h : ∀ v' w', w'.ownsRow base e size v' (n + m) (xs ++ news) → w.grownBy w' v.ownBlock → (∀ g, v'.ownBlock = some g → v.ownBlock = some g ∨ w.heap.size ≤ g) → wpList P ops Q rest (a.put o.dst v') w') : wpList P ops Q (o :: rest) a w := by
  by_cases hm : 0 < m
  · cases A with
    | none => exact absurd (hA rfl) (by omega)
    | some ad => exact wpList_append_lies w hgd s x t ho base e i z size bytes ht hi hz hsize hby hzs hsz v n xs hs hown ad m c news hx hl (hnews ad rfl) h1 hm h63 hbytes hbase w.heap.size rfl fun g cap w' q1 q2 q3 q4 => h _ w' q1 q2 (fun k hk => by
        have e0 : g = k := by simpa [Value.ownBlock] using hk
        subst e0
        rcases q3 with q | q
        · exact .inl q
        · exact .inr (by omega))
  · obtain rfl : m = 0 := by omega
    have hn : news = [] := List.eq_nil_of_length_eq_zero (by omega)
    subst hn
    refine wpList_plain hgd fun K hK => ?_
    have hrun : (Builtin.append_ #[t, t] o.type #[v, .slice A 0 c]).run P w = .ok v w := by
      cases A with
      | none =>
        rcases hown.2 with ⟨rfl, rfl⟩ | ⟨g, cap, cur, rfl, _, _, hnc, _⟩
        · simp [Builtin.append_, run_underlying ht, sizeOf, typeInfo, hi, Builtin.lenOf, Builtin.firstCells]
        · simp [Builtin.append_, run_underlying ht, sizeOf, typeInfo, hi, Builtin.lenOf, Builtin.firstCells, hnc, storeCells]
      | some ad =>
        rcases hown.2 with ⟨rfl, rfl⟩ | ⟨g, cap, cur, rfl, _, _, hnc, _⟩
        · simp [Builtin.append_, run_underlying ht, sizeOf, typeInfo, hi, Builtin.lenOf, Builtin.firstCells, loadCells, loadCellsFrom, Result.andThen]
        · simp [Builtin.append_, run_underlying ht, sizeOf, typeInfo, hi, Builtin.lenOf, Builtin.firstCells, loadCells, loadCellsFrom, Result.andThen, hnc, storeCells]
    unfold Oper.wp
    simp [execOp, ho, resolve, invoke, builtin, hs, hx, hrun, Result.andThen]
    exact hK _ _ (h v w (by simpa using hown) (World.grownBy.refl w _) (fun g hg => .inl hg))
end Go.Proofs.Ytmfpaoincgfjmaa.Po
