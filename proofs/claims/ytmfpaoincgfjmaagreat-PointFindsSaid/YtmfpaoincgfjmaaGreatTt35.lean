/- Merged: PoAw PoW6 PoLs PoRl. -/
import Derived.Test.YtmfpaoincgfjmaaGreatTt34
import Derived.Test.YtmfpaoincgfjmaaGreatTt19
import Derived.Test.YtmfpaoincgfjmaaGreatTt23
import Derived.Test.YtmfpaoincgfjmaaGreatTt24
import Derived.Test.YtmfpaoincgfjmaaGreatTt16
import Derived.Test.YtmfpaoincgfjmaaGreatTt15
import Derived.Test.YtmfpaoincgfjmaaGreatTt21
import Derived.Test.YtmfpaoincgfjmaaGreatTt27
import Derived.Test.YtmfpaoincgfjmaaGreatTt6
import Derived.Test.YtmfpaoincgfjmaaGreatTt5
set_option linter.unusedSimpArgs false
namespace Go.Proofs.YtmfpaoincgfjmaaGreat.Po
open Go.Proofs Go.RowKit
open Go.Proofs.YtmfpaoincgfjmaaGreat.Utf
open Go.Proofs.YtmfpaoincgfjmaaGreat.Sc
open Go.Proofs.YtmfpaoincgfjmaaGreat.Re
open Go.Proofs.YtmfpaoincgfjmaaGreat.Tr
open Go.Proofs.YtmfpaoincgfjmaaGreat.Nu

theorem _root_.Go.Proofs.YtmfpaoincgfjmaaGreat.Re.RdA.more {w : World} {lo hi hi' : Nat} {v : V} {cs : List Value} (h : RdA w lo hi v cs) (hh : hi ≤ hi') : RdA w lo hi' v cs := RdA.keep (fun _ _ _ => rfl) (Nat.le_refl _) hh _ _ h

set_option maxRecDepth 100000 in
set_option maxHeartbeats 1000000 in
theorem awake_any8 (w : World) : Calls Tryz.prog 4 #[] w (Gives (.bool true) w) := by
  have HBw := Lib.hid (Below.refl w.heap.size w)
  go_enter Tryz.func4, Tryz.ntmps4
  go_wp2_with fail
  refine (Value_any2 ⟨#[123, 34, 97, 34, 58, 91, 123, 34, 98, 34, 58, 49, 125, 44, 123, 34, 98, 34, 58, 91, 50, 44, 51, 93, 125, 93, 125]⟩ _ (by decide) aw8_1).mono ?_
  rintro e w1 ⟨vA, vc, vB, vd, rfl, hv, hb⟩
  have HBw1 := Lib.hid (HBw.out.trans (hb.mono HBw.out.size))
  have HV := Lib.hid (RdA.of_RdV _ _ hv)
  clear hv
  clear hb
  have Fw1_v := Lib.hid (Below.refl w1.heap.size w1)
  obtain ⟨v, hvv⟩ : ∃ v, docV = v := ⟨_, rfl⟩
  have HVV := Lib.hid hvv
  rw [hvv] at HV ⊢
  clear hvv
  generalize v.k = vk at *
  generalize v.n = vn at *
  generalize strOf v.s = vS at *
  generalize v.l.length = vl at *
  generalize v.ms.length = vm at *
  have HFI := Lib.hid (fun (W : World) (p : List UInt8) (r : V × Int) (hr : leadsV leadV p docV = r) (hp : p.length ≤ 4398046511104) (hb : Below w1.heap.size w1 W) => show Calls Tryz.prog 6 #[.agg #[.int .i64 vk, .int .i64 vn, .string vS, .slice vA vl vc, .slice vB vm vd], .string ⟨p.toArray⟩] W (GivesVE r W) from by
    rw [← hr, HVV.out]
    exact Find_any v _ p W ((RdA.keep (lo' := 0) (hi' := w1.heap.size) (fun q _ hq => hb.cell (p := q) hq) (Nat.zero_le _) (Nat.le_refl _) _ _ HV.out).more hb.size) (by rw [← HVV.out]; exact aw8_sz) hp)
  have HEA := Lib.hid (fun (W : World) (p : List UInt8) (r : V × Int) (hr : leadsV eachV p docV = r) (hp : p.length ≤ 4398046511104) (hb : Below w1.heap.size w1 W) => show Calls Tryz.prog 8 #[.agg #[.int .i64 vk, .int .i64 vn, .string vS, .slice vA vl vc, .slice vB vm vd], .string ⟨p.toArray⟩] W (GivesVE r W) from by
    rw [← hr, HVV.out]
    exact Each_any v _ p W ((RdA.keep (lo' := 0) (hi' := w1.heap.size) (fun q _ hq => hb.cell (p := q) hq) (Nat.zero_le _) (Nat.le_refl _) _ _ HV.out).more hb.size) (by rw [← HVV.out]; exact aw8_sz) hp (by rw [← HVV.out]; exact aw8_cnt))
  obtain ⟨W1, hW1⟩ : ∃ W1, W1 = w1.alloc (.cells #[.int .i64 vk, .int .i64 vn, .string vS, .slice vA vl vc, .slice vB vm vd] 25) := ⟨_, rfl⟩
  have hb : Below w1.heap.size w1 W1 := by rw [hW1]; exact (Below.refl _ _).alloc (Nat.le_refl _) _
  have FW1_v := Lib.hid (Fw1_v.out.trans (hb.mono Fw1_v.out.size))
  have HBW1 := Lib.hid (HBw1.out.trans (hb.mono HBw1.out.size))
  have RW1_0 := Lib.hid (show W1.heap[w1.heap.size]? = some (.cells #[.int .i64 vk, .int .i64 vn, .string vS, .slice vA vl vc, .slice vB vm vd] 25 (0, 0)) by rw [hW1]; exact heapNew _ _)
  have LW1_0 := Lib.hid (show w1.heap.size < W1.heap.size by rw [hW1, szAl]; exact Nat.lt_succ_self _)
  have HW1 := Lib.hid hW1
  clear hW1 hb
  have q0 := RW1_0.out
  rw [HW1.out] at q0
  obtain ⟨⟨p0_0, p0_1, p0_2, p0_3, p0_4⟩, -⟩ := row5 q0
  clear q0
  go_wp2_with fail
  rw [← HW1.out]
  clear p0_0 p0_1 p0_2 p0_3 p0_4
  refine (HFI.out _ [47, 97, 47, 48, 47, 98] (nmV 1, 0) aw8_2 (by decide) FW1_v.out).mono ?_
  rintro e w2 ⟨⟨xs, rfl, hx⟩, hb⟩
  have Rw2_0 := Lib.hid (show w2.heap[w1.heap.size]? = some (.cells #[.int .i64 vk, .int .i64 vn, .string vS, .slice vA vl vc, .slice vB vm vd] 25 (0, 0)) from (hb.block _ LW1_0.out).trans RW1_0.out)
  have Lw2_0 := Lib.hid (show w1.heap.size < w2.heap.size from Nat.lt_of_lt_of_le LW1_0.out hb.size)
  have Fw2_v := Lib.hid (FW1_v.out.trans (hb.mono FW1_v.out.size))
  have HBw2 := Lib.hid (HBW1.out.trans (hb.mono HBW1.out.size))
  have Hx := Lib.hid (RdA.keep (lo' := 0) (hi' := w2.heap.size) (fun _ _ _ => rfl) (Nat.zero_le _) (Nat.le_refl _) _ _ hx)
  obtain ⟨xA, xc, xB, xd, ex, -⟩ := hx.cells
  subst ex
  clear hx
  obtain ⟨xv, hxv⟩ : ∃ xv, (nmV 1 : V) = xv := ⟨_, rfl⟩
  have HxV := Lib.hid hxv
  simp only at Hx ⊢
  rw [hxv] at Hx ⊢
  clear hxv
  generalize xv.k = xk at *
  obtain ⟨xn, hxn⟩ : ∃ x, xv.n = x := ⟨_, rfl⟩
  have HxN := Lib.hid hxn
  rw [hxn] at Hx ⊢
  clear hxn
  generalize strOf xv.s = xS at *
  generalize xv.l.length = xl at *
  generalize xv.ms.length = xm at *
  clear hb
  have Fw2_x := Lib.hid (Below.refl w2.heap.size w2)
  obtain ⟨W2, hW2⟩ : ∃ W2, W2 = w2.alloc (.cells #[.int .i64 xk, .int .i64 xn, .string xS, .slice xA xl xc, .slice xB xm xd] 25) := ⟨_, rfl⟩
  have hb : Below w2.heap.size w2 W2 := by rw [hW2]; exact (Below.refl _ _).alloc (Nat.le_refl _) _
  have RW2_0 := Lib.hid (show W2.heap[w1.heap.size]? = some (.cells #[.int .i64 vk, .int .i64 vn, .string vS, .slice vA vl vc, .slice vB vm vd] 25 (0, 0)) from (hb.block _ Lw2_0.out).trans Rw2_0.out)
  have LW2_0 := Lib.hid (show w1.heap.size < W2.heap.size from Nat.lt_of_lt_of_le Lw2_0.out hb.size)
  have FW2_v := Lib.hid (Fw2_v.out.trans (hb.mono Fw2_v.out.size))
  have FW2_x := Lib.hid (Fw2_x.out.trans (hb.mono Fw2_x.out.size))
  have HBW2 := Lib.hid (HBw2.out.trans (hb.mono HBw2.out.size))
  have RW2_1 := Lib.hid (show W2.heap[w2.heap.size]? = some (.cells #[.int .i64 xk, .int .i64 xn, .string xS, .slice xA xl xc, .slice xB xm xd] 25 (0, 0)) by rw [hW2]; exact heapNew _ _)
  have LW2_1 := Lib.hid (show w2.heap.size < W2.heap.size by rw [hW2, szAl]; exact Nat.lt_succ_self _)
  have HW2 := Lib.hid hW2
  clear hW2 hb
  obtain rfl : xn = 1 := by have h := HxN.out; rw [← HxV.out] at h; exact h.symm
  have q0 := RW2_0.out
  rw [HW2.out] at q0
  obtain ⟨⟨p0_0, p0_1, p0_2, p0_3, p0_4⟩, -⟩ := row5 q0
  clear q0
  have q1 := RW2_1.out
  rw [HW2.out] at q1
  obtain ⟨⟨p1_0, p1_1, p1_2, p1_3, p1_4⟩, -⟩ := row5 q1
  clear q1
  go_wp2_with fail
  rw [← HW2.out]
  clear p0_0 p0_1 p0_2 p0_3 p0_4 p1_0 p1_1 p1_2 p1_3 p1_4
  refine (HEA.out _ [47, 97, 47, 42, 47, 98] (numsV, 0) aw8_3 (by decide) FW2_v.out).mono ?_
  rintro e w3 ⟨⟨ys, rfl, hy⟩, hb⟩
  have Rw3_0 := Lib.hid (show w3.heap[w1.heap.size]? = some (.cells #[.int .i64 vk, .int .i64 vn, .string vS, .slice vA vl vc, .slice vB vm vd] 25 (0, 0)) from (hb.block _ LW2_0.out).trans RW2_0.out)
  have Lw3_0 := Lib.hid (show w1.heap.size < w3.heap.size from Nat.lt_of_lt_of_le LW2_0.out hb.size)
  have Rw3_1 := Lib.hid (show w3.heap[w2.heap.size]? = some (.cells #[.int .i64 xk, .int .i64 1, .string xS, .slice xA xl xc, .slice xB xm xd] 25 (0, 0)) from (hb.block _ LW2_1.out).trans RW2_1.out)
  have Lw3_1 := Lib.hid (show w2.heap.size < w3.heap.size from Nat.lt_of_lt_of_le LW2_1.out hb.size)
  have Fw3_v := Lib.hid (FW2_v.out.trans (hb.mono FW2_v.out.size))
  have Fw3_x := Lib.hid (FW2_x.out.trans (hb.mono FW2_x.out.size))
  have HBw3 := Lib.hid (HBW2.out.trans (hb.mono HBW2.out.size))
  have Hy := Lib.hid (RdA.keep (lo' := 0) (hi' := w3.heap.size) (fun _ _ _ => rfl) (Nat.zero_le _) (Nat.le_refl _) _ _ hy)
  obtain ⟨yA, yc, yB, yd, ey, -⟩ := hy.cells
  subst ey
  clear hy
  obtain ⟨yv, hyv⟩ : ∃ yv, (numsV : V) = yv := ⟨_, rfl⟩
  have HyV := Lib.hid hyv
  simp only at Hy ⊢
  rw [hyv] at Hy ⊢
  clear hyv
  generalize yv.k = yk at *
  obtain ⟨yn, hyn⟩ : ∃ x, yv.n = x := ⟨_, rfl⟩
  have HyN := Lib.hid hyn
  rw [hyn] at Hy ⊢
  clear hyn
  generalize strOf yv.s = yS at *
  generalize yv.l.length = yl at *
  generalize yv.ms.length = ym at *
  clear hb
  have Fw3_y := Lib.hid (Below.refl w3.heap.size w3)
  obtain ⟨W3, hW3⟩ : ∃ W3, W3 = w3.alloc (.cells #[.int .i64 yk, .int .i64 yn, .string yS, .slice yA yl yc, .slice yB ym yd] 25) := ⟨_, rfl⟩
  have hb : Below w3.heap.size w3 W3 := by rw [hW3]; exact (Below.refl _ _).alloc (Nat.le_refl _) _
  have RW3_0 := Lib.hid (show W3.heap[w1.heap.size]? = some (.cells #[.int .i64 vk, .int .i64 vn, .string vS, .slice vA vl vc, .slice vB vm vd] 25 (0, 0)) from (hb.block _ Lw3_0.out).trans Rw3_0.out)
  have LW3_0 := Lib.hid (show w1.heap.size < W3.heap.size from Nat.lt_of_lt_of_le Lw3_0.out hb.size)
  have RW3_1 := Lib.hid (show W3.heap[w2.heap.size]? = some (.cells #[.int .i64 xk, .int .i64 1, .string xS, .slice xA xl xc, .slice xB xm xd] 25 (0, 0)) from (hb.block _ Lw3_1.out).trans Rw3_1.out)
  have LW3_1 := Lib.hid (show w2.heap.size < W3.heap.size from Nat.lt_of_lt_of_le Lw3_1.out hb.size)
  have FW3_v := Lib.hid (Fw3_v.out.trans (hb.mono Fw3_v.out.size))
  have FW3_x := Lib.hid (Fw3_x.out.trans (hb.mono Fw3_x.out.size))
  have FW3_y := Lib.hid (Fw3_y.out.trans (hb.mono Fw3_y.out.size))
  have HBW3 := Lib.hid (HBw3.out.trans (hb.mono HBw3.out.size))
  have RW3_2 := Lib.hid (show W3.heap[w3.heap.size]? = some (.cells #[.int .i64 yk, .int .i64 yn, .string yS, .slice yA yl yc, .slice yB ym yd] 25 (0, 0)) by rw [hW3]; exact heapNew _ _)
  have LW3_2 := Lib.hid (show w3.heap.size < W3.heap.size by rw [hW3, szAl]; exact Nat.lt_succ_self _)
  have HW3 := Lib.hid hW3
  clear hW3 hb
  have q0 := RW3_0.out
  rw [HW3.out] at q0
  obtain ⟨⟨p0_0, p0_1, p0_2, p0_3, p0_4⟩, -⟩ := row5 q0
  clear q0
  have q1 := RW3_1.out
  rw [HW3.out] at q1
  obtain ⟨⟨p1_0, p1_1, p1_2, p1_3, p1_4⟩, -⟩ := row5 q1
  clear q1
  have q2 := RW3_2.out
  rw [HW3.out] at q2
  obtain ⟨⟨p2_0, p2_1, p2_2, p2_3, p2_4⟩, -⟩ := row5 q2
  clear q2
  go_wp2_with fail
  rw [← HW3.out]
  clear p0_0 p0_1 p0_2 p0_3 p0_4 p1_0 p1_1 p1_2 p1_3 p1_4 p2_0 p2_1 p2_2 p2_3 p2_4
  refine (HFI.out _ [47, 97, 47, 50] (V0, 81) aw8_4 (by decide) FW3_v.out).mono ?_
  rintro e w4 ⟨⟨ds, rfl, hd⟩, hb⟩
  have Rw4_0 := Lib.hid (show w4.heap[w1.heap.size]? = some (.cells #[.int .i64 vk, .int .i64 vn, .string vS, .slice vA vl vc, .slice vB vm vd] 25 (0, 0)) from (hb.block _ LW3_0.out).trans RW3_0.out)
  have Lw4_0 := Lib.hid (show w1.heap.size < w4.heap.size from Nat.lt_of_lt_of_le LW3_0.out hb.size)
  have Rw4_1 := Lib.hid (show w4.heap[w2.heap.size]? = some (.cells #[.int .i64 xk, .int .i64 1, .string xS, .slice xA xl xc, .slice xB xm xd] 25 (0, 0)) from (hb.block _ LW3_1.out).trans RW3_1.out)
  have Lw4_1 := Lib.hid (show w2.heap.size < w4.heap.size from Nat.lt_of_lt_of_le LW3_1.out hb.size)
  have Rw4_2 := Lib.hid (show w4.heap[w3.heap.size]? = some (.cells #[.int .i64 yk, .int .i64 yn, .string yS, .slice yA yl yc, .slice yB ym yd] 25 (0, 0)) from (hb.block _ LW3_2.out).trans RW3_2.out)
  have Lw4_2 := Lib.hid (show w3.heap.size < w4.heap.size from Nat.lt_of_lt_of_le LW3_2.out hb.size)
  have Fw4_v := Lib.hid (FW3_v.out.trans (hb.mono FW3_v.out.size))
  have Fw4_x := Lib.hid (FW3_x.out.trans (hb.mono FW3_x.out.size))
  have Fw4_y := Lib.hid (FW3_y.out.trans (hb.mono FW3_y.out.size))
  have HBw4 := Lib.hid (HBW3.out.trans (hb.mono HBW3.out.size))
  have Hd := Lib.hid (RdA.keep (lo' := 0) (hi' := w4.heap.size) (fun _ _ _ => rfl) (Nat.zero_le _) (Nat.le_refl _) _ _ hd)
  obtain ⟨dA, dc, dB, dd, ed, -⟩ := hd.cells
  subst ed
  clear hd
  obtain ⟨dv, hdv⟩ : ∃ dv, (V0 : V) = dv := ⟨_, rfl⟩
  have HdV := Lib.hid hdv
  simp only at Hd ⊢
  rw [hdv] at Hd ⊢
  clear hdv
  generalize dv.k = dk at *
  obtain ⟨dn, hdn⟩ : ∃ x, dv.n = x := ⟨_, rfl⟩
  have HdN := Lib.hid hdn
  rw [hdn] at Hd ⊢
  clear hdn
  generalize strOf dv.s = dS at *
  generalize dv.l.length = dl at *
  generalize dv.ms.length = dm at *
  clear hb
  have Fw4_d := Lib.hid (Below.refl w4.heap.size w4)
  obtain ⟨W4, hW4⟩ : ∃ W4, W4 = w4.alloc (.cells #[.int .i64 dk, .int .i64 dn, .string dS, .slice dA dl dc, .slice dB dm dd] 25) := ⟨_, rfl⟩
  have hb : Below w4.heap.size w4 W4 := by rw [hW4]; exact (Below.refl _ _).alloc (Nat.le_refl _) _
  have RW4_0 := Lib.hid (show W4.heap[w1.heap.size]? = some (.cells #[.int .i64 vk, .int .i64 vn, .string vS, .slice vA vl vc, .slice vB vm vd] 25 (0, 0)) from (hb.block _ Lw4_0.out).trans Rw4_0.out)
  have LW4_0 := Lib.hid (show w1.heap.size < W4.heap.size from Nat.lt_of_lt_of_le Lw4_0.out hb.size)
  have RW4_1 := Lib.hid (show W4.heap[w2.heap.size]? = some (.cells #[.int .i64 xk, .int .i64 1, .string xS, .slice xA xl xc, .slice xB xm xd] 25 (0, 0)) from (hb.block _ Lw4_1.out).trans Rw4_1.out)
  have LW4_1 := Lib.hid (show w2.heap.size < W4.heap.size from Nat.lt_of_lt_of_le Lw4_1.out hb.size)
  have RW4_2 := Lib.hid (show W4.heap[w3.heap.size]? = some (.cells #[.int .i64 yk, .int .i64 yn, .string yS, .slice yA yl yc, .slice yB ym yd] 25 (0, 0)) from (hb.block _ Lw4_2.out).trans Rw4_2.out)
  have LW4_2 := Lib.hid (show w3.heap.size < W4.heap.size from Nat.lt_of_lt_of_le Lw4_2.out hb.size)
  have FW4_v := Lib.hid (Fw4_v.out.trans (hb.mono Fw4_v.out.size))
  have FW4_x := Lib.hid (Fw4_x.out.trans (hb.mono Fw4_x.out.size))
  have FW4_y := Lib.hid (Fw4_y.out.trans (hb.mono Fw4_y.out.size))
  have FW4_d := Lib.hid (Fw4_d.out.trans (hb.mono Fw4_d.out.size))
  have HBW4 := Lib.hid (HBw4.out.trans (hb.mono HBw4.out.size))
  have RW4_3 := Lib.hid (show W4.heap[w4.heap.size]? = some (.cells #[.int .i64 dk, .int .i64 dn, .string dS, .slice dA dl dc, .slice dB dm dd] 25 (0, 0)) by rw [hW4]; exact heapNew _ _)
  have LW4_3 := Lib.hid (show w4.heap.size < W4.heap.size by rw [hW4, szAl]; exact Nat.lt_succ_self _)
  have HW4 := Lib.hid hW4
  clear hW4 hb
  have q0 := RW4_0.out
  rw [HW4.out] at q0
  obtain ⟨⟨p0_0, p0_1, p0_2, p0_3, p0_4⟩, -⟩ := row5 q0
  clear q0
  have q1 := RW4_1.out
  rw [HW4.out] at q1
  obtain ⟨⟨p1_0, p1_1, p1_2, p1_3, p1_4⟩, -⟩ := row5 q1
  clear q1
  have q2 := RW4_2.out
  rw [HW4.out] at q2
  obtain ⟨⟨p2_0, p2_1, p2_2, p2_3, p2_4⟩, -⟩ := row5 q2
  clear q2
  have q3 := RW4_3.out
  rw [HW4.out] at q3
  obtain ⟨⟨p3_0, p3_1, p3_2, p3_3, p3_4⟩, -⟩ := row5 q3
  clear q3
  go_wp2_with fail
  rw [← HW4.out]
  clear p0_0 p0_1 p0_2 p0_3 p0_4 p1_0 p1_1 p1_2 p1_3 p1_4 p2_0 p2_1 p2_2 p2_3 p2_4 p3_0 p3_1 p3_2 p3_3 p3_4
  refine (HFI.out _ [97] (V0, 80) aw8_5 (by decide) FW4_v.out).mono ?_
  rintro e w5 ⟨⟨qs, rfl, hq⟩, hb⟩
  have Rw5_0 := Lib.hid (show w5.heap[w1.heap.size]? = some (.cells #[.int .i64 vk, .int .i64 vn, .string vS, .slice vA vl vc, .slice vB vm vd] 25 (0, 0)) from (hb.block _ LW4_0.out).trans RW4_0.out)
  have Lw5_0 := Lib.hid (show w1.heap.size < w5.heap.size from Nat.lt_of_lt_of_le LW4_0.out hb.size)
  have Rw5_1 := Lib.hid (show w5.heap[w2.heap.size]? = some (.cells #[.int .i64 xk, .int .i64 1, .string xS, .slice xA xl xc, .slice xB xm xd] 25 (0, 0)) from (hb.block _ LW4_1.out).trans RW4_1.out)
  have Lw5_1 := Lib.hid (show w2.heap.size < w5.heap.size from Nat.lt_of_lt_of_le LW4_1.out hb.size)
  have Rw5_2 := Lib.hid (show w5.heap[w3.heap.size]? = some (.cells #[.int .i64 yk, .int .i64 yn, .string yS, .slice yA yl yc, .slice yB ym yd] 25 (0, 0)) from (hb.block _ LW4_2.out).trans RW4_2.out)
  have Lw5_2 := Lib.hid (show w3.heap.size < w5.heap.size from Nat.lt_of_lt_of_le LW4_2.out hb.size)
  have Rw5_3 := Lib.hid (show w5.heap[w4.heap.size]? = some (.cells #[.int .i64 dk, .int .i64 dn, .string dS, .slice dA dl dc, .slice dB dm dd] 25 (0, 0)) from (hb.block _ LW4_3.out).trans RW4_3.out)
  have Lw5_3 := Lib.hid (show w4.heap.size < w5.heap.size from Nat.lt_of_lt_of_le LW4_3.out hb.size)
  have Fw5_v := Lib.hid (FW4_v.out.trans (hb.mono FW4_v.out.size))
  have Fw5_x := Lib.hid (FW4_x.out.trans (hb.mono FW4_x.out.size))
  have Fw5_y := Lib.hid (FW4_y.out.trans (hb.mono FW4_y.out.size))
  have Fw5_d := Lib.hid (FW4_d.out.trans (hb.mono FW4_d.out.size))
  have HBw5 := Lib.hid (HBW4.out.trans (hb.mono HBW4.out.size))
  have Hq := Lib.hid (RdA.keep (lo' := 0) (hi' := w5.heap.size) (fun _ _ _ => rfl) (Nat.zero_le _) (Nat.le_refl _) _ _ hq)
  obtain ⟨qA, qc, qB, qd, eq, -⟩ := hq.cells
  subst eq
  clear hq
  obtain ⟨qv, hqv⟩ : ∃ qv, (V0 : V) = qv := ⟨_, rfl⟩
  have HqV := Lib.hid hqv
  simp only at Hq ⊢
  rw [hqv] at Hq ⊢
  clear hqv
  generalize qv.k = qk at *
  obtain ⟨qn, hqn⟩ : ∃ x, qv.n = x := ⟨_, rfl⟩
  have HqN := Lib.hid hqn
  rw [hqn] at Hq ⊢
  clear hqn
  generalize strOf qv.s = qS at *
  generalize qv.l.length = ql at *
  generalize qv.ms.length = qm at *
  clear hb
  have Fw5_q := Lib.hid (Below.refl w5.heap.size w5)
  obtain ⟨W5, hW5⟩ : ∃ W5, W5 = w5.alloc (.cells #[.int .i64 qk, .int .i64 qn, .string qS, .slice qA ql qc, .slice qB qm qd] 25) := ⟨_, rfl⟩
  have hb : Below w5.heap.size w5 W5 := by rw [hW5]; exact (Below.refl _ _).alloc (Nat.le_refl _) _
  have RW5_0 := Lib.hid (show W5.heap[w1.heap.size]? = some (.cells #[.int .i64 vk, .int .i64 vn, .string vS, .slice vA vl vc, .slice vB vm vd] 25 (0, 0)) from (hb.block _ Lw5_0.out).trans Rw5_0.out)
  have LW5_0 := Lib.hid (show w1.heap.size < W5.heap.size from Nat.lt_of_lt_of_le Lw5_0.out hb.size)
  have RW5_1 := Lib.hid (show W5.heap[w2.heap.size]? = some (.cells #[.int .i64 xk, .int .i64 1, .string xS, .slice xA xl xc, .slice xB xm xd] 25 (0, 0)) from (hb.block _ Lw5_1.out).trans Rw5_1.out)
  have LW5_1 := Lib.hid (show w2.heap.size < W5.heap.size from Nat.lt_of_lt_of_le Lw5_1.out hb.size)
  have RW5_2 := Lib.hid (show W5.heap[w3.heap.size]? = some (.cells #[.int .i64 yk, .int .i64 yn, .string yS, .slice yA yl yc, .slice yB ym yd] 25 (0, 0)) from (hb.block _ Lw5_2.out).trans Rw5_2.out)
  have LW5_2 := Lib.hid (show w3.heap.size < W5.heap.size from Nat.lt_of_lt_of_le Lw5_2.out hb.size)
  have RW5_3 := Lib.hid (show W5.heap[w4.heap.size]? = some (.cells #[.int .i64 dk, .int .i64 dn, .string dS, .slice dA dl dc, .slice dB dm dd] 25 (0, 0)) from (hb.block _ Lw5_3.out).trans Rw5_3.out)
  have LW5_3 := Lib.hid (show w4.heap.size < W5.heap.size from Nat.lt_of_lt_of_le Lw5_3.out hb.size)
  have FW5_v := Lib.hid (Fw5_v.out.trans (hb.mono Fw5_v.out.size))
  have FW5_x := Lib.hid (Fw5_x.out.trans (hb.mono Fw5_x.out.size))
  have FW5_y := Lib.hid (Fw5_y.out.trans (hb.mono Fw5_y.out.size))
  have FW5_d := Lib.hid (Fw5_d.out.trans (hb.mono Fw5_d.out.size))
  have FW5_q := Lib.hid (Fw5_q.out.trans (hb.mono Fw5_q.out.size))
  have HBW5 := Lib.hid (HBw5.out.trans (hb.mono HBw5.out.size))
  have RW5_4 := Lib.hid (show W5.heap[w5.heap.size]? = some (.cells #[.int .i64 qk, .int .i64 qn, .string qS, .slice qA ql qc, .slice qB qm qd] 25 (0, 0)) by rw [hW5]; exact heapNew _ _)
  have LW5_4 := Lib.hid (show w5.heap.size < W5.heap.size by rw [hW5, szAl]; exact Nat.lt_succ_self _)
  have HW5 := Lib.hid hW5
  clear hW5 hb
  have HYV := Lib.hid (HyV.out)
  have HTX := Lib.hid (show Calls Tryz.prog 12 #[.agg #[.int .i64 yk, .int .i64 yn, .string yS, .slice yA yl yc, .slice yB ym yd]] W5 (fun e w' => e = .returned (.tuple #[.string ⟨#[91, 49, 44, 50, 44, 51, 93]⟩, .int .i64 0]) ∧ Below W5.heap.size W5 w') from by
    refine (Em.Text_any yv [.int .i64 yk, .int .i64 yn, .string yS, .slice yA yl yc, .slice yB ym yd] 0 W5 (by rw [← HyV.out]; exact aw8_len) (by rw [← HyV.out]; exact aw8_su) (by rw [← HyV.out]; exact aw8_szn) (RdA.below Hy.out FW5_y.out (Nat.le_refl _) FW5_y.out.size)).mono ?_
    rintro e w' ⟨h1, h2⟩
    refine ⟨?_, h2⟩
    rw [← HyV.out, aw8_7, aw8_6] at h1
    exact h1)
  have q0 := RW5_0.out
  rw [HW5.out] at q0
  obtain ⟨⟨p0_0, p0_1, p0_2, p0_3, p0_4⟩, -⟩ := row5 q0
  clear q0
  have q1 := RW5_1.out
  rw [HW5.out] at q1
  obtain ⟨⟨p1_0, p1_1, p1_2, p1_3, p1_4⟩, -⟩ := row5 q1
  clear q1
  have q2 := RW5_2.out
  rw [HW5.out] at q2
  obtain ⟨⟨p2_0, p2_1, p2_2, p2_3, p2_4⟩, -⟩ := row5 q2
  clear q2
  have q3 := RW5_3.out
  rw [HW5.out] at q3
  obtain ⟨⟨p3_0, p3_1, p3_2, p3_3, p3_4⟩, -⟩ := row5 q3
  clear q3
  have q4 := RW5_4.out
  rw [HW5.out] at q4
  obtain ⟨⟨p4_0, p4_1, p4_2, p4_3, p4_4⟩, -⟩ := row5 q4
  clear q4
  go_wp2_with fail
  rw [← HW5.out]
  clear p0_0 p0_1 p0_2 p0_3 p0_4 p1_0 p1_1 p1_2 p1_3 p1_4 p2_0 p2_1 p2_2 p2_3 p2_4 p3_0 p3_1 p3_2 p3_3 p3_4 p4_0 p4_1 p4_2 p4_3 p4_4
  refine (HTX.out).mono ?_
  rintro e w6 ⟨rfl, hb⟩
  have Rw6_0 := Lib.hid (show w6.heap[w1.heap.size]? = some (.cells #[.int .i64 vk, .int .i64 vn, .string vS, .slice vA vl vc, .slice vB vm vd] 25 (0, 0)) from (hb.block _ LW5_0.out).trans RW5_0.out)
  have Lw6_0 := Lib.hid (show w1.heap.size < w6.heap.size from Nat.lt_of_lt_of_le LW5_0.out hb.size)
  have Rw6_1 := Lib.hid (show w6.heap[w2.heap.size]? = some (.cells #[.int .i64 xk, .int .i64 1, .string xS, .slice xA xl xc, .slice xB xm xd] 25 (0, 0)) from (hb.block _ LW5_1.out).trans RW5_1.out)
  have Lw6_1 := Lib.hid (show w2.heap.size < w6.heap.size from Nat.lt_of_lt_of_le LW5_1.out hb.size)
  have Rw6_2 := Lib.hid (show w6.heap[w3.heap.size]? = some (.cells #[.int .i64 yk, .int .i64 yn, .string yS, .slice yA yl yc, .slice yB ym yd] 25 (0, 0)) from (hb.block _ LW5_2.out).trans RW5_2.out)
  have Lw6_2 := Lib.hid (show w3.heap.size < w6.heap.size from Nat.lt_of_lt_of_le LW5_2.out hb.size)
  have Rw6_3 := Lib.hid (show w6.heap[w4.heap.size]? = some (.cells #[.int .i64 dk, .int .i64 dn, .string dS, .slice dA dl dc, .slice dB dm dd] 25 (0, 0)) from (hb.block _ LW5_3.out).trans RW5_3.out)
  have Lw6_3 := Lib.hid (show w4.heap.size < w6.heap.size from Nat.lt_of_lt_of_le LW5_3.out hb.size)
  have Rw6_4 := Lib.hid (show w6.heap[w5.heap.size]? = some (.cells #[.int .i64 qk, .int .i64 qn, .string qS, .slice qA ql qc, .slice qB qm qd] 25 (0, 0)) from (hb.block _ LW5_4.out).trans RW5_4.out)
  have Lw6_4 := Lib.hid (show w5.heap.size < w6.heap.size from Nat.lt_of_lt_of_le LW5_4.out hb.size)
  have Fw6_v := Lib.hid (FW5_v.out.trans (hb.mono FW5_v.out.size))
  have Fw6_x := Lib.hid (FW5_x.out.trans (hb.mono FW5_x.out.size))
  have Fw6_y := Lib.hid (FW5_y.out.trans (hb.mono FW5_y.out.size))
  have Fw6_d := Lib.hid (FW5_d.out.trans (hb.mono FW5_d.out.size))
  have Fw6_q := Lib.hid (FW5_q.out.trans (hb.mono FW5_q.out.size))
  have HBw6 := Lib.hid (HBW5.out.trans (hb.mono HBW5.out.size))
  clear hb
  obtain ⟨⟨p0_0, p0_1, p0_2, p0_3, p0_4⟩, -⟩ := row5 Rw6_0.out
  obtain ⟨⟨p1_0, p1_1, p1_2, p1_3, p1_4⟩, -⟩ := row5 Rw6_1.out
  obtain ⟨⟨p2_0, p2_1, p2_2, p2_3, p2_4⟩, -⟩ := row5 Rw6_2.out
  obtain ⟨⟨p3_0, p3_1, p3_2, p3_3, p3_4⟩, -⟩ := row5 Rw6_3.out
  obtain ⟨⟨p4_0, p4_1, p4_2, p4_3, p4_4⟩, -⟩ := row5 Rw6_4.out
  have HPT := Lib.hid (fun (W : World) (v : Value) (h : Rd W W.heap.size v (strC [[120, 47, 121]])) => show Calls Tryz.prog 13 #[v] W (Gives (.string ⟨#[47, 120, 126, 49, 121]⟩) W) from by
    have := Text_any v [[120, 47, 121]] W h (by decide)
    rw [aw8_8] at this
    exact this)
  go_wp2_with fail
  clear p0_0 p0_1 p0_2 p0_3 p0_4 p1_0 p1_1 p1_2 p1_3 p1_4 p2_0 p2_1 p2_2 p2_3 p2_4 p3_0 p3_1 p3_2 p3_3 p3_4 p4_0 p4_1 p4_2 p4_3 p4_4
  refine (HPT.out _ _ ⟨_, 1, rfl, fun _ => ⟨⟨w6.heap.size, 0, none⟩, rfl, by simp, fun j u hu => cells_new w6 _ _ j u hu⟩⟩).mono ?_
  rintro e w7 ⟨rfl, hb⟩
  have HB7 := Lib.hid (HBw6.out.trans (((Below.refl w6.heap.size w6).alloc (Nat.le_refl _) _).trans (hb.mono (by simp)) |>.mono HBw6.out.size))
  clear hb
  go_wp2_with fail
  go_ret
  exact ⟨rfl, HB7.out⟩
end Go.Proofs.YtmfpaoincgfjmaaGreat.Po
set_option linter.unusedSimpArgs false
namespace Go.Proofs.YtmfpaoincgfjmaaGreat.Po
open Go.Proofs Go.RowKit
open Go.Proofs.YtmfpaoincgfjmaaGreat.Utf
open Go.Proofs.YtmfpaoincgfjmaaGreat.Sc
open Go.Proofs.YtmfpaoincgfjmaaGreat.Re
open Go.Proofs.YtmfpaoincgfjmaaGreat.Tr
open Go.Proofs.YtmfpaoincgfjmaaGreat.Em

theorem _root_.Go.Proofs.YtmfpaoincgfjmaaGreat.Re.RdA.wide {w : World} {lo hi : Nat} {v : V} {cs : List Value} (h : RdA w lo hi v cs) : RdA w 0 hi v cs := RdA.keep (fun _ _ _ => rfl) (Nat.zero_le _) (Nat.le_refl _) _ _ h
theorem same_self (v : V) (ca cb : List Value) (w : World) (hz : szA 4611686018427387904 v) (ha : RdA w 0 w.heap.size v ca) (hb : RdA w 0 w.heap.size v cb) :
    Calls Tryz.prog 10 #[.agg ca.toArray, .agg cb.toArray] w fun e w' => e = .returned (.bool true) ∧ Below w.heap.size w w' := by
  refine (SameA_any (ht v) v v ca cb w (Nat.le_refl _) hz ha hb).mono ?_
  rintro e w' ⟨⟨b, rfl, h⟩, hb⟩
  obtain rfl : b = true := h.2 rfl
  exact ⟨rfl, hb⟩
theorem sz_leads {v : V} {p : List UInt8} (hn : nmV' v) (hz : szA 140737488355328 v) : szA 140737488355328 (leadsV leadV p v).1 := by
  unfold leadsV
  cases hp : prts p with
  | none => unfold V0; simp [szA, szAL]; decide
  | some ps =>
    simp only
    cases hl : leadV ps v with
    | none => unfold V0; simp [szA, szAL]; decide
    | some x => exact sz_find ps v x hn hz hl

end Go.Proofs.YtmfpaoincgfjmaaGreat.Po
namespace Go.Proofs.YtmfpaoincgfjmaaGreat.Po
open Go.Proofs Go.RowKit
open Go.Proofs.YtmfpaoincgfjmaaGreat.Utf
open Go.Proofs.YtmfpaoincgfjmaaGreat.Sc
open Go.Proofs.YtmfpaoincgfjmaaGreat.Re
open Go.Proofs.YtmfpaoincgfjmaaGreat.Tr
open Go.Proofs.YtmfpaoincgfjmaaGreat.Nu

theorem own_low {w : World} {base E size n : Nat} {v : Value} {xs : List Value} (h : w.ownsRow base E size v n xs) (p : Addr) (hp : p.block < base) (u : Value) : (w.setCell p u).ownsRow base E size v n xs := by
  obtain ⟨hl, h⟩ := h
  refine ⟨hl, ?_⟩
  rcases h with h | ⟨g, cap, cur, rfl, h1, h2, h3⟩
  · exact .inl h
  · exact .inr ⟨g, cap, cur, rfl, h1, by rw [heap_setCell_other w p g u (by omega)]; exact h2, h3⟩
end Go.Proofs.YtmfpaoincgfjmaaGreat.Po
namespace Go.Proofs.YtmfpaoincgfjmaaGreat.Po
open Go.Proofs Go.RowKit
open Go.Proofs.YtmfpaoincgfjmaaGreat.Utf
open Go.Proofs.YtmfpaoincgfjmaaGreat.Sc
open Go.Proofs.YtmfpaoincgfjmaaGreat.Re
open Go.Proofs.YtmfpaoincgfjmaaGreat.Tr
open Go.Proofs.YtmfpaoincgfjmaaGreat.Nu

def LV (b : Bool) (ps : List (List UInt8)) (v : V) : Option V := if b = true then eachV ps v else leadV ps v
theorem LV_nil (b : Bool) (v : V) : LV b [] v = some v := by cases b <;> rfl
theorem LV_star (r : List (List UInt8)) (v : V) (h : v.k = 5) : LV true ([42] :: r) v = (gathF (eachV r) v.l).map lsV := by
  unfold LV
  rw [if_pos rfl, eachV, if_pos ⟨h, rfl⟩]
theorem LV_step (b : Bool) (q : List UInt8) (r : List (List UInt8)) (v : V) (h : ¬ (b = true ∧ v.k = 5 ∧ q = [42])) : LV b (q :: r) v = (stepV v q).bind (LV b r) := by
  cases b with
  | false => rfl
  | true =>
    show eachV (q :: r) v = _
    rw [eachV, if_neg (fun e => h ⟨rfl, e⟩)]
    rfl
def whyV (o : Option V) : Int := match o with
  | none => 81
  | some _ => 0
def RdT (w : World) (hi B H : Nat) (v : V) (cs : List Value) : Prop := RdA w 0 hi v cs ∨ ∃ (g : List V) (A : Option Addr) (c : Nat), v = lsV g ∧ cs = [.int .i64 5, .int .i64 0, .string ⟨#[]⟩, .slice A g.length c, .slice none 0 0] ∧
  (0 < g.length → ∃ gb o, A = some ⟨gb, o, none⟩ ∧ B ≤ gb ∧ gb < H ∧ RdAL w 0 hi gb o g)
section
variable {w w' : World} {hi B B' H H' : Nat} {v : V} {cs : List Value}
theorem RdL_at {l : List V} {g o : Nat} (h : RdAL w 0 hi g o l) (hk : ∀ p : Addr, p.block < hi ∨ p.block = g → w'.cell? p = w.cell? p) : RdAL w' 0 hi g o l :=
  RdAL_of l o fun k hkl => by
    obtain ⟨cs, h1, h2⟩ := RdAL.at_ l o h k hkl
    exact ⟨cs, fun j u hu => (hk _ (.inr rfl)).trans (h1 j u hu), RdA.keep (fun p _ hp => hk p (.inl hp)) (Nat.le_refl _) (Nat.le_refl _) _ _ h2⟩
theorem RdT.keep (h : RdT w hi B H v cs) (hk : ∀ p : Addr, p.block < hi ∨ (B ≤ p.block ∧ p.block < H) → w'.cell? p = w.cell? p) (hB : B' ≤ B) (hH : H ≤ H') : RdT w' hi B' H' v cs := by
  rcases h with h | ⟨g, A, c, e1, e2, h⟩
  · exact .inl (RdA.keep (fun p _ hp => hk p (.inl hp)) (Nat.le_refl _) (Nat.le_refl _) _ _ h)
  · refine .inr ⟨g, A, c, e1, e2, fun h0 => ?_⟩
    obtain ⟨gb, o, e, q1, q2, q3⟩ := h h0
    exact ⟨gb, o, e, by omega, by omega, RdL_at q3 fun p hp => by
      rcases hp with hp | hp
      · exact hk p (.inl hp)
      · exact hk p (.inr (by omega))⟩
theorem RdT.below (h : RdT w hi B H v cs) {C : Nat} (hb : Below C w w') (hhi : hi ≤ C) (hHC : H ≤ C) (hB : B' ≤ B) (hH : H ≤ H') : RdT w' hi B' H' v cs :=
  h.keep (fun p hp => hb.cell (by omega)) hB hH
theorem RdT.rd (h : RdT w hi B H v cs) (hH : hi ≤ H) : RdA w 0 H v cs := by
  rcases h with h | ⟨g, A, c, rfl, rfl, h⟩
  · exact RdA.keep (fun _ _ _ => rfl) (Nat.le_refl _) hH _ _ h
  · rw [lsV, RdA]
    refine ⟨A, c, none, 0, rfl, rfl, fun h0 => ?_, fun h0 => by simp at h0⟩
    obtain ⟨gb, o, e, q1, q2, q3⟩ := h h0
    refine ⟨gb, o, e, Nat.zero_le _, q2, RdAL_of g o fun k hkl => ?_⟩
    obtain ⟨cs, h1, h2⟩ := RdAL.at_ g o q3 k hkl
    exact ⟨cs, h1, RdA.keep (fun _ _ _ => rfl) (Nat.le_refl _) hH _ _ h2⟩
theorem RdT.own (h : RdT w hi B H v cs) (h5 : v.k ≠ 5) : RdA w 0 hi v cs := by
  rcases h with h | ⟨g, A, c, rfl, -⟩
  · exact h
  · exact absurd rfl h5
theorem RdT.cells (h : RdT w hi B H v cs) : ∃ A c A2 c2, cs = [.int .i64 v.k, .int .i64 v.n, .string (strOf v.s), .slice A v.l.length c, .slice A2 v.ms.length c2] := by
  rcases h with h | ⟨g, A, c, rfl, rfl, -⟩
  · obtain ⟨A, c, A2, c2, e, -⟩ := h.cells
    exact ⟨A, c, A2, c2, e⟩
  · exact ⟨A, c, none, 0, rfl⟩
theorem RdT.rows {A A2 : Option Addr} {c c2 : Nat} (h : RdT w hi B H v [.int .i64 v.k, .int .i64 v.n, .string (strOf v.s), .slice A v.l.length c, .slice A2 v.ms.length c2]) :
    ∃ rows : List (List Value), rows.length = v.l.length ∧ (∀ r ∈ rows, r.length = 5) ∧ (∀ u ∈ rows.flatten, u.oneCell' = true) ∧ (∀ ad, A = some ad → ∀ j u, rows.flatten[j]? = some u → w.cell? (ad.add j) = some u) ∧ (A = none → v.l.length = 0) ∧
      ∀ k (h1 : k < v.l.length) (h2 : k < rows.length), RdA w 0 hi v.l[k] rows[k] := by
  have key : 0 < v.l.length → ∃ g o, A = some ⟨g, o, none⟩ ∧ RdAL w 0 hi g o v.l := fun h0 => by
    rcases h with h | ⟨g, A', c', e1, e2, h⟩
    · obtain ⟨A', c', A2', c2', e, -, hL, -⟩ := h.cells
      injection e with _ e; injection e with _ e; injection e with _ e; injection e with e _; injection e with e _ _
      subst e
      obtain ⟨g, o, e, -, -, hr⟩ := hL h0
      exact ⟨g, o, e, hr⟩
    · injection e2 with _ e; injection e with _ e; injection e with _ e; injection e with e _; injection e with e _ _
      subst e
      rw [e1] at h0 ⊢
      obtain ⟨gb, o, e, -, -, hr⟩ := h h0
      exact ⟨gb, o, e, hr⟩
  by_cases h0 : 0 < v.l.length
  · obtain ⟨g, o, rfl, hr⟩ := key h0
    obtain ⟨rows, r1, r2, r3, r4⟩ := rowsL hr
    refine ⟨rows, r1, r2.1, rows_one (s := 5) r3, fun ad e j u hu => ?_, (fun e => by cases e), r4⟩
    injection e with e
    subst e
    rw [Addr.add_lit]
    exact rows_flat (by decide) r2 j u hu
  · have e : v.l.length = 0 := by omega
    exact ⟨[], by rw [e]; rfl, (fun r h => by cases h), (fun u h => by simp at h), (fun ad _ j u hu => by simp at hu), (fun _ => e), (fun k h => absurd h (by omega))⟩
end
def GivesLd (hi : Nat) (o : Option V) (w : World) (e : Ending) (w' : World) : Prop :=
  (∃ cs : List Value, e = .returned (.tuple #[.agg cs.toArray, .int .i64 (whyV o)]) ∧ RdT w' hi w.heap.size w'.heap.size (o.getD V0) cs) ∧ Below w.heap.size w w'
theorem NxH.top {w0 wr : World} {hi base B H : Nat} {A : Option Addr} {c : Nat} {g : List V} {rows : List (List Value)} (h : NxH w0 hi wr base (.slice A g.length c) g rows) (hb : Below w0.heap.size w0 wr) (hhi : hi ≤ w0.heap.size) (hB : B ≤ base) (hH : wr.heap.size ≤ H) :
    RdT wr hi B H (lsV g) [.int .i64 5, .int .i64 0, .string ⟨#[]⟩, .slice A g.length c, .slice none 0 0] := by
  refine .inr ⟨g, A, c, rfl, rfl, fun h0 => ?_⟩
  obtain ⟨gg, e, g1, g2, hc⟩ := own_at h.own h0
  refine ⟨gg, 0, e, by omega, by omega, RdAL_of g 0 fun k hk => ?_⟩
  have hkr : k < rows.length := by rw [h.len]; exact hk
  have := hc.sub h.five k hkr
  exact ⟨rows[k], fun j u hu => (this j u hu).1, (h.row k hk hkr).below hb hhi (Nat.le_refl hi)⟩
theorem NxH.slice {w0 wr : World} {hi base : Nat} {s : Value} {nx : List V} {rows : List (List Value)} (h : NxH w0 hi wr base s nx rows) : ∃ A c, s = .slice A nx.length c := by
  rcases h.own.2 with ⟨e, e0⟩ | ⟨g, cap, cur, e, _⟩
  · exact ⟨none, 0, by rw [e, e0]⟩
  · exact ⟨_, cap, e⟩
theorem NxH.set {w0 wr : World} {hi base : Nat} {s : Value} {nx : List V} {rows : List (List Value)} (h : NxH w0 hi wr base s nx rows) (p : Addr) (hp : p.block < base) (u : Value) : NxH w0 hi (wr.setCell p u) base s nx rows :=
  ⟨h.len, h.five, h.sz, h.row, own_low h.own p hp u⟩
end Go.Proofs.YtmfpaoincgfjmaaGreat.Po
