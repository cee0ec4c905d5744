/- Merged: PoH PoI PoJ. -/
import Derived.Test.YtbfogkcnfnjcaaaTt29
import Derived.Test.YtbfogkcnfnjcaaaTt31
import Derived.Test.YtbfogkcnfnjcaaaTt27
set_option linter.unusedSimpArgs false
namespace Go.Proofs.Ytbfogkcnfnjcaaa.Po
open Go.Proofs Go.RowKit
open Go.Proofs.Ytbfogkcnfnjcaaa.Utf
open Go.Proofs.Ytbfogkcnfnjcaaa.Sc
open Go.Proofs.Ytbfogkcnfnjcaaa.Re
open Go.Proofs.Ytbfogkcnfnjcaaa.Tr
open Go.Proofs.Ytbfogkcnfnjcaaa.Nu

structure Gs (f : V → Option V) (l acc acc' : List V) (k : Nat) : Prop where
  ex : ∃ g0, acc' = acc ++ g0 ∧ gathF f l = (gathF f (l.drop k)).map fun r => g0 ++ r
  sz : acc'.length + cntL (l.drop k) ≤ 1000000000000
end Go.Proofs.Ytbfogkcnfnjcaaa.Po
set_option linter.unusedSimpArgs false
namespace Go.Proofs.Ytbfogkcnfnjcaaa.Po
open Go.Proofs Go.RowKit
open Go.Proofs.Ytbfogkcnfnjcaaa.Utf
open Go.Proofs.Ytbfogkcnfnjcaaa.Sc
open Go.Proofs.Ytbfogkcnfnjcaaa.Re
open Go.Proofs.Ytbfogkcnfnjcaaa.Tr
open Go.Proofs.Ytbfogkcnfnjcaaa.Nu

def GivesNV (o : Option V) (w : World) (e : Ending) (w' : World) : Prop :=
  (∃ cs : List Value, e = .returned (.tuple #[.agg cs.toArray, .bool o.isSome]) ∧ RdA w' 0 w'.heap.size (o.getD V0) cs) ∧ Below w.heap.size w w'
theorem GivesOV.new {hi : Nat} {o : Option V} {w : World} {e : Ending} {w' : World} (h : GivesOV hi o w e w') (hhi : hi ≤ w.heap.size) : GivesNV o w e w' := by
  obtain ⟨⟨cs, e1, h1⟩, hb⟩ := h
  exact ⟨⟨cs, e1, h1.below hb hhi (Nat.le_trans hhi hb.size)⟩, hb⟩
end Go.Proofs.Ytbfogkcnfnjcaaa.Po
set_option linter.unusedSimpArgs false
namespace Go.Proofs.Ytbfogkcnfnjcaaa.Po
open Go.Proofs Go.RowKit
open Go.Proofs.Ytbfogkcnfnjcaaa.Utf
open Go.Proofs.Ytbfogkcnfnjcaaa.Sc
open Go.Proofs.Ytbfogkcnfnjcaaa.Re
open Go.Proofs.Ytbfogkcnfnjcaaa.Tr
open Go.Proofs.Ytbfogkcnfnjcaaa.Nu

def leadsV (L : List (List UInt8) → V → Option V) (p : List UInt8) (v : V) : V × Int :=
  match prts p with
  | none => (V0, 80)
  | some ps => match L ps v with
    | none => (V0, 81)
    | some x => (x, 0)
def GivesVE (r : V × Int) (w : World) (e : Ending) (w' : World) : Prop :=
  (∃ cs : List Value, e = .returned (.tuple #[.agg cs.toArray, .int .i64 r.2]) ∧ RdA w' w.heap.size w'.heap.size r.1 cs) ∧ Below w.heap.size w w'
theorem sz_find (ps : List (List UInt8)) (v y : V) (hn : nmV' v) (hz : szA 140737488355328 v) (h : leadV ps v = some y) : szA 140737488355328 y :=
  (lead_down (sz_down 140737488355328) ps v y hn h hz).1
set_option maxRecDepth 100000 in
set_option maxHeartbeats 1000000 in
theorem answer_find (v : V) (cs : List Value) (p : List UInt8) (w : World) (hv : RdA w 0 w.heap.size v cs) (hz : szA 140737488355328 v) (hp : p.length ≤ 4398046511104) :
    Calls Try.prog 24 #[.agg cs.toArray, .string (strOf p), .func (.func 25) #[] #[]] w (GivesVE (leadsV leadV p v) w) := by
  have hnm := nm_of v cs hv
  have HPA := Lib.hid (fun (W : World) => Parts_any (strOf p) (by rw [strOf_size]; exact hp) W)
  have HLE := Lib.hid (fun (W : World) (hW : Below w.heap.size w W) (pv : Value) (ps : List (List UInt8)) (hps : prts p = some ps) (hr : RdS W W.heap.size pv ps) => (find_any w.heap.size ps v cs pv W hW.size (hv.below hW (Nat.le_refl _) (Nat.le_refl _)) (Em.szA_more (by decide) _ hz) hr (fun q hq => Nat.le_trans (prts_each hps q hq) (Nat.le_trans hp (by decide)))).mono fun e w' h => GivesOV.new h hW.size)
  have HSZ := Lib.hid (fun (ps : List (List UInt8)) (y : V) (hy : leadV ps v = some y) => sz_find ps v y hnm hz hy)
  obtain ⟨A0, c0, A20, c20, rfl, -, -, -⟩ := hv.cells
  clear hv hz hp hnm
  generalize v.k = k at *
  generalize v.n = n at *
  generalize strOf v.s = S at *
  generalize v.l.length = l at *
  generalize v.ms.length = m at *
  obtain ⟨X, hX⟩ : ∃ X, strOf p = X := ⟨_, rfl⟩
  rw [hX] at HPA ⊢
  have hXd : X.data.toList = p := by rw [← hX, strOf_data]
  rw [hXd] at HPA
  clear hX hXd
  obtain ⟨W0, hW0⟩ : ∃ W0, W0 = ((w.alloc (.cells #[.int .i64 k, .int .i64 n, .string S, .slice A0 l c0, .slice A20 m c20] 25)).alloc (.cells #[.int .i64 0, .int .i64 0, .string ⟨#[]⟩, .slice none 0 0, .slice none 0 0] 25)) := ⟨_, rfl⟩
  have HB0 := Lib.hid (show Below w.heap.size w W0 by rw [hW0]; exact ((Below.refl _ _).alloc (Nat.le_refl _) _).alloc (by simp) _)
  have HS0 := Lib.hid (show W0.heap.size = w.heap.size + 2 by rw [hW0, szAl, szAl])
  have hv0 : W0.heap[w.heap.size]? = some (.cells #[.int .i64 k, .int .i64 n, .string S, .slice A0 l c0, .slice A20 m c20] 25 (0, 0)) := by rw [hW0]; exact heapOld (heapNew _ _) _
  have hr0 : W0.heap[w.heap.size + 1]? = some (.cells #[.int .i64 0, .int .i64 0, .string ⟨#[]⟩, .slice none 0 0, .slice none 0 0] 25 (0, 0)) := by
    rw [hW0, show w.heap.size + 1 = (w.alloc (.cells #[.int .i64 k, .int .i64 n, .string S, .slice A0 l c0, .slice A20 m c20] 25)).heap.size by simp]; exact heapNew _ _
  have HR0 := Lib.hid hr0
  have HV0 := Lib.hid hv0
  have HW0 := Lib.hid hW0
  clear hW0 hv0 hr0
  go_enter Try.func24, Try.ntmps24
  go_wp2_with fail
  rw [← HW0.out]
  refine (HPA.out _).mono ?_
  rintro e w1 ⟨hres, hb1⟩
  have HB1 := Lib.hid (HB0.out.trans (hb1.mono HB0.out.size))
  have hv1 := (hb1.block w.heap.size (by rw [HS0.out]; omega)).trans HV0.out
  have hr1 := (hb1.block (w.heap.size + 1) (by rw [HS0.out]; omega)).trans HR0.out
  have HS1 := Lib.hid (show w.heap.size + 2 ≤ w1.heap.size by have := hb1.size; rw [HS0.out] at this; exact this)
  have HV1 := Lib.hid hv1
  have HR1 := Lib.hid hr1
  rcases hres with ⟨ps, pv, hps, rfl, hown⟩ | ⟨hps, rfl⟩
  · have HRS := Lib.hid (RdS.of_own hown)
    have HPS := Lib.hid hps
    obtain ⟨⟨p0, p1, p2, p3, p4⟩, -⟩ := row5 hv1
    clear hb1 hv1 hr1 hps hown
    go_wp2_with fail
    refine (HLE.out _ HB1.out pv ps HPS.out HRS.out).mono ?_
    rintro e w2 ⟨⟨ca, rfl, hca⟩, hb2⟩
    have HB2 := Lib.hid (HB1.out.trans (hb2.mono HB1.out.size))
    have hr2 := (hb2.block (w.heap.size + 1) (by have := HS1.out; omega)).trans HR1.out
    have HR2 := Lib.hid hr2
    have HS2 := Lib.hid (show w.heap.size + 2 ≤ w2.heap.size from Nat.le_trans HS1.out hb2.size)
    obtain ⟨y, hy⟩ : ∃ y, (leadV ps v).getD V0 = y := ⟨_, rfl⟩
    rw [hy] at hca
    have HCA := Lib.hid hca
    have HY := Lib.hid hy
    obtain ⟨yA, yc, yB, yd, rfl, -⟩ := hca.cells
    clear hca hb2 p0 p1 p2 p3 p4 hy
    generalize y.k = yk at *
    generalize y.n = yn at *
    generalize strOf y.s = ys at *
    generalize y.l.length = yl at *
    generalize y.ms.length = ym at *
    obtain ⟨W3, hW3⟩ : ∃ W3, W3 = w2.alloc (.cells #[.int .i64 yk, .int .i64 yn, .string ys, .slice yA yl yc, .slice yB ym yd] 25) := ⟨_, rfl⟩
    have HB3 := Lib.hid (show Below w.heap.size w W3 by rw [hW3]; exact HB2.out.alloc HB2.out.size _)
    have hr3 : W3.heap[w.heap.size + 1]? = some (.cells #[.int .i64 0, .int .i64 0, .string ⟨#[]⟩, .slice none 0 0, .slice none 0 0] 25 (0, 0)) := by rw [hW3]; exact heapOld hr2 _
    have HR3 := Lib.hid hr3
    have HW3 := Lib.hid hW3
    have HB23 := Lib.hid (show Below w2.heap.size w2 W3 by rw [hW3]; exact (Below.refl _ _).alloc (Nat.le_refl _) _)
    have HS3 := Lib.hid (show w2.heap.size ≤ W3.heap.size from HB23.out.size)
    rw [hW3] at hr3
    obtain ⟨⟨z0, z1, z2, z3, z4⟩, ⟨y0, y1, y2, y3, y4⟩⟩ := row5 (heapNew w2 (.cells #[.int .i64 0, .int .i64 0, .string ⟨#[]⟩, .slice none 0 0, .slice none 0 0] 25))
    obtain ⟨⟨q0, q1, q2, q3, q4⟩, -⟩ := row5 (heapNew w2 (.cells #[.int .i64 yk, .int .i64 yn, .string ys, .slice yA yl yc, .slice yB ym yd] 25))
    obtain ⟨⟨r0, r1, r2, r3, r4⟩, ⟨f0, f1, f2, f3, f4⟩⟩ := row5 hr3
    clear hr2 hr3 hW3
    rcases hl : leadV ps v with _ | x
    · have HEQ := Lib.hid (show leadsV leadV p v = (V0, 81) by unfold leadsV; rw [HPS.out]; simp only [hl])
      clear hl
      go_wp2
      rw [← HW3.out]
      refine bodyPost_ret (res5b rfl rfl rfl (st5_row HR3.out (.int .i64 0) (.int .i64 0) (.string ⟨#[]⟩) (.slice none 0 0) (.slice none 0 0))) rfl ?_
      rw [HEQ.out]
      exact ⟨⟨[.int .i64 0, .int .i64 0, .string ⟨#[]⟩, .slice none 0 0, .slice none 0 0], rfl, rd_zero _ _ _⟩, st5_below HB3.out (by omega) _ _ _ _ _⟩
    · have HEQ := Lib.hid (show leadsV leadV p v = (x, 0) by unfold leadsV; rw [HPS.out]; simp only [hl])
      have hyx : y = x := by rw [← HY.out, hl]; rfl
      have hzx := HSZ.out ps x hl
      have hcx := HCA.out
      rw [hyx] at hcx
      have HCX := Lib.hid (Copy_any (ht x) x (Nat.le_refl _) hzx _ W3 (hcx.below HB23.out (Nat.le_refl _) HS3.out))
      clear hl hyx hzx hcx
      go_wp2_with fail
      rw [← HW3.out]
      clear z0 z1 z2 z3 z4 y0 y1 y2 y3 y4 q0 q1 q2 q3 q4 r0 r1 r2 r3 r4 f0 f1 f2 f3 f4
      refine HCX.out.mono ?_
      rintro e w4 ⟨⟨cb, F, rfl, hcb, -, hF⟩, hb4⟩
      have hcb := RdF.toA (lo := W3.heap.size) (hi := w4.heap.size) x cb F hF hcb
      have HCB := Lib.hid hcb
      have HB4 := Lib.hid (HB3.out.trans (hb4.mono HB3.out.size))
      have hr4 := (hb4.block (w.heap.size + 1) (by have := HS2.out; have := HS3.out; omega)).trans HR3.out
      have HR4 := Lib.hid hr4
      have HS4 := Lib.hid (show w.heap.size + 2 ≤ W3.heap.size by have := HS2.out; have := HS3.out; omega)
      obtain ⟨zA, zc, zB, zd, rfl, -⟩ := hcb.cells
      obtain ⟨⟨r0, r1, r2, r3, r4⟩, ⟨f0, f1, f2, f3, f4⟩⟩ := row5 hr4
      clear hcb hb4 hr4 hF
      generalize x.k = zk at *
      generalize x.n = zn at *
      generalize strOf x.s = zs at *
      generalize x.l.length = zl at *
      generalize x.ms.length = zm at *
      go_wp2
      refine bodyPost_ret (res5b rfl rfl rfl (st5_row HR4.out (.int .i64 zk) (.int .i64 zn) (.string zs) (.slice zA zl zc) (.slice zB zm zd))) rfl ?_
      rw [HEQ.out]
      refine ⟨⟨[.int .i64 zk, .int .i64 zn, .string zs, .slice zA zl zc, .slice zB zm zd], rfl, ?_⟩, st5_below HB4.out (by omega) _ _ _ _ _⟩
      exact RdA.keep (fun q hq _ => cell_of_blk (st5_other (by have := HS4.out; omega) _ _ _ _ _)) (by have := HS4.out; omega) (Nat.le_of_eq (st5_size (w := w4) (b := w.heap.size + 1) _ _ _ _ _).symm) _ _ HCB.out
  · have HEQ := Lib.hid (show leadsV leadV p v = (V0, 80) by unfold leadsV; rw [hps])
    obtain ⟨⟨r0, r1, r2, r3, r4⟩, ⟨f0, f1, f2, f3, f4⟩⟩ := row5 hr1
    clear hb1 hv1 hr1 hps
    go_wp2
    refine bodyPost_ret (res5b rfl rfl rfl (st5_row HR1.out (.int .i64 0) (.int .i64 0) (.string ⟨#[]⟩) (.slice none 0 0) (.slice none 0 0))) rfl ?_
    rw [HEQ.out]
    exact ⟨⟨[.int .i64 0, .int .i64 0, .string ⟨#[]⟩, .slice none 0 0, .slice none 0 0], rfl, rd_zero _ _ _⟩, st5_below HB1.out (by omega) _ _ _ _ _⟩
set_option maxRecDepth 100000 in
set_option maxHeartbeats 1000000 in
theorem Find_any (v : V) (cs : List Value) (p : List UInt8) (w : World) (hv : RdA w 0 w.heap.size v cs) (hz : szA 140737488355328 v) (hp : p.length ≤ 4398046511104) :
    Calls Try.prog 12 #[.agg cs.toArray, .string (strOf p)] w (GivesVE (leadsV leadV p v) w) := by
  have HAN := Lib.hid (fun (W : World) (hW : Below w.heap.size w W) => answer_find v cs p W (hv.below hW (Nat.le_refl _) hW.size) hz hp)
  obtain ⟨A0, c0, A20, c20, rfl, -, -, -⟩ := hv.cells
  clear hv hz hp
  generalize v.k = k at *
  generalize v.n = n at *
  generalize strOf v.s = S at *
  generalize v.l.length = l at *
  generalize v.ms.length = m at *
  generalize strOf p = X at *
  obtain ⟨W0, hW0⟩ : ∃ W0, W0 = ((w.alloc (.cells #[.int .i64 k, .int .i64 n, .string S, .slice A0 l c0, .slice A20 m c20] 25)).alloc (.cells #[.int .i64 0, .int .i64 0, .string ⟨#[]⟩, .slice none 0 0, .slice none 0 0] 25)) := ⟨_, rfl⟩
  have HB0 := Lib.hid (show Below w.heap.size w W0 by rw [hW0]; exact ((Below.refl _ _).alloc (Nat.le_refl _) _).alloc (by simp) _)
  have HS0 := Lib.hid (show W0.heap.size = w.heap.size + 2 by rw [hW0, szAl, szAl])
  have hv0 : W0.heap[w.heap.size]? = some (.cells #[.int .i64 k, .int .i64 n, .string S, .slice A0 l c0, .slice A20 m c20] 25 (0, 0)) := by rw [hW0]; exact heapOld (heapNew _ _) _
  have hr0 : W0.heap[w.heap.size + 1]? = some (.cells #[.int .i64 0, .int .i64 0, .string ⟨#[]⟩, .slice none 0 0, .slice none 0 0] 25 (0, 0)) := by
    rw [hW0, show w.heap.size + 1 = (w.alloc (.cells #[.int .i64 k, .int .i64 n, .string S, .slice A0 l c0, .slice A20 m c20] 25)).heap.size by simp]; exact heapNew _ _
  have HR0 := Lib.hid hr0
  have HV0 := Lib.hid hv0
  have HW0 := Lib.hid hW0
  rw [hW0] at hv0
  obtain ⟨⟨p0, p1, p2, p3, p4⟩, -⟩ := row5 hv0
  clear hW0 hv0 hr0
  go_enter Try.func12, Try.ntmps12
  go_wp2_with fail
  rw [← HW0.out]
  clear p0 p1 p2 p3 p4
  refine (HAN.out _ HB0.out).mono ?_
  rintro e w1 ⟨⟨ca, rfl, hca⟩, hb1⟩
  have HB1 := Lib.hid (HB0.out.trans (hb1.mono HB0.out.size))
  have hr1 := (hb1.block (w.heap.size + 1) (by rw [HS0.out]; omega)).trans HR0.out
  have HR1 := Lib.hid hr1
  obtain ⟨r, hr⟩ : ∃ r, leadsV leadV p v = r := ⟨_, rfl⟩
  rw [hr] at hca ⊢
  obtain ⟨y, why⟩ := r
  simp only at hca ⊢
  have HCA := Lib.hid hca
  have HRR := Lib.hid hr
  obtain ⟨yA, yc, yB, yd, rfl, -⟩ := hca.cells
  obtain ⟨⟨r0, r1, r2, r3, r4⟩, ⟨f0, f1, f2, f3, f4⟩⟩ := row5 hr1
  clear hca hb1 hr1 hr
  generalize y.k = yk at *
  generalize y.n = yn at *
  generalize strOf y.s = ys at *
  generalize y.l.length = yl at *
  generalize y.ms.length = ym at *
  go_wp2
  refine bodyPost_ret (res5b rfl rfl rfl (st5_row HR1.out (.int .i64 yk) (.int .i64 yn) (.string ys) (.slice yA yl yc) (.slice yB ym yd))) rfl ?_
  rw [HRR.out]
  refine ⟨⟨[.int .i64 yk, .int .i64 yn, .string ys, .slice yA yl yc, .slice yB ym yd], rfl, ?_⟩, st5_below HB1.out (by omega) _ _ _ _ _⟩
  exact RdA.keep (fun q hq _ => cell_of_blk (st5_other (by rw [HS0.out] at hq; omega) _ _ _ _ _)) (by rw [HS0.out]; omega) (Nat.le_of_eq (st5_size (w := w1) (b := w.heap.size + 1) _ _ _ _ _).symm) _ _ HCA.out
end Go.Proofs.Ytbfogkcnfnjcaaa.Po
