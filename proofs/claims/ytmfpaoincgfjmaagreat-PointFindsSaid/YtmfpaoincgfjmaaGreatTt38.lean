/- Merged: PoL2. -/
import Derived.Test.YtmfpaoincgfjmaaGreatTt37
set_option linter.unusedSimpArgs false
namespace Go.Proofs.YtmfpaoincgfjmaaGreat.Po
open Go.Proofs Go.RowKit
open Go.Proofs.YtmfpaoincgfjmaaGreat.Utf
open Go.Proofs.YtmfpaoincgfjmaaGreat.Sc
open Go.Proofs.YtmfpaoincgfjmaaGreat.Re
open Go.Proofs.YtmfpaoincgfjmaaGreat.Tr
open Go.Proofs.YtmfpaoincgfjmaaGreat.Nu

set_option maxRecDepth 100000 in
set_option maxHeartbeats 1000000 in
theorem Lead_idx0 (hi : Nat) (q : List UInt8) (r : List (List UInt8)) (ih : LdCon false hi r) : LdK false hi (q :: r) fun v => v.k = 5 := by
  have HIH := Lib.hid ih
  intro v cs pv w hhi hv hz hcn hpv hps hk
  have HCUT := Lib.hid hpv.cut
  have HPS := Lib.hid hps
  have HCN := Lib.hid hcn
  have HZ := Lib.hid hz
  have hnm := nm_of v cs hv
  have HNM := Lib.hid hnm
  have HALL := Lib.hid (fun (W : World) => rAll_any (strOf q) W (by rw [strOf_size]; exact hps q (by simp)))
  rw [strOf_data, ← allS_eq] at HALL
  obtain ⟨A0, c0, A20, c20, rfl, -, hL, -⟩ := hv.cells
  have HL := Lib.hid hL
  obtain ⟨Ap, cp, rfl, -, hpc⟩ := hpv
  obtain ⟨ad, rfl, hadb, hpx⟩ := hpc (by simp)
  have hap := hpx 0 _ (strC_at (q :: r) 0 (by simp))
  rw [add_zero_] at hap
  obtain ⟨X, hX⟩ : ∃ X, strOf q = X := ⟨_, rfl⟩
  rw [show (q :: r)[0] = q from rfl, hX] at hap
  have HXQ := Lib.hid hX
  obtain ⟨l, hl⟩ : ∃ l, v.l.length = l := ⟨_, rfl⟩
  have HLN := Lib.hid hl
  have HADL0 := Lib.hid hadb
  obtain ⟨nn, hnn⟩ : ∃ nn, (q :: r).length = nn := ⟨_, rfl⟩
  have hn1 : 0 < nn := by rw [← hnn]; simp
  have b1 : (0 : Int) < (nn : Int) := by omega
  have t1 : ((nn : Int) == 0) = false := beq_eq_false_iff_ne.2 (by omega)
  have t2 : decide ((nn : Int) = 0) = false := decide_eq_false (by omega)
  rw [hnn] at HCUT ⊢
  have HNS := Lib.hid (show ¬ (false = true ∧ q = [42]) from fun e => by cases e.1)
  rw [hX] at HALL
  have HK := Lib.hid hk
  rw [hk, hl]
  clear hv hz hcn hps hnm hL hpc hpx hadb hnn hk hl hX
  generalize v.n = n at *
  generalize strOf v.s = S at *
  generalize v.ms.length = m at *
  clear HXQ
  obtain ⟨W0, hW0⟩ : ∃ W0, W0 = (((w.alloc (.cells #[.int .i64 5, .int .i64 n, .string S, .slice A0 l c0, .slice A20 m c20] 25)).alloc (.cells #[.int .i64 0, .int .i64 0, .string ⟨#[]⟩, .slice none 0 0, .slice none 0 0] 25)).alloc (.cells #[.int .i64 0, .int .i64 0, .string ⟨#[]⟩, .slice none 0 0, .slice none 0 0] 25)) := ⟨_, rfl⟩
  have HB0 := Lib.hid (show Below w.heap.size w W0 by rw [hW0]; exact (((Below.refl _ _).alloc (Nat.le_refl _) _).alloc (by simp; try omega) _).alloc (by simp; try omega) _)
  have HS0 := Lib.hid (show W0.heap.size = w.heap.size + 3 by rw [hW0, szAl, szAl, szAl])
  have hv0 : W0.heap[w.heap.size]? = some (.cells #[.int .i64 5, .int .i64 n, .string S, .slice A0 l c0, .slice A20 m c20] 25 (0, 0)) := by rw [hW0]; exact heapOld (heapOld ((show (w.alloc (.cells #[.int .i64 5, .int .i64 n, .string S, .slice A0 l c0, .slice A20 m c20] 25)).heap[w.heap.size]? = some (.cells #[.int .i64 5, .int .i64 n, .string S, .slice A0 l c0, .slice A20 m c20] 25 (0, 0)) from by rw [show w.heap.size = w.heap.size by simp]; exact heapNew _ _)) _) _
  have HV0 := Lib.hid hv0
  have hr0 : W0.heap[w.heap.size + 1]? = some (.cells #[.int .i64 0, .int .i64 0, .string ⟨#[]⟩, .slice none 0 0, .slice none 0 0] 25 (0, 0)) := by rw [hW0]; exact heapOld ((show ((w.alloc (.cells #[.int .i64 5, .int .i64 n, .string S, .slice A0 l c0, .slice A20 m c20] 25)).alloc (.cells #[.int .i64 0, .int .i64 0, .string ⟨#[]⟩, .slice none 0 0, .slice none 0 0] 25)).heap[w.heap.size + 1]? = some (.cells #[.int .i64 0, .int .i64 0, .string ⟨#[]⟩, .slice none 0 0, .slice none 0 0] 25 (0, 0)) from by rw [show w.heap.size + 1 = (w.alloc (.cells #[.int .i64 5, .int .i64 n, .string S, .slice A0 l c0, .slice A20 m c20] 25)).heap.size by simp]; exact heapNew _ _)) _
  have HR0 := Lib.hid hr0
  have hn0 : W0.heap[w.heap.size + 2]? = some (.cells #[.int .i64 0, .int .i64 0, .string ⟨#[]⟩, .slice none 0 0, .slice none 0 0] 25 (0, 0)) := by rw [hW0]; exact (show (((w.alloc (.cells #[.int .i64 5, .int .i64 n, .string S, .slice A0 l c0, .slice A20 m c20] 25)).alloc (.cells #[.int .i64 0, .int .i64 0, .string ⟨#[]⟩, .slice none 0 0, .slice none 0 0] 25)).alloc (.cells #[.int .i64 0, .int .i64 0, .string ⟨#[]⟩, .slice none 0 0, .slice none 0 0] 25)).heap[w.heap.size + 2]? = some (.cells #[.int .i64 0, .int .i64 0, .string ⟨#[]⟩, .slice none 0 0, .slice none 0 0] 25 (0, 0)) from by rw [show w.heap.size + 2 = ((w.alloc (.cells #[.int .i64 5, .int .i64 n, .string S, .slice A0 l c0, .slice A20 m c20] 25)).alloc (.cells #[.int .i64 0, .int .i64 0, .string ⟨#[]⟩, .slice none 0 0, .slice none 0 0] 25)).heap.size by simp]; exact heapNew _ _)
  have HN0 := Lib.hid hn0
  have HW0 := Lib.hid hW0
  have HAP := Lib.hid (show W0.cell? ad = some (.string X) from (HB0.out.cell HADL0.out).trans hap)
  have HADL := Lib.hid (show ad.block < W0.heap.size by have := HADL0.out; rw [HS0.out]; omega)
  have hap3 := HAP.out
  rw [hW0] at hap3
  rw [hW0] at hv0 hr0 hn0
  obtain ⟨⟨v0, v1, v2, v3, v4⟩, ⟨fv0, fv1, fv2, fv3, fv4⟩⟩ := row5 hv0
  obtain ⟨⟨r0, r1, r2, r3, r4⟩, ⟨fr0, fr1, fr2, fr3, fr4⟩⟩ := row5 hr0
  obtain ⟨⟨n0, n1, n2, n3, n4⟩, ⟨fn0, fn1, fn2, fn3, fn4⟩⟩ := row5 hn0
  clear hW0 hv0 hr0 hn0 hap
  by_cases hok : (allS q).2 = true ∧ 0 ≤ (allS q).1 ∧ (allS q).1 < l
  · obtain ⟨o1, o2, o3⟩ := hok
    obtain ⟨kk, hkk⟩ : ∃ kk : Nat, (allS q).1 = (kk : Int) := ⟨_, (Int.toNat_of_nonneg o2).symm⟩
    have hkl : kk < l := by omega
    have hkv : kk < v.l.length := by rw [HLN.out]; exact hkl
    obtain ⟨x, hx⟩ : ∃ x, v.l[kk] = x := ⟨_, rfl⟩
    have hst : stepV v q = some x := by
      unfold stepV
      rw [if_neg (by have := HK.out; omega), if_pos HK.out, ← hx]
      have h1 : allS q = ((kk : Int), true) := by rw [← hkk, ← o1]
      have h2 := idx_yes (v := v) h1 (by omega) (by omega) (by rw [Int.toNat_natCast]; exact hkv)
      rw [h2]
      simp only [Int.toNat_natCast]
    have HLD := Lib.hid (show LV false (q :: r) v = LV false r x by rw [LV_step false q r v (fun e => HNS.out ⟨e.1, e.2.2⟩), hst]; rfl)
    obtain ⟨hzx, -⟩ := step_down (sz_down 4611686018427387904) HNM.out hst HZ.out
    obtain ⟨hcx, -⟩ := step_down (Q := fun z => cnt z ≤ cnt v) (cnt_down _) HNM.out hst (Nat.le_refl _)
    obtain ⟨g, o, rfl, _, hg, hr⟩ := HL.out (by omega)
    obtain ⟨xcs, hxc, hxv⟩ := RdAL.at_ _ o hr kk hkv
    rw [hx] at hxv
    obtain ⟨pv', hcut, hpv'⟩ := HCUT.out
    have HCT := Lib.hid hcut
    have HFI := Lib.hid (fun (W : World) (hW : Below w.heap.size w W) => HIH.out x xcs pv' W (Nat.le_trans hhi hW.size) (hxv.below hW hhi (Nat.le_refl _)) hzx (Nat.le_trans hcx HCN.out) (hpv'.below hW hW.size) (fun z hz => HPS.out z (by simp [hz])))
    obtain ⟨xA, xc, xB, xd, rfl, -⟩ := hxv.cells
    have HGW := Lib.hid (Nat.lt_of_lt_of_le hg hhi)
    have HGL0 := Lib.hid (show g < W0.heap.size by have := HGW.out; rw [HS0.out]; omega)
    have HA00 := Lib.hid ((HB0.out.cell (p := ⟨g, o + kk * 5, none⟩) HGW.out).trans (hxc 0 _ rfl))
    have HA01 := Lib.hid ((HB0.out.cell (p := ⟨g, o + kk * 5 + 1, none⟩) HGW.out).trans (hxc 1 _ rfl))
    have HA02 := Lib.hid ((HB0.out.cell (p := ⟨g, o + kk * 5 + 2, none⟩) HGW.out).trans (hxc 2 _ rfl))
    have HA03 := Lib.hid ((HB0.out.cell (p := ⟨g, o + kk * 5 + 3, none⟩) HGW.out).trans (hxc 3 _ rfl))
    have HA04 := Lib.hid ((HB0.out.cell (p := ⟨g, o + kk * 5 + 4, none⟩) HGW.out).trans (hxc 4 _ rfl))
    rw [hkk, o1] at HALL
    have z1 : decide ((kk : Int) < 0) = false := decide_eq_false (by omega)
    have z2 : decide ((l : Int) ≤ (kk : Int)) = false := decide_eq_false (by omega)
    have z2b : decide (l ≤ kk) = false := decide_eq_false (by omega)
    have k0 : (0 : Int) ≤ (kk : Int) := by omega
    have k1 : (kk : Int) < (l : Int) := by omega
    have k2 : ((kk : Int)).toNat = kk := by omega
    clear o1 o2 o3 hkk hkv hst hzx hcx hg hr hxc hxv hx hcut hpv'
    generalize x.k = xk at *
    generalize x.n = xn at *
    generalize strOf x.s = xs at *
    generalize x.l.length = xl at *
    generalize x.ms.length = xm at *
    go_enter Tryz.func20, Tryz.ntmps20
    go_wp2_with fail
    refine (HALL.out _).mono ?_
    rintro e wz ⟨rfl, rfl⟩
    go_wp2_with fail
    try rw [← HW0.out]
    clear v0 fv0 v1 fv1 v2 fv2 v3 fv3 v4 fv4 r0 fr0 r1 fr1 r2 fr2 r3 fr3 r4 fr4 n0 fn0 n1 fn1 n2 fn2 n3 fn3 n4 fn4
    clear hap3
    obtain ⟨W2, hW2⟩ : ∃ W2, W2 = W0 := ⟨_, rfl⟩
    have HR2 := Lib.hid (show W2.heap[w.heap.size + 1]? = some (.cells #[.int .i64 0, .int .i64 0, .string ⟨#[]⟩, .slice none 0 0, .slice none 0 0] 25 (0, 0)) by rw [hW2]; exact HR0.out)
    have HV2 := Lib.hid (show W2.heap[w.heap.size]? = some (.cells #[.int .i64 5, .int .i64 n, .string S, .slice (some ⟨g, o, none⟩) l c0, .slice A20 m c20] 25 (0, 0)) by rw [hW2]; exact HV0.out)
    have HBW := Lib.hid (show Below w.heap.size w W2 by rw [hW2]; exact HB0.out)
    have HW2S := Lib.hid (show w.heap.size + 3 ≤ W2.heap.size by rw [hW2]; exact Nat.le_of_eq HS0.out.symm)
    have HGL := Lib.hid (show g < W2.heap.size by rw [hW2]; exact HGL0.out)
    have HA0 := Lib.hid (show W2.cell? ⟨g, o + kk * 5, none⟩ = some (.int .i64 xk) by rw [hW2]; exact HA00.out)
    have HA1 := Lib.hid (show W2.cell? ⟨g, o + kk * 5 + 1, none⟩ = some (.int .i64 xn) by rw [hW2]; exact HA01.out)
    have HA2 := Lib.hid (show W2.cell? ⟨g, o + kk * 5 + 2, none⟩ = some (.string xs) by rw [hW2]; exact HA02.out)
    have HA3 := Lib.hid (show W2.cell? ⟨g, o + kk * 5 + 3, none⟩ = some (.slice xA xl xc) by rw [hW2]; exact HA03.out)
    have HA4 := Lib.hid (show W2.cell? ⟨g, o + kk * 5 + 4, none⟩ = some (.slice xB xm xd) by rw [hW2]; exact HA04.out)
    rw [← hW2]
    clear hW2
    refine wp_region_held_drew (S := fun W' => W'.heap[w.heap.size]? = some (.cells #[.int .i64 5, .int .i64 n, .string S, .slice (some ⟨g, o, none⟩) l c0, .slice A20 m c20] 25 (0, 0)) ∧ W'.cell? ⟨g, o + kk * 5, none⟩ = some (.int .i64 xk) ∧ W'.cell? ⟨g, o + kk * 5 + 1, none⟩ = some (.int .i64 xn) ∧ W'.cell? ⟨g, o + kk * 5 + 2, none⟩ = some (.string xs) ∧ W'.cell? ⟨g, o + kk * 5 + 3, none⟩ = some (.slice xA xl xc) ∧ W'.cell? ⟨g, o + kk * 5 + 4, none⟩ = some (.slice xB xm xd)) (by kernel_rfl) (⟨HV2.out, HA0.out, HA1.out, HA2.out, HA3.out, HA4.out⟩) (fun hHeld => ?_)
    refine wpAnyH_take (i := 0) (oi := { dst := some 114, op := Op.fieldAddr 25 (Operand.tmp 3) 3, type := 0, pos := "ref.go:97", after := #[], guard := none }) (v := ?_) rfl (by kernel_rfl) (by kernel_rfl) (by kernel_rfl) (fun _ _ _ h => h) (Or.inl ⟨by rfl, ?_⟩) hHeld ?_
    rotate_left
    · intro w hSw; (try dsimp only at hSw); go_simp; with_reducible rfl
    try simp only [Act.put, List.setIfInBounds_toArray, List.set_cons_zero, List.set_cons_succ]
    refine wpAnyH_take (i := 1) (oi := { dst := some 115, op := Op.load 22 (Operand.tmp 114), type := 22, pos := "ref.go:97", after := #[{ on := 0, ground := Ground.data }], guard := none }) (v := ?_) rfl (by kernel_rfl) (by kernel_rfl) (by kernel_rfl) (fun _ _ _ h => h) (Or.inl ⟨by rfl, ?_⟩) hHeld ?_
    rotate_left
    · intro w hSw; (try dsimp only at hSw); obtain ⟨sv, e0, e1, e2, e3, e4⟩ := hSw; obtain ⟨⟨p0, p1, p2, p3, p4⟩, -⟩ := row5 sv; clear sv; go_simp; with_reducible rfl
    try simp only [Act.put, List.setIfInBounds_toArray, List.set_cons_zero, List.set_cons_succ]
    refine wpAnyH_take (i := 2) (oi := { dst := some 116, op := Op.move (Operand.tmp 15), type := 2, pos := "ref.go:97", after := #[], guard := none }) (v := ?_) rfl (by kernel_rfl) (by kernel_rfl) (by kernel_rfl) (fun _ _ _ h => h) (Or.inl ⟨by rfl, ?_⟩) hHeld ?_
    rotate_left
    · intro w hSw; (try dsimp only at hSw); go_simp; with_reducible rfl
    try simp only [Act.put, List.setIfInBounds_toArray, List.set_cons_zero, List.set_cons_succ]
    refine wpAnyH_take (i := 3) (oi := { dst := some 117, op := Op.indexAddr 22 (Operand.tmp 115) (Operand.tmp 116), type := 0, pos := "ref.go:97", after := #[{ on := 1, ground := Ground.data }, { on := 2, ground := Ground.data }], guard := none }) (v := ?_) rfl (by kernel_rfl) (by kernel_rfl) (by kernel_rfl) (fun _ _ _ h => h) (Or.inl ⟨by rfl, ?_⟩) hHeld ?_
    rotate_left
    · intro w hSw; (try dsimp only at hSw); go_simp; with_reducible rfl
    try simp only [Act.put, List.setIfInBounds_toArray, List.set_cons_zero, List.set_cons_succ]
    refine wpAnyH_take (i := 4) (oi := { dst := some 118, op := Op.load 25 (Operand.tmp 117), type := 25, pos := "ref.go:97", after := #[{ on := 3, ground := Ground.data }], guard := none }) (v := ?_) rfl (by kernel_rfl) (by kernel_rfl) (by kernel_rfl) (fun _ _ _ h => h) (Or.inl ⟨by rfl, ?_⟩) hHeld ?_
    rotate_left
    · intro w hSw; (try dsimp only at hSw); obtain ⟨sv, e0, e1, e2, e3, e4⟩ := hSw; clear sv; go_simp; with_reducible rfl
    try simp only [Act.put, List.setIfInBounds_toArray, List.set_cons_zero, List.set_cons_succ]
    refine wpAnyH_take (i := 5) (oi := { dst := some 119, op := Op.move (Operand.tmp 1), type := 40, pos := "ref.go:97", after := #[], guard := none }) (v := ?_) rfl (by kernel_rfl) (by kernel_rfl) (by kernel_rfl) (fun _ _ _ h => h) (Or.inl ⟨by rfl, ?_⟩) hHeld ?_
    rotate_left
    · intro w hSw; (try dsimp only at hSw); go_simp; with_reducible rfl
    try simp only [Act.put, List.setIfInBounds_toArray, List.set_cons_zero, List.set_cons_succ]
    refine wpAnyH_take (i := 6) (oi := { dst := some 120, op := Op.slice 40 (Operand.tmp 119) (some (Operand.const (Value.int IntKind.i64 1))) none none, type := 40, pos := "ref.go:97", after := #[{ on := 5, ground := Ground.data }], guard := none }) (v := ?_) rfl (by kernel_rfl) (by kernel_rfl) (by kernel_rfl) (fun _ _ _ h => h) (Or.inl ⟨by rfl, ?_⟩) hHeld ?_
    rotate_left
    · intro w hSw; (try dsimp only at hSw); have hcz := HCT.out; go_simp; with_reducible rfl
    try simp only [Act.put, List.setIfInBounds_toArray, List.set_cons_zero, List.set_cons_succ]
    refine wpAnyH_take (i := 7) (oi := { dst := some 121, op := Op.move (Operand.tmp 2), type := 4, pos := "ref.go:97", after := #[], guard := none }) (v := ?_) rfl (by kernel_rfl) (by kernel_rfl) (by kernel_rfl) (fun _ _ _ h => h) (Or.inl ⟨by rfl, ?_⟩) hHeld ?_
    rotate_left
    · intro w hSw; (try dsimp only at hSw); go_simp; with_reducible rfl
    try simp only [Act.put, List.setIfInBounds_toArray, List.set_cons_zero, List.set_cons_succ]
    refine wpAnyH_ready (rs := [8]) (by kernel_rfl) (by simp) ?_
    refine AllReadyH.cons (o := { dst := some 122, op := Op.call { callee := Callee.value (Operand.func 20), args := #[Operand.tmp 118, Operand.tmp 120, Operand.tmp 121], argTypes := #[25, 40, 4] }, type := 31, pos := "ref.go:97", after := #[{ on := 4, ground := Ground.data }, { on := 6, ground := Ground.data }, { on := 7, ground := Ground.data }], guard := none }) rfl (fun K hK => ?_) AllReadyH.nil
    go_simp
    go_at_call 20
    refine (HFI.out _ HBW.out.drew).mono ?_
    rintro e w3 ⟨⟨cb, rfl, hcb⟩, hb3⟩
    have HB3 := Lib.hid (show Below w.heap.size w w3 from HBW.out.trans ((Below.drew (Below.refl W2.heap.size W2)).trans hb3 |>.mono HBW.out.size))
    have HC3 := Lib.hid (show Below W2.heap.size W2 w3 from (Below.drew (Below.refl W2.heap.size W2)).trans hb3)
    obtain ⟨z, hz⟩ : ∃ z, (LV false r x).getD V0 = z := ⟨_, rfl⟩
    rw [hz] at hcb
    have HZZ := Lib.hid hz
    have HCB := Lib.hid (show RdT w3 hi W2.heap.size w3.heap.size z cb from hcb)
    obtain ⟨zA, zc, zB, zd, ez⟩ := hcb.cells
    subst ez
    have hr3 := (hb3.block (w.heap.size + 1) (by show w.heap.size + 1 < W2.heap.size; have := HW2S.out; omega)).trans HR2.out
    have HR3 := Lib.hid hr3
    clear hcb hb3 hr3 hz
    generalize z.k = zk at *
    generalize z.n = zn at *
    generalize strOf z.s = zs at *
    generalize z.l.length = zl at *
    generalize z.ms.length = zm at *
    obtain ⟨wy, hwy⟩ : ∃ y, whyV (LV false r x) = y := ⟨_, rfl⟩
    rw [hwy]
    have HWY := Lib.hid hwy
    clear hwy
    refine hK.out _ _ (⟨(HC3.out.block w.heap.size (by have := HW2S.out; omega)).trans HV2.out, (HC3.out.cell (p := ⟨g, o + kk * 5, none⟩) HGL.out).trans HA0.out, (HC3.out.cell (p := ⟨g, o + kk * 5 + 1, none⟩) HGL.out).trans HA1.out, (HC3.out.cell (p := ⟨g, o + kk * 5 + 2, none⟩) HGL.out).trans HA2.out, (HC3.out.cell (p := ⟨g, o + kk * 5 + 3, none⟩) HGL.out).trans HA3.out, (HC3.out.cell (p := ⟨g, o + kk * 5 + 4, none⟩) HGL.out).trans HA4.out⟩) (fun hHeld => ?_)
    clear hK K
    try simp only [Act.put, List.setIfInBounds_toArray, List.set_cons_zero, List.set_cons_succ]
    refine wpAnyH_take (i := 9) (oi := { dst := some 123, op := Op.extract (Operand.tmp 122) 0, type := 25, pos := "ref.go:97", after := #[{ on := 8, ground := Ground.data }], guard := none }) (v := ?_) rfl (by kernel_rfl) (by kernel_rfl) (by kernel_rfl) (fun _ _ _ h => h) (Or.inl ⟨by rfl, ?_⟩) hHeld ?_
    rotate_left
    · intro w hSw; (try dsimp only at hSw); go_simp; with_reducible rfl
    try simp only [Act.put, List.setIfInBounds_toArray, List.set_cons_zero, List.set_cons_succ]
    refine wpAnyH_take (i := 10) (oi := { dst := some 124, op := Op.extract (Operand.tmp 122) 1, type := 3, pos := "ref.go:97", after := #[{ on := 8, ground := Ground.data }], guard := none }) (v := ?_) rfl (by kernel_rfl) (by kernel_rfl) (by kernel_rfl) (fun _ _ _ h => h) (Or.inl ⟨by rfl, ?_⟩) hHeld ?_
    rotate_left
    · intro w hSw; (try dsimp only at hSw); go_simp; with_reducible rfl
    try simp only [Act.put, List.setIfInBounds_toArray, List.set_cons_zero, List.set_cons_succ]
    refine wpAnyH_ready (rs := [11]) (by kernel_rfl) (by simp) ?_
    refine AllReadyH.cons (o := { dst := none, op := Op.store 25 (Operand.tmp 6) (Operand.tmp 123), type := 0, pos := "ref.go:97", after := #[{ on := 9, ground := Ground.data }, { on := 8, ground := Ground.chain }, { on := 0, ground := Ground.phase }, { on := 1, ground := Ground.phase }, { on := 2, ground := Ground.phase }, { on := 3, ground := Ground.phase }, { on := 4, ground := Ground.phase }, { on := 5, ground := Ground.phase }, { on := 6, ground := Ground.phase }, { on := 7, ground := Ground.phase }, { on := 8, ground := Ground.phase }, { on := 9, ground := Ground.phase }, { on := 10, ground := Ground.phase }], guard := none }) rfl (fun K hK => ?_) AllReadyH.nil
    obtain ⟨⟨r0, r1, r2, r3, r4⟩, ⟨f0, f1, f2, f3, f4⟩⟩ := row5 HR3.out
    go_simp
    clear r0 r1 r2 r3 r4 f0 f1 f2 f3 f4
    obtain ⟨W4, hW4⟩ : ∃ W4, W4 = (((((w3.setCell ⟨w.heap.size + 1, 0, none⟩ (.int .i64 zk)).setCell ⟨w.heap.size + 1, 1, none⟩ (.int .i64 zn)).setCell ⟨w.heap.size + 1, 2, none⟩ (.string zs)).setCell ⟨w.heap.size + 1, 3, none⟩ (.slice zA zl zc)).setCell ⟨w.heap.size + 1, 4, none⟩ (.slice zB zm zd)) := ⟨_, rfl⟩
    have HR4 := Lib.hid (show W4.heap[w.heap.size + 1]? = some (.cells #[.int .i64 zk, .int .i64 zn, .string zs, .slice zA zl zc, .slice zB zm zd] 25 (0, 0)) by rw [hW4]; exact st5_row HR3.out _ _ _ _ _)
    have HB4 := Lib.hid (show Below w.heap.size w W4 by rw [hW4]; exact st5_below HB3.out (by omega) _ _ _ _ _)
    have HO4 := Lib.hid (fun k (hk : k ≠ w.heap.size + 1) => show W4.heap[k]? = w3.heap[k]? by rw [hW4]; exact st5_other hk _ _ _ _ _)
    have HS4 := Lib.hid (show W4.heap.size = w3.heap.size by rw [hW4]; exact st5_size (w := w3) (b := w.heap.size + 1) _ _ _ _ _)
    rw [← hW4]
    clear hW4
    refine hK.out _ _ (⟨(HO4.out _ (by omega)).trans ((HC3.out.block w.heap.size (by have := HW2S.out; omega)).trans HV2.out), (cell_of_blk (HO4.out _ (by show g ≠ _; have := HGW.out; omega))).trans ((HC3.out.cell (p := ⟨g, o + kk * 5, none⟩) HGL.out).trans HA0.out), (cell_of_blk (HO4.out _ (by show g ≠ _; have := HGW.out; omega))).trans ((HC3.out.cell (p := ⟨g, o + kk * 5 + 1, none⟩) HGL.out).trans HA1.out), (cell_of_blk (HO4.out _ (by show g ≠ _; have := HGW.out; omega))).trans ((HC3.out.cell (p := ⟨g, o + kk * 5 + 2, none⟩) HGL.out).trans HA2.out), (cell_of_blk (HO4.out _ (by show g ≠ _; have := HGW.out; omega))).trans ((HC3.out.cell (p := ⟨g, o + kk * 5 + 3, none⟩) HGL.out).trans HA3.out), (cell_of_blk (HO4.out _ (by show g ≠ _; have := HGW.out; omega))).trans ((HC3.out.cell (p := ⟨g, o + kk * 5 + 4, none⟩) HGL.out).trans HA4.out)⟩) (fun hHeld => ?_)
    clear hK K
    try simp only [Act.put, List.setIfInBounds_toArray, List.set_cons_zero, List.set_cons_succ]
    refine wpAnyH_take (i := 12) (oi := { dst := some 7, op := Op.assign (Operand.tmp 124), type := 3, pos := "ref.go:97", after := #[{ on := 10, ground := Ground.data }, { on := 11, ground := Ground.chain }, { on := 0, ground := Ground.phase }, { on := 1, ground := Ground.phase }, { on := 2, ground := Ground.phase }, { on := 3, ground := Ground.phase }, { on := 4, ground := Ground.phase }, { on := 5, ground := Ground.phase }, { on := 6, ground := Ground.phase }, { on := 7, ground := Ground.phase }, { on := 8, ground := Ground.phase }, { on := 9, ground := Ground.phase }, { on := 10, ground := Ground.phase }, { on := 11, ground := Ground.phase }], guard := none }) (v := ?_) rfl (by kernel_rfl) (by kernel_rfl) (by kernel_rfl) (fun _ _ _ h => h) (Or.inl ⟨by rfl, ?_⟩) hHeld ?_
    rotate_left
    · intro w hSw; (try dsimp only at hSw); go_simp; with_reducible rfl
    try simp only [Act.put, List.setIfInBounds_toArray, List.set_cons_zero, List.set_cons_succ]
    refine wpAnyH_done (by kernel_rfl) ?_ _
    clear hHeld
    go_wp2
    refine bodyPost_ret (res5b rfl rfl rfl HR4.out) rfl ?_
    rw [HLD.out]
    refine ⟨⟨[.int .i64 zk, .int .i64 zn, .string zs, .slice zA zl zc, .slice zB zm zd], by rw [HWY.out]; rfl, ?_⟩, HB4.out⟩
    rw [HZZ.out]
    exact HCB.out.keep (fun p hp => cell_of_blk (HO4.out _ (by have := HW2S.out; omega))) (by have := HW2S.out; omega) (Nat.le_of_eq HS4.out.symm)
  · have HLD := Lib.hid (show LV false (q :: r) v = none by
      rw [LV_step false q r v (fun e => HNS.out ⟨e.1, e.2.2⟩)]
      unfold stepV
      rw [if_neg (by have := HK.out; omega), if_pos HK.out, idx_no (v := v) (p := q) (n := (allS q).1) (b := (allS q).2) rfl (by rw [HLN.out]; exact hok)]
      rfl)
    obtain ⟨an, han⟩ : ∃ n, (allS q).1 = n := ⟨_, rfl⟩
    obtain ⟨ab, hab⟩ : ∃ b, (allS q).2 = b := ⟨_, rfl⟩
    rw [han, hab] at hok
    rw [han, hab] at HALL
    clear han hab HL
    cases ab with
    | false =>
      clear hok
      go_enter Tryz.func20, Tryz.ntmps20
      go_wp2_with fail
      refine (HALL.out _).mono ?_
      rintro e wz ⟨rfl, rfl⟩
      go_wp2
      rw [← HW0.out]
      refine bodyPost_ret (res5b rfl rfl rfl HR0.out) rfl ?_
      rw [HLD.out]
      exact ⟨⟨[.int .i64 0, .int .i64 0, .string ⟨#[]⟩, .slice none 0 0, .slice none 0 0], rfl, .inl (rd_zero _ _ _)⟩, HB0.out⟩
    | true =>
      by_cases h1 : an < 0
      · have z1 : decide (an < 0) = true := decide_eq_true h1
        clear hok
        go_enter Tryz.func20, Tryz.ntmps20
        go_wp2_with fail
        refine (HALL.out _).mono ?_
        rintro e wz ⟨rfl, rfl⟩
        go_wp2
        rw [← HW0.out]
        refine bodyPost_ret (res5b rfl rfl rfl HR0.out) rfl ?_
        rw [HLD.out]
        exact ⟨⟨[.int .i64 0, .int .i64 0, .string ⟨#[]⟩, .slice none 0 0, .slice none 0 0], rfl, .inl (rd_zero _ _ _)⟩, HB0.out⟩
      · have z1 : decide (an < 0) = false := decide_eq_false h1
        have z2 : decide ((l : Int) ≤ an) = true := decide_eq_true (by have h2 : ¬ an < l := fun e => hok ⟨rfl, by omega, e⟩; omega)
        clear hok h1
        go_enter Tryz.func20, Tryz.ntmps20
        go_wp2_with fail
        refine (HALL.out _).mono ?_
        rintro e wz ⟨rfl, rfl⟩
        go_wp2
        rw [← HW0.out]
        refine bodyPost_ret (res5b rfl rfl rfl HR0.out) rfl ?_
        rw [HLD.out]
        exact ⟨⟨[.int .i64 0, .int .i64 0, .string ⟨#[]⟩, .slice none 0 0, .slice none 0 0], rfl, .inl (rd_zero _ _ _)⟩, HB0.out⟩
set_option maxRecDepth 100000 in
set_option maxHeartbeats 1000000 in
theorem Lead_idx1 (hi : Nat) (q : List UInt8) (r : List (List UInt8)) (ih : LdCon true hi r) : LdK true hi (q :: r) fun v => v.k = 5 ∧ q ≠ [42] := by
  have HIH := Lib.hid ih
  intro v cs pv w hhi hv hz hcn hpv hps hk
  have HCUT := Lib.hid hpv.cut
  have HPS := Lib.hid hps
  have HCN := Lib.hid hcn
  have HZ := Lib.hid hz
  have hnm := nm_of v cs hv
  have HNM := Lib.hid hnm
  have HALL := Lib.hid (fun (W : World) => rAll_any (strOf q) W (by rw [strOf_size]; exact hps q (by simp)))
  rw [strOf_data, ← allS_eq] at HALL
  obtain ⟨A0, c0, A20, c20, rfl, -, hL, -⟩ := hv.cells
  have HL := Lib.hid hL
  obtain ⟨Ap, cp, rfl, -, hpc⟩ := hpv
  obtain ⟨ad, rfl, hadb, hpx⟩ := hpc (by simp)
  have hap := hpx 0 _ (strC_at (q :: r) 0 (by simp))
  rw [add_zero_] at hap
  obtain ⟨X, hX⟩ : ∃ X, strOf q = X := ⟨_, rfl⟩
  rw [show (q :: r)[0] = q from rfl, hX] at hap
  have HXQ := Lib.hid hX
  obtain ⟨l, hl⟩ : ∃ l, v.l.length = l := ⟨_, rfl⟩
  have HLN := Lib.hid hl
  have HADL0 := Lib.hid hadb
  obtain ⟨nn, hnn⟩ : ∃ nn, (q :: r).length = nn := ⟨_, rfl⟩
  have hn1 : 0 < nn := by rw [← hnn]; simp
  have b1 : (0 : Int) < (nn : Int) := by omega
  have t1 : ((nn : Int) == 0) = false := beq_eq_false_iff_ne.2 (by omega)
  have t2 : decide ((nn : Int) = 0) = false := decide_eq_false (by omega)
  rw [hnn] at HCUT ⊢
  have HNS := Lib.hid (show ¬ (true = true ∧ q = [42]) from fun e => hk.2 e.2)
  have xq : (X.toList == [42]) = false := by rw [← hX, beq_eq_false_iff_ne, strOf_list]; exact hk.2
  have hk := hk.1
  rw [hX] at HALL
  have HK := Lib.hid hk
  rw [hk, hl]
  clear hv hz hcn hps hnm hL hpc hpx hadb hnn hk hl hX
  generalize v.n = n at *
  generalize strOf v.s = S at *
  generalize v.ms.length = m at *
  clear HXQ
  obtain ⟨W0, hW0⟩ : ∃ W0, W0 = (((w.alloc (.cells #[.int .i64 5, .int .i64 n, .string S, .slice A0 l c0, .slice A20 m c20] 25)).alloc (.cells #[.int .i64 0, .int .i64 0, .string ⟨#[]⟩, .slice none 0 0, .slice none 0 0] 25)).alloc (.cells #[.int .i64 0, .int .i64 0, .string ⟨#[]⟩, .slice none 0 0, .slice none 0 0] 25)) := ⟨_, rfl⟩
  have HB0 := Lib.hid (show Below w.heap.size w W0 by rw [hW0]; exact (((Below.refl _ _).alloc (Nat.le_refl _) _).alloc (by simp; try omega) _).alloc (by simp; try omega) _)
  have HS0 := Lib.hid (show W0.heap.size = w.heap.size + 3 by rw [hW0, szAl, szAl, szAl])
  have hv0 : W0.heap[w.heap.size]? = some (.cells #[.int .i64 5, .int .i64 n, .string S, .slice A0 l c0, .slice A20 m c20] 25 (0, 0)) := by rw [hW0]; exact heapOld (heapOld ((show (w.alloc (.cells #[.int .i64 5, .int .i64 n, .string S, .slice A0 l c0, .slice A20 m c20] 25)).heap[w.heap.size]? = some (.cells #[.int .i64 5, .int .i64 n, .string S, .slice A0 l c0, .slice A20 m c20] 25 (0, 0)) from by rw [show w.heap.size = w.heap.size by simp]; exact heapNew _ _)) _) _
  have HV0 := Lib.hid hv0
  have hr0 : W0.heap[w.heap.size + 1]? = some (.cells #[.int .i64 0, .int .i64 0, .string ⟨#[]⟩, .slice none 0 0, .slice none 0 0] 25 (0, 0)) := by rw [hW0]; exact heapOld ((show ((w.alloc (.cells #[.int .i64 5, .int .i64 n, .string S, .slice A0 l c0, .slice A20 m c20] 25)).alloc (.cells #[.int .i64 0, .int .i64 0, .string ⟨#[]⟩, .slice none 0 0, .slice none 0 0] 25)).heap[w.heap.size + 1]? = some (.cells #[.int .i64 0, .int .i64 0, .string ⟨#[]⟩, .slice none 0 0, .slice none 0 0] 25 (0, 0)) from by rw [show w.heap.size + 1 = (w.alloc (.cells #[.int .i64 5, .int .i64 n, .string S, .slice A0 l c0, .slice A20 m c20] 25)).heap.size by simp]; exact heapNew _ _)) _
  have HR0 := Lib.hid hr0
  have hn0 : W0.heap[w.heap.size + 2]? = some (.cells #[.int .i64 0, .int .i64 0, .string ⟨#[]⟩, .slice none 0 0, .slice none 0 0] 25 (0, 0)) := by rw [hW0]; exact (show (((w.alloc (.cells #[.int .i64 5, .int .i64 n, .string S, .slice A0 l c0, .slice A20 m c20] 25)).alloc (.cells #[.int .i64 0, .int .i64 0, .string ⟨#[]⟩, .slice none 0 0, .slice none 0 0] 25)).alloc (.cells #[.int .i64 0, .int .i64 0, .string ⟨#[]⟩, .slice none 0 0, .slice none 0 0] 25)).heap[w.heap.size + 2]? = some (.cells #[.int .i64 0, .int .i64 0, .string ⟨#[]⟩, .slice none 0 0, .slice none 0 0] 25 (0, 0)) from by rw [show w.heap.size + 2 = ((w.alloc (.cells #[.int .i64 5, .int .i64 n, .string S, .slice A0 l c0, .slice A20 m c20] 25)).alloc (.cells #[.int .i64 0, .int .i64 0, .string ⟨#[]⟩, .slice none 0 0, .slice none 0 0] 25)).heap.size by simp]; exact heapNew _ _)
  have HN0 := Lib.hid hn0
  have HW0 := Lib.hid hW0
  have HAP := Lib.hid (show W0.cell? ad = some (.string X) from (HB0.out.cell HADL0.out).trans hap)
  have HADL := Lib.hid (show ad.block < W0.heap.size by have := HADL0.out; rw [HS0.out]; omega)
  have hap3 := HAP.out
  rw [hW0] at hap3
  rw [hW0] at hv0 hr0 hn0
  obtain ⟨⟨v0, v1, v2, v3, v4⟩, ⟨fv0, fv1, fv2, fv3, fv4⟩⟩ := row5 hv0
  obtain ⟨⟨r0, r1, r2, r3, r4⟩, ⟨fr0, fr1, fr2, fr3, fr4⟩⟩ := row5 hr0
  obtain ⟨⟨n0, n1, n2, n3, n4⟩, ⟨fn0, fn1, fn2, fn3, fn4⟩⟩ := row5 hn0
  clear hW0 hv0 hr0 hn0 hap
  by_cases hok : (allS q).2 = true ∧ 0 ≤ (allS q).1 ∧ (allS q).1 < l
  · obtain ⟨o1, o2, o3⟩ := hok
    obtain ⟨kk, hkk⟩ : ∃ kk : Nat, (allS q).1 = (kk : Int) := ⟨_, (Int.toNat_of_nonneg o2).symm⟩
    have hkl : kk < l := by omega
    have hkv : kk < v.l.length := by rw [HLN.out]; exact hkl
    obtain ⟨x, hx⟩ : ∃ x, v.l[kk] = x := ⟨_, rfl⟩
    have hst : stepV v q = some x := by
      unfold stepV
      rw [if_neg (by have := HK.out; omega), if_pos HK.out, ← hx]
      have h1 : allS q = ((kk : Int), true) := by rw [← hkk, ← o1]
      have h2 := idx_yes (v := v) h1 (by omega) (by omega) (by rw [Int.toNat_natCast]; exact hkv)
      rw [h2]
      simp only [Int.toNat_natCast]
    have HLD := Lib.hid (show LV true (q :: r) v = LV true r x by rw [LV_step true q r v (fun e => HNS.out ⟨e.1, e.2.2⟩), hst]; rfl)
    obtain ⟨hzx, -⟩ := step_down (sz_down 4611686018427387904) HNM.out hst HZ.out
    obtain ⟨hcx, -⟩ := step_down (Q := fun z => cnt z ≤ cnt v) (cnt_down _) HNM.out hst (Nat.le_refl _)
    obtain ⟨g, o, rfl, _, hg, hr⟩ := HL.out (by omega)
    obtain ⟨xcs, hxc, hxv⟩ := RdAL.at_ _ o hr kk hkv
    rw [hx] at hxv
    obtain ⟨pv', hcut, hpv'⟩ := HCUT.out
    have HCT := Lib.hid hcut
    have HFI := Lib.hid (fun (W : World) (hW : Below w.heap.size w W) => HIH.out x xcs pv' W (Nat.le_trans hhi hW.size) (hxv.below hW hhi (Nat.le_refl _)) hzx (Nat.le_trans hcx HCN.out) (hpv'.below hW hW.size) (fun z hz => HPS.out z (by simp [hz])))
    obtain ⟨xA, xc, xB, xd, rfl, -⟩ := hxv.cells
    have HGW := Lib.hid (Nat.lt_of_lt_of_le hg hhi)
    have HGL0 := Lib.hid (show g < W0.heap.size by have := HGW.out; rw [HS0.out]; omega)
    have HA00 := Lib.hid ((HB0.out.cell (p := ⟨g, o + kk * 5, none⟩) HGW.out).trans (hxc 0 _ rfl))
    have HA01 := Lib.hid ((HB0.out.cell (p := ⟨g, o + kk * 5 + 1, none⟩) HGW.out).trans (hxc 1 _ rfl))
    have HA02 := Lib.hid ((HB0.out.cell (p := ⟨g, o + kk * 5 + 2, none⟩) HGW.out).trans (hxc 2 _ rfl))
    have HA03 := Lib.hid ((HB0.out.cell (p := ⟨g, o + kk * 5 + 3, none⟩) HGW.out).trans (hxc 3 _ rfl))
    have HA04 := Lib.hid ((HB0.out.cell (p := ⟨g, o + kk * 5 + 4, none⟩) HGW.out).trans (hxc 4 _ rfl))
    rw [hkk, o1] at HALL
    have z1 : decide ((kk : Int) < 0) = false := decide_eq_false (by omega)
    have z2 : decide ((l : Int) ≤ (kk : Int)) = false := decide_eq_false (by omega)
    have z2b : decide (l ≤ kk) = false := decide_eq_false (by omega)
    have k0 : (0 : Int) ≤ (kk : Int) := by omega
    have k1 : (kk : Int) < (l : Int) := by omega
    have k2 : ((kk : Int)).toNat = kk := by omega
    clear o1 o2 o3 hkk hkv hst hzx hcx hg hr hxc hxv hx hcut hpv'
    generalize x.k = xk at *
    generalize x.n = xn at *
    generalize strOf x.s = xs at *
    generalize x.l.length = xl at *
    generalize x.ms.length = xm at *
    go_enter Tryz.func20, Tryz.ntmps20
    go_wp2_with fail
    refine (HALL.out _).mono ?_
    rintro e wz ⟨rfl, rfl⟩
    go_wp2_with fail
    try rw [← HW0.out]
    clear v0 fv0 v1 fv1 v2 fv2 v3 fv3 v4 fv4 r0 fr0 r1 fr1 r2 fr2 r3 fr3 r4 fr4 n0 fn0 n1 fn1 n2 fn2 n3 fn3 n4 fn4
    clear hap3
    obtain ⟨W2, hW2⟩ : ∃ W2, W2 = W0 := ⟨_, rfl⟩
    have HR2 := Lib.hid (show W2.heap[w.heap.size + 1]? = some (.cells #[.int .i64 0, .int .i64 0, .string ⟨#[]⟩, .slice none 0 0, .slice none 0 0] 25 (0, 0)) by rw [hW2]; exact HR0.out)
    have HV2 := Lib.hid (show W2.heap[w.heap.size]? = some (.cells #[.int .i64 5, .int .i64 n, .string S, .slice (some ⟨g, o, none⟩) l c0, .slice A20 m c20] 25 (0, 0)) by rw [hW2]; exact HV0.out)
    have HBW := Lib.hid (show Below w.heap.size w W2 by rw [hW2]; exact HB0.out)
    have HW2S := Lib.hid (show w.heap.size + 3 ≤ W2.heap.size by rw [hW2]; exact Nat.le_of_eq HS0.out.symm)
    have HGL := Lib.hid (show g < W2.heap.size by rw [hW2]; exact HGL0.out)
    have HA0 := Lib.hid (show W2.cell? ⟨g, o + kk * 5, none⟩ = some (.int .i64 xk) by rw [hW2]; exact HA00.out)
    have HA1 := Lib.hid (show W2.cell? ⟨g, o + kk * 5 + 1, none⟩ = some (.int .i64 xn) by rw [hW2]; exact HA01.out)
    have HA2 := Lib.hid (show W2.cell? ⟨g, o + kk * 5 + 2, none⟩ = some (.string xs) by rw [hW2]; exact HA02.out)
    have HA3 := Lib.hid (show W2.cell? ⟨g, o + kk * 5 + 3, none⟩ = some (.slice xA xl xc) by rw [hW2]; exact HA03.out)
    have HA4 := Lib.hid (show W2.cell? ⟨g, o + kk * 5 + 4, none⟩ = some (.slice xB xm xd) by rw [hW2]; exact HA04.out)
    rw [← hW2]
    clear hW2
    refine wp_region_held_drew (S := fun W' => W'.heap[w.heap.size]? = some (.cells #[.int .i64 5, .int .i64 n, .string S, .slice (some ⟨g, o, none⟩) l c0, .slice A20 m c20] 25 (0, 0)) ∧ W'.cell? ⟨g, o + kk * 5, none⟩ = some (.int .i64 xk) ∧ W'.cell? ⟨g, o + kk * 5 + 1, none⟩ = some (.int .i64 xn) ∧ W'.cell? ⟨g, o + kk * 5 + 2, none⟩ = some (.string xs) ∧ W'.cell? ⟨g, o + kk * 5 + 3, none⟩ = some (.slice xA xl xc) ∧ W'.cell? ⟨g, o + kk * 5 + 4, none⟩ = some (.slice xB xm xd)) (by kernel_rfl) (⟨HV2.out, HA0.out, HA1.out, HA2.out, HA3.out, HA4.out⟩) (fun hHeld => ?_)
    refine wpAnyH_take (i := 0) (oi := { dst := some 114, op := Op.fieldAddr 25 (Operand.tmp 3) 3, type := 0, pos := "ref.go:97", after := #[], guard := none }) (v := ?_) rfl (by kernel_rfl) (by kernel_rfl) (by kernel_rfl) (fun _ _ _ h => h) (Or.inl ⟨by rfl, ?_⟩) hHeld ?_
    rotate_left
    · intro w hSw; (try dsimp only at hSw); go_simp; with_reducible rfl
    try simp only [Act.put, List.setIfInBounds_toArray, List.set_cons_zero, List.set_cons_succ]
    refine wpAnyH_take (i := 1) (oi := { dst := some 115, op := Op.load 22 (Operand.tmp 114), type := 22, pos := "ref.go:97", after := #[{ on := 0, ground := Ground.data }], guard := none }) (v := ?_) rfl (by kernel_rfl) (by kernel_rfl) (by kernel_rfl) (fun _ _ _ h => h) (Or.inl ⟨by rfl, ?_⟩) hHeld ?_
    rotate_left
    · intro w hSw; (try dsimp only at hSw); obtain ⟨sv, e0, e1, e2, e3, e4⟩ := hSw; obtain ⟨⟨p0, p1, p2, p3, p4⟩, -⟩ := row5 sv; clear sv; go_simp; with_reducible rfl
    try simp only [Act.put, List.setIfInBounds_toArray, List.set_cons_zero, List.set_cons_succ]
    refine wpAnyH_take (i := 2) (oi := { dst := some 116, op := Op.move (Operand.tmp 15), type := 2, pos := "ref.go:97", after := #[], guard := none }) (v := ?_) rfl (by kernel_rfl) (by kernel_rfl) (by kernel_rfl) (fun _ _ _ h => h) (Or.inl ⟨by rfl, ?_⟩) hHeld ?_
    rotate_left
    · intro w hSw; (try dsimp only at hSw); go_simp; with_reducible rfl
    try simp only [Act.put, List.setIfInBounds_toArray, List.set_cons_zero, List.set_cons_succ]
    refine wpAnyH_take (i := 3) (oi := { dst := some 117, op := Op.indexAddr 22 (Operand.tmp 115) (Operand.tmp 116), type := 0, pos := "ref.go:97", after := #[{ on := 1, ground := Ground.data }, { on := 2, ground := Ground.data }], guard := none }) (v := ?_) rfl (by kernel_rfl) (by kernel_rfl) (by kernel_rfl) (fun _ _ _ h => h) (Or.inl ⟨by rfl, ?_⟩) hHeld ?_
    rotate_left
    · intro w hSw; (try dsimp only at hSw); go_simp; with_reducible rfl
    try simp only [Act.put, List.setIfInBounds_toArray, List.set_cons_zero, List.set_cons_succ]
    refine wpAnyH_take (i := 4) (oi := { dst := some 118, op := Op.load 25 (Operand.tmp 117), type := 25, pos := "ref.go:97", after := #[{ on := 3, ground := Ground.data }], guard := none }) (v := ?_) rfl (by kernel_rfl) (by kernel_rfl) (by kernel_rfl) (fun _ _ _ h => h) (Or.inl ⟨by rfl, ?_⟩) hHeld ?_
    rotate_left
    · intro w hSw; (try dsimp only at hSw); obtain ⟨sv, e0, e1, e2, e3, e4⟩ := hSw; clear sv; go_simp; with_reducible rfl
    try simp only [Act.put, List.setIfInBounds_toArray, List.set_cons_zero, List.set_cons_succ]
    refine wpAnyH_take (i := 5) (oi := { dst := some 119, op := Op.move (Operand.tmp 1), type := 40, pos := "ref.go:97", after := #[], guard := none }) (v := ?_) rfl (by kernel_rfl) (by kernel_rfl) (by kernel_rfl) (fun _ _ _ h => h) (Or.inl ⟨by rfl, ?_⟩) hHeld ?_
    rotate_left
    · intro w hSw; (try dsimp only at hSw); go_simp; with_reducible rfl
    try simp only [Act.put, List.setIfInBounds_toArray, List.set_cons_zero, List.set_cons_succ]
    refine wpAnyH_take (i := 6) (oi := { dst := some 120, op := Op.slice 40 (Operand.tmp 119) (some (Operand.const (Value.int IntKind.i64 1))) none none, type := 40, pos := "ref.go:97", after := #[{ on := 5, ground := Ground.data }], guard := none }) (v := ?_) rfl (by kernel_rfl) (by kernel_rfl) (by kernel_rfl) (fun _ _ _ h => h) (Or.inl ⟨by rfl, ?_⟩) hHeld ?_
    rotate_left
    · intro w hSw; (try dsimp only at hSw); have hcz := HCT.out; go_simp; with_reducible rfl
    try simp only [Act.put, List.setIfInBounds_toArray, List.set_cons_zero, List.set_cons_succ]
    refine wpAnyH_take (i := 7) (oi := { dst := some 121, op := Op.move (Operand.tmp 2), type := 4, pos := "ref.go:97", after := #[], guard := none }) (v := ?_) rfl (by kernel_rfl) (by kernel_rfl) (by kernel_rfl) (fun _ _ _ h => h) (Or.inl ⟨by rfl, ?_⟩) hHeld ?_
    rotate_left
    · intro w hSw; (try dsimp only at hSw); go_simp; with_reducible rfl
    try simp only [Act.put, List.setIfInBounds_toArray, List.set_cons_zero, List.set_cons_succ]
    refine wpAnyH_ready (rs := [8]) (by kernel_rfl) (by simp) ?_
    refine AllReadyH.cons (o := { dst := some 122, op := Op.call { callee := Callee.value (Operand.func 20), args := #[Operand.tmp 118, Operand.tmp 120, Operand.tmp 121], argTypes := #[25, 40, 4] }, type := 31, pos := "ref.go:97", after := #[{ on := 4, ground := Ground.data }, { on := 6, ground := Ground.data }, { on := 7, ground := Ground.data }], guard := none }) rfl (fun K hK => ?_) AllReadyH.nil
    go_simp
    go_at_call 20
    refine (HFI.out _ HBW.out.drew).mono ?_
    rintro e w3 ⟨⟨cb, rfl, hcb⟩, hb3⟩
    have HB3 := Lib.hid (show Below w.heap.size w w3 from HBW.out.trans ((Below.drew (Below.refl W2.heap.size W2)).trans hb3 |>.mono HBW.out.size))
    have HC3 := Lib.hid (show Below W2.heap.size W2 w3 from (Below.drew (Below.refl W2.heap.size W2)).trans hb3)
    obtain ⟨z, hz⟩ : ∃ z, (LV true r x).getD V0 = z := ⟨_, rfl⟩
    rw [hz] at hcb
    have HZZ := Lib.hid hz
    have HCB := Lib.hid (show RdT w3 hi W2.heap.size w3.heap.size z cb from hcb)
    obtain ⟨zA, zc, zB, zd, ez⟩ := hcb.cells
    subst ez
    have hr3 := (hb3.block (w.heap.size + 1) (by show w.heap.size + 1 < W2.heap.size; have := HW2S.out; omega)).trans HR2.out
    have HR3 := Lib.hid hr3
    clear hcb hb3 hr3 hz
    generalize z.k = zk at *
    generalize z.n = zn at *
    generalize strOf z.s = zs at *
    generalize z.l.length = zl at *
    generalize z.ms.length = zm at *
    obtain ⟨wy, hwy⟩ : ∃ y, whyV (LV true r x) = y := ⟨_, rfl⟩
    rw [hwy]
    have HWY := Lib.hid hwy
    clear hwy
    refine hK.out _ _ (⟨(HC3.out.block w.heap.size (by have := HW2S.out; omega)).trans HV2.out, (HC3.out.cell (p := ⟨g, o + kk * 5, none⟩) HGL.out).trans HA0.out, (HC3.out.cell (p := ⟨g, o + kk * 5 + 1, none⟩) HGL.out).trans HA1.out, (HC3.out.cell (p := ⟨g, o + kk * 5 + 2, none⟩) HGL.out).trans HA2.out, (HC3.out.cell (p := ⟨g, o + kk * 5 + 3, none⟩) HGL.out).trans HA3.out, (HC3.out.cell (p := ⟨g, o + kk * 5 + 4, none⟩) HGL.out).trans HA4.out⟩) (fun hHeld => ?_)
    clear hK K
    try simp only [Act.put, List.setIfInBounds_toArray, List.set_cons_zero, List.set_cons_succ]
    refine wpAnyH_take (i := 9) (oi := { dst := some 123, op := Op.extract (Operand.tmp 122) 0, type := 25, pos := "ref.go:97", after := #[{ on := 8, ground := Ground.data }], guard := none }) (v := ?_) rfl (by kernel_rfl) (by kernel_rfl) (by kernel_rfl) (fun _ _ _ h => h) (Or.inl ⟨by rfl, ?_⟩) hHeld ?_
    rotate_left
    · intro w hSw; (try dsimp only at hSw); go_simp; with_reducible rfl
    try simp only [Act.put, List.setIfInBounds_toArray, List.set_cons_zero, List.set_cons_succ]
    refine wpAnyH_take (i := 10) (oi := { dst := some 124, op := Op.extract (Operand.tmp 122) 1, type := 3, pos := "ref.go:97", after := #[{ on := 8, ground := Ground.data }], guard := none }) (v := ?_) rfl (by kernel_rfl) (by kernel_rfl) (by kernel_rfl) (fun _ _ _ h => h) (Or.inl ⟨by rfl, ?_⟩) hHeld ?_
    rotate_left
    · intro w hSw; (try dsimp only at hSw); go_simp; with_reducible rfl
    try simp only [Act.put, List.setIfInBounds_toArray, List.set_cons_zero, List.set_cons_succ]
    refine wpAnyH_ready (rs := [11]) (by kernel_rfl) (by simp) ?_
    refine AllReadyH.cons (o := { dst := none, op := Op.store 25 (Operand.tmp 6) (Operand.tmp 123), type := 0, pos := "ref.go:97", after := #[{ on := 9, ground := Ground.data }, { on := 8, ground := Ground.chain }, { on := 0, ground := Ground.phase }, { on := 1, ground := Ground.phase }, { on := 2, ground := Ground.phase }, { on := 3, ground := Ground.phase }, { on := 4, ground := Ground.phase }, { on := 5, ground := Ground.phase }, { on := 6, ground := Ground.phase }, { on := 7, ground := Ground.phase }, { on := 8, ground := Ground.phase }, { on := 9, ground := Ground.phase }, { on := 10, ground := Ground.phase }], guard := none }) rfl (fun K hK => ?_) AllReadyH.nil
    obtain ⟨⟨r0, r1, r2, r3, r4⟩, ⟨f0, f1, f2, f3, f4⟩⟩ := row5 HR3.out
    go_simp
    clear r0 r1 r2 r3 r4 f0 f1 f2 f3 f4
    obtain ⟨W4, hW4⟩ : ∃ W4, W4 = (((((w3.setCell ⟨w.heap.size + 1, 0, none⟩ (.int .i64 zk)).setCell ⟨w.heap.size + 1, 1, none⟩ (.int .i64 zn)).setCell ⟨w.heap.size + 1, 2, none⟩ (.string zs)).setCell ⟨w.heap.size + 1, 3, none⟩ (.slice zA zl zc)).setCell ⟨w.heap.size + 1, 4, none⟩ (.slice zB zm zd)) := ⟨_, rfl⟩
    have HR4 := Lib.hid (show W4.heap[w.heap.size + 1]? = some (.cells #[.int .i64 zk, .int .i64 zn, .string zs, .slice zA zl zc, .slice zB zm zd] 25 (0, 0)) by rw [hW4]; exact st5_row HR3.out _ _ _ _ _)
    have HB4 := Lib.hid (show Below w.heap.size w W4 by rw [hW4]; exact st5_below HB3.out (by omega) _ _ _ _ _)
    have HO4 := Lib.hid (fun k (hk : k ≠ w.heap.size + 1) => show W4.heap[k]? = w3.heap[k]? by rw [hW4]; exact st5_other hk _ _ _ _ _)
    have HS4 := Lib.hid (show W4.heap.size = w3.heap.size by rw [hW4]; exact st5_size (w := w3) (b := w.heap.size + 1) _ _ _ _ _)
    rw [← hW4]
    clear hW4
    refine hK.out _ _ (⟨(HO4.out _ (by omega)).trans ((HC3.out.block w.heap.size (by have := HW2S.out; omega)).trans HV2.out), (cell_of_blk (HO4.out _ (by show g ≠ _; have := HGW.out; omega))).trans ((HC3.out.cell (p := ⟨g, o + kk * 5, none⟩) HGL.out).trans HA0.out), (cell_of_blk (HO4.out _ (by show g ≠ _; have := HGW.out; omega))).trans ((HC3.out.cell (p := ⟨g, o + kk * 5 + 1, none⟩) HGL.out).trans HA1.out), (cell_of_blk (HO4.out _ (by show g ≠ _; have := HGW.out; omega))).trans ((HC3.out.cell (p := ⟨g, o + kk * 5 + 2, none⟩) HGL.out).trans HA2.out), (cell_of_blk (HO4.out _ (by show g ≠ _; have := HGW.out; omega))).trans ((HC3.out.cell (p := ⟨g, o + kk * 5 + 3, none⟩) HGL.out).trans HA3.out), (cell_of_blk (HO4.out _ (by show g ≠ _; have := HGW.out; omega))).trans ((HC3.out.cell (p := ⟨g, o + kk * 5 + 4, none⟩) HGL.out).trans HA4.out)⟩) (fun hHeld => ?_)
    clear hK K
    try simp only [Act.put, List.setIfInBounds_toArray, List.set_cons_zero, List.set_cons_succ]
    refine wpAnyH_take (i := 12) (oi := { dst := some 7, op := Op.assign (Operand.tmp 124), type := 3, pos := "ref.go:97", after := #[{ on := 10, ground := Ground.data }, { on := 11, ground := Ground.chain }, { on := 0, ground := Ground.phase }, { on := 1, ground := Ground.phase }, { on := 2, ground := Ground.phase }, { on := 3, ground := Ground.phase }, { on := 4, ground := Ground.phase }, { on := 5, ground := Ground.phase }, { on := 6, ground := Ground.phase }, { on := 7, ground := Ground.phase }, { on := 8, ground := Ground.phase }, { on := 9, ground := Ground.phase }, { on := 10, ground := Ground.phase }, { on := 11, ground := Ground.phase }], guard := none }) (v := ?_) rfl (by kernel_rfl) (by kernel_rfl) (by kernel_rfl) (fun _ _ _ h => h) (Or.inl ⟨by rfl, ?_⟩) hHeld ?_
    rotate_left
    · intro w hSw; (try dsimp only at hSw); go_simp; with_reducible rfl
    try simp only [Act.put, List.setIfInBounds_toArray, List.set_cons_zero, List.set_cons_succ]
    refine wpAnyH_done (by kernel_rfl) ?_ _
    clear hHeld
    go_wp2
    refine bodyPost_ret (res5b rfl rfl rfl HR4.out) rfl ?_
    rw [HLD.out]
    refine ⟨⟨[.int .i64 zk, .int .i64 zn, .string zs, .slice zA zl zc, .slice zB zm zd], by rw [HWY.out]; rfl, ?_⟩, HB4.out⟩
    rw [HZZ.out]
    exact HCB.out.keep (fun p hp => cell_of_blk (HO4.out _ (by have := HW2S.out; omega))) (by have := HW2S.out; omega) (Nat.le_of_eq HS4.out.symm)
  · have HLD := Lib.hid (show LV true (q :: r) v = none by
      rw [LV_step true q r v (fun e => HNS.out ⟨e.1, e.2.2⟩)]
      unfold stepV
      rw [if_neg (by have := HK.out; omega), if_pos HK.out, idx_no (v := v) (p := q) (n := (allS q).1) (b := (allS q).2) rfl (by rw [HLN.out]; exact hok)]
      rfl)
    obtain ⟨an, han⟩ : ∃ n, (allS q).1 = n := ⟨_, rfl⟩
    obtain ⟨ab, hab⟩ : ∃ b, (allS q).2 = b := ⟨_, rfl⟩
    rw [han, hab] at hok
    rw [han, hab] at HALL
    clear han hab HL
    cases ab with
    | false =>
      clear hok
      go_enter Tryz.func20, Tryz.ntmps20
      go_wp2_with fail
      refine (HALL.out _).mono ?_
      rintro e wz ⟨rfl, rfl⟩
      go_wp2
      rw [← HW0.out]
      refine bodyPost_ret (res5b rfl rfl rfl HR0.out) rfl ?_
      rw [HLD.out]
      exact ⟨⟨[.int .i64 0, .int .i64 0, .string ⟨#[]⟩, .slice none 0 0, .slice none 0 0], rfl, .inl (rd_zero _ _ _)⟩, HB0.out⟩
    | true =>
      by_cases h1 : an < 0
      · have z1 : decide (an < 0) = true := decide_eq_true h1
        clear hok
        go_enter Tryz.func20, Tryz.ntmps20
        go_wp2_with fail
        refine (HALL.out _).mono ?_
        rintro e wz ⟨rfl, rfl⟩
        go_wp2
        rw [← HW0.out]
        refine bodyPost_ret (res5b rfl rfl rfl HR0.out) rfl ?_
        rw [HLD.out]
        exact ⟨⟨[.int .i64 0, .int .i64 0, .string ⟨#[]⟩, .slice none 0 0, .slice none 0 0], rfl, .inl (rd_zero _ _ _)⟩, HB0.out⟩
      · have z1 : decide (an < 0) = false := decide_eq_false h1
        have z2 : decide ((l : Int) ≤ an) = true := decide_eq_true (by have h2 : ¬ an < l := fun e => hok ⟨rfl, by omega, e⟩; omega)
        clear hok h1
        go_enter Tryz.func20, Tryz.ntmps20
        go_wp2_with fail
        refine (HALL.out _).mono ?_
        rintro e wz ⟨rfl, rfl⟩
        go_wp2
        rw [← HW0.out]
        refine bodyPost_ret (res5b rfl rfl rfl HR0.out) rfl ?_
        rw [HLD.out]
        exact ⟨⟨[.int .i64 0, .int .i64 0, .string ⟨#[]⟩, .slice none 0 0, .slice none 0 0], rfl, .inl (rd_zero _ _ _)⟩, HB0.out⟩
end Go.Proofs.YtmfpaoincgfjmaaGreat.Po
