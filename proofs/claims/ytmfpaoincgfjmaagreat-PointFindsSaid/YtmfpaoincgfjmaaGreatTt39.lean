/- Merged: PoL3 PoL PoRf PoW3. -/
import Derived.Test.YtmfpaoincgfjmaaGreatTt37
import Derived.Test.YtmfpaoincgfjmaaGreatTt38
import Derived.Test.YtmfpaoincgfjmaaGreatTt23
import Derived.Test.YtmfpaoincgfjmaaGreatTt34
import Derived.Test.YtmfpaoincgfjmaaGreatTt32
import Derived.Test.YtmfpaoincgfjmaaGreatTt35
set_option linter.unusedSimpArgs false
namespace Go.Proofs.YtmfpaoincgfjmaaGreat.Po
open Go.Proofs Go.RowKit
open Go.Proofs.YtmfpaoincgfjmaaGreat.Utf
open Go.Proofs.YtmfpaoincgfjmaaGreat.Sc
open Go.Proofs.YtmfpaoincgfjmaaGreat.Re
open Go.Proofs.YtmfpaoincgfjmaaGreat.Tr
open Go.Proofs.YtmfpaoincgfjmaaGreat.Nu

def LoopH (w0 : World) (hi : Nat) (f : V → Option V) (l : List V) (kk : Nat) (wr : World) (b : Nat) : Prop :=
  ∃ s acc rows, wr.heap[b]? = some (.cells #[.int .i64 5, .int .i64 0, .string ⟨#[]⟩, s, .slice none 0 0] 25 (0, 0)) ∧ NxH w0 hi wr (b + 1) s acc rows ∧ Gs f l [] acc kk
def QT (wr : World) (hi : Nat) (y : V) (E : Nat) (wx : World) : Prop :=
  wr.heap.size ≤ E ∧ Below wr.heap.size wr wx ∧ ∃ cy : Array Value, wx.heap[E]? = some (.cells cy 25 (0, 0)) ∧ RdT wx hi wr.heap.size wx.heap.size y cy.toList
set_option maxRecDepth 100000 in
set_option maxHeartbeats 1000000 in
theorem Lead_star (hi : Nat) (r : List (List UInt8)) (ih : LdCon true hi r) : LdK true hi ([42] :: r) fun v => v.k = 5 := by
  have HIH := Lib.hid ih
  intro v cs pv w hhi hv hz hcn hpv hps hk
  have HCUT := Lib.hid hpv.cut
  have HPS := Lib.hid hps
  have HCN := Lib.hid hcn
  have HZ := Lib.hid hz
  have hnm := nm_of v cs hv
  have HNM := Lib.hid hnm
  obtain ⟨A0, c0, A20, c20, rfl, -, hL, -⟩ := hv.cells
  have HL := Lib.hid hL
  obtain ⟨Ap, cp, rfl, -, hpc⟩ := hpv
  obtain ⟨ad, rfl, hadb, hpx⟩ := hpc (by simp)
  have hap := hpx 0 _ (strC_at ([42] :: r) 0 (by simp))
  rw [add_zero_] at hap
  obtain ⟨X, hX⟩ : ∃ X, strOf [42] = X := ⟨_, rfl⟩
  rw [show ([42] :: r)[0] = [42] from rfl, hX] at hap
  have HXQ := Lib.hid hX
  obtain ⟨l, hl⟩ : ∃ l, v.l.length = l := ⟨_, rfl⟩
  have HLN := Lib.hid hl
  have HADL0 := Lib.hid hadb
  obtain ⟨nn, hnn⟩ : ∃ nn, ([42] :: r).length = nn := ⟨_, rfl⟩
  have hn1 : 0 < nn := by rw [← hnn]; simp
  have b1 : (0 : Int) < (nn : Int) := by omega
  have t1 : ((nn : Int) == 0) = false := beq_eq_false_iff_ne.2 (by omega)
  have t2 : decide ((nn : Int) = 0) = false := decide_eq_false (by omega)
  rw [hnn] at HCUT ⊢
  have xq : (X.toList == [42]) = true := by rw [← hX, strOf_list]; rfl
  have hlb : l ≤ 1000000000000 := by have h1 := len_cntL v.l; have h2 := cnt_eq v; omega
  have HNL := Lib.hid (fun i (hi' : i < v.l.length) y (hy : eachV r v.l[i] = some y) => each_le r _ y (nmL'_mem ((nmV'_eq v).1 hnm).2.1 (List.getElem_mem hi')) hy)
  have HZI := Lib.hid (fun i (hi' : i < v.l.length) => (sz_down 4611686018427387904 v hz).1 _ (List.getElem_mem hi'))
  have HCI := Lib.hid (fun i (hi' : i < v.l.length) => Nat.le_trans ((cnt_down (cnt v) v (Nat.le_refl _)).1 _ (List.getElem_mem hi')) hcn)
  have HZL := Lib.hid (fun i (hi' : i < v.l.length) y (hy : eachV r v.l[i] = some y) => szAL_of (each_all (sz_down 4611686018427387904) r _ y (nmL'_mem ((nmV'_eq v).1 hnm).2.1 (List.getElem_mem hi')) (HZI.out i hi') hy))
  have HGS0 := Lib.hid (Gs.start (f := eachV r) (l := v.l) (acc := []) (by have := cnt_eq v; simp; omega))
  have HK := Lib.hid hk
  rw [hk, hl]
  clear hv hz hcn hps hnm hL hpc hpx hadb hnn hk hl hX
  generalize v.n = n at *
  generalize strOf v.s = S at *
  generalize v.ms.length = m at *
  clear HXQ HZ HNM HCN
  obtain ⟨W0, hW0⟩ : ∃ W0, W0 = ((((w.alloc (.cells #[.int .i64 5, .int .i64 n, .string S, .slice A0 l c0, .slice A20 m c20] 25)).alloc (.cells #[.int .i64 0, .int .i64 0, .string ⟨#[]⟩, .slice none 0 0, .slice none 0 0] 25)).alloc (.cells #[.int .i64 0, .int .i64 0, .string ⟨#[]⟩, .slice none 0 0, .slice none 0 0] 25)).alloc (.cells #[.int .i64 5, .int .i64 0, .string ⟨#[]⟩, .slice none 0 0, .slice none 0 0] 25)) := ⟨_, rfl⟩
  have HB0 := Lib.hid (show Below w.heap.size w W0 by rw [hW0]; exact ((((Below.refl _ _).alloc (Nat.le_refl _) _).alloc (by simp; try omega) _).alloc (by simp; try omega) _).alloc (by simp; try omega) _)
  have HS0 := Lib.hid (show W0.heap.size = w.heap.size + 4 by rw [hW0, szAl, szAl, szAl, szAl])
  have hv0 : W0.heap[w.heap.size]? = some (.cells #[.int .i64 5, .int .i64 n, .string S, .slice A0 l c0, .slice A20 m c20] 25 (0, 0)) := by rw [hW0]; exact heapOld (heapOld (heapOld ((show (w.alloc (.cells #[.int .i64 5, .int .i64 n, .string S, .slice A0 l c0, .slice A20 m c20] 25)).heap[w.heap.size]? = some (.cells #[.int .i64 5, .int .i64 n, .string S, .slice A0 l c0, .slice A20 m c20] 25 (0, 0)) from by rw [show w.heap.size = w.heap.size by simp]; exact heapNew _ _)) _) _) _
  have HV0 := Lib.hid hv0
  have hr0 : W0.heap[w.heap.size + 1]? = some (.cells #[.int .i64 0, .int .i64 0, .string ⟨#[]⟩, .slice none 0 0, .slice none 0 0] 25 (0, 0)) := by rw [hW0]; exact heapOld (heapOld ((show ((w.alloc (.cells #[.int .i64 5, .int .i64 n, .string S, .slice A0 l c0, .slice A20 m c20] 25)).alloc (.cells #[.int .i64 0, .int .i64 0, .string ⟨#[]⟩, .slice none 0 0, .slice none 0 0] 25)).heap[w.heap.size + 1]? = some (.cells #[.int .i64 0, .int .i64 0, .string ⟨#[]⟩, .slice none 0 0, .slice none 0 0] 25 (0, 0)) from by rw [show w.heap.size + 1 = (w.alloc (.cells #[.int .i64 5, .int .i64 n, .string S, .slice A0 l c0, .slice A20 m c20] 25)).heap.size by simp]; exact heapNew _ _)) _) _
  have HR0 := Lib.hid hr0
  have hn0 : W0.heap[w.heap.size + 2]? = some (.cells #[.int .i64 0, .int .i64 0, .string ⟨#[]⟩, .slice none 0 0, .slice none 0 0] 25 (0, 0)) := by rw [hW0]; exact heapOld ((show (((w.alloc (.cells #[.int .i64 5, .int .i64 n, .string S, .slice A0 l c0, .slice A20 m c20] 25)).alloc (.cells #[.int .i64 0, .int .i64 0, .string ⟨#[]⟩, .slice none 0 0, .slice none 0 0] 25)).alloc (.cells #[.int .i64 0, .int .i64 0, .string ⟨#[]⟩, .slice none 0 0, .slice none 0 0] 25)).heap[w.heap.size + 2]? = some (.cells #[.int .i64 0, .int .i64 0, .string ⟨#[]⟩, .slice none 0 0, .slice none 0 0] 25 (0, 0)) from by rw [show w.heap.size + 2 = ((w.alloc (.cells #[.int .i64 5, .int .i64 n, .string S, .slice A0 l c0, .slice A20 m c20] 25)).alloc (.cells #[.int .i64 0, .int .i64 0, .string ⟨#[]⟩, .slice none 0 0, .slice none 0 0] 25)).heap.size by simp]; exact heapNew _ _)) _
  have HN0 := Lib.hid hn0
  have ho0 : W0.heap[w.heap.size + 3]? = some (.cells #[.int .i64 5, .int .i64 0, .string ⟨#[]⟩, .slice none 0 0, .slice none 0 0] 25 (0, 0)) := by rw [hW0]; exact (show ((((w.alloc (.cells #[.int .i64 5, .int .i64 n, .string S, .slice A0 l c0, .slice A20 m c20] 25)).alloc (.cells #[.int .i64 0, .int .i64 0, .string ⟨#[]⟩, .slice none 0 0, .slice none 0 0] 25)).alloc (.cells #[.int .i64 0, .int .i64 0, .string ⟨#[]⟩, .slice none 0 0, .slice none 0 0] 25)).alloc (.cells #[.int .i64 5, .int .i64 0, .string ⟨#[]⟩, .slice none 0 0, .slice none 0 0] 25)).heap[w.heap.size + 3]? = some (.cells #[.int .i64 5, .int .i64 0, .string ⟨#[]⟩, .slice none 0 0, .slice none 0 0] 25 (0, 0)) from by rw [show w.heap.size + 3 = (((w.alloc (.cells #[.int .i64 5, .int .i64 n, .string S, .slice A0 l c0, .slice A20 m c20] 25)).alloc (.cells #[.int .i64 0, .int .i64 0, .string ⟨#[]⟩, .slice none 0 0, .slice none 0 0] 25)).alloc (.cells #[.int .i64 0, .int .i64 0, .string ⟨#[]⟩, .slice none 0 0, .slice none 0 0] 25)).heap.size by simp]; exact heapNew _ _)
  have HO0 := Lib.hid ho0
  have HW0 := Lib.hid hW0
  have HAP := Lib.hid (show W0.cell? ad = some (.string X) from (HB0.out.cell HADL0.out).trans hap)
  have HADL := Lib.hid (show ad.block < W0.heap.size by have := HADL0.out; rw [HS0.out]; omega)
  have hap3 : (((w.alloc (.cells #[.int .i64 5, .int .i64 n, .string S, .slice A0 l c0, .slice A20 m c20] 25)).alloc (.cells #[.int .i64 0, .int .i64 0, .string ⟨#[]⟩, .slice none 0 0, .slice none 0 0] 25)).alloc (.cells #[.int .i64 0, .int .i64 0, .string ⟨#[]⟩, .slice none 0 0, .slice none 0 0] 25)).cell? ad = some (.string X) := (((((Below.refl _ _).alloc (Nat.le_refl _) _).alloc (by simp) _).alloc (by simp; try omega) _ : Below w.heap.size w _).cell HADL0.out).trans hap
  have hv3 : (((w.alloc (.cells #[.int .i64 5, .int .i64 n, .string S, .slice A0 l c0, .slice A20 m c20] 25)).alloc (.cells #[.int .i64 0, .int .i64 0, .string ⟨#[]⟩, .slice none 0 0, .slice none 0 0] 25)).alloc (.cells #[.int .i64 0, .int .i64 0, .string ⟨#[]⟩, .slice none 0 0, .slice none 0 0] 25)).heap[w.heap.size]? = some (.cells #[.int .i64 5, .int .i64 n, .string S, .slice A0 l c0, .slice A20 m c20] 25 (0, 0)) := heapOld (heapOld (heapNew _ _) _) _
  obtain ⟨⟨s0, s1, s2, s3, s4⟩, -⟩ := row5 hv3
  rw [hW0] at hv0 hr0 hn0 ho0
  obtain ⟨⟨v0, v1, v2, v3, v4⟩, ⟨fv0, fv1, fv2, fv3, fv4⟩⟩ := row5 hv0
  obtain ⟨⟨r0, r1, r2, r3, r4⟩, ⟨fr0, fr1, fr2, fr3, fr4⟩⟩ := row5 hr0
  obtain ⟨⟨n0, n1, n2, n3, n4⟩, ⟨fn0, fn1, fn2, fn3, fn4⟩⟩ := row5 hn0
  obtain ⟨⟨o0, o1, o2, o3, o4⟩, ⟨fo0, fo1, fo2, fo3, fo4⟩⟩ := row5 ho0
  clear hW0 hv0 hr0 hn0 ho0 hap hv3
  obtain ⟨i0, hin, hz0, hz1, hz2⟩ := info_parts Tr.infoVal
  have I0 := Lib.hid hin
  have I1 := Lib.hid hz0
  have I2 := Lib.hid hz1
  have I3 := Lib.hid hz2
  clear hin hz0 hz1 hz2
  go_enter Tryz.func20, Tryz.ntmps20
  go_wp2_with fail
  try rw [← HW0.out]
  clear v0 fv0 v1 fv1 v2 fv2 v3 fv3 v4 fv4 r0 fr0 r1 fr1 r2 fr2 r3 fr3 r4 fr4 n0 fn0 n1 fn1 n2 fn2 n3 fn3 n4 fn4 o0 fo0 o1 fo1 o2 fo2 o3 fo3 o4 fo4
  clear hap3 s0 s1 s2 s3 s4
  go_loopw [12] (fun i wr => ∃ kk : Nat, i = .int .i64 kk ∧ kk ≤ l ∧ Aside (LoopH w hi (eachV r) v.l kk wr (w.heap.size + 3)) ∧ Aside (Below (w.heap.size + 3) W0 wr)) (fun i _ => l - (intOf i).toNat)
  case atStart => exact ⟨0, rfl, by omega, (show LoopH w hi (eachV r) v.l 0 W0 (w.heap.size + 3) from ⟨.slice none 0 0, [], [], HO0.out, NxH.nil _ _ _ _, HGS0.out⟩), (show Below _ _ _ from Below.refl _ _)⟩
  case round =>
    obtain ⟨kk, rfl, hk, hlp, hbel⟩ := hrel
    have HBEL := Lib.hid hbel.out
    have HBW := Lib.hid (HB0.out.trans (hbel.out.mono (by omega)))
    have Rr_0 := Lib.hid (show wr.heap[w.heap.size]? = some (.cells #[.int .i64 5, .int .i64 n, .string S, .slice A0 l c0, .slice A20 m c20] 25 (0, 0)) from (hbel.out.block _ (by omega)).trans HV0.out)
    have Rr_1 := Lib.hid (show wr.heap[w.heap.size + 1]? = some (.cells #[.int .i64 0, .int .i64 0, .string ⟨#[]⟩, .slice none 0 0, .slice none 0 0] 25 (0, 0)) from (hbel.out.block _ (by omega)).trans HR0.out)
    have Rr_2 := Lib.hid (show wr.heap[w.heap.size + 2]? = some (.cells #[.int .i64 0, .int .i64 0, .string ⟨#[]⟩, .slice none 0 0, .slice none 0 0] 25 (0, 0)) from (hbel.out.block _ (by omega)).trans HN0.out)
    have HWS := Lib.hid (show w.heap.size + 4 ≤ wr.heap.size by rw [← HS0.out]; exact hbel.out.size)
    obtain ⟨s0, acc, rows, hrow, hnx, hgs⟩ := hlp.out
    have HROW := Lib.hid hrow
    have HNX := Lib.hid hnx
    have HGS := Lib.hid hgs
    clear hbel hlp hrow hnx hgs
    obtain ⟨⟨p0, p1, p2, p3, p4⟩, -⟩ := row5 Rr_0.out
    by_cases hlt : kk < l
    · have t3 : decide ((kk : Int) < (l : Int)) = true := decide_eq_true (by omega)
      have t4 : decide (kk < l) = true := decide_eq_true hlt
      have k0 : (0 : Int) ≤ (kk : Int) := by omega
      have k1 : (kk : Int) < (l : Int) := by omega
      have k2 : ((kk : Int)).toNat = kk := by omega
      have hkl : kk < v.l.length := by rw [HLN.out]; exact hlt
      have HKL := Lib.hid hkl
      obtain ⟨g, o, hA0, _, hg, hr⟩ := HL.out (by omega)
      subst hA0
      obtain ⟨xcs, hxc, hxv⟩ := RdAL.at_ _ o hr kk hkl
      obtain ⟨x, hx⟩ : ∃ x, v.l[kk]'hkl = x := ⟨_, rfl⟩
      have HX := Lib.hid hx
      have hzx := HZI.out kk hkl
      have hcx := HCI.out kk hkl
      rw [hx] at hxv hzx hcx
      obtain ⟨pv', hcut, hpv'⟩ := HCUT.out
      have HCT := Lib.hid hcut
      have HLD := Lib.hid (fun (W : World) (hW : Below w.heap.size w W) => HIH.out x xcs pv' W (Nat.le_trans hhi hW.size) (hxv.below hW hhi (Nat.le_refl _)) hzx hcx (hpv'.below hW hW.size) (fun z hz => HPS.out z (by simp [hz])))
      obtain ⟨xA, xc, xB, xd, rfl, -⟩ := hxv.cells
      have HGR := Lib.hid (show g < wr.heap.size by have := HWS.out; omega)
      have HA0 := Lib.hid ((HBW.out.cell (p := ⟨g, o + kk * 5, none⟩) (Nat.lt_of_lt_of_le hg hhi)).trans (hxc 0 _ rfl))
      have HA1 := Lib.hid ((HBW.out.cell (p := ⟨g, o + kk * 5 + 1, none⟩) (Nat.lt_of_lt_of_le hg hhi)).trans (hxc 1 _ rfl))
      have HA2 := Lib.hid ((HBW.out.cell (p := ⟨g, o + kk * 5 + 2, none⟩) (Nat.lt_of_lt_of_le hg hhi)).trans (hxc 2 _ rfl))
      have HA3 := Lib.hid ((HBW.out.cell (p := ⟨g, o + kk * 5 + 3, none⟩) (Nat.lt_of_lt_of_le hg hhi)).trans (hxc 3 _ rfl))
      have HA4 := Lib.hid ((HBW.out.cell (p := ⟨g, o + kk * 5 + 4, none⟩) (Nat.lt_of_lt_of_le hg hhi)).trans (hxc 4 _ rfl))
      clear hxv hxc hr hx hzx hcx hg hcut hpv'
      generalize x.k = xk at *
      generalize x.n = xn at *
      generalize strOf x.s = xs at *
      generalize x.l.length = xl at *
      generalize x.ms.length = xm at *
      go_wp2_with fail
      go_upto_region 16 with fail
      clear p0 p1 p2 p3 p4
      go_cut [13, 14] (fun p13 g14 wx => ∃ E, p13 = .pointer (some ⟨E, 0, none⟩) ∧ g14 = .int .i64 (whyV (LV true r x)) ∧ Aside (QT wr hi ((LV true r x).getD V0) E wx))
      case first =>
        refine wp_region_held_drew (S := fun W' => W'.heap[w.heap.size]? = some (.cells #[.int .i64 5, .int .i64 n, .string S, .slice (some ⟨g, o, none⟩) l c0, .slice A20 m c20] 25 (0, 0)) ∧ W'.cell? ⟨g, o + kk * 5, none⟩ = some (.int .i64 xk) ∧ W'.cell? ⟨g, o + kk * 5 + 1, none⟩ = some (.int .i64 xn) ∧ W'.cell? ⟨g, o + kk * 5 + 2, none⟩ = some (.string xs) ∧ W'.cell? ⟨g, o + kk * 5 + 3, none⟩ = some (.slice xA xl xc) ∧ W'.cell? ⟨g, o + kk * 5 + 4, none⟩ = some (.slice xB xm xd)) (by kernel_rfl) (⟨Rr_0.out, HA0.out, HA1.out, HA2.out, HA3.out, HA4.out⟩) (fun hHeld => ?_)
        refine wpAnyH_take (i := 0) (oi := { dst := some 63, op := Op.fieldAddr 25 (Operand.tmp 3) 3, type := 0, pos := "ref.go:81", after := #[], guard := none }) (v := ?_) rfl (by kernel_rfl) (by kernel_rfl) (by kernel_rfl) (fun _ _ _ h => h) (Or.inl ⟨by rfl, ?_⟩) hHeld ?_
        rotate_left
        · intro w hSw; (try dsimp only at hSw); go_simp; with_reducible rfl
        try simp only [Act.put, List.setIfInBounds_toArray, List.set_cons_zero, List.set_cons_succ]
        refine wpAnyH_take (i := 1) (oi := { dst := some 64, op := Op.load 22 (Operand.tmp 63), type := 22, pos := "ref.go:81", after := #[{ on := 0, ground := Ground.data }], guard := none }) (v := ?_) rfl (by kernel_rfl) (by kernel_rfl) (by kernel_rfl) (fun _ _ _ h => h) (Or.inl ⟨by rfl, ?_⟩) hHeld ?_
        rotate_left
        · intro w hSw; (try dsimp only at hSw); obtain ⟨sv, e0, e1, e2, e3, e4⟩ := hSw; obtain ⟨⟨p0, p1, p2, p3, p4⟩, -⟩ := row5 sv; clear sv; go_simp; with_reducible rfl
        try simp only [Act.put, List.setIfInBounds_toArray, List.set_cons_zero, List.set_cons_succ]
        refine wpAnyH_take (i := 2) (oi := { dst := some 65, op := Op.move (Operand.tmp 12), type := 3, pos := "ref.go:81", after := #[], guard := none }) (v := ?_) rfl (by kernel_rfl) (by kernel_rfl) (by kernel_rfl) (fun _ _ _ h => h) (Or.inl ⟨by rfl, ?_⟩) hHeld ?_
        rotate_left
        · intro w hSw; (try dsimp only at hSw); go_simp; with_reducible rfl
        try simp only [Act.put, List.setIfInBounds_toArray, List.set_cons_zero, List.set_cons_succ]
        refine wpAnyH_take (i := 3) (oi := { dst := some 66, op := Op.indexAddr 22 (Operand.tmp 64) (Operand.tmp 65), type := 0, pos := "ref.go:81", after := #[{ on := 1, ground := Ground.data }, { on := 2, ground := Ground.data }], guard := none }) (v := ?_) rfl (by kernel_rfl) (by kernel_rfl) (by kernel_rfl) (fun _ _ _ h => h) (Or.inl ⟨by rfl, ?_⟩) hHeld ?_
        rotate_left
        · intro w hSw; (try dsimp only at hSw); go_simp; with_reducible rfl
        try simp only [Act.put, List.setIfInBounds_toArray, List.set_cons_zero, List.set_cons_succ]
        refine wpAnyH_take (i := 4) (oi := { dst := some 67, op := Op.load 25 (Operand.tmp 66), type := 25, pos := "ref.go:81", after := #[{ on := 3, ground := Ground.data }], guard := none }) (v := ?_) rfl (by kernel_rfl) (by kernel_rfl) (by kernel_rfl) (fun _ _ _ h => h) (Or.inl ⟨by rfl, ?_⟩) hHeld ?_
        rotate_left
        · intro w hSw; (try dsimp only at hSw); obtain ⟨sv, e0, e1, e2, e3, e4⟩ := hSw; clear sv; go_simp; with_reducible rfl
        try simp only [Act.put, List.setIfInBounds_toArray, List.set_cons_zero, List.set_cons_succ]
        refine wpAnyH_take (i := 5) (oi := { dst := some 68, op := Op.move (Operand.tmp 1), type := 40, pos := "ref.go:81", after := #[], guard := none }) (v := ?_) rfl (by kernel_rfl) (by kernel_rfl) (by kernel_rfl) (fun _ _ _ h => h) (Or.inl ⟨by rfl, ?_⟩) hHeld ?_
        rotate_left
        · intro w hSw; (try dsimp only at hSw); go_simp; with_reducible rfl
        try simp only [Act.put, List.setIfInBounds_toArray, List.set_cons_zero, List.set_cons_succ]
        refine wpAnyH_take (i := 6) (oi := { dst := some 69, op := Op.slice 40 (Operand.tmp 68) (some (Operand.const (Value.int IntKind.i64 1))) none none, type := 40, pos := "ref.go:81", after := #[{ on := 5, ground := Ground.data }], guard := none }) (v := ?_) rfl (by kernel_rfl) (by kernel_rfl) (by kernel_rfl) (fun _ _ _ h => h) (Or.inl ⟨by rfl, ?_⟩) hHeld ?_
        rotate_left
        · intro w hSw; (try dsimp only at hSw); have hcz := HCT.out; go_simp; with_reducible rfl
        try simp only [Act.put, List.setIfInBounds_toArray, List.set_cons_zero, List.set_cons_succ]
        refine wpAnyH_ready (rs := [7, 11]) (by kernel_rfl) (by simp) ?_
        refine AllReadyH.cons (o := { dst := some 70, op := Op.call { callee := Callee.value (Operand.func 20), args := #[Operand.tmp 67, Operand.tmp 69, Operand.const (Value.bool true)], argTypes := #[25, 40, 4] }, type := 31, pos := "ref.go:81", after := #[{ on := 4, ground := Ground.data }, { on := 6, ground := Ground.data }], guard := none }) rfl (fun K hK => ?_) (AllReadyH.cons (o := { dst := some 13, op := Op.alloc 25, type := 0, pos := "ref.go:81", after := #[], guard := none }) rfl (fun K hK => ?_) AllReadyH.nil)
        · go_simp
          go_at_call 20
          refine (HLD.out _ (HBW.out.trans ((Below.drew (Below.refl wr.heap.size wr)).mono HBW.out.size))).mono ?_
          rintro e u2 ⟨⟨cy, rfl, hcy⟩, hb2⟩
          have HU2 := Lib.hid (show Below wr.heap.size wr u2 from (Below.drew (Below.refl wr.heap.size wr)).trans (hb2.mono (Below.drew (Below.refl wr.heap.size wr)).size))
          obtain ⟨y, hy⟩ : ∃ y, (LV true r x).getD V0 = y := ⟨_, rfl⟩
          rw [hy] at hcy
          have HY := Lib.hid hy
          obtain ⟨yA, yc, yB, yd, ey⟩ := hcy.cells
          subst ey
          have HCY := Lib.hid (show RdT u2 hi wr.heap.size u2.heap.size y _ from hcy)
          clear hy hcy
          clear hb2
          refine hK.out _ _ (⟨(HU2.out.block w.heap.size (by have := HWS.out; omega)).trans Rr_0.out, (HU2.out.cell (p := ⟨g, o + kk * 5, none⟩) HGR.out).trans HA0.out, (HU2.out.cell (p := ⟨g, o + kk * 5 + 1, none⟩) HGR.out).trans HA1.out, (HU2.out.cell (p := ⟨g, o + kk * 5 + 2, none⟩) HGR.out).trans HA2.out, (HU2.out.cell (p := ⟨g, o + kk * 5 + 3, none⟩) HGR.out).trans HA3.out, (HU2.out.cell (p := ⟨g, o + kk * 5 + 4, none⟩) HGR.out).trans HA4.out⟩) (fun hHeld => ?_)
          clear hK K
          try simp only [Act.put, List.setIfInBounds_toArray, List.set_cons_zero, List.set_cons_succ]
          refine wpAnyH_take (i := 8) (oi := { dst := some 62, op := Op.move (Operand.tmp 70), type := 31, pos := "ref.go:81", after := #[{ on := 7, ground := Ground.data }], guard := none }) (v := ?_) rfl (by kernel_rfl) (by kernel_rfl) (by kernel_rfl) (fun _ _ _ h => h) (Or.inl ⟨by rfl, ?_⟩) hHeld ?_
          rotate_left
          · intro w hSw; (try dsimp only at hSw); go_simp; with_reducible rfl
          try simp only [Act.put, List.setIfInBounds_toArray, List.set_cons_zero, List.set_cons_succ]
          refine wpAnyH_take (i := 9) (oi := { dst := some 71, op := Op.extract (Operand.tmp 62) 0, type := 25, pos := "ref.go:81", after := #[{ on := 8, ground := Ground.data }], guard := none }) (v := ?_) rfl (by kernel_rfl) (by kernel_rfl) (by kernel_rfl) (fun _ _ _ h => h) (Or.inl ⟨by rfl, ?_⟩) hHeld ?_
          rotate_left
          · intro w hSw; (try dsimp only at hSw); go_simp; with_reducible rfl
          try simp only [Act.put, List.setIfInBounds_toArray, List.set_cons_zero, List.set_cons_succ]
          refine wpAnyH_take (i := 10) (oi := { dst := some 72, op := Op.extract (Operand.tmp 62) 1, type := 3, pos := "ref.go:81", after := #[{ on := 8, ground := Ground.data }, { on := 12, ground := Ground.gcOnly Departure.lateStores }], guard := none }) (v := ?_) rfl (by kernel_rfl) (by kernel_rfl) (by kernel_rfl) (fun _ _ _ h => h) (Or.inl ⟨by rfl, ?_⟩) hHeld ?_
          rotate_left
          · intro w hSw; (try dsimp only at hSw); go_simp; with_reducible rfl
          try simp only [Act.put, List.setIfInBounds_toArray, List.set_cons_zero, List.set_cons_succ]
          refine wpAnyH_ready (rs := [11]) (by kernel_rfl) (by simp) ?_
          refine AllReadyH.cons (o := { dst := some 13, op := Op.alloc 25, type := 0, pos := "ref.go:81", after := #[], guard := none }) rfl (fun K hK => ?_) AllReadyH.nil
          have HZ := Lib.hid (heapNew u2 (.cells #[.int .i64 0, .int .i64 0, .string ⟨#[]⟩, .slice none 0 0, .slice none 0 0] 25))
          have HU3 := Lib.hid (HU2.out.alloc HU2.out.size (.cells #[.int .i64 0, .int .i64 0, .string ⟨#[]⟩, .slice none 0 0, .slice none 0 0] 25))
          go_simp
          refine hK.out _ _ (⟨(HU3.out.block w.heap.size (by have := HWS.out; omega)).trans Rr_0.out, (HU3.out.cell (p := ⟨g, o + kk * 5, none⟩) HGR.out).trans HA0.out, (HU3.out.cell (p := ⟨g, o + kk * 5 + 1, none⟩) HGR.out).trans HA1.out, (HU3.out.cell (p := ⟨g, o + kk * 5 + 2, none⟩) HGR.out).trans HA2.out, (HU3.out.cell (p := ⟨g, o + kk * 5 + 3, none⟩) HGR.out).trans HA3.out, (HU3.out.cell (p := ⟨g, o + kk * 5 + 4, none⟩) HGR.out).trans HA4.out⟩) (fun hHeld => ?_)
          clear hK K
          try simp only [Act.put, List.setIfInBounds_toArray, List.set_cons_zero, List.set_cons_succ]
          refine wpAnyH_ready (rs := [12]) (by kernel_rfl) (by simp) ?_
          refine AllReadyH.cons (o := { dst := none, op := Op.store 25 (Operand.tmp 13) (Operand.tmp 71), type := 0, pos := "ref.go:81", after := #[{ on := 11, ground := Ground.data }, { on := 9, ground := Ground.data }, { on := 7, ground := Ground.chain }, { on := 0, ground := Ground.phase }, { on := 1, ground := Ground.phase }, { on := 2, ground := Ground.phase }, { on := 3, ground := Ground.phase }, { on := 4, ground := Ground.phase }, { on := 5, ground := Ground.phase }, { on := 6, ground := Ground.phase }, { on := 7, ground := Ground.phase }, { on := 8, ground := Ground.phase }, { on := 9, ground := Ground.phase }, { on := 10, ground := Ground.textOnly Departure.lateStores }, { on := 11, ground := Ground.phase }], guard := none }) rfl (fun K hK => ?_) AllReadyH.nil
          obtain ⟨⟨z0, z1, z2, z3, z4⟩, ⟨y0, y1, y2, y3, y4⟩⟩ := row5 HZ.out
          go_simp
          clear z0 z1 z2 z3 z4 y0 y1 y2 y3 y4
          obtain ⟨W6, hW6⟩ : ∃ W6, W6 = u2.alloc (.cells #[.int .i64 y.k, .int .i64 y.n, .string (strOf y.s), .slice yA y.l.length yc, .slice yB y.ms.length yd] 25) := ⟨_, rfl⟩
          obtain ⟨E, hE⟩ : ∃ E, E = u2.heap.size := ⟨_, rfl⟩
          have HB6 := Lib.hid (show Below wr.heap.size wr W6 by rw [hW6]; exact HU2.out.alloc HU2.out.size _)
          have HQ := Lib.hid (show QT wr hi ((LV true r x).getD V0) E W6 from ⟨by rw [hE]; exact HU2.out.size, HB6.out, #[.int .i64 y.k, .int .i64 y.n, .string (strOf y.s), .slice yA y.l.length yc, .slice yB y.ms.length yd], by rw [hW6, hE]; exact heapNew _ _, by
            rw [hW6, HY.out]
            exact HCY.out.below ((Below.refl _ _).alloc (Nat.le_refl _) _) (by have := HWS.out; have := HU2.out.size; omega) (Nat.le_refl _) (Nat.le_refl _) (by rw [szAl]; omega)⟩)
          rw [← hW6, ← hE]
          clear hW6 hE HZ
          refine hK.out _ _ (⟨(HB6.out.block w.heap.size (by have := HWS.out; omega)).trans Rr_0.out, (HB6.out.cell (p := ⟨g, o + kk * 5, none⟩) HGR.out).trans HA0.out, (HB6.out.cell (p := ⟨g, o + kk * 5 + 1, none⟩) HGR.out).trans HA1.out, (HB6.out.cell (p := ⟨g, o + kk * 5 + 2, none⟩) HGR.out).trans HA2.out, (HB6.out.cell (p := ⟨g, o + kk * 5 + 3, none⟩) HGR.out).trans HA3.out, (HB6.out.cell (p := ⟨g, o + kk * 5 + 4, none⟩) HGR.out).trans HA4.out⟩) (fun hHeld => ?_)
          clear hK K
          try simp only [Act.put, List.setIfInBounds_toArray, List.set_cons_zero, List.set_cons_succ]
          refine wpAnyH_take (i := 13) (oi := { dst := some 14, op := Op.assign (Operand.tmp 72), type := 3, pos := "ref.go:81", after := #[{ on := 10, ground := Ground.data }, { on := 12, ground := Ground.chain }, { on := 0, ground := Ground.phase }, { on := 1, ground := Ground.phase }, { on := 2, ground := Ground.phase }, { on := 3, ground := Ground.phase }, { on := 4, ground := Ground.phase }, { on := 5, ground := Ground.phase }, { on := 6, ground := Ground.phase }, { on := 7, ground := Ground.phase }, { on := 8, ground := Ground.phase }, { on := 9, ground := Ground.phase }, { on := 10, ground := Ground.phase }, { on := 11, ground := Ground.phase }, { on := 12, ground := Ground.phase }], guard := none }) (v := ?_) rfl (by kernel_rfl) (by kernel_rfl) (by kernel_rfl) (fun _ _ _ h => h) (Or.inl ⟨by rfl, ?_⟩) hHeld ?_
          rotate_left
          · intro w hSw; (try dsimp only at hSw); go_simp; with_reducible rfl
          try simp only [Act.put, List.setIfInBounds_toArray, List.set_cons_zero, List.set_cons_succ]
          refine wpAnyH_done (by kernel_rfl) ?_ _
          clear hHeld
          go_wp2_with fail
          go_meet
          exact ⟨E, rfl, rfl, HQ.out⟩
        · have hzz := heapNew wr (.cells #[.int .i64 0, .int .i64 0, .string ⟨#[]⟩, .slice none 0 0, .slice none 0 0] 25)
          go_simp
          obtain ⟨UZ, hUZ⟩ : ∃ UZ, UZ = (wr.alloc (.cells #[.int .i64 0, .int .i64 0, .string ⟨#[]⟩, .slice none 0 0, .slice none 0 0] 25)).drew := ⟨_, rfl⟩
          obtain ⟨EB, hEB⟩ : ∃ EB, EB = wr.heap.size := ⟨_, rfl⟩
          have HA0' := Lib.hid (show Below wr.heap.size wr UZ by rw [hUZ]; exact ((Below.refl _ _).alloc (Nat.le_refl _) _).drew)
          have HZ0 := Lib.hid (show UZ.heap[EB]? = some (.cells #[.int .i64 0, .int .i64 0, .string ⟨#[]⟩, .slice none 0 0, .slice none 0 0] 25 (0, 0)) by rw [hUZ, hEB]; exact hzz)
          have HEB := Lib.hid (show wr.heap.size ≤ EB by rw [hEB]; exact Nat.le_refl _)
          have HEL0 := Lib.hid (show EB < UZ.heap.size by rw [hUZ, hEB]; show wr.heap.size < (wr.alloc _).heap.size; simp)
          rw [← hUZ, ← hEB]
          clear hUZ hEB hzz
          refine hK.out _ _ (⟨(HA0'.out.block w.heap.size (by have := HWS.out; omega)).trans Rr_0.out, (HA0'.out.cell (p := ⟨g, o + kk * 5, none⟩) HGR.out).trans HA0.out, (HA0'.out.cell (p := ⟨g, o + kk * 5 + 1, none⟩) HGR.out).trans HA1.out, (HA0'.out.cell (p := ⟨g, o + kk * 5 + 2, none⟩) HGR.out).trans HA2.out, (HA0'.out.cell (p := ⟨g, o + kk * 5 + 3, none⟩) HGR.out).trans HA3.out, (HA0'.out.cell (p := ⟨g, o + kk * 5 + 4, none⟩) HGR.out).trans HA4.out⟩) (fun hHeld => ?_)
          clear hK K
          try simp only [Act.put, List.setIfInBounds_toArray, List.set_cons_zero, List.set_cons_succ]
          refine wpAnyH_ready (rs := [7]) (by kernel_rfl) (by simp) ?_
          refine AllReadyH.cons (o := { dst := some 70, op := Op.call { callee := Callee.value (Operand.func 20), args := #[Operand.tmp 67, Operand.tmp 69, Operand.const (Value.bool true)], argTypes := #[25, 40, 4] }, type := 31, pos := "ref.go:81", after := #[{ on := 4, ground := Ground.data }, { on := 6, ground := Ground.data }], guard := none }) rfl (fun K hK => ?_) AllReadyH.nil
          go_simp
          go_at_call 20
          refine (HLD.out _ (HBW.out.trans ((HA0'.out).mono HBW.out.size))).mono ?_
          rintro e u2 ⟨⟨cy, rfl, hcy⟩, hb2⟩
          have HU2 := Lib.hid (show Below wr.heap.size wr u2 from (HA0'.out).trans (hb2.mono (HA0'.out).size))
          obtain ⟨y, hy⟩ : ∃ y, (LV true r x).getD V0 = y := ⟨_, rfl⟩
          rw [hy] at hcy
          have HY := Lib.hid hy
          obtain ⟨yA, yc, yB, yd, ey⟩ := hcy.cells
          subst ey
          have HCY := Lib.hid (show RdT u2 hi UZ.heap.size u2.heap.size y _ from hcy)
          clear hy hcy
          have HZ2 := Lib.hid ((hb2.block EB HEL0.out).trans HZ0.out)
          have HS12 := Lib.hid hb2.size
          clear hb2
          refine hK.out _ _ (⟨(HU2.out.block w.heap.size (by have := HWS.out; omega)).trans Rr_0.out, (HU2.out.cell (p := ⟨g, o + kk * 5, none⟩) HGR.out).trans HA0.out, (HU2.out.cell (p := ⟨g, o + kk * 5 + 1, none⟩) HGR.out).trans HA1.out, (HU2.out.cell (p := ⟨g, o + kk * 5 + 2, none⟩) HGR.out).trans HA2.out, (HU2.out.cell (p := ⟨g, o + kk * 5 + 3, none⟩) HGR.out).trans HA3.out, (HU2.out.cell (p := ⟨g, o + kk * 5 + 4, none⟩) HGR.out).trans HA4.out⟩) (fun hHeld => ?_)
          clear hK K
          try simp only [Act.put, List.setIfInBounds_toArray, List.set_cons_zero, List.set_cons_succ]
          refine wpAnyH_take (i := 8) (oi := { dst := some 62, op := Op.move (Operand.tmp 70), type := 31, pos := "ref.go:81", after := #[{ on := 7, ground := Ground.data }], guard := none }) (v := ?_) rfl (by kernel_rfl) (by kernel_rfl) (by kernel_rfl) (fun _ _ _ h => h) (Or.inl ⟨by rfl, ?_⟩) hHeld ?_
          rotate_left
          · intro w hSw; (try dsimp only at hSw); go_simp; with_reducible rfl
          try simp only [Act.put, List.setIfInBounds_toArray, List.set_cons_zero, List.set_cons_succ]
          refine wpAnyH_take (i := 9) (oi := { dst := some 71, op := Op.extract (Operand.tmp 62) 0, type := 25, pos := "ref.go:81", after := #[{ on := 8, ground := Ground.data }], guard := none }) (v := ?_) rfl (by kernel_rfl) (by kernel_rfl) (by kernel_rfl) (fun _ _ _ h => h) (Or.inl ⟨by rfl, ?_⟩) hHeld ?_
          rotate_left
          · intro w hSw; (try dsimp only at hSw); go_simp; with_reducible rfl
          try simp only [Act.put, List.setIfInBounds_toArray, List.set_cons_zero, List.set_cons_succ]
          refine wpAnyH_take (i := 10) (oi := { dst := some 72, op := Op.extract (Operand.tmp 62) 1, type := 3, pos := "ref.go:81", after := #[{ on := 8, ground := Ground.data }, { on := 12, ground := Ground.gcOnly Departure.lateStores }], guard := none }) (v := ?_) rfl (by kernel_rfl) (by kernel_rfl) (by kernel_rfl) (fun _ _ _ h => h) (Or.inl ⟨by rfl, ?_⟩) hHeld ?_
          rotate_left
          · intro w hSw; (try dsimp only at hSw); go_simp; with_reducible rfl
          try simp only [Act.put, List.setIfInBounds_toArray, List.set_cons_zero, List.set_cons_succ]
          refine wpAnyH_ready (rs := [12]) (by kernel_rfl) (by simp) ?_
          refine AllReadyH.cons (o := { dst := none, op := Op.store 25 (Operand.tmp 13) (Operand.tmp 71), type := 0, pos := "ref.go:81", after := #[{ on := 11, ground := Ground.data }, { on := 9, ground := Ground.data }, { on := 7, ground := Ground.chain }, { on := 0, ground := Ground.phase }, { on := 1, ground := Ground.phase }, { on := 2, ground := Ground.phase }, { on := 3, ground := Ground.phase }, { on := 4, ground := Ground.phase }, { on := 5, ground := Ground.phase }, { on := 6, ground := Ground.phase }, { on := 7, ground := Ground.phase }, { on := 8, ground := Ground.phase }, { on := 9, ground := Ground.phase }, { on := 10, ground := Ground.textOnly Departure.lateStores }, { on := 11, ground := Ground.phase }], guard := none }) rfl (fun K hK => ?_) AllReadyH.nil
          obtain ⟨⟨z0, z1, z2, z3, z4⟩, ⟨y0, y1, y2, y3, y4⟩⟩ := row5 HZ2.out
          go_simp
          clear z0 z1 z2 z3 z4 y0 y1 y2 y3 y4
          obtain ⟨W6, hW6⟩ : ∃ W6, W6 = (((((u2.setCell ⟨EB, 0, none⟩ (.int .i64 y.k)).setCell ⟨EB, 1, none⟩ (.int .i64 y.n)).setCell ⟨EB, 2, none⟩ (.string (strOf y.s))).setCell ⟨EB, 3, none⟩ (.slice yA y.l.length yc)).setCell ⟨EB, 4, none⟩ (.slice yB y.ms.length yd)) := ⟨_, rfl⟩
          obtain ⟨E, hE⟩ : ∃ E, E = EB := ⟨_, rfl⟩
          have HB6 := Lib.hid (show Below wr.heap.size wr W6 by rw [hW6]; exact st5_below HU2.out HEB.out _ _ _ _ _)
          have HQ := Lib.hid (show QT wr hi ((LV true r x).getD V0) E W6 from ⟨by rw [hE]; exact HEB.out, HB6.out, #[.int .i64 y.k, .int .i64 y.n, .string (strOf y.s), .slice yA y.l.length yc, .slice yB y.ms.length yd], by rw [hW6, hE]; exact st5_row HZ2.out _ _ _ _ _, by
            rw [hW6, HY.out]
            exact HCY.out.keep (fun p hp => cell_of_blk (st5_other (by have := HEL0.out; have := HEB.out; have := HWS.out; omega) _ _ _ _ _)) (by have := HEL0.out; have := HEB.out; omega) (Nat.le_of_eq (st5_size (w := u2) (b := EB) _ _ _ _ _).symm)⟩)
          rw [← hW6, ← hE]
          clear hW6 hE HZ2
          refine hK.out _ _ (⟨(HB6.out.block w.heap.size (by have := HWS.out; omega)).trans Rr_0.out, (HB6.out.cell (p := ⟨g, o + kk * 5, none⟩) HGR.out).trans HA0.out, (HB6.out.cell (p := ⟨g, o + kk * 5 + 1, none⟩) HGR.out).trans HA1.out, (HB6.out.cell (p := ⟨g, o + kk * 5 + 2, none⟩) HGR.out).trans HA2.out, (HB6.out.cell (p := ⟨g, o + kk * 5 + 3, none⟩) HGR.out).trans HA3.out, (HB6.out.cell (p := ⟨g, o + kk * 5 + 4, none⟩) HGR.out).trans HA4.out⟩) (fun hHeld => ?_)
          clear hK K
          try simp only [Act.put, List.setIfInBounds_toArray, List.set_cons_zero, List.set_cons_succ]
          refine wpAnyH_take (i := 13) (oi := { dst := some 14, op := Op.assign (Operand.tmp 72), type := 3, pos := "ref.go:81", after := #[{ on := 10, ground := Ground.data }, { on := 12, ground := Ground.chain }, { on := 0, ground := Ground.phase }, { on := 1, ground := Ground.phase }, { on := 2, ground := Ground.phase }, { on := 3, ground := Ground.phase }, { on := 4, ground := Ground.phase }, { on := 5, ground := Ground.phase }, { on := 6, ground := Ground.phase }, { on := 7, ground := Ground.phase }, { on := 8, ground := Ground.phase }, { on := 9, ground := Ground.phase }, { on := 10, ground := Ground.phase }, { on := 11, ground := Ground.phase }, { on := 12, ground := Ground.phase }], guard := none }) (v := ?_) rfl (by kernel_rfl) (by kernel_rfl) (by kernel_rfl) (fun _ _ _ h => h) (Or.inl ⟨by rfl, ?_⟩) hHeld ?_
          rotate_left
          · intro w hSw; (try dsimp only at hSw); go_simp; with_reducible rfl
          try simp only [Act.put, List.setIfInBounds_toArray, List.set_cons_zero, List.set_cons_succ]
          refine wpAnyH_done (by kernel_rfl) ?_ _
          clear hHeld
          go_wp2_with fail
          go_meet
          exact ⟨E, rfl, rfl, HQ.out⟩
      case rest =>
        obtain ⟨E, rfl, rfl, hq⟩ := hcut
        obtain ⟨hE, hbx, ⟨cyl⟩, hy, hcy⟩ := hq.out
        obtain ⟨ov, hov⟩ : ∃ ov, LV true r x = ov := ⟨_, rfl⟩
        have HOV := Lib.hid hov
        rw [hov] at hcy ⊢
        obtain ⟨y, hyy⟩ : ∃ y, ov.getD V0 = y := ⟨_, rfl⟩
        have HYY := Lib.hid hyy
        rw [hyy] at hcy
        obtain ⟨yA, yc, yB, yd, ecy⟩ := hcy.cells
        have ecy' : cyl = _ := ecy
        subst ecy'
        have HBX := Lib.hid hbx
        have HE := Lib.hid hE
        have HCY := Lib.hid (show RdT wc hi wr.heap.size wc.heap.size y [.int .i64 y.k, .int .i64 y.n, .string (strOf y.s), .slice yA y.l.length yc, .slice yB y.ms.length yd] from hcy)
        have hrwc := (hbx.block (w.heap.size + 3) HWS.out).trans HROW.out
        have HRWC := Lib.hid hrwc
        have HNXC := Lib.hid (HNX.out.keep hbx)
        have HBELC := Lib.hid (show Below (w.heap.size + 3) W0 wc from HBEL.out.trans (hbx.mono (Nat.le_of_lt HWS.out)))
        have HBWX := Lib.hid (show Below w.heap.size w wc from HBW.out.trans (hbx.mono HBW.out.size))
        have HWCS := Lib.hid (show w.heap.size + 4 ≤ wc.heap.size from Nat.le_trans HWS.out hbx.size)
        have Rc_1 := Lib.hid (show wc.heap[w.heap.size + 1]? = some (.cells #[.int .i64 0, .int .i64 0, .string ⟨#[]⟩, .slice none 0 0, .slice none 0 0] 25 (0, 0)) from (hbx.block _ (by have := HWS.out; omega)).trans Rr_1.out)
        have Rc_2 := Lib.hid (show wc.heap[w.heap.size + 2]? = some (.cells #[.int .i64 0, .int .i64 0, .string ⟨#[]⟩, .slice none 0 0, .slice none 0 0] 25 (0, 0)) from (hbx.block _ (by have := HWS.out; omega)).trans Rr_2.out)
        obtain ⟨⟨q0, q1, q2, q3, q4⟩, -⟩ := row5 hrwc
        obtain ⟨⟨p0, p1, p2, p3, p4⟩, -⟩ := row5 hy
        clear hq hE hbx hy hcy hrwc ecy hov hyy
        rcases ov with _ | y'
        · have HLN2 := Lib.hid (show LV true ([42] :: r) v = none by rw [LV_star r v HK.out, HGS.out.none HKL.out (by rw [HX.out]; exact HOV.out)]; rfl)
          obtain ⟨⟨r0, r1, r2, r3, r4⟩, ⟨f0, f1, f2, f3, f4⟩⟩ := row5 Rc_1.out
          obtain ⟨⟨n0, n1, n2, n3, n4⟩, -⟩ := row5 Rc_2.out
          have hwy : whyV (none : Option V) = 81 := rfl
          rw [hwy]
          clear hwy
          go_wp2
          refine bodyPost_ret (res5b rfl rfl rfl (st5_row Rc_1.out (.int .i64 0) (.int .i64 0) (.string ⟨#[]⟩) (.slice none 0 0) (.slice none 0 0))) rfl ?_
          rw [HLN2.out]
          exact ⟨⟨[.int .i64 0, .int .i64 0, .string ⟨#[]⟩, .slice none 0 0, .slice none 0 0], rfl, .inl (rd_zero _ _ _)⟩, st5_below HBWX.out (by omega) _ _ _ _ _⟩
        · have hyy := HYY.out
          have hyy : y' = y := hyy
          subst hyy
          have hw0 : whyV (some y') = 0 := rfl
          rw [hw0]
          have HLE := HNL.out kk HKL.out y' (by rw [HX.out]; exact HOV.out)
          have HGS2 := Lib.hid (HGS.out.step HKL.out (y := y') (by rw [HX.out]; exact HOV.out) HLE)
          have hacc := HGS.out.sz
          have hdc := drop_cnt HKL.out
          have hpos := Tr.cnt_pos (v.l[kk]'HKL.out)
          have HACC := Lib.hid (show acc.length + 1 ≤ 1000000000000 by omega)
          have HACC2 := Lib.hid (show acc.length + (flatV y').length ≤ 1000000000000 by omega)
          have HZF := Lib.hid (HZL.out kk HKL.out y' (by rw [HX.out]; exact HOV.out))
          clear hacc hdc hpos HLE hw0
          by_cases h5 : y'.k = 5
          · have HFL := Lib.hid (show flatV y' = y'.l from if_pos h5)
            rw [HFL.out] at HGS2 HACC2 HZF
            obtain ⟨rows2, r1, r2, r3, r4, r5, r6⟩ := HCY.out.rows
            have HX5 := Lib.hid (And.intro r1 (And.intro r2 (And.intro r3 (And.intro r4 (And.intro r5 r6)))))
            have b5 : (y'.k == 5) = true := by rw [h5]; rfl
            clear r1 r2 r3 r4 r5 r6 h5
            go_wp2_with (at_builtin; refine wpList_append_any rfl _ _ 22 rfl (w.heap.size + 3 + 1) 25 i0 _ 5 80 Tryz.underlying22 I0.out I1.out I2.out I3.out rfl (by decide) s0 acc.length rows.flatten rfl HNXC.out.own yA y'.l.length yc rows2.flatten rfl ?qc1 (fun e => HX5.out.2.2.2.2.1 e) HX5.out.2.2.2.1 HX5.out.2.2.1 ?qc2 ?qc3 ?qb ?_)
            case qc1 => rw [flat_len 5 rows2 HX5.out.2.1, HX5.out.1]
            case qc2 => have := HACC2.out; unfold maxLen; omega
            case qc3 => have := HACC2.out; omega
            case qb => have h1 := HWCS.out; omega
            intro s1 w7 hown1 hgrow1
            have HN7 := Lib.hid (HNX.out.app (w' := w7) (s' := s1) HX5.out.1 HX5.out.2.1 HZF.out (fun q h1 h2 => (HX5.out.2.2.2.2.2 q h1 h2).back HBWX.out hhi) hown1)
            have hr7 := (hgrow1.block (w.heap.size + 3) (by have h1 := HWCS.out; omega) (fun e => by have := (HNXC.out.own.lt _ e.symm).1; omega)).trans HRWC.out
            have HR7 := Lib.hid hr7
            have HB7 := Lib.hid (show Below (w.heap.size + 3) W0 w7 from HBELC.out.grown hgrow1 (by have h1 := HWCS.out; omega) (fun g hg => by have := (HNXC.out.own.lt g hg).1; omega))
            obtain ⟨⟨z0, z1, z2, z3, z4⟩, ⟨v0, v1, v2, v3, v4⟩⟩ := row5 hr7
            clear hr7 hown1 hgrow1 HX5 q0 q1 q2 q3 q4 p0 p1 p2 p3 p4
            obtain ⟨A7, N7, c7, e7⟩ : ∃ A N c, s1 = .slice A N c := by
              obtain ⟨A, c, e⟩ := HN7.out.slice
              exact ⟨A, _, c, e⟩
            subst e7
            go_wp2_with fail
            go_roundw
            case rel => exact ⟨kk + 1, by go_num, by omega, (show LoopH w hi (eachV r) v.l (kk + 1) _ (w.heap.size + 3) from ⟨.slice A7 N7 c7, _, _, rowSet w7 (w.heap.size + 3) 3 _ _ (.slice A7 N7 c7) HR7.out, HN7.out.set _ (Nat.lt_succ_self _) _, HGS2.out⟩), (show Below _ _ _ from HB7.out.setCell (p := ⟨w.heap.size + 3, 3, none⟩) (Nat.le_refl _) _)⟩
            case measure => simp [intOf]; omega
          · have HFL := Lib.hid (show flatV y' = [y'] from if_neg h5)
            rw [HFL.out] at HGS2 HZF
            have HOWN := Lib.hid ((HCY.out.own h5).back HBWX.out hhi)
            have b5 : (y'.k == 5) = false := beq_eq_false_iff_ne.2 h5
            obtain ⟨UW, hUW⟩ : ∃ UW, UW = wc.alloc (.cells #[.int .i64 y'.k, .int .i64 y'.n, .string (strOf y'.s), .slice yA y'.l.length yc, .slice yB y'.ms.length yd] 25) := ⟨_, rfl⟩
            have HUC := Lib.hid (show Below wc.heap.size wc UW by rw [hUW]; exact (Below.refl _ _).alloc (Nat.le_refl _) _)
            have HNEW := Lib.hid (show ∀ j u, [Value.int .i64 y'.k, .int .i64 y'.n, .string (strOf y'.s), .slice yA y'.l.length yc, .slice yB y'.ms.length yd][j]? = some u → UW.cell? ((⟨wc.heap.size, 0, none⟩ : Addr).add j) = some u from fun j u hu => by rw [hUW]; exact cells_new wc _ #[Value.int .i64 y'.k, .int .i64 y'.n, .string (strOf y'.s), .slice yA y'.l.length yc, .slice yB y'.ms.length yd] j u hu)
            have HUW := Lib.hid hUW
            have HUS := Lib.hid (show w.heap.size + 4 ≤ UW.heap.size from Nat.le_trans HWCS.out HUC.out.size)
            clear hUW h5
            go_wp2_with (at_builtin; rw [← HUW.out]; refine wpList_append_any rfl _ _ 22 rfl (w.heap.size + 3 + 1) 25 i0 _ 5 80 Tryz.underlying22 I0.out I1.out I2.out I3.out rfl (by decide) s0 acc.length rows.flatten rfl (HNXC.out.keep HUC.out).own (some ⟨wc.heap.size, 0, none⟩) 1 1 [Value.int .i64 y'.k, .int .i64 y'.n, .string (strOf y'.s), .slice yA y'.l.length yc, .slice yB y'.ms.length yd] rfl rfl (fun e => by cases e) (fun ad e j u hu => by injection e with e; subst e; exact HNEW.out j u hu) ?qd3 ?qc2 ?qc3 ?qb ?_)
            case qd3 => simp [Value.oneCell']
            case qc2 => have := HACC.out; unfold maxLen; omega
            case qc3 => have := HACC.out; omega
            case qb => have h1 := HUS.out; omega
            intro s1 w7 hown1 hgrow1
            have HN7 := Lib.hid (HNX.out.app (w' := w7) (s' := s1) (ls := [y']) (rows2 := [[Value.int .i64 y'.k, .int .i64 y'.n, .string (strOf y'.s), .slice yA y'.l.length yc, .slice yB y'.ms.length yd]]) rfl (by simp) HZF.out (fun q h1 h2 => by
              have hq0 : q = 0 := by simp at h1; exact h1
              subst hq0
              exact HOWN.out) (by simpa using hown1))
            have hr7 := (hgrow1.block (w.heap.size + 3) (by have h1 := HUS.out; omega) (fun e => by have := ((HNXC.out.keep HUC.out).own.lt _ e.symm).1; omega)).trans ((HUC.out.block (w.heap.size + 3) (by have h1 := HWCS.out; omega)).trans HRWC.out)
            have HR7 := Lib.hid hr7
            have HB7 := Lib.hid (show Below (w.heap.size + 3) W0 w7 from (HBELC.out.trans (HUC.out.mono (by have h1 := HWCS.out; omega))).grown hgrow1 (by have h1 := HUS.out; omega) (fun g hg => by have := ((HNXC.out.keep HUC.out).own.lt g hg).1; omega))
            obtain ⟨⟨z0, z1, z2, z3, z4⟩, ⟨v0, v1, v2, v3, v4⟩⟩ := row5 hr7
            clear hr7 hown1 hgrow1 q0 q1 q2 q3 q4 p0 p1 p2 p3 p4
            obtain ⟨A7, N7, c7, e7⟩ : ∃ A N c, s1 = .slice A N c := by
              obtain ⟨A, c, e⟩ := HN7.out.slice
              exact ⟨A, _, c, e⟩
            subst e7
            go_wp2_with fail
            go_roundw
            case rel => exact ⟨kk + 1, by go_num, by omega, (show LoopH w hi (eachV r) v.l (kk + 1) _ (w.heap.size + 3) from ⟨.slice A7 N7 c7, _, _, rowSet w7 (w.heap.size + 3) 3 _ _ (.slice A7 N7 c7) HR7.out, HN7.out.set _ (Nat.lt_succ_self _) _, HGS2.out⟩), (show Below _ _ _ from HB7.out.setCell (p := ⟨w.heap.size + 3, 3, none⟩) (Nat.le_refl _) _)⟩
            case measure => simp [intOf]; omega
    · have t3 : decide ((kk : Int) < (l : Int)) = false := decide_eq_false (by omega)
      have t4 : decide (kk < l) = false := decide_eq_false hlt
      obtain ⟨g, hg1, hg2⟩ := HGS.out.end_ (by rw [HLN.out]; omega)
      rw [List.nil_append] at hg2
      obtain rfl := hg2
      obtain ⟨gA, gc, rfl⟩ := HNX.out.slice
      have HLD := Lib.hid (show LV true ([42] :: r) v = some (lsV acc) by rw [LV_star r v HK.out, hg1]; rfl)
      have HTOP := Lib.hid (HNX.out.top (B := w.heap.size + 3 + 1) (H := wr.heap.size) HBW.out hhi (Nat.le_refl _) (Nat.le_refl _))
      clear hg1
      obtain ⟨⟨r0, r1, r2, r3, r4⟩, ⟨f0, f1, f2, f3, f4⟩⟩ := row5 Rr_1.out
      obtain ⟨⟨z0, z1, z2, z3, z4⟩, -⟩ := row5 HROW.out
      go_wp2
      refine bodyPost_ret (res5b rfl rfl rfl (st5_row Rr_1.out (.int .i64 5) (.int .i64 0) (.string ⟨#[]⟩) (.slice gA acc.length gc) (.slice none 0 0))) rfl ?_
      rw [HLD.out]
      refine ⟨⟨[.int .i64 5, .int .i64 0, .string ⟨#[]⟩, .slice gA acc.length gc, .slice none 0 0], rfl, ?_⟩, st5_below HBW.out (by omega) _ _ _ _ _⟩
      exact HTOP.out.keep (fun p hp => cell_of_blk (st5_other (by omega) _ _ _ _ _)) (by omega) (Nat.le_of_eq (st5_size (w := wr) (b := w.heap.size + 1) _ _ _ _ _).symm)
end Go.Proofs.YtmfpaoincgfjmaaGreat.Po
set_option linter.unusedSimpArgs false
namespace Go.Proofs.YtmfpaoincgfjmaaGreat.Po
open Go.Proofs Go.RowKit
open Go.Proofs.YtmfpaoincgfjmaaGreat.Utf
open Go.Proofs.YtmfpaoincgfjmaaGreat.Sc
open Go.Proofs.YtmfpaoincgfjmaaGreat.Re
open Go.Proofs.YtmfpaoincgfjmaaGreat.Tr
open Go.Proofs.YtmfpaoincgfjmaaGreat.Nu

theorem Lead_any (b : Bool) (hi : Nat) : ∀ ps : List (List UInt8), LdCon b hi ps := by
  intro ps
  induction ps with
  | nil => exact Lead_nil b hi
  | cons q r ih =>
    intro v cs pv w hhi hv hz hcn hpv hps
    by_cases h6 : v.k = 6
    · exact Lead_map b hi q r ih v cs pv w hhi hv hz hcn hpv hps h6
    · by_cases h5 : v.k = 5
      · cases b with
        | false => exact Lead_idx0 hi q r ih v cs pv w hhi hv hz hcn hpv hps h5
        | true =>
          by_cases hq : q = [42]
          · subst hq
            exact Lead_star hi r ih v cs pv w hhi hv hz hcn hpv hps h5
          · exact Lead_idx1 hi q r ih v cs pv w hhi hv hz hcn hpv hps ⟨h5, hq⟩
      · exact Lead_other b hi q r v cs pv w hhi hv hz hcn hpv hps ⟨h6, h5⟩
end Go.Proofs.YtmfpaoincgfjmaaGreat.Po
set_option linter.unusedSimpArgs false
namespace Go.Proofs.YtmfpaoincgfjmaaGreat.Po
open Go.Proofs Go.RowKit
open Go.Proofs.YtmfpaoincgfjmaaGreat.Utf
open Go.Proofs.YtmfpaoincgfjmaaGreat.Sc
open Go.Proofs.YtmfpaoincgfjmaaGreat.Re
open Go.Proofs.YtmfpaoincgfjmaaGreat.Tr
open Go.Proofs.YtmfpaoincgfjmaaGreat.Nu

def GivesVR (r : V × Int) (w : World) (e : Ending) (w' : World) : Prop :=
  (∃ cs : List Value, e = .returned (.tuple #[.agg cs.toArray, .int .i64 r.2]) ∧ RdA w' 0 w'.heap.size r.1 cs) ∧ Below w.heap.size w w'
theorem leads_LV (b : Bool) (p : List UInt8) (v : V) {ps : List (List UInt8)} (h : prts p = some ps) : leadsV (LV b) p v = ((LV b ps v).getD V0, whyV (LV b ps v)) := by
  unfold leadsV whyV
  rw [h]
  simp only
  cases LV b ps v <;> rfl

set_option maxRecDepth 100000 in
set_option maxHeartbeats 1000000 in
theorem rFind_any (v : V) (cs : List Value) (p : List UInt8) (w : World) (hv : RdA w 0 w.heap.size v cs) (hz : szA 4611686018427387904 v) (hc : cnt v ≤ 1000000000000) (hp : p.length ≤ 4398046511104) :
    Calls Tryz.prog 7 #[.agg cs.toArray, .string (strOf p)] w (GivesVR (leadsV leadV p v) w) := by
  have hLV : leadsV leadV p v = leadsV (LV false) p v := rfl
  rw [hLV]
  have HPA := Lib.hid (fun (W : World) => rParts_any (strOf p) (by rw [strOf_size]; exact hp) W)
  have HLE := Lib.hid (fun (W : World) (hW : Below w.heap.size w W) (pv : Value) (ps : List (List UInt8)) (hps : prts p = some ps) (hr : RdS W W.heap.size pv ps) => Lead_any false w.heap.size ps v cs pv W hW.size (hv.below hW (Nat.le_refl _) (Nat.le_refl _)) hz hc hr (fun q hq => Nat.le_trans (prts_each hps q hq) (Nat.le_trans hp (by decide))))
  obtain ⟨A0, c0, A20, c20, rfl, -, -, -⟩ := hv.cells
  clear hv hz hp hc hLV
  generalize v.k = k at *
  generalize v.n = n at *
  generalize strOf v.s = S at *
  generalize v.l.length = l at *
  generalize v.ms.length = m at *
  obtain ⟨X, hX⟩ : ∃ X, strOf p = X := ⟨_, rfl⟩
  rw [hX] at HPA ⊢
  have hXd : X.data.toList = p := by rw [← hX, strOf_data]
  rw [hXd] at HPA
  clear hX hXd
  obtain ⟨W0, hW0⟩ : ∃ W0, W0 = ((w.alloc (.cells #[.int .i64 k, .int .i64 n, .string S, .slice A0 l c0, .slice A20 m c20] 25)).alloc (.cells #[.int .i64 0, .int .i64 0, .string ⟨#[]⟩, .slice none 0 0, .slice none 0 0] 25)) := ⟨_, rfl⟩
  have HB0 := Lib.hid (show Below w.heap.size w W0 by rw [hW0]; exact ((Below.refl _ _).alloc (Nat.le_refl _) _).alloc (by simp) _)
  have HS0 := Lib.hid (show W0.heap.size = w.heap.size + 2 by rw [hW0, szAl, szAl])
  have hv0 : W0.heap[w.heap.size]? = some (.cells #[.int .i64 k, .int .i64 n, .string S, .slice A0 l c0, .slice A20 m c20] 25 (0, 0)) := by rw [hW0]; exact heapOld (heapNew _ _) _
  have hr0 : W0.heap[w.heap.size + 1]? = some (.cells #[.int .i64 0, .int .i64 0, .string ⟨#[]⟩, .slice none 0 0, .slice none 0 0] 25 (0, 0)) := by
    rw [hW0, show w.heap.size + 1 = (w.alloc (.cells #[.int .i64 k, .int .i64 n, .string S, .slice A0 l c0, .slice A20 m c20] 25)).heap.size by simp]; exact heapNew _ _
  have HR0 := Lib.hid hr0
  have HV0 := Lib.hid hv0
  have HW0 := Lib.hid hW0
  clear hW0 hv0 hr0
  go_enter Tryz.func7, Tryz.ntmps7
  go_wp2_with fail
  rw [← HW0.out]
  refine (HPA.out _).mono ?_
  rintro e w1 ⟨hres, hb1⟩
  have HB1 := Lib.hid (HB0.out.trans (hb1.mono HB0.out.size))
  have hv1 := (hb1.block w.heap.size (by rw [HS0.out]; omega)).trans HV0.out
  have hr1 := (hb1.block (w.heap.size + 1) (by rw [HS0.out]; omega)).trans HR0.out
  have HS1 := Lib.hid (show w.heap.size + 2 ≤ w1.heap.size by have := hb1.size; rw [HS0.out] at this; exact this)
  have HR1 := Lib.hid hr1
  rcases hres with ⟨ps, pv, hps, rfl, hown⟩ | ⟨hps, rfl⟩
  · have HRS := Lib.hid (RdS.of_own hown)
    have HPS := Lib.hid hps
    obtain ⟨⟨p0, p1, p2, p3, p4⟩, -⟩ := row5 hv1
    clear hb1 hv1 hr1 hps hown
    go_wp2_with fail
    refine (HLE.out _ HB1.out pv ps HPS.out HRS.out).mono ?_
    rintro e w2 ⟨⟨ca, rfl, hca⟩, hb2⟩
    have HB2 := Lib.hid (HB1.out.trans (hb2.mono HB1.out.size))
    have hr2 := (hb2.block (w.heap.size + 1) (by have := HS1.out; omega)).trans HR1.out
    have HR2 := Lib.hid hr2
    have HS2 := Lib.hid (show w.heap.size + 2 ≤ w2.heap.size from Nat.le_trans HS1.out hb2.size)
    have HEQ := Lib.hid (leads_LV false p v HPS.out)
    obtain ⟨y, hy⟩ : ∃ y, (LV false ps v).getD V0 = y := ⟨_, rfl⟩
    obtain ⟨wy, hwy⟩ : ∃ wy, whyV (LV false ps v) = wy := ⟨_, rfl⟩
    rw [hy] at hca HEQ
    rw [hwy] at HEQ ⊢
    have HCA := Lib.hid hca
    have HB12 := Lib.hid hb2.size
    obtain ⟨yA, yc, yB, yd, ey⟩ := hca.cells
    subst ey
    obtain ⟨⟨r0, r1, r2, r3, r4⟩, ⟨f0, f1, f2, f3, f4⟩⟩ := row5 hr2
    clear hca hb2 p0 p1 p2 p3 p4 hy hr2 hwy
    generalize y.k = yk at *
    generalize y.n = yn at *
    generalize strOf y.s = ys at *
    generalize y.l.length = yl at *
    generalize y.ms.length = ym at *
    go_wp2
    refine bodyPost_ret (res5b rfl rfl rfl (st5_row HR2.out (.int .i64 yk) (.int .i64 yn) (.string ys) (.slice yA yl yc) (.slice yB ym yd))) rfl ?_
    rw [HEQ.out]
    exact ⟨⟨[.int .i64 yk, .int .i64 yn, .string ys, .slice yA yl yc, .slice yB ym yd], rfl, (HCA.out.keep (H' := (st5 w2 (w.heap.size + 1) (.int .i64 yk) (.int .i64 yn) (.string ys) (.slice yA yl yc) (.slice yB ym yd)).heap.size) (fun q hq => cell_of_blk (st5_other (by have := HS1.out; omega) _ _ _ _ _)) (Nat.le_refl _) (Nat.le_of_eq (st5_size (w := w2) (b := w.heap.size + 1) _ _ _ _ _).symm)).rd (by rw [st5_size]; have := HS2.out; omega)⟩, st5_below HB2.out (by omega) _ _ _ _ _⟩
  · have HEQ := Lib.hid (show leadsV (LV false) p v = (V0, 80) by unfold leadsV; rw [hps])
    obtain ⟨⟨r0, r1, r2, r3, r4⟩, ⟨f0, f1, f2, f3, f4⟩⟩ := row5 hr1
    clear hb1 hv1 hr1 hps
    go_wp2
    refine bodyPost_ret (res5b rfl rfl rfl (st5_row HR1.out (.int .i64 0) (.int .i64 0) (.string ⟨#[]⟩) (.slice none 0 0) (.slice none 0 0))) rfl ?_
    rw [HEQ.out]
    exact ⟨⟨[.int .i64 0, .int .i64 0, .string ⟨#[]⟩, .slice none 0 0, .slice none 0 0], rfl, rd_zero _ _ _⟩, st5_below HB1.out (by omega) _ _ _ _ _⟩

set_option maxRecDepth 100000 in
set_option maxHeartbeats 1000000 in
theorem rEach_any (v : V) (cs : List Value) (p : List UInt8) (w : World) (hv : RdA w 0 w.heap.size v cs) (hz : szA 4611686018427387904 v) (hc : cnt v ≤ 1000000000000) (hp : p.length ≤ 4398046511104) :
    Calls Tryz.prog 9 #[.agg cs.toArray, .string (strOf p)] w (GivesVR (leadsV eachV p v) w) := by
  have hLV : leadsV eachV p v = leadsV (LV true) p v := rfl
  rw [hLV]
  have HPA := Lib.hid (fun (W : World) => rParts_any (strOf p) (by rw [strOf_size]; exact hp) W)
  have HLE := Lib.hid (fun (W : World) (hW : Below w.heap.size w W) (pv : Value) (ps : List (List UInt8)) (hps : prts p = some ps) (hr : RdS W W.heap.size pv ps) => Lead_any true w.heap.size ps v cs pv W hW.size (hv.below hW (Nat.le_refl _) (Nat.le_refl _)) hz hc hr (fun q hq => Nat.le_trans (prts_each hps q hq) (Nat.le_trans hp (by decide))))
  obtain ⟨A0, c0, A20, c20, rfl, -, -, -⟩ := hv.cells
  clear hv hz hp hc hLV
  generalize v.k = k at *
  generalize v.n = n at *
  generalize strOf v.s = S at *
  generalize v.l.length = l at *
  generalize v.ms.length = m at *
  obtain ⟨X, hX⟩ : ∃ X, strOf p = X := ⟨_, rfl⟩
  rw [hX] at HPA ⊢
  have hXd : X.data.toList = p := by rw [← hX, strOf_data]
  rw [hXd] at HPA
  clear hX hXd
  obtain ⟨W0, hW0⟩ : ∃ W0, W0 = ((w.alloc (.cells #[.int .i64 k, .int .i64 n, .string S, .slice A0 l c0, .slice A20 m c20] 25)).alloc (.cells #[.int .i64 0, .int .i64 0, .string ⟨#[]⟩, .slice none 0 0, .slice none 0 0] 25)) := ⟨_, rfl⟩
  have HB0 := Lib.hid (show Below w.heap.size w W0 by rw [hW0]; exact ((Below.refl _ _).alloc (Nat.le_refl _) _).alloc (by simp) _)
  have HS0 := Lib.hid (show W0.heap.size = w.heap.size + 2 by rw [hW0, szAl, szAl])
  have hv0 : W0.heap[w.heap.size]? = some (.cells #[.int .i64 k, .int .i64 n, .string S, .slice A0 l c0, .slice A20 m c20] 25 (0, 0)) := by rw [hW0]; exact heapOld (heapNew _ _) _
  have hr0 : W0.heap[w.heap.size + 1]? = some (.cells #[.int .i64 0, .int .i64 0, .string ⟨#[]⟩, .slice none 0 0, .slice none 0 0] 25 (0, 0)) := by
    rw [hW0, show w.heap.size + 1 = (w.alloc (.cells #[.int .i64 k, .int .i64 n, .string S, .slice A0 l c0, .slice A20 m c20] 25)).heap.size by simp]; exact heapNew _ _
  have HR0 := Lib.hid hr0
  have HV0 := Lib.hid hv0
  have HW0 := Lib.hid hW0
  clear hW0 hv0 hr0
  go_enter Tryz.func9, Tryz.ntmps9
  go_wp2_with fail
  rw [← HW0.out]
  refine (HPA.out _).mono ?_
  rintro e w1 ⟨hres, hb1⟩
  have HB1 := Lib.hid (HB0.out.trans (hb1.mono HB0.out.size))
  have hv1 := (hb1.block w.heap.size (by rw [HS0.out]; omega)).trans HV0.out
  have hr1 := (hb1.block (w.heap.size + 1) (by rw [HS0.out]; omega)).trans HR0.out
  have HS1 := Lib.hid (show w.heap.size + 2 ≤ w1.heap.size by have := hb1.size; rw [HS0.out] at this; exact this)
  have HR1 := Lib.hid hr1
  rcases hres with ⟨ps, pv, hps, rfl, hown⟩ | ⟨hps, rfl⟩
  · have HRS := Lib.hid (RdS.of_own hown)
    have HPS := Lib.hid hps
    obtain ⟨⟨p0, p1, p2, p3, p4⟩, -⟩ := row5 hv1
    clear hb1 hv1 hr1 hps hown
    go_wp2_with fail
    refine (HLE.out _ HB1.out pv ps HPS.out HRS.out).mono ?_
    rintro e w2 ⟨⟨ca, rfl, hca⟩, hb2⟩
    have HB2 := Lib.hid (HB1.out.trans (hb2.mono HB1.out.size))
    have hr2 := (hb2.block (w.heap.size + 1) (by have := HS1.out; omega)).trans HR1.out
    have HR2 := Lib.hid hr2
    have HS2 := Lib.hid (show w.heap.size + 2 ≤ w2.heap.size from Nat.le_trans HS1.out hb2.size)
    have HEQ := Lib.hid (leads_LV true p v HPS.out)
    obtain ⟨y, hy⟩ : ∃ y, (LV true ps v).getD V0 = y := ⟨_, rfl⟩
    obtain ⟨wy, hwy⟩ : ∃ wy, whyV (LV true ps v) = wy := ⟨_, rfl⟩
    rw [hy] at hca HEQ
    rw [hwy] at HEQ ⊢
    have HCA := Lib.hid hca
    have HB12 := Lib.hid hb2.size
    obtain ⟨yA, yc, yB, yd, ey⟩ := hca.cells
    subst ey
    obtain ⟨⟨r0, r1, r2, r3, r4⟩, ⟨f0, f1, f2, f3, f4⟩⟩ := row5 hr2
    clear hca hb2 p0 p1 p2 p3 p4 hy hr2 hwy
    generalize y.k = yk at *
    generalize y.n = yn at *
    generalize strOf y.s = ys at *
    generalize y.l.length = yl at *
    generalize y.ms.length = ym at *
    go_wp2
    refine bodyPost_ret (res5b rfl rfl rfl (st5_row HR2.out (.int .i64 yk) (.int .i64 yn) (.string ys) (.slice yA yl yc) (.slice yB ym yd))) rfl ?_
    rw [HEQ.out]
    exact ⟨⟨[.int .i64 yk, .int .i64 yn, .string ys, .slice yA yl yc, .slice yB ym yd], rfl, (HCA.out.keep (H' := (st5 w2 (w.heap.size + 1) (.int .i64 yk) (.int .i64 yn) (.string ys) (.slice yA yl yc) (.slice yB ym yd)).heap.size) (fun q hq => cell_of_blk (st5_other (by have := HS1.out; omega) _ _ _ _ _)) (Nat.le_refl _) (Nat.le_of_eq (st5_size (w := w2) (b := w.heap.size + 1) _ _ _ _ _).symm)).rd (by rw [st5_size]; have := HS2.out; omega)⟩, st5_below HB2.out (by omega) _ _ _ _ _⟩
  · have HEQ := Lib.hid (show leadsV (LV true) p v = (V0, 80) by unfold leadsV; rw [hps])
    obtain ⟨⟨r0, r1, r2, r3, r4⟩, ⟨f0, f1, f2, f3, f4⟩⟩ := row5 hr1
    clear hb1 hv1 hr1 hps
    go_wp2
    refine bodyPost_ret (res5b rfl rfl rfl (st5_row HR1.out (.int .i64 0) (.int .i64 0) (.string ⟨#[]⟩) (.slice none 0 0) (.slice none 0 0))) rfl ?_
    rw [HEQ.out]
    exact ⟨⟨[.int .i64 0, .int .i64 0, .string ⟨#[]⟩, .slice none 0 0, .slice none 0 0], rfl, rd_zero _ _ _⟩, st5_below HB1.out (by omega) _ _ _ _ _⟩
end Go.Proofs.YtmfpaoincgfjmaaGreat.Po
set_option linter.unusedSimpArgs false
namespace Go.Proofs.YtmfpaoincgfjmaaGreat.Po
open Go.Proofs Go.RowKit
open Go.Proofs.YtmfpaoincgfjmaaGreat.Utf
open Go.Proofs.YtmfpaoincgfjmaaGreat.Sc
open Go.Proofs.YtmfpaoincgfjmaaGreat.Re
open Go.Proofs.YtmfpaoincgfjmaaGreat.Tr
open Go.Proofs.YtmfpaoincgfjmaaGreat.Nu
open Go.Proofs.YtmfpaoincgfjmaaGreat.Em

set_option maxRecDepth 100000 in
set_option maxHeartbeats 1000000 in
theorem finds_walk (v : V) (cv : List Value) (X : ByteArray) (w : World) (hv : RdA w 0 w.heap.size v cv) (zv : szA reachBytes v) (_hX : X.size ≤ reachBytes) :
    Calls Tryz.prog 3 #[.agg cv.toArray, .string X] w fun e w' => e = .returned (.bool true) ∧ Below w.heap.size w w' := by
  have sv : szA 140737488355328 v := Em.szA_more (by decide) _ zv
  have sv2 : szA 4611686018427387904 v := Em.szA_more (by decide) _ zv
  have HNM := Lib.hid (nm_of v cv hv)
  clear _hX
  obtain ⟨p, hp⟩ : ∃ l : List UInt8, X = strOf l := ⟨X.data.toList, rfl⟩
  have HFE := Lib.hid (fun (W : World) (hW : Below w.heap.size w W) => Few_is v cv 2000 (by decide) W sv2 (hv.below hW (Nat.le_refl _) hW.size))
  by_cases hl : X.size ≤ 200
  · have d1 : decide ((200 : Int) < (X.size : Int)) = false := decide_eq_false (by omega)
    have d1b : decide (200 < X.size) = false := decide_eq_false (by omega)
    have hpl : p.length ≤ 4398046511104 := by rw [hp, strOf_size] at hl; omega
    have HFI := Lib.hid (fun (W : World) (hW : Below w.heap.size w W) => Find_any v cv p W (hv.below hW (Nat.le_refl _) hW.size) sv hpl)
    have HRF := Lib.hid (fun (W : World) (hW : Below w.heap.size w W) (hc : cnt v ≤ 2000) => rFind_any v cv p W (hv.below hW (Nat.le_refl _) hW.size) sv2 (by omega) hpl)
    have HEA := Lib.hid (fun (W : World) (hW : Below w.heap.size w W) (hc : cnt v ≤ 2000) => Each_any v cv p W (hv.below hW (Nat.le_refl _) hW.size) sv hpl (by omega))
    have HRE := Lib.hid (fun (W : World) (hW : Below w.heap.size w W) (hc : cnt v ≤ 2000) => rEach_any v cv p W (hv.below hW (Nat.le_refl _) hW.size) sv2 (by omega) hpl)
    have HSM := Lib.hid (fun (hc : cnt v ≤ 2000) => And.intro (Em.szA_more (show 140737488355328 ≤ 4611686018427387904 by omega) _ (sz_leads (p := p) HNM.out sv)) (leads_sz (B := 4611686018427387904) (p := p) HNM.out sv2 (by omega)))
    rw [← hp] at HFI HRF HEA HRE
    obtain ⟨A1, c1, A2, c2, ev, -⟩ := hv.cells
    subst ev
    clear hv zv sv sv2 hl hp hpl
    generalize v.k = k at *
    generalize v.n = n at *
    generalize strOf v.s = S at *
    generalize v.l.length = l1 at *
    generalize v.ms.length = m1 at *
    obtain ⟨W0, hW0⟩ : ∃ W0, W0 = (w.alloc (.cells #[.int .i64 k, .int .i64 n, .string S, .slice A1 l1 c1, .slice A2 m1 c2] 25)) := ⟨_, rfl⟩
    have HBW0 := Lib.hid (show Below w.heap.size w W0 by rw [hW0]; exact (Below.refl _ _).alloc (Nat.le_refl _) _)
    have hs0 : W0.heap.size = w.heap.size + 1 := by rw [hW0, szAl]
    have RW0_0 := Lib.hid (show W0.heap[w.heap.size]? = some (.cells #[.int .i64 k, .int .i64 n, .string S, .slice A1 l1 c1, .slice A2 m1 c2] 25 (0, 0)) by rw [hW0]; exact (show (w.alloc (.cells #[.int .i64 k, .int .i64 n, .string S, .slice A1 l1 c1, .slice A2 m1 c2] 25)).heap[w.heap.size]? = some (.cells #[.int .i64 k, .int .i64 n, .string S, .slice A1 l1 c1, .slice A2 m1 c2] 25 (0, 0)) from by rw [show w.heap.size = w.heap.size by simp]; exact heapNew _ _))
    have LW0_0 := Lib.hid (show w.heap.size < W0.heap.size by omega)
    have HW0 := Lib.hid hW0
    clear hW0 hs0
    go_enter Tryz.func3, Tryz.ntmps3
    go_wp2_with fail
    rw [← HW0.out]
    refine (awake_any8 _).mono ?_
    rintro e w1 ⟨rfl, hb⟩
    have Rw1_0 := Lib.hid (show w1.heap[w.heap.size]? = some (.cells #[.int .i64 k, .int .i64 n, .string S, .slice A1 l1 c1, .slice A2 m1 c2] 25 (0, 0)) from (hb.block _ LW0_0.out).trans RW0_0.out)
    have Lw1_0 := Lib.hid (show w.heap.size < w1.heap.size from Nat.lt_of_lt_of_le LW0_0.out hb.size)
    have HBw1 := Lib.hid (HBW0.out.trans (hb.mono HBW0.out.size))
    clear hb
    obtain ⟨⟨p0_0, p0_1, p0_2, p0_3, p0_4⟩, -⟩ := row5 Rw1_0.out
    go_wp2_with fail
    clear p0_0 p0_1 p0_2 p0_3 p0_4
    refine (HFE.out _ HBw1.out).mono ?_
    rintro e w2 ⟨⟨b, rfl, hcnt⟩, hb⟩
    have Rw2_0 := Lib.hid (show w2.heap[w.heap.size]? = some (.cells #[.int .i64 k, .int .i64 n, .string S, .slice A1 l1 c1, .slice A2 m1 c2] 25 (0, 0)) from (hb.block _ Lw1_0.out).trans Rw1_0.out)
    have Lw2_0 := Lib.hid (show w.heap.size < w2.heap.size from Nat.lt_of_lt_of_le Lw1_0.out hb.size)
    have HBw2 := Lib.hid (HBw1.out.trans (hb.mono HBw1.out.size))
    have HCNT := Lib.hid hcnt
    clear hcnt
    clear hb
    cases b with
    | false =>
      obtain ⟨⟨p0_0, p0_1, p0_2, p0_3, p0_4⟩, -⟩ := row5 Rw2_0.out
      go_wp2_with fail
      clear p0_0 p0_1 p0_2 p0_3 p0_4
      refine (awake_any8 _).mono ?_
      rintro e w3 ⟨rfl, hb⟩
      have Rw3_0 := Lib.hid (show w3.heap[w.heap.size]? = some (.cells #[.int .i64 k, .int .i64 n, .string S, .slice A1 l1 c1, .slice A2 m1 c2] 25 (0, 0)) from (hb.block _ Lw2_0.out).trans Rw2_0.out)
      have Lw3_0 := Lib.hid (show w.heap.size < w3.heap.size from Nat.lt_of_lt_of_le Lw2_0.out hb.size)
      have HBw3 := Lib.hid (HBw2.out.trans (hb.mono HBw2.out.size))
      clear hb
      go_wp2
      go_ret
      exact ⟨rfl, HBw3.out⟩
    | true =>
      have HCN := Lib.hid (show cnt v ≤ 2000 by have := HCNT.out rfl; omega)
      clear HCNT
      have HS1 := Lib.hid (HSM.out HCN.out).1
      have HS2 := Lib.hid (HSM.out HCN.out).2
      have HEA := Lib.hid (fun W hW => HEA.out W hW HCN.out)
      have HRF := Lib.hid (fun W hW => HRF.out W hW HCN.out)
      have HRE := Lib.hid (fun W hW => HRE.out W hW HCN.out)
      obtain ⟨r1, hr1⟩ : ∃ r, leadsV leadV p v = r := ⟨_, rfl⟩
      obtain ⟨r2, hr2⟩ : ∃ r, leadsV eachV p v = r := ⟨_, rfl⟩
      rw [hr1] at HFI HRF HS1
      rw [hr2] at HEA HRE HS2
      obtain ⟨x1, y1⟩ := r1
      obtain ⟨x2, y2⟩ := r2
      have HS1 := Lib.hid (show szA 4611686018427387904 x1 from HS1.out)
      have HS2 := Lib.hid (show szA 4611686018427387904 x2 from HS2.out)
      have HM1 := Lib.hid (fun (ca cb : List Value) (W : World) (ha : RdA W 0 W.heap.size x1 ca) (hb : RdA W 0 W.heap.size x1 cb) => same_self x1 ca cb W HS1.out ha hb)
      have HM2 := Lib.hid (fun (ca cb : List Value) (W : World) (ha : RdA W 0 W.heap.size x2 ca) (hb : RdA W 0 W.heap.size x2 cb) => same_self x2 ca cb W HS2.out ha hb)
      have e1 : (y1 == y1) = true := beq_self_eq_true _
      have e2 : (y2 == y2) = true := beq_self_eq_true _
      clear hr1 hr2 HSM
      obtain ⟨⟨p0_0, p0_1, p0_2, p0_3, p0_4⟩, -⟩ := row5 Rw2_0.out
      go_wp2_with fail
      clear p0_0 p0_1 p0_2 p0_3 p0_4
      refine (HFI.out _ HBw2.out).mono ?_
      rintro e w3 ⟨⟨acs, rfl, hra⟩, hb⟩
      have Rw3_0 := Lib.hid (show w3.heap[w.heap.size]? = some (.cells #[.int .i64 k, .int .i64 n, .string S, .slice A1 l1 c1, .slice A2 m1 c2] 25 (0, 0)) from (hb.block _ Lw2_0.out).trans Rw2_0.out)
      have Lw3_0 := Lib.hid (show w.heap.size < w3.heap.size from Nat.lt_of_lt_of_le Lw2_0.out hb.size)
      have HBw3 := Lib.hid (HBw2.out.trans (hb.mono HBw2.out.size))
      simp only at hra ⊢
      have HRa := Lib.hid (hra.wide)
      obtain ⟨aA, ac, aB, ad, ea, -⟩ := hra.cells
      subst ea
      clear hra
      generalize x1.k = ak at *
      generalize x1.n = an at *
      generalize strOf x1.s = aS at *
      generalize x1.l.length = al at *
      generalize x1.ms.length = am at *
      clear hb
      have Fw3_a := Lib.hid (Below.refl w3.heap.size w3)
      obtain ⟨W3, hW3⟩ : ∃ W3, W3 = w3.alloc (.cells #[.int .i64 ak, .int .i64 an, .string aS, .slice aA al ac, .slice aB am ad] 25) := ⟨_, rfl⟩
      have hb : Below w3.heap.size w3 W3 := by rw [hW3]; exact (Below.refl _ _).alloc (Nat.le_refl _) _
      have RW3_0 := Lib.hid (show W3.heap[w.heap.size]? = some (.cells #[.int .i64 k, .int .i64 n, .string S, .slice A1 l1 c1, .slice A2 m1 c2] 25 (0, 0)) from (hb.block _ Lw3_0.out).trans Rw3_0.out)
      have LW3_0 := Lib.hid (show w.heap.size < W3.heap.size from Nat.lt_of_lt_of_le Lw3_0.out hb.size)
      have FW3_a := Lib.hid (Fw3_a.out.trans (hb.mono Fw3_a.out.size))
      have HBW3 := Lib.hid (HBw3.out.trans (hb.mono HBw3.out.size))
      have RW3_1 := Lib.hid (show W3.heap[w3.heap.size]? = some (.cells #[.int .i64 ak, .int .i64 an, .string aS, .slice aA al ac, .slice aB am ad] 25 (0, 0)) by rw [hW3]; exact heapNew _ _)
      have LW3_1 := Lib.hid (show w3.heap.size < W3.heap.size by rw [hW3, szAl]; exact Nat.lt_succ_self _)
      have HW3 := Lib.hid hW3
      clear hW3 hb
      have q0 := RW3_0.out
      rw [HW3.out] at q0
      obtain ⟨⟨p0_0, p0_1, p0_2, p0_3, p0_4⟩, -⟩ := row5 q0
      clear q0
      have q1 := RW3_1.out
      rw [HW3.out] at q1
      obtain ⟨⟨p1_0, p1_1, p1_2, p1_3, p1_4⟩, -⟩ := row5 q1
      clear q1
      go_wp2_with fail
      rw [← HW3.out]
      clear p0_0 p0_1 p0_2 p0_3 p0_4 p1_0 p1_1 p1_2 p1_3 p1_4
      refine (HRF.out _ HBW3.out).mono ?_
      rintro e w4 ⟨⟨bcs, rfl, hrb⟩, hb⟩
      have Rw4_0 := Lib.hid (show w4.heap[w.heap.size]? = some (.cells #[.int .i64 k, .int .i64 n, .string S, .slice A1 l1 c1, .slice A2 m1 c2] 25 (0, 0)) from (hb.block _ LW3_0.out).trans RW3_0.out)
      have Lw4_0 := Lib.hid (show w.heap.size < w4.heap.size from Nat.lt_of_lt_of_le LW3_0.out hb.size)
      have Rw4_1 := Lib.hid (show w4.heap[w3.heap.size]? = some (.cells #[.int .i64 ak, .int .i64 an, .string aS, .slice aA al ac, .slice aB am ad] 25 (0, 0)) from (hb.block _ LW3_1.out).trans RW3_1.out)
      have Lw4_1 := Lib.hid (show w3.heap.size < w4.heap.size from Nat.lt_of_lt_of_le LW3_1.out hb.size)
      have Fw4_a := Lib.hid (FW3_a.out.trans (hb.mono FW3_a.out.size))
      have HBw4 := Lib.hid (HBW3.out.trans (hb.mono HBW3.out.size))
      simp only at hrb ⊢
      have HRb := Lib.hid (hrb.wide)
      obtain ⟨bA, bc, bB, bd, eb, -⟩ := hrb.cells
      subst eb
      clear hrb
      generalize x1.k = bk at *
      generalize x1.n = bn at *
      generalize strOf x1.s = bS at *
      generalize x1.l.length = bl at *
      generalize x1.ms.length = bm at *
      clear hb
      have Fw4_b := Lib.hid (Below.refl w4.heap.size w4)
      obtain ⟨W4, hW4⟩ : ∃ W4, W4 = w4.alloc (.cells #[.int .i64 bk, .int .i64 bn, .string bS, .slice bA bl bc, .slice bB bm bd] 25) := ⟨_, rfl⟩
      have hb : Below w4.heap.size w4 W4 := by rw [hW4]; exact (Below.refl _ _).alloc (Nat.le_refl _) _
      have RW4_0 := Lib.hid (show W4.heap[w.heap.size]? = some (.cells #[.int .i64 k, .int .i64 n, .string S, .slice A1 l1 c1, .slice A2 m1 c2] 25 (0, 0)) from (hb.block _ Lw4_0.out).trans Rw4_0.out)
      have LW4_0 := Lib.hid (show w.heap.size < W4.heap.size from Nat.lt_of_lt_of_le Lw4_0.out hb.size)
      have RW4_1 := Lib.hid (show W4.heap[w3.heap.size]? = some (.cells #[.int .i64 ak, .int .i64 an, .string aS, .slice aA al ac, .slice aB am ad] 25 (0, 0)) from (hb.block _ Lw4_1.out).trans Rw4_1.out)
      have LW4_1 := Lib.hid (show w3.heap.size < W4.heap.size from Nat.lt_of_lt_of_le Lw4_1.out hb.size)
      have FW4_a := Lib.hid (Fw4_a.out.trans (hb.mono Fw4_a.out.size))
      have FW4_b := Lib.hid (Fw4_b.out.trans (hb.mono Fw4_b.out.size))
      have HBW4 := Lib.hid (HBw4.out.trans (hb.mono HBw4.out.size))
      have RW4_2 := Lib.hid (show W4.heap[w4.heap.size]? = some (.cells #[.int .i64 bk, .int .i64 bn, .string bS, .slice bA bl bc, .slice bB bm bd] 25 (0, 0)) by rw [hW4]; exact heapNew _ _)
      have LW4_2 := Lib.hid (show w4.heap.size < W4.heap.size by rw [hW4, szAl]; exact Nat.lt_succ_self _)
      have HW4 := Lib.hid hW4
      clear hW4 hb
      have q0 := RW4_0.out
      rw [HW4.out] at q0
      obtain ⟨⟨p0_0, p0_1, p0_2, p0_3, p0_4⟩, -⟩ := row5 q0
      clear q0
      have q1 := RW4_1.out
      rw [HW4.out] at q1
      obtain ⟨⟨p1_0, p1_1, p1_2, p1_3, p1_4⟩, -⟩ := row5 q1
      clear q1
      have q2 := RW4_2.out
      rw [HW4.out] at q2
      obtain ⟨⟨p2_0, p2_1, p2_2, p2_3, p2_4⟩, -⟩ := row5 q2
      clear q2
      go_wp2_with fail
      rw [← HW4.out]
      clear p0_0 p0_1 p0_2 p0_3 p0_4 p1_0 p1_1 p1_2 p1_3 p1_4 p2_0 p2_1 p2_2 p2_3 p2_4
      refine (HEA.out _ HBW4.out).mono ?_
      rintro e w5 ⟨⟨ccs, rfl, hrc⟩, hb⟩
      have Rw5_0 := Lib.hid (show w5.heap[w.heap.size]? = some (.cells #[.int .i64 k, .int .i64 n, .string S, .slice A1 l1 c1, .slice A2 m1 c2] 25 (0, 0)) from (hb.block _ LW4_0.out).trans RW4_0.out)
      have Lw5_0 := Lib.hid (show w.heap.size < w5.heap.size from Nat.lt_of_lt_of_le LW4_0.out hb.size)
      have Rw5_1 := Lib.hid (show w5.heap[w3.heap.size]? = some (.cells #[.int .i64 ak, .int .i64 an, .string aS, .slice aA al ac, .slice aB am ad] 25 (0, 0)) from (hb.block _ LW4_1.out).trans RW4_1.out)
      have Lw5_1 := Lib.hid (show w3.heap.size < w5.heap.size from Nat.lt_of_lt_of_le LW4_1.out hb.size)
      have Rw5_2 := Lib.hid (show w5.heap[w4.heap.size]? = some (.cells #[.int .i64 bk, .int .i64 bn, .string bS, .slice bA bl bc, .slice bB bm bd] 25 (0, 0)) from (hb.block _ LW4_2.out).trans RW4_2.out)
      have Lw5_2 := Lib.hid (show w4.heap.size < w5.heap.size from Nat.lt_of_lt_of_le LW4_2.out hb.size)
      have Fw5_a := Lib.hid (FW4_a.out.trans (hb.mono FW4_a.out.size))
      have Fw5_b := Lib.hid (FW4_b.out.trans (hb.mono FW4_b.out.size))
      have HBw5 := Lib.hid (HBW4.out.trans (hb.mono HBW4.out.size))
      simp only at hrc ⊢
      have HRc := Lib.hid (hrc.wide)
      obtain ⟨cA, cc, cB, cd, ec, -⟩ := hrc.cells
      subst ec
      clear hrc
      generalize x2.k = ck at *
      generalize x2.n = cn at *
      generalize strOf x2.s = cS at *
      generalize x2.l.length = cl at *
      generalize x2.ms.length = cm at *
      clear hb
      have Fw5_c := Lib.hid (Below.refl w5.heap.size w5)
      obtain ⟨W5, hW5⟩ : ∃ W5, W5 = w5.alloc (.cells #[.int .i64 ck, .int .i64 cn, .string cS, .slice cA cl cc, .slice cB cm cd] 25) := ⟨_, rfl⟩
      have hb : Below w5.heap.size w5 W5 := by rw [hW5]; exact (Below.refl _ _).alloc (Nat.le_refl _) _
      have RW5_0 := Lib.hid (show W5.heap[w.heap.size]? = some (.cells #[.int .i64 k, .int .i64 n, .string S, .slice A1 l1 c1, .slice A2 m1 c2] 25 (0, 0)) from (hb.block _ Lw5_0.out).trans Rw5_0.out)
      have LW5_0 := Lib.hid (show w.heap.size < W5.heap.size from Nat.lt_of_lt_of_le Lw5_0.out hb.size)
      have RW5_1 := Lib.hid (show W5.heap[w3.heap.size]? = some (.cells #[.int .i64 ak, .int .i64 an, .string aS, .slice aA al ac, .slice aB am ad] 25 (0, 0)) from (hb.block _ Lw5_1.out).trans Rw5_1.out)
      have LW5_1 := Lib.hid (show w3.heap.size < W5.heap.size from Nat.lt_of_lt_of_le Lw5_1.out hb.size)
      have RW5_2 := Lib.hid (show W5.heap[w4.heap.size]? = some (.cells #[.int .i64 bk, .int .i64 bn, .string bS, .slice bA bl bc, .slice bB bm bd] 25 (0, 0)) from (hb.block _ Lw5_2.out).trans Rw5_2.out)
      have LW5_2 := Lib.hid (show w4.heap.size < W5.heap.size from Nat.lt_of_lt_of_le Lw5_2.out hb.size)
      have FW5_a := Lib.hid (Fw5_a.out.trans (hb.mono Fw5_a.out.size))
      have FW5_b := Lib.hid (Fw5_b.out.trans (hb.mono Fw5_b.out.size))
      have FW5_c := Lib.hid (Fw5_c.out.trans (hb.mono Fw5_c.out.size))
      have HBW5 := Lib.hid (HBw5.out.trans (hb.mono HBw5.out.size))
      have RW5_3 := Lib.hid (show W5.heap[w5.heap.size]? = some (.cells #[.int .i64 ck, .int .i64 cn, .string cS, .slice cA cl cc, .slice cB cm cd] 25 (0, 0)) by rw [hW5]; exact heapNew _ _)
      have LW5_3 := Lib.hid (show w5.heap.size < W5.heap.size by rw [hW5, szAl]; exact Nat.lt_succ_self _)
      have HW5 := Lib.hid hW5
      clear hW5 hb
      have q0 := RW5_0.out
      rw [HW5.out] at q0
      obtain ⟨⟨p0_0, p0_1, p0_2, p0_3, p0_4⟩, -⟩ := row5 q0
      clear q0
      have q1 := RW5_1.out
      rw [HW5.out] at q1
      obtain ⟨⟨p1_0, p1_1, p1_2, p1_3, p1_4⟩, -⟩ := row5 q1
      clear q1
      have q2 := RW5_2.out
      rw [HW5.out] at q2
      obtain ⟨⟨p2_0, p2_1, p2_2, p2_3, p2_4⟩, -⟩ := row5 q2
      clear q2
      have q3 := RW5_3.out
      rw [HW5.out] at q3
      obtain ⟨⟨p3_0, p3_1, p3_2, p3_3, p3_4⟩, -⟩ := row5 q3
      clear q3
      go_wp2_with fail
      rw [← HW5.out]
      clear p0_0 p0_1 p0_2 p0_3 p0_4 p1_0 p1_1 p1_2 p1_3 p1_4 p2_0 p2_1 p2_2 p2_3 p2_4 p3_0 p3_1 p3_2 p3_3 p3_4
      refine (HRE.out _ HBW5.out).mono ?_
      rintro e w6 ⟨⟨dcs, rfl, hrd⟩, hb⟩
      have Rw6_0 := Lib.hid (show w6.heap[w.heap.size]? = some (.cells #[.int .i64 k, .int .i64 n, .string S, .slice A1 l1 c1, .slice A2 m1 c2] 25 (0, 0)) from (hb.block _ LW5_0.out).trans RW5_0.out)
      have Lw6_0 := Lib.hid (show w.heap.size < w6.heap.size from Nat.lt_of_lt_of_le LW5_0.out hb.size)
      have Rw6_1 := Lib.hid (show w6.heap[w3.heap.size]? = some (.cells #[.int .i64 ak, .int .i64 an, .string aS, .slice aA al ac, .slice aB am ad] 25 (0, 0)) from (hb.block _ LW5_1.out).trans RW5_1.out)
      have Lw6_1 := Lib.hid (show w3.heap.size < w6.heap.size from Nat.lt_of_lt_of_le LW5_1.out hb.size)
      have Rw6_2 := Lib.hid (show w6.heap[w4.heap.size]? = some (.cells #[.int .i64 bk, .int .i64 bn, .string bS, .slice bA bl bc, .slice bB bm bd] 25 (0, 0)) from (hb.block _ LW5_2.out).trans RW5_2.out)
      have Lw6_2 := Lib.hid (show w4.heap.size < w6.heap.size from Nat.lt_of_lt_of_le LW5_2.out hb.size)
      have Rw6_3 := Lib.hid (show w6.heap[w5.heap.size]? = some (.cells #[.int .i64 ck, .int .i64 cn, .string cS, .slice cA cl cc, .slice cB cm cd] 25 (0, 0)) from (hb.block _ LW5_3.out).trans RW5_3.out)
      have Lw6_3 := Lib.hid (show w5.heap.size < w6.heap.size from Nat.lt_of_lt_of_le LW5_3.out hb.size)
      have Fw6_a := Lib.hid (FW5_a.out.trans (hb.mono FW5_a.out.size))
      have Fw6_b := Lib.hid (FW5_b.out.trans (hb.mono FW5_b.out.size))
      have Fw6_c := Lib.hid (FW5_c.out.trans (hb.mono FW5_c.out.size))
      have HBw6 := Lib.hid (HBW5.out.trans (hb.mono HBW5.out.size))
      simp only at hrd ⊢
      have HRd := Lib.hid (hrd.wide)
      obtain ⟨dA, dc, dB, dd, ed, -⟩ := hrd.cells
      subst ed
      clear hrd
      generalize x2.k = dk at *
      generalize x2.n = dn at *
      generalize strOf x2.s = dS at *
      generalize x2.l.length = dl at *
      generalize x2.ms.length = dm at *
      clear hb
      have Fw6_d := Lib.hid (Below.refl w6.heap.size w6)
      obtain ⟨W6, hW6⟩ : ∃ W6, W6 = w6.alloc (.cells #[.int .i64 dk, .int .i64 dn, .string dS, .slice dA dl dc, .slice dB dm dd] 25) := ⟨_, rfl⟩
      have hb : Below w6.heap.size w6 W6 := by rw [hW6]; exact (Below.refl _ _).alloc (Nat.le_refl _) _
      have RW6_0 := Lib.hid (show W6.heap[w.heap.size]? = some (.cells #[.int .i64 k, .int .i64 n, .string S, .slice A1 l1 c1, .slice A2 m1 c2] 25 (0, 0)) from (hb.block _ Lw6_0.out).trans Rw6_0.out)
      have LW6_0 := Lib.hid (show w.heap.size < W6.heap.size from Nat.lt_of_lt_of_le Lw6_0.out hb.size)
      have RW6_1 := Lib.hid (show W6.heap[w3.heap.size]? = some (.cells #[.int .i64 ak, .int .i64 an, .string aS, .slice aA al ac, .slice aB am ad] 25 (0, 0)) from (hb.block _ Lw6_1.out).trans Rw6_1.out)
      have LW6_1 := Lib.hid (show w3.heap.size < W6.heap.size from Nat.lt_of_lt_of_le Lw6_1.out hb.size)
      have RW6_2 := Lib.hid (show W6.heap[w4.heap.size]? = some (.cells #[.int .i64 bk, .int .i64 bn, .string bS, .slice bA bl bc, .slice bB bm bd] 25 (0, 0)) from (hb.block _ Lw6_2.out).trans Rw6_2.out)
      have LW6_2 := Lib.hid (show w4.heap.size < W6.heap.size from Nat.lt_of_lt_of_le Lw6_2.out hb.size)
      have RW6_3 := Lib.hid (show W6.heap[w5.heap.size]? = some (.cells #[.int .i64 ck, .int .i64 cn, .string cS, .slice cA cl cc, .slice cB cm cd] 25 (0, 0)) from (hb.block _ Lw6_3.out).trans Rw6_3.out)
      have LW6_3 := Lib.hid (show w5.heap.size < W6.heap.size from Nat.lt_of_lt_of_le Lw6_3.out hb.size)
      have FW6_a := Lib.hid (Fw6_a.out.trans (hb.mono Fw6_a.out.size))
      have FW6_b := Lib.hid (Fw6_b.out.trans (hb.mono Fw6_b.out.size))
      have FW6_c := Lib.hid (Fw6_c.out.trans (hb.mono Fw6_c.out.size))
      have FW6_d := Lib.hid (Fw6_d.out.trans (hb.mono Fw6_d.out.size))
      have HBW6 := Lib.hid (HBw6.out.trans (hb.mono HBw6.out.size))
      have RW6_4 := Lib.hid (show W6.heap[w6.heap.size]? = some (.cells #[.int .i64 dk, .int .i64 dn, .string dS, .slice dA dl dc, .slice dB dm dd] 25 (0, 0)) by rw [hW6]; exact heapNew _ _)
      have LW6_4 := Lib.hid (show w6.heap.size < W6.heap.size by rw [hW6, szAl]; exact Nat.lt_succ_self _)
      have HW6 := Lib.hid hW6
      clear hW6 hb
      have q0 := RW6_0.out
      rw [HW6.out] at q0
      obtain ⟨⟨p0_0, p0_1, p0_2, p0_3, p0_4⟩, -⟩ := row5 q0
      clear q0
      have q1 := RW6_1.out
      rw [HW6.out] at q1
      obtain ⟨⟨p1_0, p1_1, p1_2, p1_3, p1_4⟩, -⟩ := row5 q1
      clear q1
      have q2 := RW6_2.out
      rw [HW6.out] at q2
      obtain ⟨⟨p2_0, p2_1, p2_2, p2_3, p2_4⟩, -⟩ := row5 q2
      clear q2
      have q3 := RW6_3.out
      rw [HW6.out] at q3
      obtain ⟨⟨p3_0, p3_1, p3_2, p3_3, p3_4⟩, -⟩ := row5 q3
      clear q3
      have q4 := RW6_4.out
      rw [HW6.out] at q4
      obtain ⟨⟨p4_0, p4_1, p4_2, p4_3, p4_4⟩, -⟩ := row5 q4
      clear q4
      go_wp2_with fail
      rw [← HW6.out]
      clear p0_0 p0_1 p0_2 p0_3 p0_4 p1_0 p1_1 p1_2 p1_3 p1_4 p2_0 p2_1 p2_2 p2_3 p2_4 p3_0 p3_1 p3_2 p3_3 p3_4 p4_0 p4_1 p4_2 p4_3 p4_4
      refine (HM1.out [.int .i64 ak, .int .i64 an, .string aS, .slice aA al ac, .slice aB am ad] [.int .i64 bk, .int .i64 bn, .string bS, .slice bA bl bc, .slice bB bm bd] _ (HRa.out.below FW6_a.out (Nat.le_refl _) FW6_a.out.size) (HRb.out.below FW6_b.out (Nat.le_refl _) FW6_b.out.size)).mono ?_
      rintro e w7 ⟨rfl, hb⟩
      have Rw7_0 := Lib.hid (show w7.heap[w.heap.size]? = some (.cells #[.int .i64 k, .int .i64 n, .string S, .slice A1 l1 c1, .slice A2 m1 c2] 25 (0, 0)) from (hb.block _ LW6_0.out).trans RW6_0.out)
      have Lw7_0 := Lib.hid (show w.heap.size < w7.heap.size from Nat.lt_of_lt_of_le LW6_0.out hb.size)
      have Rw7_1 := Lib.hid (show w7.heap[w3.heap.size]? = some (.cells #[.int .i64 ak, .int .i64 an, .string aS, .slice aA al ac, .slice aB am ad] 25 (0, 0)) from (hb.block _ LW6_1.out).trans RW6_1.out)
      have Lw7_1 := Lib.hid (show w3.heap.size < w7.heap.size from Nat.lt_of_lt_of_le LW6_1.out hb.size)
      have Rw7_2 := Lib.hid (show w7.heap[w4.heap.size]? = some (.cells #[.int .i64 bk, .int .i64 bn, .string bS, .slice bA bl bc, .slice bB bm bd] 25 (0, 0)) from (hb.block _ LW6_2.out).trans RW6_2.out)
      have Lw7_2 := Lib.hid (show w4.heap.size < w7.heap.size from Nat.lt_of_lt_of_le LW6_2.out hb.size)
      have Rw7_3 := Lib.hid (show w7.heap[w5.heap.size]? = some (.cells #[.int .i64 ck, .int .i64 cn, .string cS, .slice cA cl cc, .slice cB cm cd] 25 (0, 0)) from (hb.block _ LW6_3.out).trans RW6_3.out)
      have Lw7_3 := Lib.hid (show w5.heap.size < w7.heap.size from Nat.lt_of_lt_of_le LW6_3.out hb.size)
      have Rw7_4 := Lib.hid (show w7.heap[w6.heap.size]? = some (.cells #[.int .i64 dk, .int .i64 dn, .string dS, .slice dA dl dc, .slice dB dm dd] 25 (0, 0)) from (hb.block _ LW6_4.out).trans RW6_4.out)
      have Lw7_4 := Lib.hid (show w6.heap.size < w7.heap.size from Nat.lt_of_lt_of_le LW6_4.out hb.size)
      have Fw7_a := Lib.hid (FW6_a.out.trans (hb.mono FW6_a.out.size))
      have Fw7_b := Lib.hid (FW6_b.out.trans (hb.mono FW6_b.out.size))
      have Fw7_c := Lib.hid (FW6_c.out.trans (hb.mono FW6_c.out.size))
      have Fw7_d := Lib.hid (FW6_d.out.trans (hb.mono FW6_d.out.size))
      have HBw7 := Lib.hid (HBW6.out.trans (hb.mono HBW6.out.size))
      clear hb
      obtain ⟨⟨p0_0, p0_1, p0_2, p0_3, p0_4⟩, -⟩ := row5 Rw7_0.out
      obtain ⟨⟨p1_0, p1_1, p1_2, p1_3, p1_4⟩, -⟩ := row5 Rw7_1.out
      obtain ⟨⟨p2_0, p2_1, p2_2, p2_3, p2_4⟩, -⟩ := row5 Rw7_2.out
      obtain ⟨⟨p3_0, p3_1, p3_2, p3_3, p3_4⟩, -⟩ := row5 Rw7_3.out
      obtain ⟨⟨p4_0, p4_1, p4_2, p4_3, p4_4⟩, -⟩ := row5 Rw7_4.out
      go_wp2_with fail
      clear p0_0 p0_1 p0_2 p0_3 p0_4 p1_0 p1_1 p1_2 p1_3 p1_4 p2_0 p2_1 p2_2 p2_3 p2_4 p3_0 p3_1 p3_2 p3_3 p3_4 p4_0 p4_1 p4_2 p4_3 p4_4
      refine (HM2.out [.int .i64 ck, .int .i64 cn, .string cS, .slice cA cl cc, .slice cB cm cd] [.int .i64 dk, .int .i64 dn, .string dS, .slice dA dl dc, .slice dB dm dd] _ (HRc.out.below Fw7_c.out (Nat.le_refl _) Fw7_c.out.size) (HRd.out.below Fw7_d.out (Nat.le_refl _) Fw7_d.out.size)).mono ?_
      rintro e w8 ⟨rfl, hb⟩
      have Rw8_0 := Lib.hid (show w8.heap[w.heap.size]? = some (.cells #[.int .i64 k, .int .i64 n, .string S, .slice A1 l1 c1, .slice A2 m1 c2] 25 (0, 0)) from (hb.block _ Lw7_0.out).trans Rw7_0.out)
      have Lw8_0 := Lib.hid (show w.heap.size < w8.heap.size from Nat.lt_of_lt_of_le Lw7_0.out hb.size)
      have Rw8_1 := Lib.hid (show w8.heap[w3.heap.size]? = some (.cells #[.int .i64 ak, .int .i64 an, .string aS, .slice aA al ac, .slice aB am ad] 25 (0, 0)) from (hb.block _ Lw7_1.out).trans Rw7_1.out)
      have Lw8_1 := Lib.hid (show w3.heap.size < w8.heap.size from Nat.lt_of_lt_of_le Lw7_1.out hb.size)
      have Rw8_2 := Lib.hid (show w8.heap[w4.heap.size]? = some (.cells #[.int .i64 bk, .int .i64 bn, .string bS, .slice bA bl bc, .slice bB bm bd] 25 (0, 0)) from (hb.block _ Lw7_2.out).trans Rw7_2.out)
      have Lw8_2 := Lib.hid (show w4.heap.size < w8.heap.size from Nat.lt_of_lt_of_le Lw7_2.out hb.size)
      have Rw8_3 := Lib.hid (show w8.heap[w5.heap.size]? = some (.cells #[.int .i64 ck, .int .i64 cn, .string cS, .slice cA cl cc, .slice cB cm cd] 25 (0, 0)) from (hb.block _ Lw7_3.out).trans Rw7_3.out)
      have Lw8_3 := Lib.hid (show w5.heap.size < w8.heap.size from Nat.lt_of_lt_of_le Lw7_3.out hb.size)
      have Rw8_4 := Lib.hid (show w8.heap[w6.heap.size]? = some (.cells #[.int .i64 dk, .int .i64 dn, .string dS, .slice dA dl dc, .slice dB dm dd] 25 (0, 0)) from (hb.block _ Lw7_4.out).trans Rw7_4.out)
      have Lw8_4 := Lib.hid (show w6.heap.size < w8.heap.size from Nat.lt_of_lt_of_le Lw7_4.out hb.size)
      have Fw8_a := Lib.hid (Fw7_a.out.trans (hb.mono Fw7_a.out.size))
      have Fw8_b := Lib.hid (Fw7_b.out.trans (hb.mono Fw7_b.out.size))
      have Fw8_c := Lib.hid (Fw7_c.out.trans (hb.mono Fw7_c.out.size))
      have Fw8_d := Lib.hid (Fw7_d.out.trans (hb.mono Fw7_d.out.size))
      have HBw8 := Lib.hid (HBw7.out.trans (hb.mono HBw7.out.size))
      clear hb
      go_wp2
      go_ret
      exact ⟨rfl, HBw8.out⟩
  · have d1 : decide ((200 : Int) < (X.size : Int)) = true := decide_eq_true (by omega)
    have d1b : decide (200 < X.size) = true := decide_eq_true (by omega)
    obtain ⟨A1, c1, A2, c2, ev, -⟩ := hv.cells
    subst ev
    clear hv zv sv sv2 hl hp HNM
    generalize v.k = k at *
    generalize v.n = n at *
    generalize strOf v.s = S at *
    generalize v.l.length = l1 at *
    generalize v.ms.length = m1 at *
    obtain ⟨W0, hW0⟩ : ∃ W0, W0 = (w.alloc (.cells #[.int .i64 k, .int .i64 n, .string S, .slice A1 l1 c1, .slice A2 m1 c2] 25)) := ⟨_, rfl⟩
    have HBW0 := Lib.hid (show Below w.heap.size w W0 by rw [hW0]; exact (Below.refl _ _).alloc (Nat.le_refl _) _)
    have hs0 : W0.heap.size = w.heap.size + 1 := by rw [hW0, szAl]
    have RW0_0 := Lib.hid (show W0.heap[w.heap.size]? = some (.cells #[.int .i64 k, .int .i64 n, .string S, .slice A1 l1 c1, .slice A2 m1 c2] 25 (0, 0)) by rw [hW0]; exact (show (w.alloc (.cells #[.int .i64 k, .int .i64 n, .string S, .slice A1 l1 c1, .slice A2 m1 c2] 25)).heap[w.heap.size]? = some (.cells #[.int .i64 k, .int .i64 n, .string S, .slice A1 l1 c1, .slice A2 m1 c2] 25 (0, 0)) from by rw [show w.heap.size = w.heap.size by simp]; exact heapNew _ _))
    have LW0_0 := Lib.hid (show w.heap.size < W0.heap.size by omega)
    have HW0 := Lib.hid hW0
    clear hW0 hs0
    go_enter Tryz.func3, Tryz.ntmps3
    go_wp2_with fail
    rw [← HW0.out]
    refine (awake_any8 _).mono ?_
    rintro e w1 ⟨rfl, hb⟩
    have Rw1_0 := Lib.hid (show w1.heap[w.heap.size]? = some (.cells #[.int .i64 k, .int .i64 n, .string S, .slice A1 l1 c1, .slice A2 m1 c2] 25 (0, 0)) from (hb.block _ LW0_0.out).trans RW0_0.out)
    have Lw1_0 := Lib.hid (show w.heap.size < w1.heap.size from Nat.lt_of_lt_of_le LW0_0.out hb.size)
    have HBw1 := Lib.hid (HBW0.out.trans (hb.mono HBW0.out.size))
    clear hb
    obtain ⟨⟨p0_0, p0_1, p0_2, p0_3, p0_4⟩, -⟩ := row5 Rw1_0.out
    go_wp2_with fail
    clear p0_0 p0_1 p0_2 p0_3 p0_4
    refine (HFE.out _ HBw1.out).mono ?_
    rintro e w2 ⟨⟨b, rfl, hcnt⟩, hb⟩
    have Rw2_0 := Lib.hid (show w2.heap[w.heap.size]? = some (.cells #[.int .i64 k, .int .i64 n, .string S, .slice A1 l1 c1, .slice A2 m1 c2] 25 (0, 0)) from (hb.block _ Lw1_0.out).trans Rw1_0.out)
    have Lw2_0 := Lib.hid (show w.heap.size < w2.heap.size from Nat.lt_of_lt_of_le Lw1_0.out hb.size)
    have HBw2 := Lib.hid (HBw1.out.trans (hb.mono HBw1.out.size))
    have HCNT := Lib.hid hcnt
    clear hcnt
    clear hb
    cases b with
    | false =>
      obtain ⟨⟨p0_0, p0_1, p0_2, p0_3, p0_4⟩, -⟩ := row5 Rw2_0.out
      go_wp2_with fail
      clear p0_0 p0_1 p0_2 p0_3 p0_4
      refine (awake_any8 _).mono ?_
      rintro e w3 ⟨rfl, hb⟩
      have Rw3_0 := Lib.hid (show w3.heap[w.heap.size]? = some (.cells #[.int .i64 k, .int .i64 n, .string S, .slice A1 l1 c1, .slice A2 m1 c2] 25 (0, 0)) from (hb.block _ Lw2_0.out).trans Rw2_0.out)
      have Lw3_0 := Lib.hid (show w.heap.size < w3.heap.size from Nat.lt_of_lt_of_le Lw2_0.out hb.size)
      have HBw3 := Lib.hid (HBw2.out.trans (hb.mono HBw2.out.size))
      clear hb
      go_wp2
      go_ret
      exact ⟨rfl, HBw3.out⟩
    | true =>
      obtain ⟨⟨p0_0, p0_1, p0_2, p0_3, p0_4⟩, -⟩ := row5 Rw2_0.out
      go_wp2_with fail
      clear p0_0 p0_1 p0_2 p0_3 p0_4
      refine (awake_any8 _).mono ?_
      rintro e w3 ⟨rfl, hb⟩
      have Rw3_0 := Lib.hid (show w3.heap[w.heap.size]? = some (.cells #[.int .i64 k, .int .i64 n, .string S, .slice A1 l1 c1, .slice A2 m1 c2] 25 (0, 0)) from (hb.block _ Lw2_0.out).trans Rw2_0.out)
      have Lw3_0 := Lib.hid (show w.heap.size < w3.heap.size from Nat.lt_of_lt_of_le Lw2_0.out hb.size)
      have HBw3 := Lib.hid (HBw2.out.trans (hb.mono HBw2.out.size))
      clear hb
      go_wp2
      go_ret
      exact ⟨rfl, HBw3.out⟩
end Go.Proofs.YtmfpaoincgfjmaaGreat.Po
