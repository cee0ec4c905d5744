import Derived.Test.YtbepnjgbkfidiaaTtTsH
/- level of the document's answer: it returns some bool. -/
namespace Go.Proofs.Ytbepnjgbkfidiaa.Tr
open Go.Proofs Go.RowKit Go.Lib
open Go.Proofs.Ytbepnjgbkfidiaa.Utf
open Go.Proofs.Ytbepnjgbkfidiaa.Sc
open Go.Proofs.Ytbepnjgbkfidiaa.Re

def LvCon (most : Int) : Prop := ∀ (l : List V) (A : Option Addr) (c : Nat) (w : World), l.length ≤ 40000 → szAL 4611686018427387904 l → (0 < l.length → ∃ g o, A = some ⟨g, o, none⟩ ∧ 0 ≤ g ∧ g < w.heap.size ∧ RdAL w 0 w.heap.size g o l) →
  Calls Try.prog 37 #[.slice A l.length c, .int .i64 most] w (SomeB w)
set_option maxRecDepth 100000 in
set_option maxHeartbeats 1000000 in
theorem level_step (most : Int) (hm1000 : most ≤ 1000) (IH : 0 < most → LvCon (most - 1)) : LvCon most := by
  intro l A c w hlen hz hA
  obtain ⟨i0, hi, hz0, hz1, hz2⟩ := info_parts infoVal
  have I0 := Lib.hid hi
  have I1 := Lib.hid hz0
  have I2 := Lib.hid hz1
  have I3 := Lib.hid hz2
  have HA := Lib.hid hA
  have HZ := Lib.hid hz
  have HIH := Lib.hid IH
  obtain ⟨n, hn⟩ : ∃ n, l.length = n := ⟨_, rfl⟩
  have HN := Lib.hid hn
  rw [hn] at hlen ⊢
  clear hi hz0 hz1 hz2 hA hz hn IH
  go_enter Try.func37, Try.ntmps37
  go_wp2_with fail
  go_loopw [5, 6] (fun s i wr => ∃ k : Nat, i = .int .i64 k ∧ k ≤ n ∧ Aside (∃ (nx : List V) (rows : List (List Value)), nx.length ≤ 20000 ∧ NxAt w wr w.heap.size s nx rows) ∧ Aside (Below w.heap.size w wr)) (fun _ i _ => n - (intOf i).toNat)
  case atStart => exact ⟨0, rfl, by omega, (show ∃ _ _, _ from ⟨[], [], by simp, NxAt.nil _ _ _⟩), (show Below _ _ _ from Below.refl _ _)⟩
  case round =>
    obtain ⟨k, rfl, hk, hnx, hbel⟩ := hrel
    by_cases hlt : k < n
    · have t1 : decide ((k : Int) < (n : Int)) = true := decide_eq_true (by omega)
      have t2 : decide (k < n) = true := decide_eq_true hlt
      have k0 : (0 : Int) ≤ (k : Int) := by omega
      have k1 : (k : Int) < (n : Int) := by omega
      have k2 : ((k : Int)).toNat = k := by omega
      have hkl : k < l.length := by rw [HN.out]; exact hlt
      obtain ⟨g, o, rfl, _, hg, hr⟩ := HA.out (by omega)
      obtain ⟨xcs, hxc, hxv⟩ := RdAL.at_ _ o hr k hkl
      obtain ⟨-, -, -, z1, z2, -, z3, z4⟩ := (szA_eq _ l[k]).1 (szAL_mem HZ.out (List.getElem_mem hkl))
      obtain ⟨xA, xc, xB, xd, rfl, hxns, hxL, hxM⟩ := hxv.cells
      obtain ⟨nx, rows, hnl, hNx⟩ := hnx.out
      have a3 := (hbel.out.cell (p := ⟨g, o + k * 5 + 3, none⟩) hg).trans (hxc 3 _ rfl)
      have a4 := (hbel.out.cell (p := ⟨g, o + k * 5 + 4, none⟩) hg).trans (hxc 4 _ rfl)
      have A4 := Lib.hid (hxc 4 _ rfl)
      obtain ⟨rows2, s1, s2, s3, s4, s5, s6⟩ := sub_rows hbel.out hxL
      have HX := Lib.hid (And.intro s1 (And.intro s2 (And.intro s3 (And.intro s4 (And.intro s5 s6)))))
      have HZ3 := Lib.hid z3
      have HZ4 := Lib.hid z4
      have HXM := Lib.hid hxM
      have HXN := Lib.hid hxns
      have HNX := Lib.hid hNx
      obtain ⟨xl, hxl⟩ : ∃ x, l[k].l.length = x := ⟨_, rfl⟩
      obtain ⟨xm, hxm⟩ : ∃ x, l[k].ms.length = x := ⟨_, rfl⟩
      have HXL1 := Lib.hid hxl
      have HXM1 := Lib.hid hxm
      rw [hxl] at a3 z1
      rw [hxm] at a4 A4 z2
      rw [hxm] at HXM
      obtain ⟨nn, hnn⟩ : ∃ x, nx.length = x := ⟨_, rfl⟩
      have HNN := Lib.hid hnn
      rw [hnn] at hnl
      clear hr hxc hxv hnx hNx s1 s2 s3 s4 s5 s6 z3 z4 hxL hxM hxns hxl hxm hnn
      by_cases hsum : 20000 < xl + xm
      · have t3 : decide ((20000 : Int) < (xl : Int) + (xm : Int)) = true := decide_eq_true (by omega)
        go_wp2_with (go_quiet (fail))
        go_ret
        exact ⟨⟨false, rfl⟩, bDrewN hbel.out _⟩
      · have t3 : decide ((20000 : Int) < (xl : Int) + (xm : Int)) = false := decide_eq_false (by omega)
        go_wp2_with (first | go_quiet (fail) | (at_builtin; refine wpList_append_any rfl _ _ 22 rfl w.heap.size 25 i0 _ 5 80 Try.underlying22 I0.out I1.out I2.out I3.out rfl (by decide) u5 nn rows.flatten rfl (HNN.out ▸ HNX.out.own) xA xl xc rows2.flatten rfl ?qc1 (fun e => by rw [← HXL1.out]; exact HX.out.2.2.2.2.1 e) HX.out.2.2.2.1 HX.out.2.2.1 ?qc2 ?qc3 hbel.out.size ?_))
        case qc1 => rw [flat_len 5 rows2 HX.out.2.1, HX.out.1, HXL1.out]
        case qc2 => unfold maxLen; omega
        case qc3 => omega
        intro s1 w1 hown1 hgrow1
        have hs0 : w.heap.size ≤ wr.heap.size := hbel.out.size
        have HB1 := Lib.hid (show Below w.heap.size w w1 from Below.grown (bDrewN hbel.out _) hgrow1 hs0 (fun g hg => (HNX.out.own.lt g hg).1))
        have HN1 := Lib.hid (HNX.out.app (w' := w1) (s' := s1) HX.out.1 HX.out.2.1 HZ3.out HX.out.2.2.2.2.2 (by rw [HNN.out, HXL1.out]; exact hown1))
        have HLE := Lib.hid (show (nx ++ l[k].l).length = nn + xl by rw [List.length_append, HNN.out, HXL1.out])
        clear hown1 hgrow1 a3 a4 hbel HNX HX hs0
        have a4 := (HB1.out.cell (p := ⟨g, o + k * 5 + 4, none⟩) hg).trans A4.out
        go_wp2_with fail
        go_loopw [5, 7] (fun s j wq => ∃ jj : Nat, j = .int .i64 jj ∧ jj ≤ xm ∧ Aside (∃ (nx' : List V) (rows' : List (List Value)), nx'.length = nn + xl + jj ∧ NxAt w wq w.heap.size s nx' rows') ∧ Aside (Below w.heap.size w wq)) (fun _ j _ => xm - (intOf j).toNat)
        case atStart => exact ⟨0, rfl, by omega, (show ∃ _ _, _ from ⟨_, _, HLE.out, HN1.out⟩), (show Below _ _ _ from HB1.out)⟩
        case round =>
          obtain ⟨jj, rfl, hj, hnx2, hbq⟩ := hrel
          clear a4
          have a4 := (hbq.out.cell (p := ⟨g, o + k * 5 + 4, none⟩) hg).trans A4.out
          obtain ⟨nx', rows', hnl', hNx'⟩ := hnx2.out
          have HNQ := Lib.hid hNx'
          have HNL := Lib.hid hnl'
          clear hnx2 hNx' hnl'
          by_cases hlt2 : jj < xm
          · have t4 : decide ((jj : Int) < (xm : Int)) = true := decide_eq_true (by omega)
            have t5 : decide (jj < xm) = true := decide_eq_true hlt2
            have j0 : (0 : Int) ≤ (jj : Int) := by omega
            have j1 : (jj : Int) < (xm : Int) := by omega
            have j2 : ((jj : Int)).toNat = jj := by omega
            obtain ⟨g2, o2, rfl, _, hg2, hr2⟩ := HXM.out (by omega)
            have hj1 : jj < l[k].ms.length := by rw [HXM1.out]; exact hlt2
            have hj2 : jj < l[k].ns.length := by rw [HXN.out]; exact hj1
            obtain ⟨hyn, ycs, hyc, hyv⟩ := RdAM.at_ _ _ o2 hr2 jj hj1 hj2
            have hys : szA 4611686018427387904 l[k].ms[jj] := szAL_mem HZ4.out (List.getElem_mem hj1)
            have HYS := Lib.hid hys
            have HYV := Lib.hid hyv
            obtain ⟨yA, yc, yB, yd, rfl, -⟩ := hyv.cells
            have b0 := (hbq.out.cell (p := ⟨g2, o2 + jj * 6 + 1, none⟩) hg2).trans (hyc 0 _ rfl)
            have b1 := (hbq.out.cell (p := ⟨g2, o2 + jj * 6 + 2, none⟩) hg2).trans (hyc 1 _ rfl)
            have b2 := (hbq.out.cell (p := ⟨g2, o2 + jj * 6 + 3, none⟩) hg2).trans (hyc 2 _ rfl)
            have b3 := (hbq.out.cell (p := ⟨g2, o2 + jj * 6 + 4, none⟩) hg2).trans (hyc 3 _ rfl)
            have b4 := (hbq.out.cell (p := ⟨g2, o2 + jj * 6 + 5, none⟩) hg2).trans (hyc 4 _ rfl)
            generalize l[k].ms[jj].k = yk at *
            generalize l[k].ms[jj].n = yn at *
            generalize strOf l[k].ms[jj].s = ys at *
            generalize l[k].ms[jj].l.length = yl at *
            generalize l[k].ms[jj].ms.length = ym at *
            have NEW : ∀ j u, [Value.int .i64 yk, .int .i64 yn, .string ys, .slice yA yl yc, .slice yB ym yd][j]? = some u → (wr.alloc (.cells #[.int .i64 yk, .int .i64 yn, .string ys, .slice yA yl yc, .slice yB ym yd] 25)).cell? ((⟨wr.heap.size, 0, none⟩ : Addr).add j) = some u := fun j u hu => by
              rw [Addr.add_lit, Nat.zero_add]; unfold World.cell?; rw [heapNew]; simpa using hu
            have HNEW := Lib.hid NEW
            have hsq : w.heap.size ≤ wr.heap.size := hbq.out.size
            clear NEW hyn hyc hyv hys hr2
            go_wp2_with (at_builtin; refine wpList_append_own _ rfl _ _ 22 rfl w.heap.size 25 i0 _ 5 80 Try.underlying22 I0.out I1.out I2.out I3.out rfl (by decide) u5 nx'.length rows'.flatten rfl (HNQ.out.own.alloc _) ⟨wr.heap.size, 0, none⟩ 1 1 [Value.int .i64 yk, .int .i64 yn, .string ys, .slice yA yl yc, .slice yB ym yd] rfl rfl HNEW.out ?qd3 ?qd4 ?qd5 ?qd6 ?_)
            case qd3 => simp [Value.oneCell']
            case qd4 => have := HNL.out; unfold maxLen; omega
            case qd5 => have := HNL.out; omega
            case qd6 => simp; omega
            intro s2 w2 hown2 hgrow2 _
            have HB2 := Lib.hid (show Below w.heap.size w w2 from Below.grown (hbq.out.alloc hbq.out.size _) hgrow2 (by rw [szAl]; omega) (fun g hg => (HNQ.out.own.lt g hg).1))
            have HN2 := Lib.hid (HNQ.out.app (w' := w2) (s' := s2) (ls := [l[k].ms[jj]]) (rows2 := [[Value.int .i64 yk, .int .i64 yn, .string ys, .slice yA yl yc, .slice yB ym yd]]) rfl (by simp) (by rw [szAL, szAL]; exact ⟨HYS.out, trivial⟩) (fun q h1 h2 => by
              have hq0 : q = 0 := by simp at h1; exact h1
              subst hq0
              exact HYV.out) (by simpa using hown2))
            have HL2 := Lib.hid (show (nx' ++ [l[k].ms[jj]]).length = nn + xl + (jj + 1) by rw [List.length_append, HNL.out]; rfl)
            clear hown2 hgrow2 hsq
            go_wp2
            go_roundw
            case rel => exact ⟨jj + 1, by go_num, by omega, (show ∃ _ _, _ from ⟨_, _, HL2.out, HN2.out⟩), (show Below _ _ _ from HB2.out)⟩
            case measure => simp [intOf]; omega
          · have t4 : decide ((jj : Int) < (xm : Int)) = false := decide_eq_false (by omega)
            have t5 : decide (jj < xm) = false := decide_eq_false hlt2
            obtain ⟨A', c', rfl⟩ := own_is_slice HNQ.out.own
            obtain ⟨q, hq⟩ : ∃ q, nx'.length = q := ⟨_, rfl⟩
            have HQ := Lib.hid hq
            have hqb : q ≤ 40000 := by rw [← hq, HNL.out]; omega
            rw [hq]
            clear hq
            by_cases hbig : 20000 < q
            · have t6 : decide ((20000 : Int) < (q : Int)) = true := decide_eq_true (by omega)
              go_wp2
              go_ret
              exact ⟨⟨false, rfl⟩, hbq.out⟩
            · have t6 : decide ((20000 : Int) < (q : Int)) = false := decide_eq_false (by omega)
              go_wp2
              go_roundw
              case rel => exact ⟨k + 1, by go_num, by omega, (show ∃ _ _, _ from ⟨nx', rows', by rw [HQ.out]; omega, by have := HNQ.out; rw [HQ.out] at this; exact this⟩), (show Below _ _ _ from hbq.out)⟩
              case measure => simp [intOf]; omega
    · have t1 : decide ((k : Int) < (n : Int)) = false := decide_eq_false (by omega)
      have t2 : decide (k < n) = false := decide_eq_false hlt
      obtain ⟨nx, rows, hnl, hNx⟩ := hnx.out
      obtain ⟨A', c', rfl⟩ := own_is_slice hNx.own
      have HRD := Lib.hid (hNx.read hbel.out)
      have HSZ := Lib.hid hNx.sz
      obtain ⟨q, hq⟩ : ∃ q, nx.length = q := ⟨_, rfl⟩
      have HQ := Lib.hid hq
      rw [hq] at hnl ⊢
      clear hnx hNx hq
      by_cases h0 : q = 0
      · subst h0
        go_wp2
        go_ret
        exact ⟨⟨true, rfl⟩, hbel.out⟩
      · have t6 : decide ((q : Int) = 0) = false := decide_eq_false (by omega)
        by_cases hmo : 0 < most
        · have t7 : decide ((0 : Int) < most) = true := decide_eq_true hmo
          have HCL := Lib.hid (HIH.out hmo nx A' c' wr (by rw [HQ.out]; omega) HSZ.out HRD.out)
          rw [HQ.out] at HCL
          go_wp2_with fail
          refine HCL.out.mono ?_
          rintro e w2 ⟨⟨b, rfl⟩, hb2⟩
          have HB2 := Lib.hid (hbel.out.trans (hb2.mono hbel.out.size))
          clear hb2
          cases b
          · go_wp2
            go_ret
            exact ⟨⟨_, rfl⟩, HB2.out⟩
          · go_wp2
            go_ret
            exact ⟨⟨true, rfl⟩, HB2.out⟩
        · have t7 : decide ((0 : Int) < most) = false := decide_eq_false hmo
          go_wp2
          go_ret
          exact ⟨⟨_, rfl⟩, hbel.out⟩
theorem level_any (t : Nat) : ∀ most : Int, most ≤ t → most ≤ 1000 → LvCon most := by
  induction t with
  | zero => exact fun most h k => level_step most k fun h0 => by omega
  | succ t ih => exact fun most h k => level_step most k fun h0 => ih (most - 1) (by omega) (by omega)
end Go.Proofs.Ytbepnjgbkfidiaa.Tr
