/- Merged: PoH PoI PoJ PoAw0 PoPl3. -/
import Derived.Test.YtmfpaoincgfjmaaGreatTt30
import Derived.Test.YtmfpaoincgfjmaaGreatTt32
import Derived.Test.YtmfpaoincgfjmaaGreatTt27
import Derived.Test.YtmfpaoincgfjmaaGreatTt24
import Derived.Test.YtmfpaoincgfjmaaGreatTt6
import Derived.Test.YtmfpaoincgfjmaaGreatTt21
set_option linter.unusedSimpArgs false
namespace Go.Proofs.YtmfpaoincgfjmaaGreat.Po
open Go.Proofs Go.RowKit
open Go.Proofs.YtmfpaoincgfjmaaGreat.Utf
open Go.Proofs.YtmfpaoincgfjmaaGreat.Sc
open Go.Proofs.YtmfpaoincgfjmaaGreat.Re
open Go.Proofs.YtmfpaoincgfjmaaGreat.Tr
open Go.Proofs.YtmfpaoincgfjmaaGreat.Nu

structure NxH (w0 : World) (hi : Nat) (wr : World) (base : Nat) (s : Value) (nx : List V) (rows : List (List Value)) : Prop where
  len : rows.length = nx.length
  five : ∀ r ∈ rows, r.length = 5
  sz : szAL 4611686018427387904 nx
  row : ∀ k (h1 : k < nx.length) (h2 : k < rows.length), RdA w0 0 hi nx[k] rows[k]
  own : wr.ownsRow base 25 5 s nx.length rows.flatten
theorem NxH.nil (w0 : World) (hi : Nat) (wr : World) (base : Nat) : NxH w0 hi wr base (.slice none 0 0) [] [] :=
  ⟨rfl, (fun r h => by cases h), (by rw [szAL]; trivial), (fun k h => by simp at h), World.ownsRow_nil _ _ _ _⟩
theorem NxH.keep {w0 wr w' : World} {hi base : Nat} {s : Value} {nx : List V} {rows : List (List Value)} (h : NxH w0 hi wr base s nx rows) (hb : Below wr.heap.size wr w') : NxH w0 hi w' base s nx rows := ⟨h.len, h.five, h.sz, h.row, own_below h.own hb⟩
theorem NxH.app {w0 wr w' : World} {hi base : Nat} {s s' : Value} {nx ls : List V} {rows rows2 : List (List Value)} (h : NxH w0 hi wr base s nx rows) (hl : rows2.length = ls.length) (h5 : ∀ r ∈ rows2, r.length = 5) (hz : szAL 4611686018427387904 ls)
    (hr : ∀ k (h1 : k < ls.length) (h2 : k < rows2.length), RdA w0 0 hi ls[k] rows2[k]) (ho : w'.ownsRow base 25 5 s' (nx.length + ls.length) (rows.flatten ++ rows2.flatten)) : NxH w0 hi w' base s' (nx ++ ls) (rows ++ rows2) where
  len := by simp [h.len, hl]
  five := fun r hr => by
    rcases List.mem_append.1 hr with k | k
    · exact h.five r k
    · exact h5 r k
  sz := szAL_app h.sz hz
  row := fun k h1 h2 => by
    by_cases hk : k < nx.length
    · rw [List.getElem_append_left hk, List.getElem_append_left (by rw [h.len]; exact hk)]
      exact h.row k hk (by rw [h.len]; exact hk)
    · have e := h.len
      have hb : k - nx.length < ls.length := by simp at h1; omega
      rw [List.getElem_append_right (by omega), List.getElem_append_right (by omega)]
      have := hr (k - nx.length) hb (by omega)
      simpa only [e] using this
  own := by rw [List.length_append, List.flatten_append]; exact ho
theorem sub_rowsH {w wr : World} {hi : Nat} {A : Option Addr} {ls : List V} (hhi : hi ≤ w.heap.size) (hb : Below w.heap.size w wr) (h : 0 < ls.length → ∃ g o, A = some ⟨g, o, none⟩ ∧ 0 ≤ g ∧ g < hi ∧ RdAL w 0 hi g o ls) :
    ∃ rows : List (List Value), rows.length = ls.length ∧ (∀ r ∈ rows, r.length = 5) ∧ (∀ u ∈ rows.flatten, u.oneCell' = true) ∧ (∀ ad, A = some ad → ∀ j u, rows.flatten[j]? = some u → wr.cell? (ad.add j) = some u) ∧ (A = none → ls.length = 0) ∧
      ∀ k (h1 : k < ls.length) (h2 : k < rows.length), RdA w 0 hi ls[k] rows[k] := by
  by_cases h0 : 0 < ls.length
  · obtain ⟨g, o, rfl, _, hg, hr⟩ := h h0
    obtain ⟨rows, r1, r2, r3, r4⟩ := rowsL hr
    refine ⟨rows, r1, r2.1, rows_one (s := 5) r3, fun ad e j u hu => ?_, (fun e => by cases e), r4⟩
    injection e with e
    subst e
    rw [Addr.add_lit]
    exact (hb.cell (p := ⟨g, o + j, none⟩) (Nat.lt_of_lt_of_le hg hhi)).trans (rows_flat (by decide) r2 j u hu)
  · have e : ls = [] := List.eq_nil_of_length_eq_zero (by omega)
    subst e
    exact ⟨[], rfl, (fun r h => by cases h), (fun u h => by simp at h), (fun ad _ j u hu => by simp at hu), (fun _ => rfl), (fun k h => by simp at h)⟩
def GivesGa (w0 : World) (hi : Nat) (acc : List V) (o : Option (List V)) (e : Ending) (w' : World) : Prop :=
  ((∃ g s' rows', o = some g ∧ e = .returned (.tuple #[s', .bool true]) ∧ NxH w0 hi w' w0.heap.size s' (acc ++ g) rows') ∨ (o = none ∧ e = .returned (.tuple #[.slice none 0 0, .bool false]))) ∧ Below w0.heap.size w0 w'
def GaCon (w0 : World) (hi : Nat) (ps : List (List UInt8)) : Prop := ∀ (acc l : List V) (rows : List (List Value)) (A : Option Addr) (c : Nat) (s pv : Value) (w : World),
  Below w0.heap.size w0 w → NxH w0 hi w w0.heap.size s acc rows → (0 < l.length → ∃ g o, A = some ⟨g, o, none⟩ ∧ 0 ≤ g ∧ g < hi ∧ RdAL w0 0 hi g o l) → szAL 4611686018427387904 l →
  RdS w0 w0.heap.size pv ps → (∀ q ∈ ps, q.length ≤ 9223372036854775807) → acc.length + cntL l ≤ 1000000000000 →
  Calls Tryz.prog 37 #[s, .slice A l.length c, pv] w (GivesGa w0 hi acc (gathF (eachV ps) l))
theorem drop_cnt {l : List V} {k : Nat} (h : k < l.length) : cntL (l.drop k) = cnt l[k] + cntL (l.drop (k + 1)) := by
  rw [List.drop_eq_getElem_cons h, cntL]
structure Gs (f : V → Option V) (l acc acc' : List V) (k : Nat) : Prop where
  ex : ∃ g0, acc' = acc ++ g0 ∧ gathF f l = (gathF f (l.drop k)).map fun r => g0 ++ r
  sz : acc'.length + cntL (l.drop k) ≤ 1000000000000
theorem Gs.start {f : V → Option V} {l acc : List V} (h : acc.length + cntL l ≤ 1000000000000) : Gs f l acc acc 0 := ⟨⟨[], by simp, by rw [List.drop_zero]; simp⟩, by rw [List.drop_zero]; exact h⟩
theorem Gs.step {f : V → Option V} {l acc acc' : List V} {k : Nat} (h : Gs f l acc acc' k) (hk : k < l.length) {y : V} (hy : f l[k] = some y) (hle : (flatV y).length ≤ cnt l[k]) : Gs f l acc (acc' ++ flatV y) (k + 1) := by
  obtain ⟨⟨g0, e1, e2⟩, h3⟩ := h
  rw [drop_cnt hk] at h3
  refine ⟨⟨g0 ++ flatV y, by rw [e1, List.append_assoc], ?_⟩, by rw [List.length_append]; omega⟩
  rw [e2, gath_drop f l k hk, hy]
  show Option.map _ (Option.map _ _) = _
  rw [Option.map_map]
  congr 1
  funext r
  simp
theorem Gs.none {f : V → Option V} {l acc acc' : List V} {k : Nat} (h : Gs f l acc acc' k) (hk : k < l.length) (hy : f l[k] = none) : gathF f l = none := by
  obtain ⟨⟨g0, e1, e2⟩, h3⟩ := h
  rw [e2, gath_drop f l k hk, hy]
  rfl
theorem Gs.end_ {f : V → Option V} {l acc acc' : List V} {k : Nat} (h : Gs f l acc acc' k) (hk : l.length ≤ k) : ∃ g, gathF f l = some g ∧ acc' = acc ++ g := by
  obtain ⟨⟨g0, e1, e2⟩, h3⟩ := h
  rw [List.drop_eq_nil_of_le hk, gathF] at e2
  exact ⟨g0, by rw [e2]; simp, e1⟩

set_option maxRecDepth 100000 in
set_option maxHeartbeats 1000000 in
theorem gather_step (w0 : World) (hi : Nat) (hhi : hi ≤ w0.heap.size) (ps : List (List UInt8)) (IH : ∀ qs : List (List UInt8), qs.length < ps.length → GaCon w0 hi qs) : GaCon w0 hi ps := by
  intro acc l rows A c s pv w hbw hnx hA hz hpv hps hsz
  obtain ⟨i0, hin, hz0, hz1, hz2⟩ := info_parts infoVal
  have I0 := Lib.hid hin
  have I1 := Lib.hid hz0
  have I2 := Lib.hid hz1
  have I3 := Lib.hid hz2
  have HA := Lib.hid hA
  have HZ := Lib.hid hz
  have HIH := Lib.hid IH
  have HPV := Lib.hid hpv
  have HPS := Lib.hid hps
  have HNX0 := Lib.hid hnx
  have HBW0 := Lib.hid hbw
  have HGS0 := Lib.hid (Gs.start (f := eachV ps) hsz)
  obtain ⟨n, hn⟩ : ∃ n, l.length = n := ⟨_, rfl⟩
  have HN := Lib.hid hn
  have hnb : n ≤ 1000000000000 := by have := len_cntL l; omega
  rw [hn]
  clear hin hz0 hz1 hz2 hA hz hn IH hpv hps hnx hbw hsz
  go_enter Tryz.func37, Tryz.ntmps37
  go_wp2_with fail
  go_loopw [0, 15] (fun s i wr => ∃ (k : Nat) (acc' : List V) (rows' : List (List Value)), i = .int .i64 k ∧ k ≤ n ∧ Aside (NxH w0 hi wr w0.heap.size s acc' rows') ∧ Aside (Below w0.heap.size w0 wr) ∧ Aside (Gs (eachV ps) l acc acc' k)) (fun _ i _ => n - (intOf i).toNat)
  case atStart => exact ⟨0, acc, rows, rfl, by omega, HNX0.out, HBW0.out, HGS0.out⟩
  case round =>
    obtain ⟨k, acc', rows', rfl, hk, hnx, hbel, hgs⟩ := hrel
    by_cases hlt : k < n
    · have t1 : decide ((k : Int) < (n : Int)) = true := decide_eq_true (by omega)
      have t2 : decide (k < n) = true := decide_eq_true hlt
      have k0 : (0 : Int) ≤ (k : Int) := by omega
      have k1 : (k : Int) < (n : Int) := by omega
      have k2 : ((k : Int)).toNat = k := by omega
      have hkl : k < l.length := by rw [HN.out]; exact hlt
      obtain ⟨gx, ox, rfl, _, hg, hr⟩ := HA.out (by omega)
      obtain ⟨xcs, hxc, hxv⟩ := RdAL.at_ _ ox hr k hkl
      obtain ⟨x, hx⟩ : ∃ x, l[k] = x := ⟨_, rfl⟩
      have HX := Lib.hid hx
      have hzx : szA 4611686018427387904 l[k] := szAL_mem HZ.out (List.getElem_mem hkl)
      rw [hx] at hxv hzx
      have hnmx := nm_of x xcs hxv
      have HAL := Lib.hid (fun (W : World) (hW : Below w0.heap.size w0 W) => along_any hi w0.heap.size ps x xcs pv W (Nat.le_trans hhi hW.size) hW.size (hxv.below hW hhi (Nat.le_refl _)) hzx (HPV.out.below hW (Nat.le_refl _)) HPS.out)
      have HLE := Lib.hid (fun y (hy : eachV ps x = some y) => each_le ps x y hnmx hy)
      have HDN := Lib.hid (fun y r (hy : alongV ps x = some (y, r)) => And.intro (along_down (sz_down 4611686018427387904) ps x y r hnmx hy hzx) (along_down (Q := fun z => cnt z ≤ cnt x) (cnt_down _) ps x y r hnmx hy (Nat.le_refl _)))
      have HGN := Lib.hid (fun h => hgs.out.none hkl (by rw [hx]; exact h))
      have HGT := Lib.hid (fun y (h : eachV ps x = some y) => hgs.out.step hkl (y := y) (by rw [hx]; exact h) (by rw [hx]; exact HLE.out y h))
      have HGZ := Lib.hid hgs.out.sz
      obtain ⟨xA, xc, xB, xd, rfl, -⟩ := hxv.cells
      have hg := Nat.lt_of_lt_of_le hg hhi
      have a0 := (hbel.out.cell (p := ⟨gx, ox + k * 5, none⟩) hg).trans (hxc 0 _ rfl)
      have a1 := (hbel.out.cell (p := ⟨gx, ox + k * 5 + 1, none⟩) hg).trans (hxc 1 _ rfl)
      have a2 := (hbel.out.cell (p := ⟨gx, ox + k * 5 + 2, none⟩) hg).trans (hxc 2 _ rfl)
      have a3 := (hbel.out.cell (p := ⟨gx, ox + k * 5 + 3, none⟩) hg).trans (hxc 3 _ rfl)
      have a4 := (hbel.out.cell (p := ⟨gx, ox + k * 5 + 4, none⟩) hg).trans (hxc 4 _ rfl)
      clear hxv hxc hr hx hzx hnmx hgs
      generalize x.k = xk at *
      generalize x.n = xn at *
      generalize strOf x.s = xs at *
      generalize x.l.length = xl at *
      generalize x.ms.length = xm at *
      have HBR := Lib.hid hbel.out
      have HNX := Lib.hid hnx.out
      obtain ⟨W1, hW1⟩ : ∃ W1, W1 = wr.alloc (.cells #[.int .i64 xk, .int .i64 xn, .string xs, .slice xA xl xc, .slice xB xm xd] 25) := ⟨_, rfl⟩
      have HB1 := Lib.hid (show Below w0.heap.size w0 W1 by rw [hW1]; exact HBR.out.alloc HBR.out.size _)
      have HN1 := Lib.hid (show NxH w0 hi W1 w0.heap.size u0 acc' rows' by rw [hW1]; exact HNX.out.keep ((Below.refl _ _).alloc (Nat.le_refl _) _))
      have hzz := row5 (heapNew wr (.cells #[.int .i64 0, .int .i64 0, .string ⟨#[]⟩, .slice none 0 0, .slice none 0 0] 25))
      have hxx := row5 (heapNew wr (.cells #[.int .i64 xk, .int .i64 xn, .string xs, .slice xA xl xc, .slice xB xm xd] 25))
      obtain ⟨⟨z0, z1, z2, z3, z4⟩, ⟨y0, y1, y2, y3, y4⟩⟩ := hzz
      obtain ⟨⟨q0, q1, q2, q3, q4⟩, -⟩ := hxx
      have HW1 := Lib.hid hW1
      clear hnx hbel hW1
      go_wp2_with fail
      rw [← HW1.out]
      clear z0 z1 z2 z3 z4 y0 y1 y2 y3 y4 q0 q1 q2 q3 q4 a0 a1 a2 a3 a4
      refine (HAL.out _ HB1.out).mono ?_
      rintro e w2 ⟨⟨ca, pz, rfl, hca, hpz⟩, hb2⟩
      have HB2 := Lib.hid (HB1.out.trans (hb2.mono HB1.out.size))
      have HN2 := Lib.hid (HN1.out.keep hb2)
      obtain ⟨y, hy⟩ : ∃ y, ((alongV ps x).getD (V0, [])).1 = y := ⟨_, rfl⟩
      obtain ⟨rest, hrest⟩ : ∃ rest, ((alongV ps x).getD (V0, [])).2 = rest := ⟨_, rfl⟩
      rw [hy] at hca
      rw [hrest] at hpz
      have hca0 := hca.back HB1.out hhi
      have HCA := Lib.hid hca0
      have HPZ := Lib.hid (hpz.back HB1.out (Nat.le_refl _))
      obtain ⟨yA, yc, yB, yd, rfl, -, hyL, -⟩ := hca0.cells
      have HYL := Lib.hid hyL
      clear hyL
      have hzz := row5 (heapNew w2 (.cells #[.int .i64 0, .int .i64 0, .string ⟨#[]⟩, .slice none 0 0, .slice none 0 0] 25))
      obtain ⟨⟨z0, z1, z2, z3, z4⟩, ⟨y0, y1, y2, y3, y4⟩⟩ := hzz
      clear hca hca0 hpz hb2
      obtain ⟨ky, hky⟩ : ∃ ky, y.k = ky := ⟨_, rfl⟩
      have HKY := Lib.hid hky
      obtain ⟨yl, hyl'⟩ : ∃ yl, y.l.length = yl := ⟨_, rfl⟩
      have HYN := Lib.hid hyl'
      rw [hky, hyl'] at HCA
      rw [hky, hyl']
      clear hky hyl'
      generalize strOf y.s = ys at *
      generalize y.n = yn at *
      generalize y.ms.length = ym at *
      rcases hal : alongV ps x with _ | ⟨y', rest'⟩
      · have HN' := Lib.hid (HGN.out (by rw [each_along, hal]; rfl))
        clear hal hy hrest
        go_wp2_with fail
        go_ret2
        exact ⟨.inr ⟨HN'.out, rfl⟩, HB2.out.alloc HB2.out.size _⟩
      · have hal' : alongV ps x = some (y, rest) := by rw [hal] at hy hrest ⊢; rw [← hy, ← hrest]; rfl
        clear hy hrest hal
        obtain ⟨⟨hzy, -⟩, ⟨hcy, -⟩⟩ := HDN.out y rest hal'
        have hyl : cntL y.l ≤ cnt y := by rw [cnt_eq]; omega
        have hzyl := ((szA_eq _ y).1 hzy).2.2.2.2.2.2.1
        have HZYL := Lib.hid hzyl
        have HZY := Lib.hid hzy
        have HDC := Lib.hid (drop_cnt hkl)
        rw [HX.out] at HDC
        have HCY := Lib.hid (Nat.le_trans hyl hcy)
        obtain ⟨W3, hW3⟩ : ∃ W3, W3 = w2.alloc (.cells #[.int .i64 ky, .int .i64 yn, .string ys, .slice yA yl yc, .slice yB ym yd] 25) := ⟨_, rfl⟩
        have HB3 := Lib.hid (show Below w0.heap.size w0 W3 by rw [hW3]; exact HB2.out.alloc HB2.out.size _)
        have HN3 := Lib.hid (show NxH w0 hi W3 w0.heap.size u0 acc' rows' by rw [hW3]; exact HN2.out.keep ((Below.refl _ _).alloc (Nat.le_refl _) _))
        obtain ⟨⟨q0, q1, q2, q3, q4⟩, -⟩ := row5 (heapNew w2 (.cells #[.int .i64 ky, .int .i64 yn, .string ys, .slice yA yl yc, .slice yB ym yd] 25))
        have HQ := Lib.hid (heapNew w2 (.cells #[.int .i64 ky, .int .i64 yn, .string ys, .slice yA yl yc, .slice yB ym yd] 25))
        have HW3 := Lib.hid hW3
        rw [← hW3] at HQ q0 q1 q2 q3 q4
        have HAY := Lib.hid (each_along ps x)
        rw [hal'] at HAY
        obtain ⟨pre, hpre⟩ := along_suffix ps x y rest hal'
        have HSUF := Lib.hid (show ∀ p t, rest = p :: t → t.length < ps.length from fun p t e => by rw [hpre, e]; simp; omega)
        have HSUQ := Lib.hid (show ∀ p t, rest = p :: t → ∀ q ∈ t, q ∈ ps from fun p t e q hq => by rw [hpre, e]; simp [hq])
        clear hal' hpre
        rcases rest with _ | ⟨pp, tt⟩
        · clear HSUF HSUQ
          have hey : eachV ps x = some y := by rw [HAY.out]; rfl
          have HG1 := Lib.hid (HGT.out y hey)
          obtain ⟨Ap, cp, rfl, -, -⟩ := HPZ.out
          have e0 : (([] : List (List UInt8)).length : Nat) = 0 := rfl
          have d0 : decide ((0 : Int) < 0) = false := rfl
          by_cases h5 : ky = 5
          · subst h5
            have HFL := Lib.hid (show flatV y = y.l from if_pos HKY.out)
            obtain ⟨rows2, s1, s2, s3, s4, s5, s6⟩ := sub_rowsH hhi HB3.out HYL.out
            have HX5 := Lib.hid (And.intro s1 (And.intro s2 (And.intro s3 (And.intro s4 (And.intro s5 s6)))))
            have HM1 := Lib.hid (show acc'.length + yl ≤ 1000000000000 by
              have h1 := HGZ.out; have h2 := HDC.out; have h3 := HCY.out; have h4 := len_cntL y.l; rw [HYN.out] at h4; omega)
            clear hyl hzyl hzy hcy hW3 hey s1 s2 s3 s4 s5 s6
            go_wp2_with (first | (at_builtin; refine wpList_append_any rfl _ _ 22 rfl w0.heap.size 25 i0 _ 5 80 Tryz.underlying22 I0.out I1.out I2.out I3.out rfl (by decide) u0 acc'.length rows'.flatten rfl ?qo yA yl yc rows2.flatten rfl ?qc1 (fun e => by rw [← HYN.out]; exact HX5.out.2.2.2.2.1 e) ?qn HX5.out.2.2.1 ?qc2 ?qc3 ?qb ?_))
            case qo => rw [← HW3.out]; exact HN3.out.own
            case qc1 => rw [flat_len 5 rows2 HX5.out.2.1, HX5.out.1, HYN.out]
            case qn => rw [← HW3.out]; exact HX5.out.2.2.2.1
            case qc2 => have := HM1.out; unfold maxLen; omega
            case qc3 => have := HM1.out; omega
            case qb => rw [← HW3.out]; exact HB3.out.size
            intro s1 w5 hown1 hgrow1
            rw [← HW3.out] at hgrow1
            have HB5 := Lib.hid (show Below w0.heap.size w0 w5 from Below.grown HB3.out hgrow1 HB3.out.size (fun g hg => (HN3.out.own.lt g hg).1))
            have HN5 := Lib.hid (HN3.out.app (w' := w5) (s' := s1) HX5.out.1 HX5.out.2.1 HZYL.out HX5.out.2.2.2.2.2 (by rw [HYN.out]; exact hown1))
            rw [HFL.out] at HG1
            clear hown1 hgrow1 HX5
            go_wp2
            go_roundw
            case rel => exact ⟨k + 1, _, _, by go_num, by omega, HN5.out, HB5.out, HG1.out⟩
            case measure => simp [intOf]; omega
          · have d5 : (ky == 5) = false := beq_eq_false_iff_ne.2 h5
            have HFL := Lib.hid (show flatV y = [y] from if_neg (by rw [HKY.out]; exact h5))
            have HM1 := Lib.hid (show acc'.length + 1 ≤ 1000000000000 by
              have h1 := HGZ.out; have h2 := HDC.out; have h3 := cnt_pos x; omega)
            have NEW : ∀ j u, [Value.int .i64 ky, .int .i64 yn, .string ys, .slice yA yl yc, .slice yB ym yd][j]? = some u → ((w2.alloc (.cells #[.int .i64 ky, .int .i64 yn, .string ys, .slice yA yl yc, .slice yB ym yd] 25)).alloc (.cells #[.int .i64 ky, .int .i64 yn, .string ys, .slice yA yl yc, .slice yB ym yd] 25)).cell? ((⟨w2.heap.size + 1, 0, none⟩ : Addr).add j) = some u := fun j u hu => by
              rw [Addr.add_lit, Nat.zero_add]; unfold World.cell?; rw [show w2.heap.size + 1 = (w2.alloc (.cells #[.int .i64 ky, .int .i64 yn, .string ys, .slice yA yl yc, .slice yB ym yd] 25)).heap.size by simp, heapNew]; simpa using hu
            have HNEW := Lib.hid NEW
            clear hyl hzyl hzy hcy hW3 hey NEW h5
            go_wp2_with (at_builtin; refine wpList_append_own _ rfl _ _ 22 rfl w0.heap.size 25 i0 _ 5 80 Tryz.underlying22 I0.out I1.out I2.out I3.out rfl (by decide) u0 acc'.length rows'.flatten rfl ?qo ⟨w2.heap.size + 1, 0, none⟩ 1 1 [Value.int .i64 ky, .int .i64 yn, .string ys, .slice yA yl yc, .slice yB ym yd] rfl rfl HNEW.out ?qd3 ?qc2 ?qc3 ?qb ?_)
            case qo => rw [← HW3.out]; exact HN3.out.own.alloc _
            case qd3 => simp [Value.oneCell']
            case qc2 => have := HM1.out; unfold maxLen; omega
            case qc3 => have := HM1.out; omega
            case qb => rw [← HW3.out]; have := HB3.out.size; simp; omega
            intro s1 w5 hown1 hgrow1 _
            rw [← HW3.out] at hgrow1
            have HB5 := Lib.hid (show Below w0.heap.size w0 w5 from Below.grown (HB3.out.alloc HB3.out.size _) hgrow1 (by have := HB3.out.size; simp; omega) (fun g hg => (HN3.out.own.lt g hg).1))
            have HN5 := Lib.hid (HN3.out.app (w' := w5) (s' := s1) (ls := [y]) (rows2 := [[Value.int .i64 ky, .int .i64 yn, .string ys, .slice yA yl yc, .slice yB ym yd]]) rfl (by simp) (by rw [szAL, szAL]; exact ⟨HZY.out, trivial⟩) (fun q h1 h2 => by
              have hq0 : q = 0 := by simp at h1; exact h1
              subst hq0
              exact HCA.out) (by simpa using hown1))
            rw [HFL.out] at HG1
            clear hown1 hgrow1
            go_wp2
            go_roundw
            case rel => exact ⟨k + 1, _, _, by go_num, by omega, HN5.out, HB5.out, HG1.out⟩
            case measure => simp [intOf]; omega
        · have hey : eachV ps x = (gathF (eachV tt) y.l).map lsV := by rw [HAY.out]; rfl
          have HEY := Lib.hid hey
          obtain ⟨pz', hcut, hpz'⟩ := HPZ.out.cut
          have HCT := Lib.hid hcut
          have HGA := Lib.hid (fun (W : World) (hW : Below w0.heap.size w0 W) (hN : NxH w0 hi W w0.heap.size u0 acc' rows') => HIH.out tt (HSUF.out pp tt rfl) acc' y.l rows' yA yc u0 pz' W hW hN HYL.out HZYL.out hpz' (fun q hq => HPS.out q (HSUQ.out pp tt rfl q hq)) (by have h1 := HGZ.out; have h2 := HDC.out; have h3 := HCY.out; omega))
          rw [HYN.out] at HGA
          obtain ⟨A9, c9, e9, h9, -⟩ := HPZ.out
          have hn9 : 0 < (pp :: tt).length := by simp
          obtain ⟨n9, hn9'⟩ : ∃ n9, (pp :: tt).length = n9 := ⟨_, rfl⟩
          rw [hn9'] at e9 hn9
          have d9 : decide ((0 : Int) < (n9 : Int)) = true := decide_eq_true (by omega)
          have d9b : decide (0 < n9) = true := decide_eq_true hn9
          subst e9
          have qd3 : W3.drew.cell? ⟨w2.heap.size, 3, none⟩ = some (.slice yA yl yc) := (row5 HQ.out).1.2.2.2.1
          have HQD := Lib.hid qd3
          clear hyl hzyl hzy hcy hW3 hey qd3 hcut hpz' h9 hn9'
          go_wp2_with fail
          rw [← HW3.out]
          clear q0 q1 q2 q3 q4
          refine wp_region_held_drew (S := fun _ => True) (by kernel_rfl) (trivial) (fun hHeld => ?_)
          refine wpAnyH_take (i := 0) (oi := { dst := some 37, op := Op.move (Operand.tmp 0), type := 22, pos := "point.go:126", after := #[], guard := none }) (v := ?_) rfl (by kernel_rfl) (by kernel_rfl) (by kernel_rfl) (fun _ _ _ h => h) (Or.inl ⟨by rfl, ?_⟩) trivial ?_
          rotate_left
          · intro w hSw; (try dsimp only at hSw); go_simp; with_reducible rfl
          try simp only [Act.put, List.setIfInBounds_toArray, List.set_cons_zero, List.set_cons_succ]
          refine wpAnyH_take (i := 1) (oi := { dst := some 38, op := Op.fieldAddr 25 (Operand.tmp 10) 3, type := 0, pos := "point.go:126", after := #[], guard := none }) (v := ?_) rfl (by kernel_rfl) (by kernel_rfl) (by kernel_rfl) (fun _ _ _ h => h) (Or.inl ⟨by rfl, ?_⟩) trivial ?_
          rotate_left
          · intro w hSw; (try dsimp only at hSw); go_simp; with_reducible rfl
          try simp only [Act.put, List.setIfInBounds_toArray, List.set_cons_zero, List.set_cons_succ]
          refine wpAnyH_take (i := 3) (oi := { dst := some 40, op := Op.move (Operand.tmp 11), type := 40, pos := "point.go:126", after := #[], guard := none }) (v := ?_) rfl (by kernel_rfl) (by kernel_rfl) (by kernel_rfl) (fun _ _ _ h => h) (Or.inl ⟨by rfl, ?_⟩) trivial ?_
          rotate_left
          · intro w hSw; (try dsimp only at hSw); go_simp; with_reducible rfl
          try simp only [Act.put, List.setIfInBounds_toArray, List.set_cons_zero, List.set_cons_succ]
          refine wpAnyH_take (i := 4) (oi := { dst := some 41, op := Op.slice 40 (Operand.tmp 40) (some (Operand.const (Value.int IntKind.i64 1))) none none, type := 40, pos := "point.go:126", after := #[{ on := 3, ground := Ground.data }], guard := none }) (v := ?_) rfl (by kernel_rfl) (by kernel_rfl) (by kernel_rfl) (fun _ _ _ h => h) (Or.inl ⟨by rfl, ?_⟩) trivial ?_
          rotate_left
          · intro w hSw; (try dsimp only at hSw); have hcz := HCT.out; go_simp; with_reducible rfl
          try simp only [Act.put, List.setIfInBounds_toArray, List.set_cons_zero, List.set_cons_succ]
          refine wpAnyH_ready (rs := [2]) (by kernel_rfl) (by simp) ?_
          refine AllReadyH.cons (o := { dst := some 39, op := Op.load 22 (Operand.tmp 38), type := 22, pos := "point.go:126", after := #[{ on := 1, ground := Ground.data }], guard := none }) rfl (fun K hK => ?_) AllReadyH.nil
          have qd3 := HQD.out
          go_simp
          clear qd3
          refine hK.out _ _ (trivial) (fun hHeld => ?_)
          clear hK K
          try simp only [Act.put, List.setIfInBounds_toArray, List.set_cons_zero, List.set_cons_succ]
          refine wpAnyH_ready (rs := [5]) (by kernel_rfl) (by simp) ?_
          refine AllReadyH.cons (o := { dst := some 42, op := Op.call { callee := Callee.value (Operand.func 37), args := #[Operand.tmp 37, Operand.tmp 39, Operand.tmp 41], argTypes := #[22, 22, 40] }, type := 82, pos := "point.go:126", after := #[{ on := 0, ground := Ground.data }, { on := 2, ground := Ground.data }, { on := 4, ground := Ground.data }], guard := none }) rfl (fun K hK => ?_) AllReadyH.nil
          go_simp
          go_at_call 37
          refine (HGA.out _ HB3.out.drew (HN3.out.keep (Below.drew (Below.refl _ _)))).mono ?_
          rintro e w5 ⟨hres, hb5⟩
          have HB5 := Lib.hid hb5
          clear hb5
          rcases hres with ⟨g, s1, rows2, hg, rfl, hnx5⟩ | ⟨hg, rfl⟩
          · have HN5 := Lib.hid hnx5
            have HG1 := Lib.hid (HGT.out (lsV g) (by rw [HEY.out, hg]; rfl))
            rw [flat_ls] at HG1
            clear hg hnx5
            refine hK.out _ _ (trivial) (fun hHeld => ?_)
            clear hK K
            try simp only [Act.put, List.setIfInBounds_toArray, List.set_cons_zero, List.set_cons_succ]
            refine wpAnyH_take (i := 6) (oi := { dst := some 36, op := Op.move (Operand.tmp 42), type := 82, pos := "point.go:126", after := #[{ on := 5, ground := Ground.data }], guard := none }) (v := ?_) rfl (by kernel_rfl) (by kernel_rfl) (by kernel_rfl) (fun _ _ _ h => h) (Or.inl ⟨by rfl, ?_⟩) trivial ?_
            rotate_left
            · intro w hSw; (try dsimp only at hSw); go_simp; with_reducible rfl
            try simp only [Act.put, List.setIfInBounds_toArray, List.set_cons_zero, List.set_cons_succ]
            refine wpAnyH_take (i := 7) (oi := { dst := some 43, op := Op.extract (Operand.tmp 36) 0, type := 22, pos := "point.go:126", after := #[{ on := 6, ground := Ground.data }], guard := none }) (v := ?_) rfl (by kernel_rfl) (by kernel_rfl) (by kernel_rfl) (fun _ _ _ h => h) (Or.inl ⟨by rfl, ?_⟩) trivial ?_
            rotate_left
            · intro w hSw; (try dsimp only at hSw); go_simp; with_reducible rfl
            try simp only [Act.put, List.setIfInBounds_toArray, List.set_cons_zero, List.set_cons_succ]
            refine wpAnyH_take (i := 8) (oi := { dst := some 44, op := Op.extract (Operand.tmp 36) 1, type := 4, pos := "point.go:126", after := #[{ on := 6, ground := Ground.data }, { on := 9, ground := Ground.gcOnly Departure.lateStores }], guard := none }) (v := ?_) rfl (by kernel_rfl) (by kernel_rfl) (by kernel_rfl) (fun _ _ _ h => h) (Or.inl ⟨by rfl, ?_⟩) trivial ?_
            rotate_left
            · intro w hSw; (try dsimp only at hSw); go_simp; with_reducible rfl
            try simp only [Act.put, List.setIfInBounds_toArray, List.set_cons_zero, List.set_cons_succ]
            refine wpAnyH_take (i := 9) (oi := { dst := some 0, op := Op.assign (Operand.tmp 43), type := 22, pos := "point.go:126", after := #[{ on := 7, ground := Ground.data }, { on := 5, ground := Ground.chain }, { on := 0, ground := Ground.phase }, { on := 1, ground := Ground.phase }, { on := 2, ground := Ground.phase }, { on := 3, ground := Ground.phase }, { on := 4, ground := Ground.phase }, { on := 5, ground := Ground.phase }, { on := 6, ground := Ground.phase }, { on := 7, ground := Ground.phase }, { on := 8, ground := Ground.textOnly Departure.lateStores }], guard := none }) (v := ?_) rfl (by kernel_rfl) (by kernel_rfl) (by kernel_rfl) (fun _ _ _ h => h) (Or.inl ⟨by rfl, ?_⟩) trivial ?_
            rotate_left
            · intro w hSw; (try dsimp only at hSw); go_simp; with_reducible rfl
            try simp only [Act.put, List.setIfInBounds_toArray, List.set_cons_zero, List.set_cons_succ]
            refine wpAnyH_take (i := 10) (oi := { dst := some 12, op := Op.assign (Operand.tmp 44), type := 4, pos := "point.go:126", after := #[{ on := 8, ground := Ground.data }, { on := 9, ground := Ground.chain }, { on := 0, ground := Ground.phase }, { on := 1, ground := Ground.phase }, { on := 2, ground := Ground.phase }, { on := 3, ground := Ground.phase }, { on := 4, ground := Ground.phase }, { on := 5, ground := Ground.phase }, { on := 6, ground := Ground.phase }, { on := 7, ground := Ground.phase }, { on := 8, ground := Ground.phase }, { on := 9, ground := Ground.phase }], guard := none }) (v := ?_) rfl (by kernel_rfl) (by kernel_rfl) (by kernel_rfl) (fun _ _ _ h => h) (Or.inl ⟨by rfl, ?_⟩) trivial ?_
            rotate_left
            · intro w hSw; (try dsimp only at hSw); go_simp; with_reducible rfl
            try simp only [Act.put, List.setIfInBounds_toArray, List.set_cons_zero, List.set_cons_succ]
            refine wpAnyH_done (by kernel_rfl) ?_ _
            go_wp2_with fail
            go_roundw
            case rel => exact ⟨k + 1, _, _, by go_num, by omega, HN5.out, HB5.out, HG1.out⟩
            case measure => simp [intOf]; omega
          · have HN' := Lib.hid (HGN.out (by rw [HEY.out, hg]; rfl))
            clear hg
            refine hK.out _ _ (trivial) (fun hHeld => ?_)
            clear hK K
            try simp only [Act.put, List.setIfInBounds_toArray, List.set_cons_zero, List.set_cons_succ]
            refine wpAnyH_take (i := 6) (oi := { dst := some 36, op := Op.move (Operand.tmp 42), type := 82, pos := "point.go:126", after := #[{ on := 5, ground := Ground.data }], guard := none }) (v := ?_) rfl (by kernel_rfl) (by kernel_rfl) (by kernel_rfl) (fun _ _ _ h => h) (Or.inl ⟨by rfl, ?_⟩) trivial ?_
            rotate_left
            · intro w hSw; (try dsimp only at hSw); go_simp; with_reducible rfl
            try simp only [Act.put, List.setIfInBounds_toArray, List.set_cons_zero, List.set_cons_succ]
            refine wpAnyH_take (i := 7) (oi := { dst := some 43, op := Op.extract (Operand.tmp 36) 0, type := 22, pos := "point.go:126", after := #[{ on := 6, ground := Ground.data }], guard := none }) (v := ?_) rfl (by kernel_rfl) (by kernel_rfl) (by kernel_rfl) (fun _ _ _ h => h) (Or.inl ⟨by rfl, ?_⟩) trivial ?_
            rotate_left
            · intro w hSw; (try dsimp only at hSw); go_simp; with_reducible rfl
            try simp only [Act.put, List.setIfInBounds_toArray, List.set_cons_zero, List.set_cons_succ]
            refine wpAnyH_take (i := 8) (oi := { dst := some 44, op := Op.extract (Operand.tmp 36) 1, type := 4, pos := "point.go:126", after := #[{ on := 6, ground := Ground.data }, { on := 9, ground := Ground.gcOnly Departure.lateStores }], guard := none }) (v := ?_) rfl (by kernel_rfl) (by kernel_rfl) (by kernel_rfl) (fun _ _ _ h => h) (Or.inl ⟨by rfl, ?_⟩) trivial ?_
            rotate_left
            · intro w hSw; (try dsimp only at hSw); go_simp; with_reducible rfl
            try simp only [Act.put, List.setIfInBounds_toArray, List.set_cons_zero, List.set_cons_succ]
            refine wpAnyH_take (i := 9) (oi := { dst := some 0, op := Op.assign (Operand.tmp 43), type := 22, pos := "point.go:126", after := #[{ on := 7, ground := Ground.data }, { on := 5, ground := Ground.chain }, { on := 0, ground := Ground.phase }, { on := 1, ground := Ground.phase }, { on := 2, ground := Ground.phase }, { on := 3, ground := Ground.phase }, { on := 4, ground := Ground.phase }, { on := 5, ground := Ground.phase }, { on := 6, ground := Ground.phase }, { on := 7, ground := Ground.phase }, { on := 8, ground := Ground.textOnly Departure.lateStores }], guard := none }) (v := ?_) rfl (by kernel_rfl) (by kernel_rfl) (by kernel_rfl) (fun _ _ _ h => h) (Or.inl ⟨by rfl, ?_⟩) trivial ?_
            rotate_left
            · intro w hSw; (try dsimp only at hSw); go_simp; with_reducible rfl
            try simp only [Act.put, List.setIfInBounds_toArray, List.set_cons_zero, List.set_cons_succ]
            refine wpAnyH_take (i := 10) (oi := { dst := some 12, op := Op.assign (Operand.tmp 44), type := 4, pos := "point.go:126", after := #[{ on := 8, ground := Ground.data }, { on := 9, ground := Ground.chain }, { on := 0, ground := Ground.phase }, { on := 1, ground := Ground.phase }, { on := 2, ground := Ground.phase }, { on := 3, ground := Ground.phase }, { on := 4, ground := Ground.phase }, { on := 5, ground := Ground.phase }, { on := 6, ground := Ground.phase }, { on := 7, ground := Ground.phase }, { on := 8, ground := Ground.phase }, { on := 9, ground := Ground.phase }], guard := none }) (v := ?_) rfl (by kernel_rfl) (by kernel_rfl) (by kernel_rfl) (fun _ _ _ h => h) (Or.inl ⟨by rfl, ?_⟩) trivial ?_
            rotate_left
            · intro w hSw; (try dsimp only at hSw); go_simp; with_reducible rfl
            try simp only [Act.put, List.setIfInBounds_toArray, List.set_cons_zero, List.set_cons_succ]
            refine wpAnyH_done (by kernel_rfl) ?_ _
            go_wp2_with fail
            go_ret2
            exact ⟨.inr ⟨HN'.out, rfl⟩, HB5.out⟩
    · have t1 : decide ((k : Int) < (n : Int)) = false := decide_eq_false (by omega)
      have t2 : decide (k < n) = false := decide_eq_false hlt
      obtain ⟨g, hg1, hg2⟩ := hgs.out.end_ (by rw [HN.out]; omega)
      have HG1 := Lib.hid hg1
      have HNX := Lib.hid (show NxH w0 hi wr w0.heap.size u0 (acc ++ g) rows' by rw [← hg2]; exact hnx.out)
      have HBR := Lib.hid hbel.out
      clear hg1 hg2 hgs hnx hbel
      go_wp2_with fail
      go_ret2
      exact ⟨.inl ⟨g, _, rows', HG1.out, rfl, HNX.out⟩, HBR.out⟩
theorem gather_any (w0 : World) (hi : Nat) (hhi : hi ≤ w0.heap.size) (N : Nat) : ∀ ps : List (List UInt8), ps.length ≤ N → GaCon w0 hi ps := by
  induction N with
  | zero => exact fun ps h => gather_step w0 hi hhi ps fun qs hq => by omega
  | succ N ih => exact fun ps h => gather_step w0 hi hhi ps fun qs hq => ih qs (by omega)
end Go.Proofs.YtmfpaoincgfjmaaGreat.Po
set_option linter.unusedSimpArgs false
namespace Go.Proofs.YtmfpaoincgfjmaaGreat.Po
open Go.Proofs Go.RowKit
open Go.Proofs.YtmfpaoincgfjmaaGreat.Utf
open Go.Proofs.YtmfpaoincgfjmaaGreat.Sc
open Go.Proofs.YtmfpaoincgfjmaaGreat.Re
open Go.Proofs.YtmfpaoincgfjmaaGreat.Tr
open Go.Proofs.YtmfpaoincgfjmaaGreat.Nu

def GivesNV (o : Option V) (w : World) (e : Ending) (w' : World) : Prop :=
  (∃ cs : List Value, e = .returned (.tuple #[.agg cs.toArray, .bool o.isSome]) ∧ RdA w' 0 w'.heap.size (o.getD V0) cs) ∧ Below w.heap.size w w'
theorem GivesOV.new {hi : Nat} {o : Option V} {w : World} {e : Ending} {w' : World} (h : GivesOV hi o w e w') (hhi : hi ≤ w.heap.size) : GivesNV o w e w' := by
  obtain ⟨⟨cs, e1, h1⟩, hb⟩ := h
  exact ⟨⟨cs, e1, h1.below hb hhi (Nat.le_trans hhi hb.size)⟩, hb⟩
theorem ls_rd {w0 wr w' : World} {hi : Nat} {A : Option Addr} {c b : Nat} {g : List V} {rows : List (List Value)} (h : NxH w0 hi wr w0.heap.size (.slice A g.length c) g rows) (hb : Below w0.heap.size w0 wr) (hs : w'.heap.size = wr.heap.size) (ho : ∀ k, k ≠ b → w'.heap[k]? = wr.heap[k]?) (hbl : b < w0.heap.size) (hhi : hi ≤ b) :
    RdA w' 0 w'.heap.size (lsV g) [.int .i64 5, .int .i64 0, .string ⟨#[]⟩, .slice A g.length c, .slice none 0 0] := by
  rw [lsV, RdA]
  refine ⟨A, c, none, 0, rfl, rfl, fun h0 => ?_, fun h0 => by simp at h0⟩
  obtain ⟨gg, e, g1, g2, hc⟩ := own_at h.own h0
  refine ⟨gg, 0, e, Nat.zero_le _, by omega, RdAL_of g 0 fun k hk => ?_⟩
  have hkr : k < rows.length := by rw [h.len]; exact hk
  have := hc.sub h.five k hkr
  refine ⟨rows[k], fun j u hu => (cell_of_blk (ho gg (by omega))).trans (this j u hu).1, ?_⟩
  have hr := (h.row k hk hkr).below hb (Nat.le_of_lt (Nat.lt_of_le_of_lt hhi hbl)) (Nat.le_refl hi)
  exact RdA.keep (fun p _ hp => cell_of_blk (ho p.block (by omega))) (Nat.le_refl _) (by have := hb.size; omega) _ _ hr

set_option maxRecDepth 100000 in
set_option maxHeartbeats 1000000 in
theorem each_any (ps : List (List UInt8)) (v : V) (cs : List Value) (pv : Value) (w : World) (hv : RdA w 0 w.heap.size v cs) (hz : szA 4611686018427387904 v) (hpv : RdS w w.heap.size pv ps) (hps : ∀ q ∈ ps, q.length ≤ 9223372036854775807) (hc : cnt v ≤ 1000000000000) :
    Calls Tryz.prog 21 #[.agg cs.toArray, pv] w (GivesNV (eachV ps v) w) := by
  have HAL := Lib.hid (fun (W : World) (hW : Below w.heap.size w W) => along_any w.heap.size w.heap.size ps v cs pv W hW.size hW.size (hv.below hW (Nat.le_refl _) (Nat.le_refl _)) hz (hpv.below hW (Nat.le_refl _)) hps)
  have hnm := nm_of v cs hv
  have HPS := Lib.hid hps
  have HDN := Lib.hid (fun y r (hy : alongV ps v = some (y, r)) => And.intro (along_down (sz_down 4611686018427387904) ps v y r hnm hy hz) (along_down (Q := fun z => cnt z ≤ cnt v) (cnt_down _) ps v y r hnm hy (Nat.le_refl _)))
  obtain ⟨A0, c0, A20, c20, rfl, -, -, -⟩ := hv.cells
  clear hv hz hpv hps hnm
  generalize v.k = k at *
  generalize v.n = n at *
  generalize strOf v.s = S at *
  generalize v.l.length = l at *
  generalize v.ms.length = m at *
  obtain ⟨W0, hW0⟩ : ∃ W0, W0 = ((w.alloc (.cells #[.int .i64 k, .int .i64 n, .string S, .slice A0 l c0, .slice A20 m c20] 25)).alloc (.cells #[.int .i64 0, .int .i64 0, .string ⟨#[]⟩, .slice none 0 0, .slice none 0 0] 25)) := ⟨_, rfl⟩
  have HB0 := Lib.hid (show Below w.heap.size w W0 by rw [hW0]; exact ((Below.refl _ _).alloc (Nat.le_refl _) _).alloc (by simp) _)
  have HS0 := Lib.hid (show W0.heap.size = w.heap.size + 2 by rw [hW0, szAl, szAl])
  have hv0 : W0.heap[w.heap.size]? = some (.cells #[.int .i64 k, .int .i64 n, .string S, .slice A0 l c0, .slice A20 m c20] 25 (0, 0)) := by rw [hW0]; exact heapOld (heapNew _ _) _
  have hr0 : W0.heap[w.heap.size + 1]? = some (.cells #[.int .i64 0, .int .i64 0, .string ⟨#[]⟩, .slice none 0 0, .slice none 0 0] 25 (0, 0)) := by
    rw [hW0, show w.heap.size + 1 = (w.alloc (.cells #[.int .i64 k, .int .i64 n, .string S, .slice A0 l c0, .slice A20 m c20] 25)).heap.size by simp]; exact heapNew _ _
  have HR0 := Lib.hid hr0
  have HV0 := Lib.hid hv0
  have HW0 := Lib.hid hW0
  rw [hW0] at hv0
  obtain ⟨⟨p0, p1, p2, p3, p4⟩, -⟩ := row5 hv0
  clear hW0 hv0 hr0
  go_enter Tryz.func21, Tryz.ntmps21
  go_wp2_with fail
  rw [← HW0.out]
  clear p0 p1 p2 p3 p4
  refine (HAL.out _ HB0.out).mono ?_
  rintro e w1 ⟨⟨ca, pz, rfl, hca, hpz⟩, hb1⟩
  have HB1 := Lib.hid (HB0.out.trans (hb1.mono HB0.out.size))
  have hv1 := (hb1.block w.heap.size (by rw [HS0.out]; omega)).trans HV0.out
  have hr1 := (hb1.block (w.heap.size + 1) (by rw [HS0.out]; omega)).trans HR0.out
  have HV1 := Lib.hid hv1
  have HR1 := Lib.hid hr1
  obtain ⟨y, hy⟩ : ∃ y, ((alongV ps v).getD (V0, [])).1 = y := ⟨_, rfl⟩
  obtain ⟨rest, hrest⟩ : ∃ rest, ((alongV ps v).getD (V0, [])).2 = rest := ⟨_, rfl⟩
  rw [hy] at hca
  rw [hrest] at hpz
  have hca0 := hca.back HB0.out (Nat.le_refl _)
  have HCA := Lib.hid hca0
  have HPZ := Lib.hid (hpz.back HB0.out (Nat.le_refl _))
  obtain ⟨yA, yc, yB, yd, rfl, -, hyL, -⟩ := hca0.cells
  have HYLR := Lib.hid hyL
  clear hca hca0 hpz hb1 hyL
  obtain ⟨yk, hyk⟩ : ∃ x, y.k = x := ⟨_, rfl⟩
  obtain ⟨yl, hyl⟩ : ∃ x, y.l.length = x := ⟨_, rfl⟩
  have HYL := Lib.hid hyl
  rw [hyk, hyl] at HCA ⊢
  clear hyk hyl
  generalize strOf y.s = ys at *
  generalize y.n = yn at *
  generalize y.ms.length = ym at *
  obtain ⟨W2, hW2⟩ : ∃ W2, W2 = (((((w1.setCell ⟨w.heap.size, 0, none⟩ (.int .i64 yk)).setCell ⟨w.heap.size, 1, none⟩ (.int .i64 yn)).setCell ⟨w.heap.size, 2, none⟩ (.string ys)).setCell ⟨w.heap.size, 3, none⟩ (.slice yA yl yc)).setCell ⟨w.heap.size, 4, none⟩ (.slice yB ym yd)) := ⟨_, rfl⟩
  have HQ2 := Lib.hid (show W2.heap[w.heap.size]? = some (.cells #[.int .i64 yk, .int .i64 yn, .string ys, .slice yA yl yc, .slice yB ym yd] 25 (0, 0)) by rw [hW2]; exact st5_row HV1.out _ _ _ _ _)
  have HR2 := Lib.hid (show W2.heap[w.heap.size + 1]? = some (.cells #[.int .i64 0, .int .i64 0, .string ⟨#[]⟩, .slice none 0 0, .slice none 0 0] 25 (0, 0)) by rw [hW2]; exact (st5_other (by omega) _ _ _ _ _).trans HR1.out)
  have HB2 := Lib.hid (show Below w.heap.size w W2 by rw [hW2]; exact st5_below HB1.out (Nat.le_refl _) _ _ _ _ _)
  have HW2 := Lib.hid hW2
  obtain ⟨⟨p0, p1, p2, p3, p4⟩, ⟨x0, x1, x2, x3, x4⟩⟩ := row5 hv1
  have hq2 := HQ2.out
  have hr2 := HR2.out
  rw [hW2] at hq2 hr2
  clear hW2
  rcases hal : alongV ps v with _ | ⟨y', rest'⟩
  · rw [hal] at hy hrest
    have HEQ := Lib.hid (show eachV ps v = none by rw [each_along, hal]; rfl)
    have HY0 := Lib.hid hy
    clear hal hrest
    obtain ⟨⟨q0, q1, q2, q3, q4⟩, -⟩ := row5 hq2
    obtain ⟨⟨r0, r1, r2, r3, r4⟩, ⟨f0, f1, f2, f3, f4⟩⟩ := row5 hr2
    go_wp2
    rw [← HW2.out]
    refine bodyPost_ret (res5b rfl rfl rfl (st5_row HR2.out (.int .i64 yk) (.int .i64 yn) (.string ys) (.slice yA yl yc) (.slice yB ym yd))) rfl ?_
    rw [HEQ.out]
    have hbb := st5_below (b := w.heap.size + 1) HB2.out (by omega) (.int .i64 yk) (.int .i64 yn) (.string ys) (.slice yA yl yc) (.slice yB ym yd)
    refine ⟨⟨[.int .i64 yk, .int .i64 yn, .string ys, .slice yA yl yc, .slice yB ym yd], rfl, ?_⟩, hbb⟩
    have hy0 : V0 = y := HY0.out
    show RdA _ _ _ V0 _
    rw [hy0]
    exact HCA.out.below hbb (Nat.le_refl _) hbb.size
  · have hal' : alongV ps v = some (y, rest) := by rw [hal] at hy hrest ⊢; rw [← hy, ← hrest]; rfl
    clear hy hrest hal
    obtain ⟨⟨hzy, -⟩, ⟨hcy, -⟩⟩ := HDN.out y rest hal'
    have hyl : cntL y.l ≤ cnt y := by rw [cnt_eq]; omega
    have HZYL := Lib.hid ((szA_eq _ y).1 hzy).2.2.2.2.2.2.1
    have HCY := Lib.hid (Nat.le_trans hyl (Nat.le_trans hcy hc))
    have HAY := Lib.hid (each_along ps v)
    rw [hal'] at HAY
    obtain ⟨pre, hpre⟩ := along_suffix ps v y rest hal'
    rcases rest with _ | ⟨pp, tt⟩
    · have HEQ := Lib.hid (show eachV ps v = some y by rw [HAY.out]; rfl)
      obtain ⟨Ap, cp, rfl, -, -⟩ := HPZ.out
      clear hal' hzy hyl hcy hpre
      have e0 : (([] : List (List UInt8)).length : Nat) = 0 := rfl
      obtain ⟨⟨q0, q1, q2, q3, q4⟩, -⟩ := row5 hq2
      obtain ⟨⟨r0, r1, r2, r3, r4⟩, ⟨f0, f1, f2, f3, f4⟩⟩ := row5 hr2
      go_wp2
      rw [← HW2.out]
      refine bodyPost_ret (res5b rfl rfl rfl (st5_row HR2.out (.int .i64 yk) (.int .i64 yn) (.string ys) (.slice yA yl yc) (.slice yB ym yd))) rfl ?_
      rw [HEQ.out]
      have hbb := st5_below (b := w.heap.size + 1) HB2.out (by omega) (.int .i64 yk) (.int .i64 yn) (.string ys) (.slice yA yl yc) (.slice yB ym yd)
      exact ⟨⟨[.int .i64 yk, .int .i64 yn, .string ys, .slice yA yl yc, .slice yB ym yd], rfl, HCA.out.below hbb (Nat.le_refl _) hbb.size⟩, hbb⟩
    · have HEY := Lib.hid (show eachV ps v = (gathF (eachV tt) y.l).map lsV by rw [HAY.out]; rfl)
      have HMQ := Lib.hid (show ∀ q ∈ tt, q ∈ ps from fun q hq => by rw [hpre]; simp [hq])
      obtain ⟨pz', hcut, hpz'⟩ := HPZ.out.cut
      have HCT := Lib.hid hcut
      have HGA := Lib.hid (fun (W : World) (hW : Below W2.heap.size W2 W) (hN : NxH W2 w.heap.size W W2.heap.size (.slice none 0 0) [] []) => gather_any W2 w.heap.size HB2.out.size tt.length tt (Nat.le_refl _) [] y.l [] yA yc (.slice none 0 0) pz' W hW hN (fun h0 => by
        obtain ⟨g, o, e, g1, g2, hr⟩ := HYLR.out h0
        exact ⟨g, o, e, g1, g2, RdAL.keep (fun p _ hp => HB2.out.cell (p := p) hp) (Nat.le_refl _) (Nat.le_refl _) _ _ _ g1 g2 hr⟩) HZYL.out (hpz'.below HB2.out HB2.out.size) (fun q hq => HPS.out q (HMQ.out q hq)) (by have := HCY.out; simp; omega))
      rw [HYL.out] at HGA
      obtain ⟨A9, c9, e9, h9, -⟩ := HPZ.out
      have hn9 : 0 < (pp :: tt).length := by simp
      obtain ⟨n9, hn9'⟩ : ∃ n9, (pp :: tt).length = n9 := ⟨_, rfl⟩
      rw [hn9'] at e9 hn9
      have d9 : ((n9 : Int) == 0) = false := beq_eq_false_iff_ne.2 (by omega)
      subst e9
      have HQD := Lib.hid (show W2.drew.cell? ⟨w.heap.size, 3, none⟩ = some (.slice yA yl yc) from (row5 HQ2.out).1.2.2.2.1)
      clear hal' hzy hyl hcy hpre hpz' hcut h9 hn9 hn9' hq2 hr2
      go_wp2_with fail
      rw [← HW2.out]
      clear p0 p1 p2 p3 p4 x0 x1 x2 x3 x4
      refine wp_region_held_drew (S := fun _ => True) (by kernel_rfl) (trivial) (fun hHeld => ?_)
      refine wpAnyH_take (i := 0) (oi := { dst := some 26, op := Op.fieldAddr 25 (Operand.tmp 2) 3, type := 0, pos := "point.go:108", after := #[], guard := none }) (v := ?_) rfl (by kernel_rfl) (by kernel_rfl) (by kernel_rfl) (fun _ _ _ h => h) (Or.inl ⟨by rfl, ?_⟩) trivial ?_
      rotate_left
      · intro w hSw; (try dsimp only at hSw); go_simp; with_reducible rfl
      try simp only [Act.put, List.setIfInBounds_toArray, List.set_cons_zero, List.set_cons_succ]
      refine wpAnyH_take (i := 2) (oi := { dst := some 28, op := Op.move (Operand.tmp 6), type := 40, pos := "point.go:108", after := #[], guard := none }) (v := ?_) rfl (by kernel_rfl) (by kernel_rfl) (by kernel_rfl) (fun _ _ _ h => h) (Or.inl ⟨by rfl, ?_⟩) trivial ?_
      rotate_left
      · intro w hSw; (try dsimp only at hSw); go_simp; with_reducible rfl
      try simp only [Act.put, List.setIfInBounds_toArray, List.set_cons_zero, List.set_cons_succ]
      refine wpAnyH_take (i := 3) (oi := { dst := some 29, op := Op.slice 40 (Operand.tmp 28) (some (Operand.const (Value.int IntKind.i64 1))) none none, type := 40, pos := "point.go:108", after := #[{ on := 2, ground := Ground.data }], guard := none }) (v := ?_) rfl (by kernel_rfl) (by kernel_rfl) (by kernel_rfl) (fun _ _ _ h => h) (Or.inl ⟨by rfl, ?_⟩) trivial ?_
      rotate_left
      · intro w hSw; (try dsimp only at hSw); have hcz := HCT.out; go_simp; with_reducible rfl
      try simp only [Act.put, List.setIfInBounds_toArray, List.set_cons_zero, List.set_cons_succ]
      refine wpAnyH_ready (rs := [1]) (by kernel_rfl) (by simp) ?_
      refine AllReadyH.cons (o := { dst := some 27, op := Op.load 22 (Operand.tmp 26), type := 22, pos := "point.go:108", after := #[{ on := 0, ground := Ground.data }], guard := none }) rfl (fun K hK => ?_) AllReadyH.nil
      have qd3 := HQD.out
      go_simp
      clear qd3
      refine hK.out _ _ (trivial) (fun hHeld => ?_)
      clear hK K
      try simp only [Act.put, List.setIfInBounds_toArray, List.set_cons_zero, List.set_cons_succ]
      refine wpAnyH_ready (rs := [4]) (by kernel_rfl) (by simp) ?_
      refine AllReadyH.cons (o := { dst := some 30, op := Op.call { callee := Callee.value (Operand.func 37), args := #[Operand.const (Value.slice none 0 0), Operand.tmp 27, Operand.tmp 29], argTypes := #[22, 22, 40] }, type := 82, pos := "point.go:108", after := #[{ on := 1, ground := Ground.data }, { on := 3, ground := Ground.data }], guard := none }) rfl (fun K hK => ?_) AllReadyH.nil
      go_simp
      go_at_call 37
      refine (HGA.out _ (Below.drew (Below.refl _ _)) (NxH.nil _ _ _ _)).mono ?_
      rintro e w5 ⟨hres, hb5⟩
      have HB5' := Lib.hid hb5
      have HB5 := Lib.hid (HB2.out.trans (hb5.mono HB2.out.size))
      have hr5 := (hb5.block (w.heap.size + 1) (by have := (Array.getElem?_eq_some_iff.1 HR2.out).1; exact this)).trans HR2.out
      have HR5 := Lib.hid hr5
      clear hb5 hr5
      rcases hres with ⟨g, s1, rows2, hg, rfl, hnx5⟩ | ⟨hg, rfl⟩
      · have HEQ := Lib.hid (show eachV ps v = some (lsV g) by rw [HEY.out, hg]; rfl)
        rw [List.nil_append] at hnx5
        obtain ⟨gA, gc, rfl⟩ := own_is_slice hnx5.own
        have HNX := Lib.hid hnx5
        have HBW := Lib.hid (show Below W2.heap.size W2 w5 from HB5'.out)
        obtain ⟨gl, hgl⟩ : ∃ gl, g.length = gl := ⟨_, rfl⟩
        have HGL := Lib.hid hgl
        rw [hgl]
        clear hg hnx5 hgl
        refine hK.out _ _ (trivial) (fun hHeld => ?_)
        clear hK K
        try simp only [Act.put, List.setIfInBounds_toArray, List.set_cons_zero, List.set_cons_succ]
        refine wpAnyH_take (i := 5) (oi := { dst := some 25, op := Op.move (Operand.tmp 30), type := 82, pos := "point.go:108", after := #[{ on := 4, ground := Ground.data }], guard := none }) (v := ?_) rfl (by kernel_rfl) (by kernel_rfl) (by kernel_rfl) (fun _ _ _ h => h) (Or.inl ⟨by rfl, ?_⟩) trivial ?_
        rotate_left
        · intro w hSw; (try dsimp only at hSw); go_simp; with_reducible rfl
        try simp only [Act.put, List.setIfInBounds_toArray, List.set_cons_zero, List.set_cons_succ]
        refine wpAnyH_take (i := 6) (oi := { dst := some 31, op := Op.extract (Operand.tmp 25) 0, type := 22, pos := "point.go:108", after := #[{ on := 5, ground := Ground.data }], guard := none }) (v := ?_) rfl (by kernel_rfl) (by kernel_rfl) (by kernel_rfl) (fun _ _ _ h => h) (Or.inl ⟨by rfl, ?_⟩) trivial ?_
        rotate_left
        · intro w hSw; (try dsimp only at hSw); go_simp; with_reducible rfl
        try simp only [Act.put, List.setIfInBounds_toArray, List.set_cons_zero, List.set_cons_succ]
        refine wpAnyH_take (i := 7) (oi := { dst := some 32, op := Op.extract (Operand.tmp 25) 1, type := 4, pos := "point.go:108", after := #[{ on := 5, ground := Ground.data }, { on := 8, ground := Ground.gcOnly Departure.lateStores }], guard := none }) (v := ?_) rfl (by kernel_rfl) (by kernel_rfl) (by kernel_rfl) (fun _ _ _ h => h) (Or.inl ⟨by rfl, ?_⟩) trivial ?_
        rotate_left
        · intro w hSw; (try dsimp only at hSw); go_simp; with_reducible rfl
        try simp only [Act.put, List.setIfInBounds_toArray, List.set_cons_zero, List.set_cons_succ]
        refine wpAnyH_take (i := 8) (oi := { dst := some 8, op := Op.assign (Operand.tmp 31), type := 22, pos := "point.go:108", after := #[{ on := 6, ground := Ground.data }, { on := 4, ground := Ground.chain }, { on := 0, ground := Ground.phase }, { on := 1, ground := Ground.phase }, { on := 2, ground := Ground.phase }, { on := 3, ground := Ground.phase }, { on := 4, ground := Ground.phase }, { on := 5, ground := Ground.phase }, { on := 6, ground := Ground.phase }, { on := 7, ground := Ground.textOnly Departure.lateStores }], guard := none }) (v := ?_) rfl (by kernel_rfl) (by kernel_rfl) (by kernel_rfl) (fun _ _ _ h => h) (Or.inl ⟨by rfl, ?_⟩) trivial ?_
        rotate_left
        · intro w hSw; (try dsimp only at hSw); go_simp; with_reducible rfl
        try simp only [Act.put, List.setIfInBounds_toArray, List.set_cons_zero, List.set_cons_succ]
        refine wpAnyH_take (i := 9) (oi := { dst := some 7, op := Op.assign (Operand.tmp 32), type := 4, pos := "point.go:108", after := #[{ on := 7, ground := Ground.data }, { on := 8, ground := Ground.chain }, { on := 0, ground := Ground.phase }, { on := 1, ground := Ground.phase }, { on := 2, ground := Ground.phase }, { on := 3, ground := Ground.phase }, { on := 4, ground := Ground.phase }, { on := 5, ground := Ground.phase }, { on := 6, ground := Ground.phase }, { on := 7, ground := Ground.phase }, { on := 8, ground := Ground.phase }], guard := none }) (v := ?_) rfl (by kernel_rfl) (by kernel_rfl) (by kernel_rfl) (fun _ _ _ h => h) (Or.inl ⟨by rfl, ?_⟩) trivial ?_
        rotate_left
        · intro w hSw; (try dsimp only at hSw); go_simp; with_reducible rfl
        try simp only [Act.put, List.setIfInBounds_toArray, List.set_cons_zero, List.set_cons_succ]
        refine wpAnyH_done (by kernel_rfl) ?_ _
        obtain ⟨⟨r0, r1, r2, r3, r4⟩, ⟨f0, f1, f2, f3, f4⟩⟩ := row5 HR5.out
        go_wp2
        refine bodyPost_ret (res5b rfl rfl rfl (st5_row HR5.out (.int .i64 5) (.int .i64 0) (.string ⟨#[]⟩) (.slice gA gl gc) (.slice none 0 0))) rfl ?_
        rw [HEQ.out]
        refine ⟨⟨[.int .i64 5, .int .i64 0, .string ⟨#[]⟩, .slice gA gl gc, .slice none 0 0], rfl, ?_⟩, st5_below HB5.out (by omega) _ _ _ _ _⟩
        rw [← HGL.out]
        exact ls_rd HNX.out HBW.out (st5_size (w := w5) (b := w.heap.size + 1) _ _ _ _ _) (fun k hk => st5_other hk _ _ _ _ _) (by have := (Array.getElem?_eq_some_iff.1 HR2.out).1; exact this) (by omega)
      · have HEQ := Lib.hid (show eachV ps v = none by rw [HEY.out, hg]; rfl)
        clear hg
        refine hK.out _ _ (trivial) (fun hHeld => ?_)
        clear hK K
        try simp only [Act.put, List.setIfInBounds_toArray, List.set_cons_zero, List.set_cons_succ]
        refine wpAnyH_take (i := 5) (oi := { dst := some 25, op := Op.move (Operand.tmp 30), type := 82, pos := "point.go:108", after := #[{ on := 4, ground := Ground.data }], guard := none }) (v := ?_) rfl (by kernel_rfl) (by kernel_rfl) (by kernel_rfl) (fun _ _ _ h => h) (Or.inl ⟨by rfl, ?_⟩) trivial ?_
        rotate_left
        · intro w hSw; (try dsimp only at hSw); go_simp; with_reducible rfl
        try simp only [Act.put, List.setIfInBounds_toArray, List.set_cons_zero, List.set_cons_succ]
        refine wpAnyH_take (i := 6) (oi := { dst := some 31, op := Op.extract (Operand.tmp 25) 0, type := 22, pos := "point.go:108", after := #[{ on := 5, ground := Ground.data }], guard := none }) (v := ?_) rfl (by kernel_rfl) (by kernel_rfl) (by kernel_rfl) (fun _ _ _ h => h) (Or.inl ⟨by rfl, ?_⟩) trivial ?_
        rotate_left
        · intro w hSw; (try dsimp only at hSw); go_simp; with_reducible rfl
        try simp only [Act.put, List.setIfInBounds_toArray, List.set_cons_zero, List.set_cons_succ]
        refine wpAnyH_take (i := 7) (oi := { dst := some 32, op := Op.extract (Operand.tmp 25) 1, type := 4, pos := "point.go:108", after := #[{ on := 5, ground := Ground.data }, { on := 8, ground := Ground.gcOnly Departure.lateStores }], guard := none }) (v := ?_) rfl (by kernel_rfl) (by kernel_rfl) (by kernel_rfl) (fun _ _ _ h => h) (Or.inl ⟨by rfl, ?_⟩) trivial ?_
        rotate_left
        · intro w hSw; (try dsimp only at hSw); go_simp; with_reducible rfl
        try simp only [Act.put, List.setIfInBounds_toArray, List.set_cons_zero, List.set_cons_succ]
        refine wpAnyH_take (i := 8) (oi := { dst := some 8, op := Op.assign (Operand.tmp 31), type := 22, pos := "point.go:108", after := #[{ on := 6, ground := Ground.data }, { on := 4, ground := Ground.chain }, { on := 0, ground := Ground.phase }, { on := 1, ground := Ground.phase }, { on := 2, ground := Ground.phase }, { on := 3, ground := Ground.phase }, { on := 4, ground := Ground.phase }, { on := 5, ground := Ground.phase }, { on := 6, ground := Ground.phase }, { on := 7, ground := Ground.textOnly Departure.lateStores }], guard := none }) (v := ?_) rfl (by kernel_rfl) (by kernel_rfl) (by kernel_rfl) (fun _ _ _ h => h) (Or.inl ⟨by rfl, ?_⟩) trivial ?_
        rotate_left
        · intro w hSw; (try dsimp only at hSw); go_simp; with_reducible rfl
        try simp only [Act.put, List.setIfInBounds_toArray, List.set_cons_zero, List.set_cons_succ]
        refine wpAnyH_take (i := 9) (oi := { dst := some 7, op := Op.assign (Operand.tmp 32), type := 4, pos := "point.go:108", after := #[{ on := 7, ground := Ground.data }, { on := 8, ground := Ground.chain }, { on := 0, ground := Ground.phase }, { on := 1, ground := Ground.phase }, { on := 2, ground := Ground.phase }, { on := 3, ground := Ground.phase }, { on := 4, ground := Ground.phase }, { on := 5, ground := Ground.phase }, { on := 6, ground := Ground.phase }, { on := 7, ground := Ground.phase }, { on := 8, ground := Ground.phase }], guard := none }) (v := ?_) rfl (by kernel_rfl) (by kernel_rfl) (by kernel_rfl) (fun _ _ _ h => h) (Or.inl ⟨by rfl, ?_⟩) trivial ?_
        rotate_left
        · intro w hSw; (try dsimp only at hSw); go_simp; with_reducible rfl
        try simp only [Act.put, List.setIfInBounds_toArray, List.set_cons_zero, List.set_cons_succ]
        refine wpAnyH_done (by kernel_rfl) ?_ _
        obtain ⟨⟨r0, r1, r2, r3, r4⟩, ⟨f0, f1, f2, f3, f4⟩⟩ := row5 HR5.out
        go_wp2
        refine bodyPost_ret (res5b rfl rfl rfl (st5_row HR5.out (.int .i64 0) (.int .i64 0) (.string ⟨#[]⟩) (.slice none 0 0) (.slice none 0 0))) rfl ?_
        rw [HEQ.out]
        exact ⟨⟨[.int .i64 0, .int .i64 0, .string ⟨#[]⟩, .slice none 0 0, .slice none 0 0], rfl, rd_zero _ _ _⟩, st5_below HB5.out (by omega) _ _ _ _ _⟩
end Go.Proofs.YtmfpaoincgfjmaaGreat.Po
set_option linter.unusedSimpArgs false
namespace Go.Proofs.YtmfpaoincgfjmaaGreat.Po
open Go.Proofs Go.RowKit
open Go.Proofs.YtmfpaoincgfjmaaGreat.Utf
open Go.Proofs.YtmfpaoincgfjmaaGreat.Sc
open Go.Proofs.YtmfpaoincgfjmaaGreat.Re
open Go.Proofs.YtmfpaoincgfjmaaGreat.Tr
open Go.Proofs.YtmfpaoincgfjmaaGreat.Nu

def leadsV (L : List (List UInt8) → V → Option V) (p : List UInt8) (v : V) : V × Int :=
  match prts p with
  | none => (V0, 80)
  | some ps => match L ps v with
    | none => (V0, 81)
    | some x => (x, 0)
def GivesVE (r : V × Int) (w : World) (e : Ending) (w' : World) : Prop :=
  (∃ cs : List Value, e = .returned (.tuple #[.agg cs.toArray, .int .i64 r.2]) ∧ RdA w' w.heap.size w'.heap.size r.1 cs) ∧ Below w.heap.size w w'
theorem sz_find (ps : List (List UInt8)) (v y : V) (hn : nmV' v) (hz : szA 140737488355328 v) (h : leadV ps v = some y) : szA 140737488355328 y :=
  (lead_down (sz_down 140737488355328) ps v y hn h hz).1
theorem sz_each' (B : Nat) : ∀ (ps : List (List UInt8)) (v y : V), nmV' v → szA B v → cnt v * 80 ≤ B → eachV ps v = some y → szA B y
  | [], v, y, _, hz, _, h => by rw [eachV] at h; injection h with h; subst h; exact hz
  | p :: r, v, y, hn, hz, hc, h => by
    rw [eachV] at h
    split at h
    · obtain ⟨g, h1, rfl⟩ := Option.map_eq_some_iff.1 h
      have hle : g.length ≤ cnt v := by
        have := gath_le v.l g (fun x hx z hz => each_le r x z (nmL'_mem ((nmV'_eq v).1 hn).2.1 hx) hz) h1
        rw [cnt_eq]; omega
      have hsz : ∀ z ∈ g, szA B z := gath_all v.l g (fun x hx z hz' => each_all (sz_down B) r x z (nmL'_mem ((nmV'_eq v).1 hn).2.1 hx) ((sz_down B v hz).1 x hx) hz') h1
      unfold lsV
      rw [szA, szAL]
      exact ⟨by decide, by decide, by simp, by have := Nat.mul_le_mul_right 80 hle; omega, by simp, (fun nm h => by cases h), szAL_of hsz, trivial⟩
    · obtain ⟨x, h1, h2⟩ := Option.bind_eq_some_iff.1 h
      obtain ⟨q1, q2⟩ := step_down (sz_down B) hn h1 hz
      obtain ⟨q3, -⟩ := step_down (Q := fun z => cnt z ≤ cnt v) (cnt_down _) hn h1 (Nat.le_refl _)
      exact sz_each' B r x y q2 q1 (Nat.le_trans (Nat.mul_le_mul_right 80 q3) hc) h2

set_option maxRecDepth 100000 in
set_option maxHeartbeats 1000000 in
theorem answer_find (v : V) (cs : List Value) (p : List UInt8) (w : World) (hv : RdA w 0 w.heap.size v cs) (hz : szA 140737488355328 v) (hp : p.length ≤ 4398046511104) :
    Calls Tryz.prog 17 #[.agg cs.toArray, .string (strOf p), .func (.func 18) #[] #[]] w (GivesVE (leadsV leadV p v) w) := by
  have hnm := nm_of v cs hv
  have HPA := Lib.hid (fun (W : World) => Parts_any (strOf p) (by rw [strOf_size]; exact hp) W)
  have HLE := Lib.hid (fun (W : World) (hW : Below w.heap.size w W) (pv : Value) (ps : List (List UInt8)) (hps : prts p = some ps) (hr : RdS W W.heap.size pv ps) => (find_any w.heap.size ps v cs pv W hW.size (hv.below hW (Nat.le_refl _) (Nat.le_refl _)) (Em.szA_more (by decide) _ hz) hr (fun q hq => Nat.le_trans (prts_each hps q hq) (Nat.le_trans hp (by decide)))).mono fun e w' h => GivesOV.new h hW.size)
  have HSZ := Lib.hid (fun (ps : List (List UInt8)) (y : V) (hy : leadV ps v = some y) => sz_find ps v y hnm hz hy)
  obtain ⟨A0, c0, A20, c20, rfl, -, -, -⟩ := hv.cells
  clear hv hz hp hnm
  generalize v.k = k at *
  generalize v.n = n at *
  generalize strOf v.s = S at *
  generalize v.l.length = l at *
  generalize v.ms.length = m at *
  obtain ⟨X, hX⟩ : ∃ X, strOf p = X := ⟨_, rfl⟩
  rw [hX] at HPA ⊢
  have hXd : X.data.toList = p := by rw [← hX, strOf_data]
  rw [hXd] at HPA
  clear hX hXd
  obtain ⟨W0, hW0⟩ : ∃ W0, W0 = ((w.alloc (.cells #[.int .i64 k, .int .i64 n, .string S, .slice A0 l c0, .slice A20 m c20] 25)).alloc (.cells #[.int .i64 0, .int .i64 0, .string ⟨#[]⟩, .slice none 0 0, .slice none 0 0] 25)) := ⟨_, rfl⟩
  have HB0 := Lib.hid (show Below w.heap.size w W0 by rw [hW0]; exact ((Below.refl _ _).alloc (Nat.le_refl _) _).alloc (by simp) _)
  have HS0 := Lib.hid (show W0.heap.size = w.heap.size + 2 by rw [hW0, szAl, szAl])
  have hv0 : W0.heap[w.heap.size]? = some (.cells #[.int .i64 k, .int .i64 n, .string S, .slice A0 l c0, .slice A20 m c20] 25 (0, 0)) := by rw [hW0]; exact heapOld (heapNew _ _) _
  have hr0 : W0.heap[w.heap.size + 1]? = some (.cells #[.int .i64 0, .int .i64 0, .string ⟨#[]⟩, .slice none 0 0, .slice none 0 0] 25 (0, 0)) := by
    rw [hW0, show w.heap.size + 1 = (w.alloc (.cells #[.int .i64 k, .int .i64 n, .string S, .slice A0 l c0, .slice A20 m c20] 25)).heap.size by simp]; exact heapNew _ _
  have HR0 := Lib.hid hr0
  have HV0 := Lib.hid hv0
  have HW0 := Lib.hid hW0
  clear hW0 hv0 hr0
  go_enter Tryz.func17, Tryz.ntmps17
  go_wp2_with fail
  rw [← HW0.out]
  refine (HPA.out _).mono ?_
  rintro e w1 ⟨hres, hb1⟩
  have HB1 := Lib.hid (HB0.out.trans (hb1.mono HB0.out.size))
  have hv1 := (hb1.block w.heap.size (by rw [HS0.out]; omega)).trans HV0.out
  have hr1 := (hb1.block (w.heap.size + 1) (by rw [HS0.out]; omega)).trans HR0.out
  have HS1 := Lib.hid (show w.heap.size + 2 ≤ w1.heap.size by have := hb1.size; rw [HS0.out] at this; exact this)
  have HV1 := Lib.hid hv1
  have HR1 := Lib.hid hr1
  rcases hres with ⟨ps, pv, hps, rfl, hown⟩ | ⟨hps, rfl⟩
  · have HRS := Lib.hid (RdS.of_own hown)
    have HPS := Lib.hid hps
    obtain ⟨⟨p0, p1, p2, p3, p4⟩, -⟩ := row5 hv1
    clear hb1 hv1 hr1 hps hown
    go_wp2_with fail
    refine (HLE.out _ HB1.out pv ps HPS.out HRS.out).mono ?_
    rintro e w2 ⟨⟨ca, rfl, hca⟩, hb2⟩
    have HB2 := Lib.hid (HB1.out.trans (hb2.mono HB1.out.size))
    have hr2 := (hb2.block (w.heap.size + 1) (by have := HS1.out; omega)).trans HR1.out
    have HR2 := Lib.hid hr2
    have HS2 := Lib.hid (show w.heap.size + 2 ≤ w2.heap.size from Nat.le_trans HS1.out hb2.size)
    obtain ⟨y, hy⟩ : ∃ y, (leadV ps v).getD V0 = y := ⟨_, rfl⟩
    rw [hy] at hca
    have HCA := Lib.hid hca
    have HY := Lib.hid hy
    obtain ⟨yA, yc, yB, yd, rfl, -⟩ := hca.cells
    clear hca hb2 p0 p1 p2 p3 p4 hy
    generalize y.k = yk at *
    generalize y.n = yn at *
    generalize strOf y.s = ys at *
    generalize y.l.length = yl at *
    generalize y.ms.length = ym at *
    obtain ⟨W3, hW3⟩ : ∃ W3, W3 = w2.alloc (.cells #[.int .i64 yk, .int .i64 yn, .string ys, .slice yA yl yc, .slice yB ym yd] 25) := ⟨_, rfl⟩
    have HB3 := Lib.hid (show Below w.heap.size w W3 by rw [hW3]; exact HB2.out.alloc HB2.out.size _)
    have hr3 : W3.heap[w.heap.size + 1]? = some (.cells #[.int .i64 0, .int .i64 0, .string ⟨#[]⟩, .slice none 0 0, .slice none 0 0] 25 (0, 0)) := by rw [hW3]; exact heapOld hr2 _
    have HR3 := Lib.hid hr3
    have HW3 := Lib.hid hW3
    have HB23 := Lib.hid (show Below w2.heap.size w2 W3 by rw [hW3]; exact (Below.refl _ _).alloc (Nat.le_refl _) _)
    have HS3 := Lib.hid (show w2.heap.size ≤ W3.heap.size from HB23.out.size)
    rw [hW3] at hr3
    obtain ⟨⟨z0, z1, z2, z3, z4⟩, ⟨y0, y1, y2, y3, y4⟩⟩ := row5 (heapNew w2 (.cells #[.int .i64 0, .int .i64 0, .string ⟨#[]⟩, .slice none 0 0, .slice none 0 0] 25))
    obtain ⟨⟨q0, q1, q2, q3, q4⟩, -⟩ := row5 (heapNew w2 (.cells #[.int .i64 yk, .int .i64 yn, .string ys, .slice yA yl yc, .slice yB ym yd] 25))
    obtain ⟨⟨r0, r1, r2, r3, r4⟩, ⟨f0, f1, f2, f3, f4⟩⟩ := row5 hr3
    clear hr2 hr3 hW3
    rcases hl : leadV ps v with _ | x
    · have HEQ := Lib.hid (show leadsV leadV p v = (V0, 81) by unfold leadsV; rw [HPS.out]; simp only [hl])
      clear hl
      go_wp2
      rw [← HW3.out]
      refine bodyPost_ret (res5b rfl rfl rfl (st5_row HR3.out (.int .i64 0) (.int .i64 0) (.string ⟨#[]⟩) (.slice none 0 0) (.slice none 0 0))) rfl ?_
      rw [HEQ.out]
      exact ⟨⟨[.int .i64 0, .int .i64 0, .string ⟨#[]⟩, .slice none 0 0, .slice none 0 0], rfl, rd_zero _ _ _⟩, st5_below HB3.out (by omega) _ _ _ _ _⟩
    · have HEQ := Lib.hid (show leadsV leadV p v = (x, 0) by unfold leadsV; rw [HPS.out]; simp only [hl])
      have hyx : y = x := by rw [← HY.out, hl]; rfl
      have hzx := HSZ.out ps x hl
      have hcx := HCA.out
      rw [hyx] at hcx
      have HCX := Lib.hid (Copy_any (ht x) x (Nat.le_refl _) hzx _ W3 (hcx.below HB23.out (Nat.le_refl _) HS3.out))
      clear hl hyx hzx hcx
      go_wp2_with fail
      rw [← HW3.out]
      clear z0 z1 z2 z3 z4 y0 y1 y2 y3 y4 q0 q1 q2 q3 q4 r0 r1 r2 r3 r4 f0 f1 f2 f3 f4
      refine HCX.out.mono ?_
      rintro e w4 ⟨⟨cb, F, rfl, hcb, -, hF⟩, hb4⟩
      have hcb := RdF.toA (lo := W3.heap.size) (hi := w4.heap.size) x cb F hF hcb
      have HCB := Lib.hid hcb
      have HB4 := Lib.hid (HB3.out.trans (hb4.mono HB3.out.size))
      have hr4 := (hb4.block (w.heap.size + 1) (by have := HS2.out; have := HS3.out; omega)).trans HR3.out
      have HR4 := Lib.hid hr4
      have HS4 := Lib.hid (show w.heap.size + 2 ≤ W3.heap.size by have := HS2.out; have := HS3.out; omega)
      obtain ⟨zA, zc, zB, zd, rfl, -⟩ := hcb.cells
      obtain ⟨⟨r0, r1, r2, r3, r4⟩, ⟨f0, f1, f2, f3, f4⟩⟩ := row5 hr4
      clear hcb hb4 hr4 hF
      generalize x.k = zk at *
      generalize x.n = zn at *
      generalize strOf x.s = zs at *
      generalize x.l.length = zl at *
      generalize x.ms.length = zm at *
      go_wp2
      refine bodyPost_ret (res5b rfl rfl rfl (st5_row HR4.out (.int .i64 zk) (.int .i64 zn) (.string zs) (.slice zA zl zc) (.slice zB zm zd))) rfl ?_
      rw [HEQ.out]
      refine ⟨⟨[.int .i64 zk, .int .i64 zn, .string zs, .slice zA zl zc, .slice zB zm zd], rfl, ?_⟩, st5_below HB4.out (by omega) _ _ _ _ _⟩
      exact RdA.keep (fun q hq _ => cell_of_blk (st5_other (by have := HS4.out; omega) _ _ _ _ _)) (by have := HS4.out; omega) (Nat.le_of_eq (st5_size (w := w4) (b := w.heap.size + 1) _ _ _ _ _).symm) _ _ HCB.out
  · have HEQ := Lib.hid (show leadsV leadV p v = (V0, 80) by unfold leadsV; rw [hps])
    obtain ⟨⟨r0, r1, r2, r3, r4⟩, ⟨f0, f1, f2, f3, f4⟩⟩ := row5 hr1
    clear hb1 hv1 hr1 hps
    go_wp2
    refine bodyPost_ret (res5b rfl rfl rfl (st5_row HR1.out (.int .i64 0) (.int .i64 0) (.string ⟨#[]⟩) (.slice none 0 0) (.slice none 0 0))) rfl ?_
    rw [HEQ.out]
    exact ⟨⟨[.int .i64 0, .int .i64 0, .string ⟨#[]⟩, .slice none 0 0, .slice none 0 0], rfl, rd_zero _ _ _⟩, st5_below HB1.out (by omega) _ _ _ _ _⟩
set_option maxRecDepth 100000 in
set_option maxHeartbeats 1000000 in
theorem answer_each (v : V) (cs : List Value) (p : List UInt8) (w : World) (hv : RdA w 0 w.heap.size v cs) (hz : szA 140737488355328 v) (hp : p.length ≤ 4398046511104) (hc : cnt v ≤ 1000000000000) :
    Calls Tryz.prog 17 #[.agg cs.toArray, .string (strOf p), .func (.func 21) #[] #[]] w (GivesVE (leadsV eachV p v) w) := by
  have hnm := nm_of v cs hv
  have HPA := Lib.hid (fun (W : World) => Parts_any (strOf p) (by rw [strOf_size]; exact hp) W)
  have HLE := Lib.hid (fun (W : World) (hW : Below w.heap.size w W) (pv : Value) (ps : List (List UInt8)) (hps : prts p = some ps) (hr : RdS W W.heap.size pv ps) => each_any ps v cs pv W (hv.below hW (Nat.le_refl _) hW.size) (Em.szA_more (by decide) _ hz) hr (fun q hq => Nat.le_trans (prts_each hps q hq) (Nat.le_trans hp (by decide))) hc)
  have HSZ := Lib.hid (fun (ps : List (List UInt8)) (y : V) (hy : eachV ps v = some y) => sz_each' 140737488355328 ps v y hnm hz (by omega) hy)
  obtain ⟨A0, c0, A20, c20, rfl, -, -, -⟩ := hv.cells
  clear hv hz hp hnm
  generalize v.k = k at *
  generalize v.n = n at *
  generalize strOf v.s = S at *
  generalize v.l.length = l at *
  generalize v.ms.length = m at *
  obtain ⟨X, hX⟩ : ∃ X, strOf p = X := ⟨_, rfl⟩
  rw [hX] at HPA ⊢
  have hXd : X.data.toList = p := by rw [← hX, strOf_data]
  rw [hXd] at HPA
  clear hX hXd
  obtain ⟨W0, hW0⟩ : ∃ W0, W0 = ((w.alloc (.cells #[.int .i64 k, .int .i64 n, .string S, .slice A0 l c0, .slice A20 m c20] 25)).alloc (.cells #[.int .i64 0, .int .i64 0, .string ⟨#[]⟩, .slice none 0 0, .slice none 0 0] 25)) := ⟨_, rfl⟩
  have HB0 := Lib.hid (show Below w.heap.size w W0 by rw [hW0]; exact ((Below.refl _ _).alloc (Nat.le_refl _) _).alloc (by simp) _)
  have HS0 := Lib.hid (show W0.heap.size = w.heap.size + 2 by rw [hW0, szAl, szAl])
  have hv0 : W0.heap[w.heap.size]? = some (.cells #[.int .i64 k, .int .i64 n, .string S, .slice A0 l c0, .slice A20 m c20] 25 (0, 0)) := by rw [hW0]; exact heapOld (heapNew _ _) _
  have hr0 : W0.heap[w.heap.size + 1]? = some (.cells #[.int .i64 0, .int .i64 0, .string ⟨#[]⟩, .slice none 0 0, .slice none 0 0] 25 (0, 0)) := by
    rw [hW0, show w.heap.size + 1 = (w.alloc (.cells #[.int .i64 k, .int .i64 n, .string S, .slice A0 l c0, .slice A20 m c20] 25)).heap.size by simp]; exact heapNew _ _
  have HR0 := Lib.hid hr0
  have HV0 := Lib.hid hv0
  have HW0 := Lib.hid hW0
  clear hW0 hv0 hr0
  go_enter Tryz.func17, Tryz.ntmps17
  go_wp2_with fail
  rw [← HW0.out]
  refine (HPA.out _).mono ?_
  rintro e w1 ⟨hres, hb1⟩
  have HB1 := Lib.hid (HB0.out.trans (hb1.mono HB0.out.size))
  have hv1 := (hb1.block w.heap.size (by rw [HS0.out]; omega)).trans HV0.out
  have hr1 := (hb1.block (w.heap.size + 1) (by rw [HS0.out]; omega)).trans HR0.out
  have HS1 := Lib.hid (show w.heap.size + 2 ≤ w1.heap.size by have := hb1.size; rw [HS0.out] at this; exact this)
  have HV1 := Lib.hid hv1
  have HR1 := Lib.hid hr1
  rcases hres with ⟨ps, pv, hps, rfl, hown⟩ | ⟨hps, rfl⟩
  · have HRS := Lib.hid (RdS.of_own hown)
    have HPS := Lib.hid hps
    obtain ⟨⟨p0, p1, p2, p3, p4⟩, -⟩ := row5 hv1
    clear hb1 hv1 hr1 hps hown
    go_wp2_with fail
    refine (HLE.out _ HB1.out pv ps HPS.out HRS.out).mono ?_
    rintro e w2 ⟨⟨ca, rfl, hca⟩, hb2⟩
    have HB2 := Lib.hid (HB1.out.trans (hb2.mono HB1.out.size))
    have hr2 := (hb2.block (w.heap.size + 1) (by have := HS1.out; omega)).trans HR1.out
    have HR2 := Lib.hid hr2
    have HS2 := Lib.hid (show w.heap.size + 2 ≤ w2.heap.size from Nat.le_trans HS1.out hb2.size)
    obtain ⟨y, hy⟩ : ∃ y, (eachV ps v).getD V0 = y := ⟨_, rfl⟩
    rw [hy] at hca
    have HCA := Lib.hid hca
    have HY := Lib.hid hy
    obtain ⟨yA, yc, yB, yd, rfl, -⟩ := hca.cells
    clear hca hb2 p0 p1 p2 p3 p4 hy
    generalize y.k = yk at *
    generalize y.n = yn at *
    generalize strOf y.s = ys at *
    generalize y.l.length = yl at *
    generalize y.ms.length = ym at *
    obtain ⟨W3, hW3⟩ : ∃ W3, W3 = w2.alloc (.cells #[.int .i64 yk, .int .i64 yn, .string ys, .slice yA yl yc, .slice yB ym yd] 25) := ⟨_, rfl⟩
    have HB3 := Lib.hid (show Below w.heap.size w W3 by rw [hW3]; exact HB2.out.alloc HB2.out.size _)
    have hr3 : W3.heap[w.heap.size + 1]? = some (.cells #[.int .i64 0, .int .i64 0, .string ⟨#[]⟩, .slice none 0 0, .slice none 0 0] 25 (0, 0)) := by rw [hW3]; exact heapOld hr2 _
    have HR3 := Lib.hid hr3
    have HW3 := Lib.hid hW3
    have HB23 := Lib.hid (show Below w2.heap.size w2 W3 by rw [hW3]; exact (Below.refl _ _).alloc (Nat.le_refl _) _)
    have HS3 := Lib.hid (show w2.heap.size ≤ W3.heap.size from HB23.out.size)
    rw [hW3] at hr3
    obtain ⟨⟨z0, z1, z2, z3, z4⟩, ⟨y0, y1, y2, y3, y4⟩⟩ := row5 (heapNew w2 (.cells #[.int .i64 0, .int .i64 0, .string ⟨#[]⟩, .slice none 0 0, .slice none 0 0] 25))
    obtain ⟨⟨q0, q1, q2, q3, q4⟩, -⟩ := row5 (heapNew w2 (.cells #[.int .i64 yk, .int .i64 yn, .string ys, .slice yA yl yc, .slice yB ym yd] 25))
    obtain ⟨⟨r0, r1, r2, r3, r4⟩, ⟨f0, f1, f2, f3, f4⟩⟩ := row5 hr3
    clear hr2 hr3 hW3
    rcases hl : eachV ps v with _ | x
    · have HEQ := Lib.hid (show leadsV eachV p v = (V0, 81) by unfold leadsV; rw [HPS.out]; simp only [hl])
      clear hl
      go_wp2
      rw [← HW3.out]
      refine bodyPost_ret (res5b rfl rfl rfl (st5_row HR3.out (.int .i64 0) (.int .i64 0) (.string ⟨#[]⟩) (.slice none 0 0) (.slice none 0 0))) rfl ?_
      rw [HEQ.out]
      exact ⟨⟨[.int .i64 0, .int .i64 0, .string ⟨#[]⟩, .slice none 0 0, .slice none 0 0], rfl, rd_zero _ _ _⟩, st5_below HB3.out (by omega) _ _ _ _ _⟩
    · have HEQ := Lib.hid (show leadsV eachV p v = (x, 0) by unfold leadsV; rw [HPS.out]; simp only [hl])
      have hyx : y = x := by rw [← HY.out, hl]; rfl
      have hzx := HSZ.out ps x hl
      have hcx := HCA.out
      rw [hyx] at hcx
      have HCX := Lib.hid (Copy_any (ht x) x (Nat.le_refl _) hzx _ W3 (hcx.below HB23.out (Nat.le_refl _) HS3.out))
      clear hl hyx hzx hcx
      go_wp2_with fail
      rw [← HW3.out]
      clear z0 z1 z2 z3 z4 y0 y1 y2 y3 y4 q0 q1 q2 q3 q4 r0 r1 r2 r3 r4 f0 f1 f2 f3 f4
      refine HCX.out.mono ?_
      rintro e w4 ⟨⟨cb, F, rfl, hcb, -, hF⟩, hb4⟩
      have hcb := RdF.toA (lo := W3.heap.size) (hi := w4.heap.size) x cb F hF hcb
      have HCB := Lib.hid hcb
      have HB4 := Lib.hid (HB3.out.trans (hb4.mono HB3.out.size))
      have hr4 := (hb4.block (w.heap.size + 1) (by have := HS2.out; have := HS3.out; omega)).trans HR3.out
      have HR4 := Lib.hid hr4
      have HS4 := Lib.hid (show w.heap.size + 2 ≤ W3.heap.size by have := HS2.out; have := HS3.out; omega)
      obtain ⟨zA, zc, zB, zd, rfl, -⟩ := hcb.cells
      obtain ⟨⟨r0, r1, r2, r3, r4⟩, ⟨f0, f1, f2, f3, f4⟩⟩ := row5 hr4
      clear hcb hb4 hr4 hF
      generalize x.k = zk at *
      generalize x.n = zn at *
      generalize strOf x.s = zs at *
      generalize x.l.length = zl at *
      generalize x.ms.length = zm at *
      go_wp2
      refine bodyPost_ret (res5b rfl rfl rfl (st5_row HR4.out (.int .i64 zk) (.int .i64 zn) (.string zs) (.slice zA zl zc) (.slice zB zm zd))) rfl ?_
      rw [HEQ.out]
      refine ⟨⟨[.int .i64 zk, .int .i64 zn, .string zs, .slice zA zl zc, .slice zB zm zd], rfl, ?_⟩, st5_below HB4.out (by omega) _ _ _ _ _⟩
      exact RdA.keep (fun q hq _ => cell_of_blk (st5_other (by have := HS4.out; omega) _ _ _ _ _)) (by have := HS4.out; omega) (Nat.le_of_eq (st5_size (w := w4) (b := w.heap.size + 1) _ _ _ _ _).symm) _ _ HCB.out
  · have HEQ := Lib.hid (show leadsV eachV p v = (V0, 80) by unfold leadsV; rw [hps])
    obtain ⟨⟨r0, r1, r2, r3, r4⟩, ⟨f0, f1, f2, f3, f4⟩⟩ := row5 hr1
    clear hb1 hv1 hr1 hps
    go_wp2
    refine bodyPost_ret (res5b rfl rfl rfl (st5_row HR1.out (.int .i64 0) (.int .i64 0) (.string ⟨#[]⟩) (.slice none 0 0) (.slice none 0 0))) rfl ?_
    rw [HEQ.out]
    exact ⟨⟨[.int .i64 0, .int .i64 0, .string ⟨#[]⟩, .slice none 0 0, .slice none 0 0], rfl, rd_zero _ _ _⟩, st5_below HB1.out (by omega) _ _ _ _ _⟩
set_option maxRecDepth 100000 in
set_option maxHeartbeats 1000000 in
theorem Find_any (v : V) (cs : List Value) (p : List UInt8) (w : World) (hv : RdA w 0 w.heap.size v cs) (hz : szA 140737488355328 v) (hp : p.length ≤ 4398046511104) :
    Calls Tryz.prog 6 #[.agg cs.toArray, .string (strOf p)] w (GivesVE (leadsV leadV p v) w) := by
  have HAN := Lib.hid (fun (W : World) (hW : Below w.heap.size w W) => answer_find v cs p W (hv.below hW (Nat.le_refl _) hW.size) hz hp)
  obtain ⟨A0, c0, A20, c20, rfl, -, -, -⟩ := hv.cells
  clear hv hz hp
  generalize v.k = k at *
  generalize v.n = n at *
  generalize strOf v.s = S at *
  generalize v.l.length = l at *
  generalize v.ms.length = m at *
  generalize strOf p = X at *
  obtain ⟨W0, hW0⟩ : ∃ W0, W0 = ((w.alloc (.cells #[.int .i64 k, .int .i64 n, .string S, .slice A0 l c0, .slice A20 m c20] 25)).alloc (.cells #[.int .i64 0, .int .i64 0, .string ⟨#[]⟩, .slice none 0 0, .slice none 0 0] 25)) := ⟨_, rfl⟩
  have HB0 := Lib.hid (show Below w.heap.size w W0 by rw [hW0]; exact ((Below.refl _ _).alloc (Nat.le_refl _) _).alloc (by simp) _)
  have HS0 := Lib.hid (show W0.heap.size = w.heap.size + 2 by rw [hW0, szAl, szAl])
  have hv0 : W0.heap[w.heap.size]? = some (.cells #[.int .i64 k, .int .i64 n, .string S, .slice A0 l c0, .slice A20 m c20] 25 (0, 0)) := by rw [hW0]; exact heapOld (heapNew _ _) _
  have hr0 : W0.heap[w.heap.size + 1]? = some (.cells #[.int .i64 0, .int .i64 0, .string ⟨#[]⟩, .slice none 0 0, .slice none 0 0] 25 (0, 0)) := by
    rw [hW0, show w.heap.size + 1 = (w.alloc (.cells #[.int .i64 k, .int .i64 n, .string S, .slice A0 l c0, .slice A20 m c20] 25)).heap.size by simp]; exact heapNew _ _
  have HR0 := Lib.hid hr0
  have HV0 := Lib.hid hv0
  have HW0 := Lib.hid hW0
  rw [hW0] at hv0
  obtain ⟨⟨p0, p1, p2, p3, p4⟩, -⟩ := row5 hv0
  clear hW0 hv0 hr0
  go_enter Tryz.func6, Tryz.ntmps6
  go_wp2_with fail
  rw [← HW0.out]
  clear p0 p1 p2 p3 p4
  refine (HAN.out _ HB0.out).mono ?_
  rintro e w1 ⟨⟨ca, rfl, hca⟩, hb1⟩
  have HB1 := Lib.hid (HB0.out.trans (hb1.mono HB0.out.size))
  have hr1 := (hb1.block (w.heap.size + 1) (by rw [HS0.out]; omega)).trans HR0.out
  have HR1 := Lib.hid hr1
  obtain ⟨r, hr⟩ : ∃ r, leadsV leadV p v = r := ⟨_, rfl⟩
  rw [hr] at hca ⊢
  obtain ⟨y, why⟩ := r
  simp only at hca ⊢
  have HCA := Lib.hid hca
  have HRR := Lib.hid hr
  obtain ⟨yA, yc, yB, yd, rfl, -⟩ := hca.cells
  obtain ⟨⟨r0, r1, r2, r3, r4⟩, ⟨f0, f1, f2, f3, f4⟩⟩ := row5 hr1
  clear hca hb1 hr1 hr
  generalize y.k = yk at *
  generalize y.n = yn at *
  generalize strOf y.s = ys at *
  generalize y.l.length = yl at *
  generalize y.ms.length = ym at *
  go_wp2
  refine bodyPost_ret (res5b rfl rfl rfl (st5_row HR1.out (.int .i64 yk) (.int .i64 yn) (.string ys) (.slice yA yl yc) (.slice yB ym yd))) rfl ?_
  rw [HRR.out]
  refine ⟨⟨[.int .i64 yk, .int .i64 yn, .string ys, .slice yA yl yc, .slice yB ym yd], rfl, ?_⟩, st5_below HB1.out (by omega) _ _ _ _ _⟩
  exact RdA.keep (fun q hq _ => cell_of_blk (st5_other (by rw [HS0.out] at hq; omega) _ _ _ _ _)) (by rw [HS0.out]; omega) (Nat.le_of_eq (st5_size (w := w1) (b := w.heap.size + 1) _ _ _ _ _).symm) _ _ HCA.out
set_option maxRecDepth 100000 in
set_option maxHeartbeats 1000000 in
theorem Each_any (v : V) (cs : List Value) (p : List UInt8) (w : World) (hv : RdA w 0 w.heap.size v cs) (hz : szA 140737488355328 v) (hp : p.length ≤ 4398046511104) (hc : cnt v ≤ 1000000000000) :
    Calls Tryz.prog 8 #[.agg cs.toArray, .string (strOf p)] w (GivesVE (leadsV eachV p v) w) := by
  have HAN := Lib.hid (fun (W : World) (hW : Below w.heap.size w W) => answer_each v cs p W (hv.below hW (Nat.le_refl _) hW.size) hz hp hc)
  obtain ⟨A0, c0, A20, c20, rfl, -, -, -⟩ := hv.cells
  clear hv hz hp
  generalize v.k = k at *
  generalize v.n = n at *
  generalize strOf v.s = S at *
  generalize v.l.length = l at *
  generalize v.ms.length = m at *
  generalize strOf p = X at *
  obtain ⟨W0, hW0⟩ : ∃ W0, W0 = ((w.alloc (.cells #[.int .i64 k, .int .i64 n, .string S, .slice A0 l c0, .slice A20 m c20] 25)).alloc (.cells #[.int .i64 0, .int .i64 0, .string ⟨#[]⟩, .slice none 0 0, .slice none 0 0] 25)) := ⟨_, rfl⟩
  have HB0 := Lib.hid (show Below w.heap.size w W0 by rw [hW0]; exact ((Below.refl _ _).alloc (Nat.le_refl _) _).alloc (by simp) _)
  have HS0 := Lib.hid (show W0.heap.size = w.heap.size + 2 by rw [hW0, szAl, szAl])
  have hv0 : W0.heap[w.heap.size]? = some (.cells #[.int .i64 k, .int .i64 n, .string S, .slice A0 l c0, .slice A20 m c20] 25 (0, 0)) := by rw [hW0]; exact heapOld (heapNew _ _) _
  have hr0 : W0.heap[w.heap.size + 1]? = some (.cells #[.int .i64 0, .int .i64 0, .string ⟨#[]⟩, .slice none 0 0, .slice none 0 0] 25 (0, 0)) := by
    rw [hW0, show w.heap.size + 1 = (w.alloc (.cells #[.int .i64 k, .int .i64 n, .string S, .slice A0 l c0, .slice A20 m c20] 25)).heap.size by simp]; exact heapNew _ _
  have HR0 := Lib.hid hr0
  have HV0 := Lib.hid hv0
  have HW0 := Lib.hid hW0
  rw [hW0] at hv0
  obtain ⟨⟨p0, p1, p2, p3, p4⟩, -⟩ := row5 hv0
  clear hW0 hv0 hr0
  go_enter Tryz.func8, Tryz.ntmps8
  go_wp2_with fail
  rw [← HW0.out]
  clear p0 p1 p2 p3 p4
  refine (HAN.out _ HB0.out).mono ?_
  rintro e w1 ⟨⟨ca, rfl, hca⟩, hb1⟩
  have HB1 := Lib.hid (HB0.out.trans (hb1.mono HB0.out.size))
  have hr1 := (hb1.block (w.heap.size + 1) (by rw [HS0.out]; omega)).trans HR0.out
  have HR1 := Lib.hid hr1
  obtain ⟨r, hr⟩ : ∃ r, leadsV eachV p v = r := ⟨_, rfl⟩
  rw [hr] at hca ⊢
  obtain ⟨y, why⟩ := r
  simp only at hca ⊢
  have HCA := Lib.hid hca
  have HRR := Lib.hid hr
  obtain ⟨yA, yc, yB, yd, rfl, -⟩ := hca.cells
  obtain ⟨⟨r0, r1, r2, r3, r4⟩, ⟨f0, f1, f2, f3, f4⟩⟩ := row5 hr1
  clear hca hb1 hr1 hr
  generalize y.k = yk at *
  generalize y.n = yn at *
  generalize strOf y.s = ys at *
  generalize y.l.length = yl at *
  generalize y.ms.length = ym at *
  go_wp2
  refine bodyPost_ret (res5b rfl rfl rfl (st5_row HR1.out (.int .i64 yk) (.int .i64 yn) (.string ys) (.slice yA yl yc) (.slice yB ym yd))) rfl ?_
  rw [HRR.out]
  refine ⟨⟨[.int .i64 yk, .int .i64 yn, .string ys, .slice yA yl yc, .slice yB ym yd], rfl, ?_⟩, st5_below HB1.out (by omega) _ _ _ _ _⟩
  exact RdA.keep (fun q hq _ => cell_of_blk (st5_other (by rw [HS0.out] at hq; omega) _ _ _ _ _)) (by rw [HS0.out]; omega) (Nat.le_of_eq (st5_size (w := w1) (b := w.heap.size + 1) _ _ _ _ _).symm) _ _ HCA.out
end Go.Proofs.YtmfpaoincgfjmaaGreat.Po
namespace Go.Proofs.YtmfpaoincgfjmaaGreat.Po
open Go.Proofs.YtmfpaoincgfjmaaGreat.Utf
open Go.Proofs.YtmfpaoincgfjmaaGreat.Sc
open Go.Proofs.YtmfpaoincgfjmaaGreat.Re
open Go.Proofs.YtmfpaoincgfjmaaGreat.Tr
open Go.Proofs.YtmfpaoincgfjmaaGreat.Nu
open Go.Proofs.YtmfpaoincgfjmaaGreat.Em
set_option linter.unusedSimpArgs false
def docV : V := mpV ([[97]], [lsV [mpV ([[98]], [nmV 1]), mpV ([[98]], [lsV [nmV 2, nmV 3]])]])
def numsV : V := lsV [nmV 1, nmV 2, nmV 3]
theorem aw8_s : scnS [123, 34, 97, 34, 58, 91, 123, 34, 98, 34, 58, 49, 125, 44, 123, 34, 98, 34, 58, 91, 50, 44, 51, 93, 125, 93, 125] =
  ([(1, 0, [123], 0), (4, 0, [97], 1), (1, 0, [58], 4), (1, 0, [91], 5), (1, 0, [123], 6), (4, 0, [98], 7), (1, 0, [58], 10), (3, 1, [], 11), (1, 0, [125], 12), (1, 0, [44], 13), (1, 0, [123], 14), (4, 0, [98], 15), (1, 0, [58], 18), (1, 0, [91], 19), (3, 2, [], 20), (1, 0, [44], 21), (3, 3, [], 22), (1, 0, [93], 23), (1, 0, [125], 24), (1, 0, [93], 25), (1, 0, [125], 26)], 0, 0) := by decide +kernel
theorem aw8_1 : rdV [123, 34, 97, 34, 58, 91, 123, 34, 98, 34, 58, 49, 125, 44, 123, 34, 98, 34, 58, 91, 50, 44, 51, 93, 125, 93, 125] = (docV, 0, 0) :=
  rdV_of aw8_s (by simp [rdT, fuelOf, pV, pL, pM, tk, isM, badV, Rs.map, txV, nmV, wdV, lsV, mpV, wNull, wTrue, V0, docV])
theorem aw8_2 : leadsV leadV [47, 97, 47, 48, 47, 98] docV = (nmV 1, 0) := by kernel_rfl
theorem aw8_3 : leadsV eachV [47, 97, 47, 42, 47, 98] docV = (numsV, 0) := by kernel_rfl
theorem aw8_4 : leadsV leadV [47, 97, 47, 50] docV = (V0, 81) := by kernel_rfl
theorem aw8_5 : leadsV leadV [97] docV = (V0, 80) := by kernel_rfl
theorem aw8_6 : chk numsV = 0 := by decide +kernel
theorem aw8_7 : txtR numsV = [91, 49, 44, 50, 44, 51, 93] := by
  unfold txtR
  rw [if_pos aw8_6]
  decide +kernel
theorem aw8_8 : ptxt [[120, 47, 121]] = [47, 120, 126, 49, 121] := by decide +kernel
theorem aw8_sz : szA 140737488355328 docV := by
  simp [docV, mpV, lsV, nmV, szA, szAL]
  decide
theorem aw8_szn : szA 4611686018427387904 numsV := by
  simp [numsV, lsV, nmV, szA, szAL]
  decide
theorem aw8_cnt : cnt docV ≤ 1000000000000 := by
  simp [docV, mpV, lsV, nmV, cnt, cntL]
theorem aw8_len : lenV numsV := by
  simp [numsV, lsV, nmV, lenV, lenL]
theorem aw8_su : szU numsV ≤ 1099511627776 := by
  simp [numsV, lsV, nmV, szU, szUL]
end Go.Proofs.YtmfpaoincgfjmaaGreat.Po
namespace Go.Proofs.YtmfpaoincgfjmaaGreat.Po
open Go.Proofs.YtmfpaoincgfjmaaGreat.Utf
open Go.Proofs.YtmfpaoincgfjmaaGreat.Sc
open Go.Proofs.YtmfpaoincgfjmaaGreat.Re
open Go.Proofs.YtmfpaoincgfjmaaGreat.Tr
open Go.Proofs.YtmfpaoincgfjmaaGreat.Nu

theorem leads_sz {B : Nat} {p : List UInt8} {v : V} (hn : nmV' v) (hz : szA B v) (hc : cnt v * 80 ≤ B) : szA B (leadsV eachV p v).1 := by
  unfold leadsV
  cases hp : prts p with
  | none => unfold V0; simp [szA, szAL]; decide
  | some ps =>
    simp only
    cases hl : eachV ps v with
    | none => unfold V0; simp [szA, szAL]; decide
    | some x => exact sz_each' B ps v x hn hz hc hl
end Go.Proofs.YtmfpaoincgfjmaaGreat.Po
