import Derived.Test.YtbepnjgbkfidiaaTtTsN
import Derived.Deep.MidRow
/- With of the document's answer. Written by tools/genTsO.py. -/
namespace Go.Proofs.Ytbepnjgbkfidiaa.Tr
open Go.Proofs Go.RowKit Go.Lib
open Go.Proofs.Ytbepnjgbkfidiaa.Utf
open Go.Proofs.Ytbepnjgbkfidiaa.Sc
open Go.Proofs.Ytbepnjgbkfidiaa.Re

theorem out_step {Wb wp w1 : World} {b N g cap c : Nat} {A : Option Addr} {rows : List (List Value)} {row : List Value} (hN : rows.length = N) (hrow : wp.heap[b]? = some (.cells #[.int .i64 6, .int .i64 0, .string ⟨#[]⟩, .slice none 0 0, .slice A N c] 25 (0, 0)))
    (ho : wp.ownsRow (b + 1) 50 6 (.slice A N c) N rows.flatten) (hb : Below b Wb wp) (hg : wp.grownBy w1 (Value.slice A N c).ownBlock) (how : w1.ownsRow (b + 1) 50 6 (.slice (some ⟨g, 0, none⟩) (N + 1) cap) (N + 1) (rows.flatten ++ row)) :
    w1.heap[b]? = some (.cells #[.int .i64 6, .int .i64 0, .string ⟨#[]⟩, .slice none 0 0, .slice A N c] 25 (0, 0)) ∧ OutAt (w1.setCell ⟨b, 4, none⟩ (.slice (some ⟨g, 0, none⟩) (N + 1) cap)) b (rows ++ [row]) ∧ Below b Wb (w1.setCell ⟨b, 4, none⟩ (.slice (some ⟨g, 0, none⟩) (N + 1) cap)) := by
  subst hN
  have hlt := (Array.getElem?_eq_some_iff.1 hrow).1
  have hne := OutAt.far hrow ho
  have h1 := (hg.block b hlt (fun e => hne e.symm)).trans hrow
  exact ⟨h1, OutAt.push h1 how, (hb.grown hg (by omega) (fun q hq => by have := (ho.lt q hq).1; omega)).setCell (p := ⟨b, 4, none⟩) (Nat.le_refl _) _⟩
theorem idx_hit {nm : List UInt8} : ∀ {ns : List (List UInt8)} {kk : Nat} (h : kk < ns.length), ns[kk] = nm → ns.idxOf nm ≤ kk
  | [], _, h, _ => by simp at h
  | a :: r, 0, _, e => by
    rw [List.idxOf_cons, show (a == nm) = true by simpa using e]
    exact Nat.le_refl _
  | a :: r, kk + 1, h, e => by
    rw [List.idxOf_cons]
    by_cases q : (a == nm) = true
    · rw [q]; exact Nat.zero_le _
    · rw [show (a == nm) = false by simpa using q, cond_false]
      have := idx_hit (ns := r) (kk := kk) (by simpa using h) (by simpa using e)
      omega
theorem idx_not {ns : List (List UInt8)} {nm : List UInt8} {kk : Nat} (h : kk < ns.length) (e : ns[kk] ≠ nm) : ns.idxOf nm ≠ kk := fun q => by
  subst q
  exact e (List.getElem_idxOf h)
/-- the members' rows, that of the name with another value -/
def rowsX (d : List M6) (nm : List UInt8) (cx : List Value) : List (List Value) := (d.map encM).set ((d.map M6.nm).idxOf nm) (.string (strOf nm) :: cx)
theorem rowsX_len (d : List M6) (nm : List UInt8) (cx : List Value) : (rowsX d nm cx).length = d.length := by simp [rowsX]
theorem rowsX_take {d : List M6} {nm : List UInt8} {cx : List Value} {kk : Nat} (h : kk < d.length) : (rowsX d nm cx).take (kk + 1) = (rowsX d nm cx).take kk ++ [if (d.map M6.nm).idxOf nm = kk then .string (strOf nm) :: cx else encM d[kk]] := by
  have hl : kk < (rowsX d nm cx).length := by rw [rowsX_len]; exact h
  rw [List.take_succ_eq_append_getElem hl]
  congr 2
  simp only [rowsX, List.getElem_set, List.getElem_map]
theorem rowsX_tlen {d : List M6} {nm : List UInt8} {cx : List Value} {kk : Nat} (h : kk ≤ d.length) : ((rowsX d nm cx).take kk).length = kk := by rw [List.length_take, rowsX_len]; omega
theorem rowsX_six {d : List M6} {nm : List UInt8} {cx : List Value} (hx : cx.length = 5) : ∀ r ∈ rowsX d nm cx, r.length = 6 := fun r hr => by
  rcases List.mem_or_eq_of_mem_set hr with h | rfl
  · obtain ⟨p, _, rfl⟩ := List.mem_map.1 h
    rfl
  · simp [hx]
theorem rowsX_set {w1 : World} {n0 : Nat} {d : List M6} {nm : List UInt8} {ns : List (List UInt8)} {ms : List V} {x : V} {cx : List Value} (hn : d.map M6.nm = ns) (hm : d.length = ms.length) (hr : ∀ i (h1 : i < d.length) (h2 : i < ms.length), RdA w1 0 n0 ms[i] (m6tail d[i])) (hx : RdA w1 0 n0 x cx) (hin : nm ∈ ns) :
    ∀ k (h1 : k < (ms.set (ns.idxOf nm) x).length) (h2 : k < (rowsX d nm cx).length) (h3 : k < ns.length), ∃ cs, (rowsX d nm cx)[k] = .string (strOf ns[k]) :: cs ∧ RdA w1 0 n0 (ms.set (ns.idxOf nm) x)[k] cs := fun k h1 h2 h3 => by
  subst hn
  have hd : k < d.length := by rw [rowsX_len] at h2; exact h2
  by_cases e : (d.map M6.nm).idxOf nm = k
  · refine ⟨cx, ?_, ?_⟩
    · simp only [rowsX, List.getElem_set, if_pos e]
      subst e
      rw [List.getElem_idxOf]
    · simp only [List.getElem_set, if_pos e]
      exact hx
  · refine ⟨m6tail d[k], ?_, ?_⟩
    · simp only [rowsX, List.getElem_set, if_neg e, List.getElem_map]
      rfl
    · simp only [List.getElem_set, if_neg e]
      exact hr k hd (by rw [← hm]; exact hd)
theorem rowsX_app {w1 : World} {n0 : Nat} {d : List M6} {nm : List UInt8} {ns : List (List UInt8)} {ms : List V} {x : V} {cx : List Value} (hn : d.map M6.nm = ns) (hm : d.length = ms.length) (hr : ∀ i (h1 : i < d.length) (h2 : i < ms.length), RdA w1 0 n0 ms[i] (m6tail d[i])) (hx : RdA w1 0 n0 x cx) (hin : nm ∉ ns) :
    ∀ k (h1 : k < (ms ++ [x]).length) (h2 : k < (rowsX d nm cx ++ [.string (strOf nm) :: cx]).length) (h3 : k < (ns ++ [nm]).length), ∃ cs, (rowsX d nm cx ++ [.string (strOf nm) :: cx])[k] = .string (strOf (ns ++ [nm])[k]) :: cs ∧ RdA w1 0 n0 (ms ++ [x])[k] cs := fun k h1 h2 h3 => by
  have e0 : rowsX d nm cx = d.map encM := by
    unfold rowsX
    rw [hn, List.idxOf_eq_length hin, ← hn]
    exact List.set_eq_of_length_le (by simp)
  subst hn
  by_cases hk : k < d.length
  · refine ⟨m6tail d[k], ?_, ?_⟩
    · simp only [e0]
      rw [List.getElem_append_left (by simpa using hk), List.getElem_append_left (by simpa using hk), List.getElem_map, List.getElem_map]
      rfl
    · rw [List.getElem_append_left (by omega)]
      exact hr k hk (by rw [← hm]; exact hk)
  · have hk2 : k = d.length := by simp at h1; omega
    subst hk2
    refine ⟨cx, ?_, ?_⟩
    · rw [List.getElem_append_right (by rw [rowsX_len]; exact Nat.le_refl _), List.getElem_append_right (by simp)]
      simp [rowsX_len]
    · rw [List.getElem_append_right (by omega)]
      simp only [hm, Nat.sub_self, List.getElem_cons_zero]
      exact hx
theorem gives_at {w1 w : World} {ns : List (List UInt8)} {ms : List V} {b n c : Nat} {A : Option Addr} {rows : List (List Value)} (hl : ms.length = n) (hr0 : rows.length = n) (hn : ns.length = ms.length) (hb : Below w.heap.size w w1) (ho : w1.ownsRow (b + 1) 50 6 (.slice A n c) n rows.flatten) (h6 : ∀ r ∈ rows, r.length = 6)
    (hr : ∀ k (h1 : k < ms.length) (h2 : k < rows.length) (h3 : k < ns.length), ∃ cs, rows[k] = .string (strOf ns[k]) :: cs ∧ RdA w1 0 w.heap.size ms[k] cs) : ∀ r, w.heap.size ≤ r → r ≤ b → ∀ t u0 u1 u2 u3 u4, w1.heap[r]? = some (.cells #[u0, u1, u2, u3, u4] t (0, 0)) →
      GivesM ns ms w (.returned (.agg #[.int .i64 6, .int .i64 0, .string ⟨#[]⟩, .slice none 0 0, .slice A n c])) (st5 w1 r (.int .i64 6) (.int .i64 0) (.string ⟨#[]⟩) (.slice none 0 0) (.slice A n c)) := by
  have hgm := gm_of_own (w := w) (w' := w1) (ns := ns) (ms := ms) hl hr0 h6 hr ho
  refine fun r r1 r2 t u0 u1 u2 u3 u4 hrow => ⟨⟨A, c, by rw [hl], hn, fun h0 => ?_⟩, st5_below hb r1 _ _ _ _ _⟩
  obtain ⟨g, e, g1, g2, hk⟩ := hgm h0
  refine ⟨g, e, by omega, Nat.lt_of_lt_of_eq g2 (st5_size (w := w1) (b := r) _ _ _ _ _).symm, fun k k1 k2 => ?_⟩
  obtain ⟨cs, q1, q2⟩ := hk k k1 k2
  exact ⟨cs, q1.keep (st5_other (by omega) _ _ _ _ _), RdA.keep (fun p _ hp => cell_of_blk (st5_other (by omega) _ _ _ _ _)) (Nat.le_refl _) (Nat.le_refl _) _ _ q2⟩

set_option maxRecDepth 100000 in
set_option maxHeartbeats 1000000 in
theorem rWith_any (v x : V) (cs cx : List Value) (nm : List UInt8) (w : World) (hv : RdA w 0 w.heap.size v cs) (hx : RdA w 0 w.heap.size x cx) (hz : (inM v).length < 1466015503701) :
    Calls Try.prog 14 #[.agg cs.toArray, .string (strOf nm), .agg cx.toArray] w (GivesM (withN v nm) (withM v nm x) w) := by
  obtain ⟨i0, hi, hz0, hz1, hz2⟩ := info_parts infoMember
  have I0 := Lib.hid hi
  have I1 := Lib.hid hz0
  have I2 := Lib.hid hz1
  have I3 := Lib.hid hz2
  clear hi hz0 hz1 hz2
  have hlen := in_len hv
  obtain ⟨A0, c0, A20, c20, rfl, hns, -, hM⟩ := hv.cells
  have HX := Lib.hid hx
  obtain ⟨X0, d0, X20, d20, rfl, -⟩ := hx.cells
  have HM := Lib.hid hM
  have HNS := Lib.hid hns
  have HZ := Lib.hid hz
  obtain ⟨m, hm⟩ : ∃ x, v.ms.length = x := ⟨_, rfl⟩
  obtain ⟨k, hk⟩ : ∃ x, v.k = x := ⟨_, rfl⟩
  have HN2 := Lib.hid hm
  have HK := Lib.hid hk
  rw [hm] at HM ⊢
  rw [hk]
  clear hv hx hz hM hns hlen hm hk
  generalize v.n = n
  generalize strOf v.s = S
  generalize v.l.length = l
  generalize x.k = xk at *
  generalize x.n = xn at *
  generalize strOf x.s = XS at *
  generalize x.l.length = xl at *
  generalize x.ms.length = xm at *
  obtain ⟨Y, hY⟩ : ∃ Y, strOf nm = Y := ⟨_, rfl⟩
  have HY := Lib.hid hY
  rw [hY]
  clear hY
  obtain ⟨W0, hW0⟩ : ∃ W0, W0 = ((((w.alloc (.cells #[.int .i64 k, .int .i64 n, .string S, .slice A0 l c0, .slice A20 m c20] 25)).alloc (.cells #[.int .i64 xk, .int .i64 xn, .string XS, .slice X0 xl d0, .slice X20 xm d20] 25)).alloc (.cells #[.int .i64 0, .int .i64 0, .string ⟨#[]⟩, .slice none 0 0, .slice none 0 0] 25)).alloc (.cells #[.int .i64 6, .int .i64 0, .string ⟨#[]⟩, .slice none 0 0, .slice none 0 0] 25)) := ⟨_, rfl⟩
  have HB0 := Lib.hid (show Below w.heap.size w W0 by rw [hW0]; exact ((((Below.refl _ _).alloc (Nat.le_refl _) _).alloc (by simp) _).alloc (by simp; omega) _).alloc (by simp; omega) _)
  have HS0 := Lib.hid (show W0.heap.size = w.heap.size + 4 by rw [hW0, szAl, szAl, szAl, szAl])
  have HV0 := Lib.hid (show W0.heap[w.heap.size]? = some (.cells #[.int .i64 k, .int .i64 n, .string S, .slice A0 l c0, .slice A20 m c20] 25 (0, 0)) by rw [hW0]; exact heapOld (heapOld (heapOld (heapNew _ _) _) _) _)
  have HX0 := Lib.hid (show W0.heap[w.heap.size + 1]? = some (.cells #[.int .i64 xk, .int .i64 xn, .string XS, .slice X0 xl d0, .slice X20 xm d20] 25 (0, 0)) by
    rw [hW0]; refine heapOld (heapOld ?_ _) _; rw [show w.heap.size + 1 = (w.alloc (.cells #[.int .i64 k, .int .i64 n, .string S, .slice A0 l c0, .slice A20 m c20] 25)).heap.size by simp]; exact heapNew _ _)
  have HR0 := Lib.hid (show W0.heap[w.heap.size + 1 + 1]? = some (.cells #[.int .i64 0, .int .i64 0, .string ⟨#[]⟩, .slice none 0 0, .slice none 0 0] 25 (0, 0)) by
    rw [hW0]; refine heapOld ?_ _; rw [show w.heap.size + 1 + 1 = ((w.alloc (.cells #[.int .i64 k, .int .i64 n, .string S, .slice A0 l c0, .slice A20 m c20] 25)).alloc (.cells #[.int .i64 xk, .int .i64 xn, .string XS, .slice X0 xl d0, .slice X20 xm d20] 25)).heap.size by simp]; exact heapNew _ _)
  have HO0 := Lib.hid (show OutAt W0 (w.heap.size + 1 + 1 + 1) [] from ⟨none, 0, by rw [hW0, show w.heap.size + 1 + 1 + 1 = (((w.alloc (.cells #[.int .i64 k, .int .i64 n, .string S, .slice A0 l c0, .slice A20 m c20] 25)).alloc (.cells #[.int .i64 xk, .int .i64 xn, .string XS, .slice X0 xl d0, .slice X20 xm d20] 25)).alloc (.cells #[.int .i64 0, .int .i64 0, .string ⟨#[]⟩, .slice none 0 0, .slice none 0 0] 25)).heap.size by simp]; exact heapNew _ _, World.ownsRow_nil _ _ _ _⟩)
  have HW0 := Lib.hid hW0
  clear hW0
  by_cases h6 : k = 6
  · subst h6
    have hN : inN v = v.ns := if_pos HK.out
    have hMm : inM v = v.ms := if_pos HK.out
    have hzm := HZ.out
    rw [hMm, HN2.out] at hzm
    have HHZ := Lib.hid hzm
    obtain ⟨d, hd⟩ := mems_of HNS.out (show 0 < v.ms.length → _ from fun h => HM.out (by rw [← HN2.out]; exact h))
    have HDL := Lib.hid (show d.length = m by rw [hd.1, HN2.out])
    have HDN := Lib.hid hd.2.1
    have HD := Lib.hid hd
    have HWN := Lib.hid (show withN v nm = if nm ∈ v.ns then v.ns else v.ns ++ [nm] by unfold withN; rw [hN])
    have HWM := Lib.hid (show withM v nm x = if nm ∈ v.ns then v.ms.set (v.ns.idxOf nm) x else v.ms ++ [x] by unfold withM; rw [hN, hMm])
    have HAT := Lib.hid (show ∀ i (h : i < d.length), ∃ g o, A20 = some ⟨g, o, none⟩ ∧ g < w.heap.size ∧ M6At w g (o + i * 6) d[i] from fun i h => by
      obtain ⟨g, o, e, _, g2, hr⟩ := hd.2.2.1 (by omega)
      exact ⟨g, o, e, g2, hr i h⟩)
    obtain ⟨ix, hix⟩ : ∃ ix, (d.map M6.nm).idxOf nm = ix := ⟨_, rfl⟩
    have HIX := Lib.hid hix
    clear hN hMm hd hix hzm
    go_enter Try.func14, Try.ntmps14
    go_wp2_with fail
    rw [← HW0.out]
    go_loopw [8, 9] (fun dn i wr => ∃ (kk : Nat) (D : Bool), dn = .bool D ∧ i = .int .i64 kk ∧ kk ≤ m ∧ Aside (D = decide (ix < kk)) ∧ Aside (OutAt wr (w.heap.size + 1 + 1 + 1) ((rowsX d nm [.int .i64 xk, .int .i64 xn, .string XS, .slice X0 xl d0, .slice X20 xm d20]).take kk)) ∧ Aside (Below (w.heap.size + 1 + 1 + 1) W0 wr)) (fun _ i _ => m - (intOf i).toNat)
    case atStart => exact ⟨0, false, rfl, rfl, by omega, (show _ = _ by simp), (show OutAt _ _ _ from by simpa using HO0.out), (show Below _ _ _ from Below.refl _ _)⟩
    case round =>
      obtain ⟨kk, D, rfl, rfl, hk, hD, hout, hbel⟩ := hrel
      have hwb : Below w.heap.size w wr := HB0.out.trans (hbel.out.mono (by omega))
      have HWB := Lib.hid hwb
      have HBL := Lib.hid hbel.out
      obtain ⟨⟨p0, p1, p2, p3, p4⟩, -⟩ := row5 ((hbel.out.block w.heap.size (by omega)).trans HV0.out)
      have HXR := Lib.hid ((hbel.out.block (w.heap.size + 1) (by omega)).trans HX0.out)
      have HRR := Lib.hid ((hbel.out.block (w.heap.size + 1 + 1) (by omega)).trans HR0.out)
      have hsw : w.heap.size + 4 ≤ wr.heap.size := by have := hbel.out.size; rw [HS0.out] at this; exact this
      by_cases hlt : kk < m
      · have t1 : decide ((kk : Int) < (m : Int)) = true := decide_eq_true (by omega)
        have t2 : decide (kk < m) = true := decide_eq_true hlt
        have k0 : (0 : Int) ≤ (kk : Int) := by omega
        have k1 : (kk : Int) < (m : Int) := by omega
        have k2 : ((kk : Int)).toNat = kk := by omega
        have hkl : kk < d.length := by rw [HDL.out]; exact hlt
        have hkn : kk < (d.map M6.nm).length := by simpa using hkl
        obtain ⟨g, o, rfl, hg, hx⟩ := HAT.out kk hkl
        have hx := hx.keep (W' := wr) (fun j => hwb.cell (p := ⟨g, j, none⟩) hg)
        have htk := rowsX_take (nm := nm) (cx := [.int .i64 xk, .int .i64 xn, .string XS, .slice X0 xl d0, .slice X20 xm d20]) hkl
        rw [HIX.out] at htk
        have hhit := fun e : d[kk].nm = nm => idx_hit (nm := nm) hkn (by simpa using e)
        have hnot := fun e : d[kk].nm ≠ nm => idx_not (nm := nm) hkn (by simpa using e)
        rw [HIX.out] at hhit hnot
        obtain ⟨A, c, ho1, ho2⟩ := hout.out
        have hN := rowsX_tlen (d := d) (nm := nm) (cx := [.int .i64 xk, .int .i64 xn, .string XS, .slice X0 xl d0, .slice X20 xm d20]) (kk := kk) (by omega)
        rw [hN] at ho1 ho2
        obtain ⟨rows, hrows⟩ : ∃ r, (rowsX d nm [.int .i64 xk, .int .i64 xn, .string XS, .slice X0 xl d0, .slice X20 xm d20]).take kk = r := ⟨_, rfl⟩
        rw [hrows] at ho2 hN htk
        obtain ⟨⟨z0, z1, z2, z3, z4⟩, ⟨y0, y1, y2, y3, y4⟩⟩ := row5 ho1
        by_cases hx0 : d[kk].nm = nm
        · have hle := hhit hx0
          cases D
          · have hne : ix = kk := by
              have := of_decide_eq_false hD.out.symm
              omega
            have hD2 : true = decide (ix < kk + 1) := (decide_eq_true (by omega)).symm
            rw [if_pos hne, HY.out] at htk
            have hq : ((strOf d[kk].nm).toList == Y.toList) = true := by rw [hx0, HY.out]; exact beq_self_eq_true _
            generalize d[kk] = z at *
            obtain ⟨zz, zk, zn, zs, zA, zl, zc, zB, zm, zd⟩ := z
            simp only [M6At] at hx
            obtain ⟨a0, a1, a2, a3, a4, a5⟩ := hx
            simp only at hq
            try simp only [encM] at htk
            simp only at hx0
            rw [hx0, HY.out] at a0
            obtain ⟨x0, x1, x2, x3, x4⟩ := (row5 (heapOld HXR.out (.cells #[.string Y, .int .i64 zk, .int .i64 zn, .string zs, .slice zA zl zc, .slice zB zm zd] 50))).1
            have hnew0 : (wr.alloc (.cells #[.string Y, .int .i64 zk, .int .i64 zn, .string zs, .slice zA zl zc, .slice zB zm zd] 50)).heap[wr.heap.size]? = some (.cells #[.string Y, .int .i64 zk, .int .i64 zn, .string zs, .slice zA zl zc, .slice zB zm zd] 50 (0, 0)) := heapNew _ _
            have hfz : ∀ j, (wr.alloc (.cells #[.string Y, .int .i64 zk, .int .i64 zn, .string zs, .slice zA zl zc, .slice zB zm zd] 50)).frozen? ⟨wr.heap.size, j, none⟩ = false := fun j => frozen_of_row _ _ j _ _ hnew0
            have HTH := Lib.hid (show (wr.alloc (.cells #[.string Y, .int .i64 zk, .int .i64 zn, .string zs, .slice zA zl zc, .slice zB zm zd] 50)).there wr.heap.size 1 5 from fun j hj => ⟨by rw [cell_of_row _ _ _ _ _ _ hnew0]; match j, hj with | 0, _ | 1, _ | 2, _ | 3, _ | 4, _ => rfl, hfz _⟩)
            have HINF := Lib.hid (show (Try.prog.info? 25).map (·.size) = some 5 by kernel_rfl)
            obtain ⟨W2, hW2⟩ : ∃ W2, W2 = ((((((wr.alloc (.cells #[.string Y, .int .i64 zk, .int .i64 zn, .string zs, .slice zA zl zc, .slice zB zm zd] 50)).setCell ⟨wr.heap.size, 1, none⟩ (.int .i64 xk)).setCell ⟨wr.heap.size, 2, none⟩ (.int .i64 xn)).setCell ⟨wr.heap.size, 3, none⟩ (.string XS)).setCell ⟨wr.heap.size, 4, none⟩ (.slice X0 xl d0)).setCell ⟨wr.heap.size, 5, none⟩ (.slice X20 xm d20)) := ⟨_, rfl⟩
            have hnew2 : W2.heap[wr.heap.size]? = some (.cells #[.string Y, .int .i64 xk, .int .i64 xn, .string XS, .slice X0 xl d0, .slice X20 xm d20] 50 (0, 0)) := by
              rw [hW2]
              exact rowSet _ _ 5 _ _ _ (rowSet _ _ 4 _ _ _ (rowSet _ _ 3 _ _ _ (rowSet _ _ 2 _ _ _ (rowSet _ _ 1 _ _ _ hnew0))))
            have hold2 : W2.heap[w.heap.size + 1 + 1 + 1]? = some (.cells #[.int .i64 6, .int .i64 0, .string ⟨#[]⟩, .slice none 0 0, .slice A kk c] 25 (0, 0)) := by
              rw [hW2, Below.heap_setCell _ _ _ _ (by show _ ≠ wr.heap.size; omega), Below.heap_setCell _ _ _ _ (by show _ ≠ wr.heap.size; omega), Below.heap_setCell _ _ _ _ (by show _ ≠ wr.heap.size; omega), Below.heap_setCell _ _ _ _ (by show _ ≠ wr.heap.size; omega), Below.heap_setCell _ _ _ _ (by show _ ≠ wr.heap.size; omega)]
              exact heapOld ho1 _
            have hbw2 : Below wr.heap.size wr W2 := by
              rw [hW2]
              exact ((((((Below.refl _ wr).alloc (Nat.le_refl _) _).setCell (p := ⟨wr.heap.size, 1, none⟩) (Nat.le_refl _) _).setCell (p := ⟨wr.heap.size, 2, none⟩) (Nat.le_refl _) _).setCell (p := ⟨wr.heap.size, 3, none⟩) (Nat.le_refl _) _).setCell (p := ⟨wr.heap.size, 4, none⟩) (Nat.le_refl _) _).setCell (p := ⟨wr.heap.size, 5, none⟩) (Nat.le_refl _) _
            have ho3 := own_below ho2 hbw2
            have hs2 : W2.heap.size = wr.heap.size + 1 := by rw [hW2]; simp
            have HW2 := Lib.hid (show W2 = ((wr.alloc (.cells #[.string Y, .int .i64 zk, .int .i64 zn, .string zs, .slice zA zl zc, .slice zB zm zd] 50)).setCells wr.heap.size 1 [.int .i64 xk, .int .i64 xn, .string XS, .slice X0 xl d0, .slice X20 xm d20]) from hW2)
            clear hW2
            have HNEW := Lib.hid (World.news_of_block (w := W2.alloc (.cells #[.string Y, .int .i64 xk, .int .i64 xn, .string XS, .slice X0 xl d0, .slice X20 xm d20] 50)) (B := wr.heap.size + 1) (cs := #[.string Y, .int .i64 xk, .int .i64 xn, .string XS, .slice X0 xl d0, .slice X20 xm d20]) (t := 50) (fr := (0, 0)) (by rw [← hs2]; exact heapNew _ _))
            have HST := Lib.hid (fun (w1 : World) (g cap : Nat) => out_step (Wb := W0) (w1 := w1) (g := g) (cap := cap) (row := [.string Y, .int .i64 xk, .int .i64 xn, .string XS, .slice X0 xl d0, .slice X20 xm d20]) hN (heapOld hold2 (.cells #[.string Y, .int .i64 xk, .int .i64 xn, .string XS, .slice X0 xl d0, .slice X20 xm d20] 50)) (ho3.alloc _) ((hbel.out.trans (hbw2.mono (by omega))).alloc (by rw [hs2]; omega) _))
            have HOW := Lib.hid ho3
            rw [HW2.out] at HNEW HST HOW hnew2 hold2
            have hnc : ∀ j u, [.string Y, .int .i64 xk, .int .i64 xn, .string XS, .slice X0 xl d0, .slice X20 xm d20][j]? = some u → ((wr.alloc (.cells #[.string Y, .int .i64 zk, .int .i64 zn, .string zs, .slice zA zl zc, .slice zB zm zd] 50)).setCells wr.heap.size 1 [.int .i64 xk, .int .i64 xn, .string XS, .slice X0 xl d0, .slice X20 xm d20]).cell? ⟨wr.heap.size, j, none⟩ = some u := fun j u hu => by rw [cell_of_row _ _ j _ _ _ hnew2]; simpa using hu
            have b0 := hnc 0 _ rfl; have b1 := hnc 1 _ rfl; have b2 := hnc 2 _ rfl; have b3 := hnc 3 _ rfl; have b4 := hnc 4 _ rfl; have b5 := hnc 5 _ rfl
            have zq4 := (row5 hold2).1.2.2.2.2
            have HTK := Lib.hid htk
            have HD2 := Lib.hid hD2
            clear ho1 ho2 ho3 hN hrows htk hD2 hD hx0 hne hhit hnot hout hbel hwb hkl hkn HAT hnew0 hnew2 hold2 hnc hfz hbw2 hle
            go_wp2_with (first | (guard_target = wpList _ _ _ (Oper.mk _ (Op.store _ _ _) _ _ _ _ :: _) _ _; refine wpList_store_mid rfl 25 _ _ rfl wr.heap.size 1 #[.int .i64 xk, .int .i64 xn, .string XS, .slice X0 xl d0, .slice X20 xm d20] rfl rfl HTH.out HINF.out (by simp [Value.oneCell']) ?_) | (at_builtin; refine wpList_append_lies _ rfl _ _ 23 rfl (w.heap.size + 1 + 1 + 1 + 1) 50 i0 _ 6 96 Try.underlying23 I0.out I1.out I2.out I3.out rfl (by decide) (.slice A kk c) kk rows.flatten rfl (HOW.out.alloc _) ⟨wr.heap.size + 1, 0, none⟩ 1 1 [.string Y, .int .i64 xk, .int .i64 xn, .string XS, .slice X0 xl d0, .slice X20 xm d20] rfl rfl HNEW.out ?qc3 (by decide) ?qc4 ?qc5 ?qc6 _ rfl ?_))
            case qc3 => simp [Value.oneCell']
            case qc4 => have := HHZ.out; unfold maxLen; omega
            case qc5 => have := HHZ.out; omega
            case qc6 => first | omega | (simp; omega)
            intro g' cap w5 hown5 hg5 hat5 hlt5
            obtain ⟨r5, ho5, hb5⟩ := HST.out w5 g' cap hg5 hown5
            have HO5 := Lib.hid ho5
            have HB5 := Lib.hid hb5
            clear b0 b1 b2 b3 b4 b5 zq4 z0 z1 z2 z3 z4 y0 y1 y2 y3 y4 hown5 hg5 ho5 hb5
            obtain ⟨⟨z0, z1, z2, z3, z4⟩, ⟨y0, y1, y2, y3, y4⟩⟩ := row5 r5
            clear r5
            have hzm := HHZ.out
            go_wp2
            go_roundw
            case rel =>
              refine ⟨kk + 1, _, rfl, by go_num, by omega, (show _ = _ from HD2.out), ?_, (show Below _ _ _ from HB5.out)⟩
              rw [HTK.out]
              exact (show OutAt _ _ _ from HO5.out)
            case measure => simp [intOf]; omega
          · have hne : ix ≠ kk := by
              have := hD.out
              have := of_decide_eq_true this.symm
              omega
            have hD2 : true = decide (ix < kk + 1) := by
              have := of_decide_eq_true hD.out.symm
              exact (decide_eq_true (by omega)).symm
            rw [if_neg hne] at htk
            have hq : ((strOf d[kk].nm).toList == Y.toList) = true := by rw [hx0, HY.out]; exact beq_self_eq_true _
            generalize d[kk] = z at *
            obtain ⟨zz, zk, zn, zs, zA, zl, zc, zB, zm, zd⟩ := z
            simp only [M6At] at hx
            obtain ⟨a0, a1, a2, a3, a4, a5⟩ := hx
            simp only at hq
            try simp only [encM] at htk
            generalize strOf zz = Z at *
            have HNEW := Lib.hid (World.news_of_block (w := (wr.alloc (.cells #[.string Z, .int .i64 zk, .int .i64 zn, .string zs, .slice zA zl zc, .slice zB zm zd] 50)).alloc (.cells #[.string Z, .int .i64 zk, .int .i64 zn, .string zs, .slice zA zl zc, .slice zB zm zd] 50)) (B := wr.heap.size + 1) (cs := #[.string Z, .int .i64 zk, .int .i64 zn, .string zs, .slice zA zl zc, .slice zB zm zd]) (t := 50) (fr := (0, 0)) (by rw [show wr.heap.size + 1 = (wr.alloc (.cells #[.string Z, .int .i64 zk, .int .i64 zn, .string zs, .slice zA zl zc, .slice zB zm zd] 50)).heap.size by simp]; exact heapNew _ _))
            have HST := Lib.hid (fun (w1 : World) (g cap : Nat) => out_step (Wb := W0) (w1 := w1) (g := g) (cap := cap) (row := [.string Z, .int .i64 zk, .int .i64 zn, .string zs, .slice zA zl zc, .slice zB zm zd]) hN (heapOld (heapOld ho1 (.cells #[.string Z, .int .i64 zk, .int .i64 zn, .string zs, .slice zA zl zc, .slice zB zm zd] 50)) (.cells #[.string Z, .int .i64 zk, .int .i64 zn, .string zs, .slice zA zl zc, .slice zB zm zd] 50)) ((ho2.alloc _).alloc _) ((hbel.out.alloc (by omega) _).alloc (by rw [szAl]; omega) _))
            have zq4 := (row5 (heapOld ho1 (.cells #[.string Z, .int .i64 zk, .int .i64 zn, .string zs, .slice zA zl zc, .slice zB zm zd] 50))).1.2.2.2.2
            have HOW := Lib.hid ho2
            have HTK := Lib.hid htk
            have HD2 := Lib.hid hD2
            clear ho1 ho2 hN hrows htk hD2 hD hx0 hne hhit hnot hout hbel hwb hkl hkn HAT
            go_wp2_with (at_builtin; refine wpList_append_lies _ rfl _ _ 23 rfl (w.heap.size + 1 + 1 + 1 + 1) 50 i0 _ 6 96 Try.underlying23 I0.out I1.out I2.out I3.out rfl (by decide) (.slice A kk c) kk rows.flatten rfl ((HOW.out.alloc _).alloc _) ⟨wr.heap.size + 1, 0, none⟩ 1 1 [.string Z, .int .i64 zk, .int .i64 zn, .string zs, .slice zA zl zc, .slice zB zm zd] rfl rfl HNEW.out ?qc3 (by decide) ?qc4 ?qc5 ?qc6 _ rfl ?_)
            case qc3 => simp [Value.oneCell']
            case qc4 => have := HHZ.out; unfold maxLen; omega
            case qc5 => have := HHZ.out; omega
            case qc6 => first | omega | (simp; omega)
            intro g' cap w5 hown5 hg5 hat5 hlt5
            obtain ⟨r5, ho5, hb5⟩ := HST.out w5 g' cap hg5 hown5
            have HO5 := Lib.hid ho5
            have HB5 := Lib.hid hb5
            clear zq4 z0 z1 z2 z3 z4 y0 y1 y2 y3 y4 hown5 hg5 ho5 hb5
            obtain ⟨⟨z0, z1, z2, z3, z4⟩, ⟨y0, y1, y2, y3, y4⟩⟩ := row5 r5
            clear r5
            have hzm := HHZ.out
            go_wp2
            go_roundw
            case rel =>
              refine ⟨kk + 1, _, rfl, by go_num, by omega, (show _ = _ from HD2.out), ?_, (show Below _ _ _ from HB5.out)⟩
              rw [HTK.out]
              exact (show OutAt _ _ _ from HO5.out)
            case measure => simp [intOf]; omega
        · have hne := hnot hx0
          have hD2 : D = decide (ix < kk + 1) := by rw [hD.out]; exact decide_eq_decide.2 (by omega)
          rw [if_neg hne] at htk
          have hq : ((strOf d[kk].nm).toList == Y.toList) = false := by
            rw [beq_eq_false_iff_ne, ← HY.out, strOf_list, strOf_list]
            exact hx0
          generalize d[kk] = z at *
          obtain ⟨zz, zk, zn, zs, zA, zl, zc, zB, zm, zd⟩ := z
          simp only [M6At] at hx
          obtain ⟨a0, a1, a2, a3, a4, a5⟩ := hx
          simp only at hq
          try simp only [encM] at htk
          generalize strOf zz = Z at *
          have HNEW := Lib.hid (World.news_of_block (w := (wr.alloc (.cells #[.string Z, .int .i64 zk, .int .i64 zn, .string zs, .slice zA zl zc, .slice zB zm zd] 50)).alloc (.cells #[.string Z, .int .i64 zk, .int .i64 zn, .string zs, .slice zA zl zc, .slice zB zm zd] 50)) (B := wr.heap.size + 1) (cs := #[.string Z, .int .i64 zk, .int .i64 zn, .string zs, .slice zA zl zc, .slice zB zm zd]) (t := 50) (fr := (0, 0)) (by rw [show wr.heap.size + 1 = (wr.alloc (.cells #[.string Z, .int .i64 zk, .int .i64 zn, .string zs, .slice zA zl zc, .slice zB zm zd] 50)).heap.size by simp]; exact heapNew _ _))
          have HST := Lib.hid (fun (w1 : World) (g cap : Nat) => out_step (Wb := W0) (w1 := w1) (g := g) (cap := cap) (row := [.string Z, .int .i64 zk, .int .i64 zn, .string zs, .slice zA zl zc, .slice zB zm zd]) hN (heapOld (heapOld ho1 (.cells #[.string Z, .int .i64 zk, .int .i64 zn, .string zs, .slice zA zl zc, .slice zB zm zd] 50)) (.cells #[.string Z, .int .i64 zk, .int .i64 zn, .string zs, .slice zA zl zc, .slice zB zm zd] 50)) ((ho2.alloc _).alloc _) ((hbel.out.alloc (by omega) _).alloc (by rw [szAl]; omega) _))
          have zq4 := (row5 (heapOld ho1 (.cells #[.string Z, .int .i64 zk, .int .i64 zn, .string zs, .slice zA zl zc, .slice zB zm zd] 50))).1.2.2.2.2
          have HOW := Lib.hid ho2
          have HTK := Lib.hid htk
          have HD2 := Lib.hid hD2
          clear ho1 ho2 hN hrows htk hD2 hD hx0 hne hhit hnot hout hbel hwb hkl hkn HAT
          go_wp2_with (at_builtin; refine wpList_append_lies _ rfl _ _ 23 rfl (w.heap.size + 1 + 1 + 1 + 1) 50 i0 _ 6 96 Try.underlying23 I0.out I1.out I2.out I3.out rfl (by decide) (.slice A kk c) kk rows.flatten rfl ((HOW.out.alloc _).alloc _) ⟨wr.heap.size + 1, 0, none⟩ 1 1 [.string Z, .int .i64 zk, .int .i64 zn, .string zs, .slice zA zl zc, .slice zB zm zd] rfl rfl HNEW.out ?qc3 (by decide) ?qc4 ?qc5 ?qc6 _ rfl ?_)
          case qc3 => simp [Value.oneCell']
          case qc4 => have := HHZ.out; unfold maxLen; omega
          case qc5 => have := HHZ.out; omega
          case qc6 => first | omega | (simp; omega)
          intro g' cap w5 hown5 hg5 hat5 hlt5
          obtain ⟨r5, ho5, hb5⟩ := HST.out w5 g' cap hg5 hown5
          have HO5 := Lib.hid ho5
          have HB5 := Lib.hid hb5
          clear zq4 z0 z1 z2 z3 z4 y0 y1 y2 y3 y4 hown5 hg5 ho5 hb5
          obtain ⟨⟨z0, z1, z2, z3, z4⟩, ⟨y0, y1, y2, y3, y4⟩⟩ := row5 r5
          clear r5
          have hzm := HHZ.out
          go_wp2
          go_roundw
          case rel =>
            refine ⟨kk + 1, _, rfl, by go_num, by omega, (show _ = _ from HD2.out), ?_, (show Below _ _ _ from HB5.out)⟩
            rw [HTK.out]
            exact (show OutAt _ _ _ from HO5.out)
          case measure => simp [intOf]; omega
      · have t1 : decide ((kk : Int) < (m : Int)) = false := decide_eq_false (by omega)
        have t2 : decide (kk < m) = false := decide_eq_false hlt
        obtain rfl : m = kk := by omega
        have htk : (rowsX d nm [.int .i64 xk, .int .i64 xn, .string XS, .slice X0 xl d0, .slice X20 xm d20]).take m = rowsX d nm [.int .i64 xk, .int .i64 xn, .string XS, .slice X0 xl d0, .slice X20 xm d20] := List.take_of_length_le (by rw [rowsX_len, HDL.out]; exact Nat.le_refl _)
        have HRDS := Lib.hid (show ∀ w1 : World, Below w.heap.size w w1 → ∀ i (h1 : i < d.length) (h2 : i < v.ms.length), RdA w1 0 w.heap.size v.ms[i] (m6tail d[i]) from fun w1 hb i h1 h2 => RdA.keep (fun p _ hp => hb.cell (p := p) hp) (Nat.le_refl _) (Nat.le_refl _) _ _ (HD.out.2.2.2 i h1 h2))
        have HXX := Lib.hid (show ∀ w1 : World, Below w.heap.size w w1 → RdA w1 0 w.heap.size x [.int .i64 xk, .int .i64 xn, .string XS, .slice X0 xl d0, .slice X20 xm d20] from fun w1 hb => RdA.keep (fun p _ hp => hb.cell (p := p) hp) (Nat.le_refl _) (Nat.le_refl _) _ _ HX.out)
        by_cases hin : nm ∈ v.ns
        · obtain rfl : D = true := by
            rw [hD.out]
            refine decide_eq_true ?_
            have := List.idxOf_lt_length_of_mem hin
            rw [← HIX.out, HDN.out, ← HN2.out, ← HNS.out]
            exact this
          have hwn := HWN.out
          have hwm := HWM.out
          rw [if_pos hin] at hwn hwm
          obtain ⟨A', c', ho1, ho2⟩ := hout.out
          have hN := rowsX_tlen (d := d) (nm := nm) (cx := [.int .i64 xk, .int .i64 xn, .string XS, .slice X0 xl d0, .slice X20 xm d20]) (kk := m) (by rw [HDL.out]; exact Nat.le_refl _)
          rw [hN] at ho1 ho2
          have hsx : ∀ r ∈ (rowsX d nm [.int .i64 xk, .int .i64 xn, .string XS, .slice X0 xl d0, .slice X20 xm d20]).take m, r.length = 6 := fun r hr => rowsX_six rfl r (List.mem_of_mem_take hr)
          have HGM := Lib.hid (gives_at (b := w.heap.size + 1 + 1 + 1) (ns := v.ns) (ms := v.ms.set (v.ns.idxOf nm) x) (by rw [List.length_set, HN2.out]) hN (by rw [List.length_set, HNS.out]) hwb ho2 hsx (by simp only [htk]; exact rowsX_set HDN.out HD.out.1 (HRDS.out wr hwb) (HXX.out wr hwb) hin))
          rw [← hwm, ← hwn] at HGM
          obtain ⟨⟨z0, z1, z2, z3, z4⟩, -⟩ := row5 ho1
          obtain ⟨⟨x0, x1, x2, x3, x4⟩, ⟨y0, y1, y2, y3, y4⟩⟩ := row5 HRR.out
          clear ho1 ho2 hN htk hwn hwm hin hD hout HAT hwb hbel
          go_wp2
          refine bodyPost_ret (res5 rfl rfl (st5_row HRR.out (.int .i64 6) (.int .i64 0) (.string ⟨#[]⟩) (.slice none 0 0) (.slice A' m c'))) rfl ?_
          exact HGM.out _ (by omega) (by omega) _ _ _ _ _ _ HRR.out
        · obtain rfl : D = false := by
            rw [hD.out]
            refine decide_eq_false ?_
            rw [← HIX.out, HDN.out, List.idxOf_eq_length hin, HNS.out, HN2.out]
            omega
          have hwn := HWN.out
          have hwm := HWM.out
          rw [if_neg hin] at hwn hwm
          have HWN2 := Lib.hid hwn
          have HWM2 := Lib.hid hwm
          have H50 := HN2
          have HNN := Lib.hid (HNS.out.trans HN2.out)
          obtain ⟨A, c, ho1, ho2⟩ := hout.out
          have hN := (rowsX_tlen (d := d) (nm := nm) (cx := [.int .i64 xk, .int .i64 xn, .string XS, .slice X0 xl d0, .slice X20 xm d20]) (kk := m) (by rw [HDL.out]; exact Nat.le_refl _))
          rw [hN] at ho1 ho2
          have HFR := Lib.hid (show ∀ w1 : World, Below w.heap.size w w1 → ∀ k (h1 : k < (v.ms ++ [x]).length) (h2 : k < ((rowsX d nm [.int .i64 xk, .int .i64 xn, .string XS, .slice X0 xl d0, .slice X20 xm d20]).take m ++ [([Value.string Y, .int .i64 xk, .int .i64 xn, .string XS, .slice X0 xl d0, .slice X20 xm d20] : List Value)]).length) (h3 : k < (v.ns ++ [nm]).length), ∃ cs, ((rowsX d nm [.int .i64 xk, .int .i64 xn, .string XS, .slice X0 xl d0, .slice X20 xm d20]).take m ++ [([Value.string Y, .int .i64 xk, .int .i64 xn, .string XS, .slice X0 xl d0, .slice X20 xm d20] : List Value)])[k] = .string (strOf (v.ns ++ [nm])[k]) :: cs ∧ RdA w1 0 w.heap.size (v.ms ++ [x])[k] cs from fun w1 hb => by have := rowsX_app (w1 := w1) HDN.out HD.out.1 (HRDS.out w1 hb) (HXX.out w1 hb) hin; rw [HY.out] at this; simp only [htk]; exact this)
          obtain ⟨rows, hrows⟩ : ∃ r, (rowsX d nm [.int .i64 xk, .int .i64 xn, .string XS, .slice X0 xl d0, .slice X20 xm d20]).take m = r := ⟨_, rfl⟩
          rw [hrows] at ho2 hN HFR
          obtain ⟨⟨z0, z1, z2, z3, z4⟩, ⟨y0, y1, y2, y3, y4⟩⟩ := row5 ho1
          obtain ⟨⟨x0, x1, x2, x3, x4⟩, -⟩ := row5 (hbel.out.block (w.heap.size + 1) (by omega) |>.trans HX0.out)
          have HNEW := Lib.hid (World.news_of_block (w := wr.alloc (.cells #[.string Y, .int .i64 xk, .int .i64 xn, .string XS, .slice X0 xl d0, .slice X20 xm d20] 50)) (B := wr.heap.size) (cs := #[.string Y, .int .i64 xk, .int .i64 xn, .string XS, .slice X0 xl d0, .slice X20 xm d20]) (t := 50) (fr := (0, 0)) (heapNew _ _))
          have HST := Lib.hid (fun (w1 : World) (g cap : Nat) => out_step (Wb := W0) (w1 := w1) (g := g) (cap := cap) (row := [.string Y, .int .i64 xk, .int .i64 xn, .string XS, .slice X0 xl d0, .slice X20 xm d20]) hN (heapOld ho1 (.cells #[.string Y, .int .i64 xk, .int .i64 xn, .string XS, .slice X0 xl d0, .slice X20 xm d20] 50)) (ho2.alloc _) (hbel.out.alloc (by omega) _))
          have HOW := Lib.hid ho2
          have HLN := Lib.hid hN
          have hln : (v.ms ++ [x]).length = m + 1 := by simp [H50.out]
          have hnn : (v.ns ++ [nm]).length = (v.ms ++ [x]).length := by simp [HNN.out, H50.out]
          have HLM := Lib.hid hln
          have HLL := Lib.hid hnn
          have HSX := Lib.hid (show ∀ r ∈ rows ++ [([Value.string Y, .int .i64 xk, .int .i64 xn, .string XS, .slice X0 xl d0, .slice X20 xm d20] : List Value)], r.length = 6 from fun r hr => by
            rcases List.mem_append.1 hr with h | h
            · rw [← hrows] at h
              exact rowsX_six rfl r (List.mem_of_mem_take h)
            · rw [List.mem_singleton.1 h]; rfl)
          clear ho1 ho2 hN hrows hln hnn htk hwn hwm hin hD hout HAT
          go_wp2_with (at_builtin; refine wpList_append_lies _ rfl _ _ 23 rfl (w.heap.size + 1 + 1 + 1 + 1) 50 i0 _ 6 96 Try.underlying23 I0.out I1.out I2.out I3.out rfl (by decide) (.slice A m c) m rows.flatten rfl (HOW.out.alloc _) ⟨wr.heap.size, 0, none⟩ 1 1 [.string Y, .int .i64 xk, .int .i64 xn, .string XS, .slice X0 xl d0, .slice X20 xm d20] rfl rfl HNEW.out ?qc3 (by decide) ?qc4 ?qc5 ?qc6 _ rfl ?_)
          case qc3 => simp [Value.oneCell']
          case qc4 => have := HHZ.out; unfold maxLen; omega
          case qc5 => have := HHZ.out; omega
          case qc6 => first | omega | (simp; omega)
          intro g' cap w5 hown5 hg5 hat5 hlt5
          obtain ⟨r5, ho5, hb5⟩ := HST.out w5 g' cap hg5 hown5
          obtain ⟨A', c', s1, s2⟩ := ho5
          have s3 := rowSet w5 (w.heap.size + 1 + 1 + 1) 4 _ _ (.slice (some ⟨g', 0, none⟩) (m + 1) cap) r5
          have hlr : (rows ++ [([Value.string Y, .int .i64 xk, .int .i64 xn, .string XS, .slice X0 xl d0, .slice X20 xm d20] : List Value)]).length = m + 1 := by rw [List.length_append, HLN.out]; rfl
          rw [hlr] at s1 s2
          have e := Option.some.inj (s1.symm.trans s3)
          simp at e
          obtain ⟨rfl, rfl⟩ := e
          have hbw : Below w.heap.size w _ := HB0.out.trans (hb5.mono (by omega))
          have HGM := Lib.hid (gives_at (b := w.heap.size + 1 + 1 + 1) HLM.out hlr HLL.out hbw s2 HSX.out (HFR.out _ hbw))
          rw [← HWM2.out, ← HWN2.out] at HGM
          have HR6 := Lib.hid ((hb5.block (w.heap.size + 1 + 1) (by omega)).trans HR0.out)
          clear x0 x1 x2 x3 x4 z0 z1 z2 z3 z4 y0 y1 y2 y3 y4 hown5 hg5 hb5 s2 s3 hlr hbw
          obtain ⟨⟨x0, x1, x2, x3, x4⟩, ⟨y0, y1, y2, y3, y4⟩⟩ := row5 HR6.out
          obtain ⟨⟨z0, z1, z2, z3, z4⟩, -⟩ := row5 s1
          obtain ⟨⟨v0, v1, v2, v3, v4⟩, ⟨q0, q1, q2, q3, q4⟩⟩ := row5 r5
          clear s1 r5
          go_wp2
          refine bodyPost_ret (res5 rfl rfl (st5_row HR6.out (.int .i64 6) (.int .i64 0) (.string ⟨#[]⟩) (.slice none 0 0) (.slice (some ⟨g', 0, none⟩) (m + 1) c'))) rfl ?_
          exact HGM.out _ (by omega) (by omega) _ _ _ _ _ _ HR6.out
  · have n6 : decide (k = 6) = false := decide_eq_false h6
    have hn0 : inN v = [] := if_neg (by rw [HK.out]; exact h6)
    have hm0 : inM v = [] := if_neg (by rw [HK.out]; exact h6)
    have hwn : withN v nm = ([] : List (List UInt8)) ++ [nm] := by unfold withN; rw [hn0]; rfl
    have hwm : withM v nm x = ([] : List V) ++ [x] := by unfold withM; rw [hn0, hm0]; rfl
    have HWN2 := Lib.hid hwn
    have HWM2 := Lib.hid hwm
    obtain ⟨d, hdd⟩ : ∃ d : List M6, d = [] := ⟨_, rfl⟩
    have hnil : rowsX d nm [.int .i64 xk, .int .i64 xn, .string XS, .slice X0 xl d0, .slice X20 xm d20] = [] := by subst hdd; rfl
    have H50 := Lib.hid (show ([] : List V).length = 0 from rfl)
    have HNN := Lib.hid (show ([] : List (List UInt8)).length = 0 from rfl)
    have HHZ := Lib.hid (show 0 < 1466015503701 by decide)
    have HXX := Lib.hid (show ∀ w1 : World, Below w.heap.size w w1 → RdA w1 0 w.heap.size x [.int .i64 xk, .int .i64 xn, .string XS, .slice X0 xl d0, .slice X20 xm d20] from fun w1 hb => RdA.keep (fun p _ hp => hb.cell (p := p) hp) (Nat.le_refl _) (Nat.le_refl _) _ _ HX.out)
    have hsw : w.heap.size + 4 ≤ W0.heap.size := by rw [HS0.out]; exact Nat.le_refl _
    have hout0 : OutAt W0 (w.heap.size + 1 + 1 + 1) (rowsX d nm [.int .i64 xk, .int .i64 xn, .string XS, .slice X0 xl d0, .slice X20 xm d20]) := by rw [hnil]; exact HO0.out
    obtain ⟨⟨p0, p1, p2, p3, p4⟩, -⟩ := row5 HV0.out
    obtain ⟨A, c, ho1, ho2⟩ := hout0
    have hN := (show (rowsX d nm [.int .i64 xk, .int .i64 xn, .string XS, .slice X0 xl d0, .slice X20 xm d20]).length = 0 by rw [hnil]; rfl)
    rw [hN] at ho1 ho2
    have HFR := Lib.hid (show ∀ w1 : World, Below w.heap.size w w1 → ∀ k (h1 : k < ([] ++ [x]).length) (h2 : k < (rowsX d nm [.int .i64 xk, .int .i64 xn, .string XS, .slice X0 xl d0, .slice X20 xm d20] ++ [([Value.string Y, .int .i64 xk, .int .i64 xn, .string XS, .slice X0 xl d0, .slice X20 xm d20] : List Value)]).length) (h3 : k < ([] ++ [nm]).length), ∃ cs, (rowsX d nm [.int .i64 xk, .int .i64 xn, .string XS, .slice X0 xl d0, .slice X20 xm d20] ++ [([Value.string Y, .int .i64 xk, .int .i64 xn, .string XS, .slice X0 xl d0, .slice X20 xm d20] : List Value)])[k] = .string (strOf ([] ++ [nm])[k]) :: cs ∧ RdA w1 0 w.heap.size ([] ++ [x])[k] cs from fun w1 hb => by have := rowsX_app (w1 := w1) (n0 := w.heap.size) (d := []) (nm := nm) (ns := []) (ms := []) rfl rfl (fun i h1 => by simp at h1) (HXX.out w1 hb) (by simp); rw [HY.out] at this; subst hdd; exact this)
    obtain ⟨rows, hrows⟩ : ∃ r, rowsX d nm [.int .i64 xk, .int .i64 xn, .string XS, .slice X0 xl d0, .slice X20 xm d20] = r := ⟨_, rfl⟩
    rw [hrows] at ho2 hN HFR
    obtain ⟨⟨z0, z1, z2, z3, z4⟩, ⟨y0, y1, y2, y3, y4⟩⟩ := row5 ho1
    obtain ⟨⟨x0, x1, x2, x3, x4⟩, -⟩ := row5 ((Below.refl (w.heap.size + 1 + 1 + 1) W0).block (w.heap.size + 1) (by omega) |>.trans HX0.out)
    have HNEW := Lib.hid (World.news_of_block (w := W0.alloc (.cells #[.string Y, .int .i64 xk, .int .i64 xn, .string XS, .slice X0 xl d0, .slice X20 xm d20] 50)) (B := W0.heap.size) (cs := #[.string Y, .int .i64 xk, .int .i64 xn, .string XS, .slice X0 xl d0, .slice X20 xm d20]) (t := 50) (fr := (0, 0)) (heapNew _ _))
    have HST := Lib.hid (fun (w1 : World) (g cap : Nat) => out_step (Wb := W0) (w1 := w1) (g := g) (cap := cap) (row := [.string Y, .int .i64 xk, .int .i64 xn, .string XS, .slice X0 xl d0, .slice X20 xm d20]) hN (heapOld ho1 (.cells #[.string Y, .int .i64 xk, .int .i64 xn, .string XS, .slice X0 xl d0, .slice X20 xm d20] 50)) (ho2.alloc _) ((Below.refl (w.heap.size + 1 + 1 + 1) W0).alloc (by omega) _))
    have HOW := Lib.hid ho2
    have HLN := Lib.hid hN
    have hln : ([] ++ [x]).length = 0 + 1 := by simp [H50.out]
    have hnn : ([] ++ [nm]).length = ([] ++ [x]).length := by simp [HNN.out, H50.out]
    have HLM := Lib.hid hln
    have HLL := Lib.hid hnn
    have HSX := Lib.hid (show ∀ r ∈ rows ++ [([Value.string Y, .int .i64 xk, .int .i64 xn, .string XS, .slice X0 xl d0, .slice X20 xm d20] : List Value)], r.length = 6 from fun r hr => by
      rcases List.mem_append.1 hr with h | h
      · rw [← hrows] at h
        exact rowsX_six rfl r h
      · rw [List.mem_singleton.1 h]; rfl)
    clear ho1 ho2 hN hrows hln hnn hwn hwm hnil hdd hn0 hm0
    by_cases hlt : 0 < m
    · have t1 : decide ((0 : Int) < (m : Int)) = true := decide_eq_true (by omega)
      have t2 : decide (0 < m) = true := decide_eq_true hlt
      go_enter Try.func14, Try.ntmps14
      go_wp2_with fail
      rw [← HW0.out]
      go_loopw [8, 9] (fun dn i wr => dn = .bool false ∧ i = .int .i64 0 ∧ Aside (wr = W0)) (fun _ i _ => 0)
      case atStart => exact ⟨rfl, rfl, (show _ = _ from rfl)⟩
      case round =>
        obtain ⟨rfl, rfl, hw⟩ := hrel
        obtain rfl : W0 = wr := hw.out.symm
        clear hw
        go_wp2_with (at_builtin; refine wpList_append_lies _ rfl _ _ 23 rfl (w.heap.size + 1 + 1 + 1 + 1) 50 i0 _ 6 96 Try.underlying23 I0.out I1.out I2.out I3.out rfl (by decide) (.slice A 0 c) 0 rows.flatten rfl (HOW.out.alloc _) ⟨W0.heap.size, 0, none⟩ 1 1 [.string Y, .int .i64 xk, .int .i64 xn, .string XS, .slice X0 xl d0, .slice X20 xm d20] rfl rfl HNEW.out ?qc3 (by decide) ?qc4 ?qc5 ?qc6 _ rfl ?_)
        case qc3 => simp [Value.oneCell']
        case qc4 => have := HHZ.out; unfold maxLen; omega
        case qc5 => have := HHZ.out; omega
        case qc6 => first | omega | (simp; omega)
        intro g' cap w5 hown5 hg5 hat5 hlt5
        obtain ⟨r5, ho5, hb5⟩ := HST.out w5 g' cap hg5 hown5
        obtain ⟨A', c', s1, s2⟩ := ho5
        have s3 := rowSet w5 (w.heap.size + 1 + 1 + 1) 4 _ _ (.slice (some ⟨g', 0, none⟩) (0 + 1) cap) r5
        have hlr : (rows ++ [([Value.string Y, .int .i64 xk, .int .i64 xn, .string XS, .slice X0 xl d0, .slice X20 xm d20] : List Value)]).length = 0 + 1 := by rw [List.length_append, HLN.out]; rfl
        rw [hlr] at s1 s2
        have e := Option.some.inj (s1.symm.trans s3)
        simp at e
        obtain ⟨rfl, rfl⟩ := e
        have hbw : Below w.heap.size w _ := HB0.out.trans (hb5.mono (by omega))
        have HGM := Lib.hid (gives_at (b := w.heap.size + 1 + 1 + 1) HLM.out hlr HLL.out hbw s2 HSX.out (HFR.out _ hbw))
        rw [← HWM2.out, ← HWN2.out] at HGM
        have HR6 := Lib.hid ((hb5.block (w.heap.size + 1 + 1) (by omega)).trans HR0.out)
        clear x0 x1 x2 x3 x4 z0 z1 z2 z3 z4 y0 y1 y2 y3 y4 hown5 hg5 hb5 s2 s3 hlr hbw
        obtain ⟨⟨x0, x1, x2, x3, x4⟩, ⟨y0, y1, y2, y3, y4⟩⟩ := row5 HR6.out
        obtain ⟨⟨z0, z1, z2, z3, z4⟩, -⟩ := row5 s1
        obtain ⟨⟨v0, v1, v2, v3, v4⟩, ⟨q0, q1, q2, q3, q4⟩⟩ := row5 r5
        clear s1 r5
        go_wp2
        refine bodyPost_ret (res5 rfl rfl (st5_row HR6.out (.int .i64 6) (.int .i64 0) (.string ⟨#[]⟩) (.slice none 0 0) (.slice (some ⟨g', 0, none⟩) (0 + 1) c'))) rfl ?_
        exact HGM.out _ (by omega) (by omega) _ _ _ _ _ _ HR6.out
    · have t1 : decide ((0 : Int) < (m : Int)) = false := decide_eq_false (by omega)
      have t2 : decide (0 < m) = false := decide_eq_false hlt
      go_enter Try.func14, Try.ntmps14
      go_wp2_with fail
      rw [← HW0.out]
      go_loopw [8, 9] (fun dn i wr => dn = .bool false ∧ i = .int .i64 0 ∧ Aside (wr = W0)) (fun _ i _ => 0)
      case atStart => exact ⟨rfl, rfl, (show _ = _ from rfl)⟩
      case round =>
        obtain ⟨rfl, rfl, hw⟩ := hrel
        obtain rfl : W0 = wr := hw.out.symm
        clear hw
        go_wp2_with (at_builtin; refine wpList_append_lies _ rfl _ _ 23 rfl (w.heap.size + 1 + 1 + 1 + 1) 50 i0 _ 6 96 Try.underlying23 I0.out I1.out I2.out I3.out rfl (by decide) (.slice A 0 c) 0 rows.flatten rfl (HOW.out.alloc _) ⟨W0.heap.size, 0, none⟩ 1 1 [.string Y, .int .i64 xk, .int .i64 xn, .string XS, .slice X0 xl d0, .slice X20 xm d20] rfl rfl HNEW.out ?qc3 (by decide) ?qc4 ?qc5 ?qc6 _ rfl ?_)
        case qc3 => simp [Value.oneCell']
        case qc4 => have := HHZ.out; unfold maxLen; omega
        case qc5 => have := HHZ.out; omega
        case qc6 => first | omega | (simp; omega)
        intro g' cap w5 hown5 hg5 hat5 hlt5
        obtain ⟨r5, ho5, hb5⟩ := HST.out w5 g' cap hg5 hown5
        obtain ⟨A', c', s1, s2⟩ := ho5
        have s3 := rowSet w5 (w.heap.size + 1 + 1 + 1) 4 _ _ (.slice (some ⟨g', 0, none⟩) (0 + 1) cap) r5
        have hlr : (rows ++ [([Value.string Y, .int .i64 xk, .int .i64 xn, .string XS, .slice X0 xl d0, .slice X20 xm d20] : List Value)]).length = 0 + 1 := by rw [List.length_append, HLN.out]; rfl
        rw [hlr] at s1 s2
        have e := Option.some.inj (s1.symm.trans s3)
        simp at e
        obtain ⟨rfl, rfl⟩ := e
        have hbw : Below w.heap.size w _ := HB0.out.trans (hb5.mono (by omega))
        have HGM := Lib.hid (gives_at (b := w.heap.size + 1 + 1 + 1) HLM.out hlr HLL.out hbw s2 HSX.out (HFR.out _ hbw))
        rw [← HWM2.out, ← HWN2.out] at HGM
        have HR6 := Lib.hid ((hb5.block (w.heap.size + 1 + 1) (by omega)).trans HR0.out)
        clear x0 x1 x2 x3 x4 z0 z1 z2 z3 z4 y0 y1 y2 y3 y4 hown5 hg5 hb5 s2 s3 hlr hbw
        obtain ⟨⟨x0, x1, x2, x3, x4⟩, ⟨y0, y1, y2, y3, y4⟩⟩ := row5 HR6.out
        obtain ⟨⟨z0, z1, z2, z3, z4⟩, -⟩ := row5 s1
        obtain ⟨⟨v0, v1, v2, v3, v4⟩, ⟨q0, q1, q2, q3, q4⟩⟩ := row5 r5
        clear s1 r5
        go_wp2
        refine bodyPost_ret (res5 rfl rfl (st5_row HR6.out (.int .i64 6) (.int .i64 0) (.string ⟨#[]⟩) (.slice none 0 0) (.slice (some ⟨g', 0, none⟩) (0 + 1) c'))) rfl ?_
        exact HGM.out _ (by omega) (by omega) _ _ _ _ _ _ HR6.out
end Go.Proofs.Ytbepnjgbkfidiaa.Tr
