import Derived.Test.YtbepnjgbkfidiaaTtD
import Derived.Test.YtbepnjgbkfidiaaTtTsK
import Derived.Deep.AppendLies
import Derived.Deep.RegionLaw
/- Without of the document's answer. Written by tools/genTsN.py. -/
namespace Go.Proofs.Ytbepnjgbkfidiaa.Tr
open Go.Proofs Go.RowKit Go.Lib
open Go.Proofs.Ytbepnjgbkfidiaa.Utf
open Go.Proofs.Ytbepnjgbkfidiaa.Sc
open Go.Proofs.Ytbepnjgbkfidiaa.Re

/-- a map under way in block b: its members so far -/
def OutAt (wr : World) (b : Nat) (rows : List (List Value)) : Prop :=
  ∃ A c, wr.heap[b]? = some (.cells #[.int .i64 6, .int .i64 0, .string ⟨#[]⟩, .slice none 0 0, .slice A rows.length c] 25 (0, 0)) ∧ wr.ownsRow (b + 1) 50 6 (.slice A rows.length c) rows.length rows.flatten
theorem OutAt.far {wr : World} {b : Nat} {rows : List (List Value)} {A : Option Addr} {c : Nat} (hb : wr.heap[b]? = some (.cells #[.int .i64 6, .int .i64 0, .string ⟨#[]⟩, .slice none 0 0, .slice A rows.length c] 25 (0, 0)))
    (ho : wr.ownsRow (b + 1) 50 6 (.slice A rows.length c) rows.length rows.flatten) : (Value.slice A rows.length c).ownBlock ≠ some b := by
  intro e
  rcases ho.2 with ⟨e2, _⟩ | ⟨g, cap, cur, e2, _, hg, _⟩
  · rw [e2] at e; cases e
  · rw [e2] at e
    have e3 : g = b := by simpa [Value.ownBlock] using e
    subst e3
    rw [hb] at hg
    simp at hg
/-- .. one more: behind an append, and the store of the new slice -/
theorem OutAt.push {w1 : World} {b g cap : Nat} {rows : List (List Value)} {row : List Value} {s : Value} (hb : w1.heap[b]? = some (.cells #[.int .i64 6, .int .i64 0, .string ⟨#[]⟩, .slice none 0 0, s] 25 (0, 0)))
    (ho : w1.ownsRow (b + 1) 50 6 (.slice (some ⟨g, 0, none⟩) (rows.length + 1) cap) (rows.length + 1) (rows.flatten ++ row)) : OutAt (w1.setCell ⟨b, 4, none⟩ (.slice (some ⟨g, 0, none⟩) (rows.length + 1) cap)) b (rows ++ [row]) := by
  refine ⟨some ⟨g, 0, none⟩, cap, ?_, ?_⟩
  · have := rowSet w1 b 4 _ _ (.slice (some ⟨g, 0, none⟩) (rows.length + 1) cap) hb
    rw [List.length_append]
    exact this
  · have := own_other ho hb (by decide) ⟨b, 4, none⟩ rfl (.slice (some ⟨g, 0, none⟩) (rows.length + 1) cap)
    rw [List.length_append, List.flatten_append, List.flatten_singleton]
    exact this
theorem OutAt.same {wr w' : World} {b : Nat} {rows : List (List Value)} (h : OutAt wr b rows) (hb : Below wr.heap.size wr w') : OutAt w' b rows := by
  obtain ⟨A, c, h1, h2⟩ := h
  exact ⟨A, c, (hb.block b (Array.getElem?_eq_some_iff.1 h1).1).trans h1, own_below h2 hb⟩
theorem gives_out {w1 : World} {w : World} {ns : List (List UInt8)} {ms : List V} {b : Nat} {rows : List (List Value)} (hl : rows.length = ms.length) (hn : ns.length = ms.length) (hb : Below w.heap.size w w1) (ho : OutAt w1 b rows) (h6 : ∀ r ∈ rows, r.length = 6)
    (hr : ∀ k (h1 : k < ms.length) (h2 : k < rows.length) (h3 : k < ns.length), ∃ cs, rows[k] = .string (strOf ns[k]) :: cs ∧ RdA w1 0 w.heap.size ms[k] cs) : ∃ A c, w1.heap[b]? = some (.cells #[.int .i64 6, .int .i64 0, .string ⟨#[]⟩, .slice none 0 0, .slice A ms.length c] 25 (0, 0)) ∧ (∀ r, w.heap.size ≤ r → r ≤ b → ∀ t u0 u1 u2 u3 u4, w1.heap[r]? = some (.cells #[u0, u1, u2, u3, u4] t (0, 0)) →
      GivesM ns ms w (.returned (.agg #[.int .i64 6, .int .i64 0, .string ⟨#[]⟩, .slice none 0 0, .slice A ms.length c])) (st5 w1 r (.int .i64 6) (.int .i64 0) (.string ⟨#[]⟩) (.slice none 0 0) (.slice A ms.length c))) := by
  obtain ⟨A, c, h1, h2⟩ := ho
  have hgm := gm_of_own (w := w) (w' := w1) (ns := ns) (ms := ms) rfl hl h6 hr (hl ▸ h2)
  refine ⟨A, c, hl ▸ h1, fun r r1 r2 t u0 u1 u2 u3 u4 hrow => ⟨⟨A, c, rfl, hn, fun h0 => ?_⟩, st5_below hb r1 _ _ _ _ _⟩⟩
  obtain ⟨g, e, g1, g2, hk⟩ := hgm h0
  refine ⟨g, e, by omega, Nat.lt_of_lt_of_eq g2 (st5_size (w := w1) (b := r) _ _ _ _ _).symm, fun k k1 k2 => ?_⟩
  obtain ⟨cs, q1, q2⟩ := hk k k1 k2
  exact ⟨cs, q1.keep (st5_other (by omega) _ _ _ _ _), RdA.keep (fun p _ hp => cell_of_blk (st5_other (by omega) _ _ _ _ _)) (Nat.le_refl _) (Nat.le_refl _) _ _ q2⟩

theorem wo_out {v : V} {nm : List UInt8} (h : v.k ≠ 6) : woN v nm = [] ∧ woM v nm = [] := by
  have e : inN v = [] := if_neg h
  unfold woN woM
  rw [e]
  exact ⟨rfl, rfl⟩
set_option maxRecDepth 100000 in
set_option maxHeartbeats 600000 in
theorem rWithout_any (v : V) (cs : List Value) (nm : List UInt8) (w : World) (hv : RdA w 0 w.heap.size v cs) (hz : (inM v).length < 1466015503701) :
    Calls Try.prog 16 #[.agg cs.toArray, .string (strOf nm)] w (GivesM (woN v nm) (woM v nm) w) := by
  obtain ⟨i0, hi, hz0, hz1, hz2⟩ := info_parts infoMember
  have I0 := Lib.hid hi
  have I1 := Lib.hid hz0
  have I2 := Lib.hid hz1
  have I3 := Lib.hid hz2
  clear hi hz0 hz1 hz2
  have hlen := in_len hv
  obtain ⟨A0, c0, A20, c20, rfl, hns, -, hM⟩ := hv.cells
  have HM := Lib.hid hM
  have HNS := Lib.hid hns
  have HLEN := Lib.hid hlen
  have HZ := Lib.hid hz
  obtain ⟨m, hm⟩ : ∃ x, v.ms.length = x := ⟨_, rfl⟩
  obtain ⟨k, hk⟩ : ∃ x, v.k = x := ⟨_, rfl⟩
  have HN2 := Lib.hid hm
  have HK := Lib.hid hk
  rw [hm] at HM ⊢
  rw [hk]
  clear hv hz hM hns hlen hm hk
  generalize v.n = n
  generalize strOf v.s = S
  generalize v.l.length = l
  obtain ⟨W0, hW0⟩ : ∃ W0, W0 = (((w.alloc (.cells #[.int .i64 k, .int .i64 n, .string S, .slice A0 l c0, .slice A20 m c20] 25)).alloc (.cells #[.int .i64 0, .int .i64 0, .string ⟨#[]⟩, .slice none 0 0, .slice none 0 0] 25)).alloc (.cells #[.int .i64 6, .int .i64 0, .string ⟨#[]⟩, .slice none 0 0, .slice none 0 0] 25)) := ⟨_, rfl⟩
  have HB0 := Lib.hid (show Below w.heap.size w W0 by rw [hW0]; exact (((Below.refl _ _).alloc (Nat.le_refl _) _).alloc (by simp) _).alloc (by simp; omega) _)
  have HS0 := Lib.hid (show W0.heap.size = w.heap.size + 3 by rw [hW0, szAl, szAl, szAl])
  have HV0 := Lib.hid (show W0.heap[w.heap.size]? = some (.cells #[.int .i64 k, .int .i64 n, .string S, .slice A0 l c0, .slice A20 m c20] 25 (0, 0)) by rw [hW0]; exact heapOld (heapOld (heapNew _ _) _) _)
  have HR0 := Lib.hid (show W0.heap[w.heap.size + 1]? = some (.cells #[.int .i64 0, .int .i64 0, .string ⟨#[]⟩, .slice none 0 0, .slice none 0 0] 25 (0, 0)) by
    rw [hW0]; refine heapOld ?_ _; rw [show w.heap.size + 1 = (w.alloc (.cells #[.int .i64 k, .int .i64 n, .string S, .slice A0 l c0, .slice A20 m c20] 25)).heap.size by simp]; exact heapNew _ _)
  have HO0 := Lib.hid (show OutAt W0 (w.heap.size + 1 + 1) [] from ⟨none, 0, by
    rw [hW0, show w.heap.size + 1 + 1 = ((w.alloc (.cells #[.int .i64 k, .int .i64 n, .string S, .slice A0 l c0, .slice A20 m c20] 25)).alloc (.cells #[.int .i64 0, .int .i64 0, .string ⟨#[]⟩, .slice none 0 0, .slice none 0 0] 25)).heap.size by simp]; exact heapNew _ _, World.ownsRow_nil _ _ _ _⟩)
  have HW0 := Lib.hid hW0
  clear hW0
  by_cases h6 : k = 6
  · subst h6
    have hN : inN v = v.ns := if_pos HK.out
    have hMm : inM v = v.ms := if_pos HK.out
    have hzm := HZ.out
    rw [hMm, HN2.out] at hzm
    obtain ⟨d, hd⟩ := mems_of HNS.out (show 0 < v.ms.length → _ from fun h => HM.out (by rw [← HN2.out]; exact h))
    have HWN := Lib.hid (show woN v nm = ((d.zip v.ms).filter fun p => p.1.nm ≠ nm).map (fun p => p.1.nm) by unfold woN; rw [hN, hMm, ← hd.2.1, (zip_filter nm d v.ms).1])
    have HWM := Lib.hid (show woM v nm = ((d.zip v.ms).filter fun p => p.1.nm ≠ nm).map Prod.snd by unfold woM; rw [hN, hMm, ← hd.2.1, (zip_filter nm d v.ms).2])
    obtain ⟨pd, hpd⟩ : ∃ pd, pd = d.zip v.ms := ⟨_, rfl⟩
    have HPL := Lib.hid (show pd.length = m by rw [hpd, List.length_zip, hd.1, HN2.out]; omega)
    rw [← hpd] at HWN HWM
    have HX := Lib.hid (show ∀ i (h : i < pd.length), ∃ g o, A20 = some ⟨g, o, none⟩ ∧ g < w.heap.size ∧ M6At w g (o + i * 6) pd[i].1 ∧ RdA w 0 w.heap.size pd[i].2 (m6tail pd[i].1) from fun i h => by
      have h1 : i < d.length := by rw [hd.1, HN2.out, ← HPL.out]; exact h
      have h2 : i < v.ms.length := by rw [HN2.out, ← HPL.out]; exact h
      obtain ⟨g, o, e, _, g2, hr⟩ := hd.2.2.1 (by omega)
      have e1 : pd[i] = (d[i], v.ms[i]) := by simp [hpd]
      rw [e1]
      exact ⟨g, o, e, g2, hr i h1, hd.2.2.2 i h1 h2⟩)
    clear hN hMm hd hpd
    go_enter Try.func16, Try.ntmps16
    go_wp2_with fail
    rw [← HW0.out]
    go_loopw [6] (fun i wr => ∃ kk : Nat, i = .int .i64 kk ∧ kk ≤ m ∧ Aside (OutAt wr (w.heap.size + 1 + 1) (rowsK (kept pd nm kk))) ∧ Aside (Below (w.heap.size + 1 + 1) W0 wr)) (fun i _ => m - (intOf i).toNat)
    case atStart => exact ⟨0, rfl, by omega, (show OutAt _ _ _ from HO0.out), (show Below _ _ _ from Below.refl _ _)⟩
    case round =>
      obtain ⟨kk, rfl, hk, hout, hbel⟩ := hrel
      have hwb : Below w.heap.size w wr := HB0.out.trans (hbel.out.mono (by omega))
      have HWB := Lib.hid hwb
      obtain ⟨⟨p0, p1, p2, p3, p4⟩, -⟩ := row5 ((hbel.out.block w.heap.size (by omega)).trans HV0.out)
      have HRR := Lib.hid ((hbel.out.block (w.heap.size + 1) (by omega)).trans HR0.out)
      have hsw : w.heap.size + 3 ≤ wr.heap.size := by have := hbel.out.size; rw [HS0.out] at this; exact this
      by_cases hlt : kk < m
      · have t1 : decide ((kk : Int) < (m : Int)) = true := decide_eq_true (by omega)
        have t2 : decide (kk < m) = true := decide_eq_true hlt
        have k0 : (0 : Int) ≤ (kk : Int) := by omega
        have k1 : (kk : Int) < (m : Int) := by omega
        have k2 : ((kk : Int)).toNat = kk := by omega
        have hkl : kk < pd.length := by rw [HPL.out]; exact hlt
        obtain ⟨g, o, rfl, hg, hx, -⟩ := HX.out kk hkl
        have hx := hx.keep (W' := wr) (fun j => hwb.cell (p := ⟨g, j, none⟩) hg)
        by_cases hxn : pd[kk].1.nm = nm
        · have HKN := Lib.hid (kept_no hkl hxn)
          have hq : ((strOf pd[kk].1.nm).toList != (strOf nm).toList) = false := by rw [hxn]; simp
          have hq2 : ((strOf pd[kk].1.nm).toList == (strOf nm).toList) = true := by rw [hxn]; exact beq_self_eq_true _
          generalize pd[kk] = x at hx hq hq2
          obtain ⟨⟨xx, xk, xn, xs, xA, xl, xc, xB, xm, xd⟩, xv⟩ := x
          simp only [M6At] at hx
          obtain ⟨a0, a1, a2, a3, a4, a5⟩ := hx
          simp only at hq hq2
          clear hxn hwb
          generalize strOf xx = X at *
          generalize strOf nm = Y at *
          go_wp2
          go_roundw
          case rel =>
            refine ⟨kk + 1, by go_num, by omega, ?_, (show Below _ _ _ from hbel.out)⟩
            rw [HKN.out]
            exact (show OutAt _ _ _ from hout.out)
          case measure => simp [intOf]; omega
        · have HKY := Lib.hid (kept_yes hkl hxn)
          have hq : ((strOf pd[kk].1.nm).toList != (strOf nm).toList) = true := by
            rw [bne_iff_ne, strOf_list, strOf_list]
            exact hxn
          have hq2 : ((strOf pd[kk].1.nm).toList == (strOf nm).toList) = false := by
            rw [beq_eq_false_iff_ne, strOf_list, strOf_list]
            exact hxn
          have HRS := Lib.hid (show rowsK (kept pd nm (kk + 1)) = rowsK (kept pd nm kk) ++ [encM pd[kk].1] by rw [HKY.out]; simp [rowsK])
          have hle := kept_le pd nm kk
          have hnl : (rowsK (kept pd nm kk)).length ≤ kk := by simpa [rowsK] using hle
          obtain ⟨rows, hrows⟩ : ∃ r, rowsK (kept pd nm kk) = r := ⟨_, rfl⟩
          have HOT := Lib.hid hout.out
          rw [hrows] at HRS hnl HOT
          obtain ⟨A, c, ho1, ho2⟩ := HOT.out
          have hne := OutAt.far ho1 ho2
          obtain ⟨⟨z0, z1, z2, z3, z4⟩, ⟨y0, y1, y2, y3, y4⟩⟩ := row5 ho1
          generalize pd[kk] = x at hx hq hq2 HRS
          obtain ⟨⟨xx, xk, xn, xs, xA, xl, xc, xB, xm, xd⟩, xv⟩ := x
          simp only [M6At] at hx
          obtain ⟨a0, a1, a2, a3, a4, a5⟩ := hx
          simp only at hq hq2
          simp only [encM] at HRS
          generalize strOf xx = X at *
          generalize strOf nm = Y at *
          obtain ⟨N, hN⟩ : ∃ N, rows.length = N := ⟨_, rfl⟩
          have F : ∀ w1 : World, ((wr.alloc (.cells #[.string X, .int .i64 xk, .int .i64 xn, .string xs, .slice xA xl xc, .slice xB xm xd] 50)).drew).grownBy w1 (Value.slice A N c).ownBlock → w1.heap[w.heap.size + 1 + 1]? = some (.cells #[.int .i64 6, .int .i64 0, .string ⟨#[]⟩, .slice none 0 0, .slice A N c] 25 (0, 0)) := by
            intro w1 hgr
            rw [hgr.block (w.heap.size + 1 + 1) (by show _ < (wr.alloc _).heap.size; rw [szAl]; omega) (fun e => hne (by rw [hN]; exact e.symm))]
            show ((wr.alloc _).heap)[w.heap.size + 1 + 1]? = _
            exact heapOld (by rw [ho1, hN]) _
          have HNB : ((wr.alloc (.cells #[.string X, .int .i64 xk, .int .i64 xn, .string xs, .slice xA xl xc, .slice xB xm xd] 50)).drew).heap[wr.heap.size]? = some (.cells #[.string X, .int .i64 xk, .int .i64 xn, .string xs, .slice xA xl xc, .slice xB xm xd] 50 (0, 0)) := heapNew _ _
          have HG := Lib.hid (show ∀ (w1 : World) (g : Nat) (cap : Nat), ((wr.alloc (.cells #[.string X, .int .i64 xk, .int .i64 xn, .string xs, .slice xA xl xc, .slice xB xm xd] 50)).drew).grownBy w1 (Value.slice A N c).ownBlock → w1.ownsRow (w.heap.size + 1 + 1 + 1) 50 6 (.slice (some ⟨g, 0, none⟩) (N + 1) cap) (N + 1) (rows.flatten ++ [.string X, .int .i64 xk, .int .i64 xn, .string xs, .slice xA xl xc, .slice xB xm xd]) →
              OutAt (w1.setCell ⟨w.heap.size + 1 + 1, 4, none⟩ (.slice (some ⟨g, 0, none⟩) (N + 1) cap)) (w.heap.size + 1 + 1) (rowsK (kept pd nm (kk + 1))) ∧ Below (w.heap.size + 1 + 1) W0 (w1.setCell ⟨w.heap.size + 1 + 1, 4, none⟩ (.slice (some ⟨g, 0, none⟩) (N + 1) cap)) from fun w1 g cap hgr how => by
            have hf := F w1 hgr
            refine ⟨?_, ?_⟩
            · rw [HRS.out]
              subst hN
              exact OutAt.push hf how
            · exact (((hbel.out.alloc (by omega) _).drew).grown hgr (by show _ ≤ (wr.alloc _).heap.size; rw [szAl]; omega) (fun q hq => by have := (ho2.lt q (by rw [hN]; exact hq)).1; omega)).setCell (p := ⟨w.heap.size + 1 + 1, 4, none⟩) (Nat.le_refl _) _)
          have z4b : (wr.alloc (.cells #[.string X, .int .i64 xk, .int .i64 xn, .string xs, .slice xA xl xc, .slice xB xm xd] 50)).cell? ⟨w.heap.size + 1 + 1, 4, none⟩ = some (.slice A N c) := by
            have hq0 := heapOld ho1 (.cells #[.string X, .int .i64 xk, .int .i64 xn, .string xs, .slice xA xl xc, .slice xB xm xd] 50)
            rw [hN] at hq0
            exact (row5 hq0).1.2.2.2.2
          have hown : wr.ownsRow (w.heap.size + 1 + 1 + 1) 50 6 (.slice A N c) N rows.flatten := by rw [← hN]; exact ho2
          rw [hN] at z4
          have hi := I0.out
          have hz0 := I1.out
          have hz1 := I2.out
          have hz2 := I3.out
          clear hxn hwb ho1 ho2 HOT hout hne HKY
          go_wp2_with fail
          go_region_law
            (refine step_append_lies _ (by rfl) _ _ _ (by rfl) (w.heap.size + 1 + 1 + 1) 50 i0 _ 6 96 Try.underlying23 hi hz0 hz1 hz2 (by rfl) (by omega) (.slice A N c) N rows.flatten (by rfl) ((hown.alloc _).drew) ⟨wr.heap.size, 0, none⟩ 1 1 [.string X, .int .i64 xk, .int .i64 xn, .string xs, .slice xA xl xc, .slice xB xm xd] (by rfl) (by rfl) (World.news_of_block (cs := #[.string X, .int .i64 xk, .int .i64 xn, .string xs, .slice xA xl xc, .slice xB xm xd]) (t := 50) (fr := (0, 0)) HNB) (by simp [Value.oneCell']) (by omega) (by unfold maxLen; omega) (by omega) (by simp; omega) (wr.heap.size + 1) (by simp) ?_; intro g cap w1 hown1 hg1 hat hlt1; have x0 := F w1 hg1; have x1 : w1.cell? ⟨w.heap.size + 1 + 1, 4, none⟩ = some (.slice A N c) := (cell_of_row w1 (w.heap.size + 1 + 1) 4 _ _ _ x0).trans rfl; have x2 : w1.frozen? ⟨w.heap.size + 1 + 1, 4, none⟩ = false := frozen_of_row w1 (w.heap.size + 1 + 1) 4 _ _ x0)
          all_goals
            go_wp2
            go_roundw
            case rel => exact ⟨kk + 1, by go_num, by omega, (show OutAt _ _ _ from (HG.out _ _ _ hg1 hown1).1), (show Below _ _ _ from (HG.out _ _ _ hg1 hown1).2)⟩
            case measure => simp [intOf]; omega
      · have t1 : decide ((kk : Int) < (m : Int)) = false := decide_eq_false (by omega)
        have t2 : decide (kk < m) = false := decide_eq_false hlt
        have hkn : kk = pd.length := by rw [HPL.out]; omega
        have hmem : ∀ q (h : q < (kept pd nm kk).length), ∃ i, ∃ h : i < pd.length, (kept pd nm kk)[q] = pd[i] := fun q h => by
          have := List.getElem_mem h
          unfold kept at this
          obtain ⟨i, hi, e⟩ := List.getElem_of_mem (List.mem_of_mem_take (List.mem_filter.1 this).1)
          exact ⟨i, hi, e.symm⟩
        have hwn : woN v nm = (kept pd nm kk).map fun p => p.1.nm := by rw [HWN.out, hkn]; unfold kept; rw [List.take_length]
        have hwm : woM v nm = (kept pd nm kk).map Prod.snd := by rw [HWM.out, hkn]; unfold kept; rw [List.take_length]
        obtain ⟨A, c, hrow, hgm⟩ := gives_out (w := w) (w1 := wr) (ns := woN v nm) (ms := woM v nm) (b := w.heap.size + 1 + 1) (rows := rowsK (kept pd nm kk)) (by rw [hwm]; simp [rowsK]) (by rw [hwn, hwm]; simp) hwb hout.out (fun r hr => by
          obtain ⟨p, _, rfl⟩ := List.mem_map.1 hr
          rfl) (fun q h1 h2 h3 => by
          have hq : q < (kept pd nm kk).length := by simpa [rowsK] using h2
          obtain ⟨i, hi, e⟩ := hmem q hq
          obtain ⟨-, -, -, -, -, hrd⟩ := HX.out i hi
          refine ⟨m6tail pd[i].1, ?_, ?_⟩
          · simp only [rowsK, List.getElem_map, hwn, e]; rfl
          · simp only [hwm, List.getElem_map, e]
            exact RdA.keep (fun p _ hp => hwb.cell (p := p) hp) (Nat.le_refl _) (Nat.le_refl _) _ _ hrd)
        have HGM := Lib.hid hgm
        obtain ⟨⟨z0, z1, z2, z3, z4⟩, -⟩ := row5 hrow
        obtain ⟨⟨x0, x1, x2, x3, x4⟩, ⟨y0, y1, y2, y3, y4⟩⟩ := row5 HRR.out
        clear hmem hwn hwm hgm hwb hout hbel hkn hrow
        generalize (woM v nm).length = N at *
        go_wp2
        refine bodyPost_ret (res5 rfl rfl (st5_row HRR.out (.int .i64 6) (.int .i64 0) (.string ⟨#[]⟩) (.slice none 0 0) (.slice A N c))) rfl ?_
        exact HGM.out _ (by omega) (by omega) _ _ _ _ _ _ HRR.out
  · have n6 : decide (k = 6) = false := decide_eq_false h6
    obtain ⟨e1, e2⟩ := wo_out (v := v) (nm := nm) (by rw [HK.out]; exact h6)
    rw [e1, e2]
    obtain ⟨A, c, hrow, hgm⟩ := gives_out (w := w) (w1 := W0) (ns := []) (ms := []) (b := w.heap.size + 1 + 1) (rows := []) rfl rfl HB0.out HO0.out (fun r hr => by cases hr) (fun q h1 => by cases h1)
    rw [List.length_nil] at hrow hgm
    have HGM := Lib.hid hgm
    obtain ⟨⟨z0, z1, z2, z3, z4⟩, -⟩ := row5 hrow
    obtain ⟨⟨p0, p1, p2, p3, p4⟩, -⟩ := row5 HV0.out
    obtain ⟨⟨x0, x1, x2, x3, x4⟩, ⟨y0, y1, y2, y3, y4⟩⟩ := row5 HR0.out
    clear hgm hrow e1 e2
    go_enter Try.func16, Try.ntmps16
    go_wp2_with fail
    rw [← HW0.out]
    go_loopw [6] (fun i wr => i = .int .i64 0 ∧ Aside (wr = W0)) (fun i _ => 0)
    case atStart => exact ⟨rfl, (show _ = _ from rfl)⟩
    case round =>
      obtain ⟨rfl, hw⟩ := hrel
      obtain rfl : wr = W0 := hw.out
      clear hw
      by_cases hlt : 0 < m
      · have t1 : decide ((0 : Int) < (m : Int)) = true := decide_eq_true (by omega)
        have t2 : decide (0 < m) = true := decide_eq_true hlt
        go_wp2
        refine bodyPost_ret (res5 rfl rfl (st5_row HR0.out (.int .i64 6) (.int .i64 0) (.string ⟨#[]⟩) (.slice none 0 0) (.slice A 0 c))) rfl ?_
        exact HGM.out _ (by omega) (by omega) _ _ _ _ _ _ HR0.out
      · have t1 : decide ((0 : Int) < (m : Int)) = false := decide_eq_false (by omega)
        have t2 : decide (0 < m) = false := decide_eq_false hlt
        go_wp2
        refine bodyPost_ret (res5 rfl rfl (st5_row HR0.out (.int .i64 6) (.int .i64 0) (.string ⟨#[]⟩) (.slice none 0 0) (.slice A 0 c))) rfl ?_
        exact HGM.out _ (by omega) (by omega) _ _ _ _ _ _ HR0.out
end Go.Proofs.Ytbepnjgbkfidiaa.Tr
