/- Merged: PaW2. -/
import Derived.Test.YtbfogkcnfnjcaaaTt40
set_option linter.unusedSimpArgs false
namespace Go.Proofs.Ytbfogkcnfnjcaaa.Pa
open Go.Proofs Go.RowKit
open Go.Proofs.Ytbfogkcnfnjcaaa.Utf
open Go.Proofs.Ytbfogkcnfnjcaaa.Sc
open Go.Proofs.Ytbfogkcnfnjcaaa.Re
open Go.Proofs.Ytbfogkcnfnjcaaa.Tr
open Go.Proofs.Ytbfogkcnfnjcaaa.Po
open Go.Proofs.Ytbfogkcnfnjcaaa.Em (lenV szU wfV szA_of chk Check_any)

def Six (w : World) (b o : Nat) (v0 v1 v2 v3 v4 v5 : Value) : Prop := w.cell? ⟨b, o, none⟩ = some v0 ∧ w.cell? ⟨b, o + 1, none⟩ = some v1 ∧ w.cell? ⟨b, o + 2, none⟩ = some v2 ∧ w.cell? ⟨b, o + 3, none⟩ = some v3 ∧ w.cell? ⟨b, o + 4, none⟩ = some v4 ∧ w.cell? ⟨b, o + 5, none⟩ = some v5
theorem Six.keep {w w' : World} {b o : Nat} {v0 v1 v2 v3 v4 v5 : Value} (h : Six w b o v0 v1 v2 v3 v4 v5) (c : ∀ i, w'.cell? ⟨b, i, none⟩ = w.cell? ⟨b, i, none⟩) : Six w' b o v0 v1 v2 v3 v4 v5 :=
  ⟨(c _).trans h.1, (c _).trans h.2.1, (c _).trans h.2.2.1, (c _).trans h.2.2.2.1, (c _).trans h.2.2.2.2.1, (c _).trans h.2.2.2.2.2⟩
theorem ap_of {ls mps : List (List UInt8)} {nl nm : Nat} (h1 : ls.length = nl) (h2 : mps.length = nm) (h : ¬ ls.take (min nl nm) = mps.take (min nl nm)) : apP mps ls := by
  subst h1 h2
  refine ⟨fun k => h ?_, fun k => h ?_⟩
  · have := k.length_le
    rw [Nat.min_eq_right this, List.take_length]
    exact (List.prefix_iff_eq_take.1 k).symm
  · have := k.length_le
    rw [Nat.min_eq_left this, List.take_length]
    exact List.prefix_iff_eq_take.1 k
set_option maxRecDepth 100000 in
set_option maxHeartbeats 2000000 in
theorem alone_walk (v : V) (cv : List Value) (p : V) (cp : List Value) (X : ByteArray) (w : World) (hv : RdA w 0 w.heap.size v cv) (zv : szU v ≤ 1048576) (fv : wfV v) (hp : RdA w 0 w.heap.size p cp) (zp : szU p ≤ 1048576) (fp : wfV p) (hX : X.size ≤ 1048576) :
    Calls Try.prog 3 #[.agg cv.toArray, .agg cp.toArray, .string X] w fun e w' => e = .returned (.bool true) ∧ Below w.heap.size w w' := by
  obtain ⟨at_, rfl⟩ : ∃ l : List UInt8, X = strOf l := ⟨X.data.toList, rfl⟩
  rw [strOf_size] at hX
  have lv := Em.len_of_RdA v cv hv
  have lp := Em.len_of_RdA p cp hp
  have sv : szA 4611686018427387904 v := szA_of _ v fv (by omega)
  have sp : szA 4611686018427387904 p := szA_of _ p fp (by omega)
  have HFEW := Lib.hid (fun (W : World) (hW : Below w.heap.size w W) => few_any v p cv cp W (hv.below hW (Nat.le_refl _) hW.size) (hp.below hW (Nat.le_refl _) hW.size) sv sp)
  have HCV := Lib.hid (fun (W : World) (hW : Below w.heap.size w W) => Check_any v cv 0 W sv (hv.below hW (Nat.le_refl _) hW.size))
  have _HCP := Lib.hid (fun (W : World) (hW : Below w.heap.size w W) => Check_any p cp 0 W sp (hp.below hW (Nat.le_refl _) hW.size))
  have HAP := Lib.hid (fun (W : World) (hW : Below w.heap.size w W) => Apply_any v p cv cp W (hv.below hW (Nat.le_refl _) hW.size) (hp.below hW (Nat.le_refl _) hW.size) fv fp (by omega) (by omega))
  have HOUT := Lib.hid (show fitP v p → lenV (aplV v (lst p)) ∧ wfV (aplV v (lst p)) ∧ szU (aplV v (lst p)) ≤ 2097152 from fun h => by
    have hf := fit_of h lp
    refine ⟨apl_len _ v hf lv, wfV_apl _ v hf lv fv (fun m hm => by
      obtain ⟨nm, _, h2, _⟩ := lst_mem hm
      exact wfV_ms fp _ h2), ?_⟩
    have h1 := szU_take hf lv (lst p).length
    rw [apl_all] at h1
    omega)
  obtain ⟨cV, hcV⟩ : ∃ c, chk v = c := ⟨_, rfl⟩
  rw [hcV] at HCV
  have HPT := Lib.hid (fun (W : World) => Parts_any (strOf at_) (by rw [strOf_size]; omega) W)
  rw [strOf_data] at HPT
  have HFV := Lib.hid (fun (W : World) (hW : Below w.heap.size w W) => Find_any v cv at_ W (hv.below hW (Nat.le_refl _) hW.size) (szA_of _ v fv (by omega)) (by omega))
  have HFX := Lib.hid (fun (x : V) (cx : List Value) (W : World) (h1 : RdA W 0 W.heap.size x cx) (h2 : szA 140737488355328 x) => Find_any x cx at_ W h1 h2 (by omega))
  have HFT := Lib.hid (fun h : fitP v p => fit_of h lp)
  have HP := Lib.hid hp
  have HFP := Lib.hid fp
  have HZP := Lib.hid zp
  have HLV := Lib.hid lv
  have HNMV := Lib.hid (nm_of v cv hv)
  have HSV := Lib.hid (szA_of 140737488355328 v fv (by omega))
  have HPN := Lib.hid (ns_len lp)
  have hXs : (strOf at_).size = at_.length := strOf_size at_
  have HAT := Lib.hid (show at_.length ≤ 4398046511104 by omega)
  obtain ⟨A1, c1, A2, c2, ev, -⟩ := hv.cells
  obtain ⟨B1, e1, B2, e2, ep, hnl, -, hpm⟩ := hp.cells
  obtain ⟨d, hd⟩ := mems_of hnl hpm
  have HDL := Lib.hid hd.1
  have HDN := Lib.hid hd.2.1
  have HDR := Lib.hid (show RawM w w.heap.size B2 d from fun h => by
    obtain ⟨g, o, e, _, g2, hr⟩ := hd.2.2.1 h
    exact ⟨g, o, e, g2, hr⟩)
  have HDV := Lib.hid hd.2.2.2
  have HZM := Lib.hid (show ∀ y ∈ p.ms, szA 4611686018427387904 y from fun y hy => szAL_mem ((szA_eq _ p).1 sp).2.2.2.2.2.2.2 hy)
  have HZN := Lib.hid (show ∀ nm ∈ p.ns, nm.length ≤ 4398046511000 from ((szA_eq _ p).1 (szA_of 4398046511000 p fp (by omega))).2.2.2.2.2.1)
  have HPML := Lib.hid (show p.ms.length ≤ 1048576 from Nat.le_trans (ms_szU p) zp)
  obtain ⟨pm, hlen⟩ : ∃ pm, p.ms.length = pm := ⟨_, rfl⟩
  have HPM := Lib.hid hlen
  subst ev ep
  rw [hlen] at HFEW HAP HP ⊢
  clear hv hp zv zp fv fp lv lp sv sp hcV hnl hpm hd hlen
  by_cases hat : at_.length ≤ 100
  · have d1 : decide ((100 : Int) < ((strOf at_).size : Int)) = false := decide_eq_false (by rw [hXs]; omega)
    have d2 : decide (100 < (strOf at_).size) = false := decide_eq_false (by rw [hXs]; omega)
    clear hat hX hXs
    generalize strOf at_ = X at *
    generalize v.k = k at *
    generalize v.n = n at *
    generalize strOf v.s = S at *
    generalize v.l.length = l1 at *
    generalize v.ms.length = m1 at *
    generalize p.k = pk at *
    generalize p.n = pn at *
    generalize strOf p.s = PS at *
    generalize p.l.length = pl at *
    obtain ⟨W0, hW0⟩ : ∃ W0, W0 = ((w.alloc (.cells #[.int .i64 k, .int .i64 n, .string S, .slice A1 l1 c1, .slice A2 m1 c2] 25)).alloc (.cells #[.int .i64 pk, .int .i64 pn, .string PS, .slice B1 pl e1, .slice B2 pm e2] 25)) := ⟨_, rfl⟩
    have HBW0 := Lib.hid (show Below w.heap.size w W0 by rw [hW0]; exact ((Below.refl _ _).alloc (Nat.le_refl _) _).alloc (by simp) _)
    have hs0 : W0.heap.size = w.heap.size + 2 := by rw [hW0, szAl, szAl]
    have RW0_0 := Lib.hid (show W0.heap[w.heap.size]? = some (.cells #[.int .i64 k, .int .i64 n, .string S, .slice A1 l1 c1, .slice A2 m1 c2] 25 (0, 0)) by rw [hW0]; exact heapOld ((show (w.alloc (.cells #[.int .i64 k, .int .i64 n, .string S, .slice A1 l1 c1, .slice A2 m1 c2] 25)).heap[w.heap.size]? = some (.cells #[.int .i64 k, .int .i64 n, .string S, .slice A1 l1 c1, .slice A2 m1 c2] 25 (0, 0)) from by rw [show w.heap.size = w.heap.size by simp]; exact heapNew _ _)) _)
    have LW0_0 := Lib.hid (show w.heap.size < W0.heap.size by omega)
    have RW0_1 := Lib.hid (show W0.heap[w.heap.size + 1]? = some (.cells #[.int .i64 pk, .int .i64 pn, .string PS, .slice B1 pl e1, .slice B2 pm e2] 25 (0, 0)) by rw [hW0]; exact (show ((w.alloc (.cells #[.int .i64 k, .int .i64 n, .string S, .slice A1 l1 c1, .slice A2 m1 c2] 25)).alloc (.cells #[.int .i64 pk, .int .i64 pn, .string PS, .slice B1 pl e1, .slice B2 pm e2] 25)).heap[w.heap.size + 1]? = some (.cells #[.int .i64 pk, .int .i64 pn, .string PS, .slice B1 pl e1, .slice B2 pm e2] 25 (0, 0)) from by rw [show w.heap.size + 1 = (w.alloc (.cells #[.int .i64 k, .int .i64 n, .string S, .slice A1 l1 c1, .slice A2 m1 c2] 25)).heap.size by simp]; exact heapNew _ _))
    have LW0_1 := Lib.hid (show w.heap.size + 1 < W0.heap.size by omega)
    have HW0 := Lib.hid hW0
    clear hW0 hs0
    go_enter Try.func3, Try.ntmps3
    go_wp2_with fail
    rw [← HW0.out]
    refine (awake_any9 _).mono ?_
    rintro e w1 ⟨rfl, hb⟩
    have Rw1_0 := Lib.hid (show w1.heap[w.heap.size]? = some (.cells #[.int .i64 k, .int .i64 n, .string S, .slice A1 l1 c1, .slice A2 m1 c2] 25 (0, 0)) from (hb.block _ LW0_0.out).trans RW0_0.out)
    have Lw1_0 := Lib.hid (show w.heap.size < w1.heap.size from Nat.lt_of_lt_of_le LW0_0.out hb.size)
    have Rw1_1 := Lib.hid (show w1.heap[w.heap.size + 1]? = some (.cells #[.int .i64 pk, .int .i64 pn, .string PS, .slice B1 pl e1, .slice B2 pm e2] 25 (0, 0)) from (hb.block _ LW0_1.out).trans RW0_1.out)
    have Lw1_1 := Lib.hid (show w.heap.size + 1 < w1.heap.size from Nat.lt_of_lt_of_le LW0_1.out hb.size)
    have HBw1 := Lib.hid (HBW0.out.trans (hb.mono HBW0.out.size))
    clear hb
    obtain ⟨⟨p0_0, p0_1, p0_2, p0_3, p0_4⟩, -⟩ := row5 Rw1_0.out
    obtain ⟨⟨p1_0, p1_1, p1_2, p1_3, p1_4⟩, -⟩ := row5 Rw1_1.out
    go_wp2_with fail
    clear p0_0 p0_1 p0_2 p0_3 p0_4 p1_0 p1_1 p1_2 p1_3 p1_4
    refine (HFEW.out _ HBw1.out).mono ?_
    rintro e w2 ⟨⟨b, rfl⟩, hb⟩
    have Rw2_0 := Lib.hid (show w2.heap[w.heap.size]? = some (.cells #[.int .i64 k, .int .i64 n, .string S, .slice A1 l1 c1, .slice A2 m1 c2] 25 (0, 0)) from (hb.block _ Lw1_0.out).trans Rw1_0.out)
    have Lw2_0 := Lib.hid (show w.heap.size < w2.heap.size from Nat.lt_of_lt_of_le Lw1_0.out hb.size)
    have Rw2_1 := Lib.hid (show w2.heap[w.heap.size + 1]? = some (.cells #[.int .i64 pk, .int .i64 pn, .string PS, .slice B1 pl e1, .slice B2 pm e2] 25 (0, 0)) from (hb.block _ Lw1_1.out).trans Rw1_1.out)
    have Lw2_1 := Lib.hid (show w.heap.size + 1 < w2.heap.size from Nat.lt_of_lt_of_le Lw1_1.out hb.size)
    have HBw2 := Lib.hid (HBw1.out.trans (hb.mono HBw1.out.size))
    clear hb
    cases b
    · obtain ⟨⟨p0_0, p0_1, p0_2, p0_3, p0_4⟩, -⟩ := row5 Rw2_0.out
      obtain ⟨⟨p1_0, p1_1, p1_2, p1_3, p1_4⟩, -⟩ := row5 Rw2_1.out
      go_wp2_with fail
      clear p0_0 p0_1 p0_2 p0_3 p0_4 p1_0 p1_1 p1_2 p1_3 p1_4
      refine (awake_any9 _).mono ?_
      rintro e w3 ⟨rfl, hb⟩
      have Rw3_0 := Lib.hid (show w3.heap[w.heap.size]? = some (.cells #[.int .i64 k, .int .i64 n, .string S, .slice A1 l1 c1, .slice A2 m1 c2] 25 (0, 0)) from (hb.block _ Lw2_0.out).trans Rw2_0.out)
      have Lw3_0 := Lib.hid (show w.heap.size < w3.heap.size from Nat.lt_of_lt_of_le Lw2_0.out hb.size)
      have Rw3_1 := Lib.hid (show w3.heap[w.heap.size + 1]? = some (.cells #[.int .i64 pk, .int .i64 pn, .string PS, .slice B1 pl e1, .slice B2 pm e2] 25 (0, 0)) from (hb.block _ Lw2_1.out).trans Rw2_1.out)
      have Lw3_1 := Lib.hid (show w.heap.size + 1 < w3.heap.size from Nat.lt_of_lt_of_le Lw2_1.out hb.size)
      have HBw3 := Lib.hid (HBw2.out.trans (hb.mono HBw2.out.size))
      clear hb
      go_wp2
      go_ret
      exact ⟨rfl, HBw3.out⟩
    · obtain ⟨⟨p0_0, p0_1, p0_2, p0_3, p0_4⟩, -⟩ := row5 Rw2_0.out
      obtain ⟨⟨p1_0, p1_1, p1_2, p1_3, p1_4⟩, -⟩ := row5 Rw2_1.out
      go_wp2_with fail
      clear p0_0 p0_1 p0_2 p0_3 p0_4 p1_0 p1_1 p1_2 p1_3 p1_4
      refine (HCV.out _ HBw2.out).mono ?_
      rintro e w3 ⟨rfl, hb⟩
      have Rw3_0 := Lib.hid (show w3.heap[w.heap.size]? = some (.cells #[.int .i64 k, .int .i64 n, .string S, .slice A1 l1 c1, .slice A2 m1 c2] 25 (0, 0)) from (hb.block _ Lw2_0.out).trans Rw2_0.out)
      have Lw3_0 := Lib.hid (show w.heap.size < w3.heap.size from Nat.lt_of_lt_of_le Lw2_0.out hb.size)
      have Rw3_1 := Lib.hid (show w3.heap[w.heap.size + 1]? = some (.cells #[.int .i64 pk, .int .i64 pn, .string PS, .slice B1 pl e1, .slice B2 pm e2] 25 (0, 0)) from (hb.block _ Lw2_1.out).trans Rw2_1.out)
      have Lw3_1 := Lib.hid (show w.heap.size + 1 < w3.heap.size from Nat.lt_of_lt_of_le Lw2_1.out hb.size)
      have HBw3 := Lib.hid (HBw2.out.trans (hb.mono HBw2.out.size))
      clear hb
      by_cases hcV : cV = 0
      · have HcV := Lib.hid hcV
        subst hcV
        obtain ⟨⟨p0_0, p0_1, p0_2, p0_3, p0_4⟩, -⟩ := row5 Rw3_0.out
        obtain ⟨⟨p1_0, p1_1, p1_2, p1_3, p1_4⟩, -⟩ := row5 Rw3_1.out
        go_wp2_with fail
        clear p0_0 p0_1 p0_2 p0_3 p0_4 p1_0 p1_1 p1_2 p1_3 p1_4
        refine (HAP.out _ HBw3.out).mono ?_
        rintro e w4 ⟨⟨xs, xe, rfl, hx⟩, hb⟩
        have Rw4_0 := Lib.hid (show w4.heap[w.heap.size]? = some (.cells #[.int .i64 k, .int .i64 n, .string S, .slice A1 l1 c1, .slice A2 m1 c2] 25 (0, 0)) from (hb.block _ Lw3_0.out).trans Rw3_0.out)
        have Lw4_0 := Lib.hid (show w.heap.size < w4.heap.size from Nat.lt_of_lt_of_le Lw3_0.out hb.size)
        have Rw4_1 := Lib.hid (show w4.heap[w.heap.size + 1]? = some (.cells #[.int .i64 pk, .int .i64 pn, .string PS, .slice B1 pl e1, .slice B2 pm e2] 25 (0, 0)) from (hb.block _ Lw3_1.out).trans Rw3_1.out)
        have Lw4_1 := Lib.hid (show w.heap.size + 1 < w4.heap.size from Nat.lt_of_lt_of_le Lw3_1.out hb.size)
        have HBw4 := Lib.hid (HBw3.out.trans (hb.mono HBw3.out.size))
        clear hb
        rcases hx with ⟨hfit, e0, F, hx1, -, hx3⟩ | ⟨hfit, e0, ex⟩
        · subst e0
          have HFIT := Lib.hid hfit
          obtain ⟨x, hxv⟩ : ∃ x : V, aplV v (lst p) = x := ⟨_, rfl⟩
          obtain ⟨hxl, hxw, hxz⟩ := HOUT.out hfit
          have hx := RdF.toA (lo := 0) (hi := w4.heap.size) _ _ _ (fun k hk => ⟨Nat.zero_le _, (hx3 k hk).2⟩) hx1
          rw [hxv] at hx hxl hxw hxz
          have HXV := Lib.hid hxv
          have Hx := Lib.hid hx
          have HXF := Lib.hid (And.intro hxl (And.intro hxw hxz))
          obtain ⟨xA, xc, xB, xd, ex, -⟩ := hx.cells
          subst ex
          clear hx hx1 hx3 hfit hxv hxl hxw hxz
          generalize x.k = xk at *
          generalize x.n = xn at *
          generalize strOf x.s = xS at *
          generalize x.l.length = xl at *
          generalize x.ms.length = xm at *
          have Fw4_x := Lib.hid (Below.refl w4.heap.size w4)
          obtain ⟨W4, hW4⟩ : ∃ W4, W4 = w4.alloc (.cells #[.int .i64 xk, .int .i64 xn, .string xS, .slice xA xl xc, .slice xB xm xd] 25) := ⟨_, rfl⟩
          have hb : Below w4.heap.size w4 W4 := by rw [hW4]; exact (Below.refl _ _).alloc (Nat.le_refl _) _
          have RW4_0 := Lib.hid (show W4.heap[w.heap.size]? = some (.cells #[.int .i64 k, .int .i64 n, .string S, .slice A1 l1 c1, .slice A2 m1 c2] 25 (0, 0)) from (hb.block _ Lw4_0.out).trans Rw4_0.out)
          have LW4_0 := Lib.hid (show w.heap.size < W4.heap.size from Nat.lt_of_lt_of_le Lw4_0.out hb.size)
          have RW4_1 := Lib.hid (show W4.heap[w.heap.size + 1]? = some (.cells #[.int .i64 pk, .int .i64 pn, .string PS, .slice B1 pl e1, .slice B2 pm e2] 25 (0, 0)) from (hb.block _ Lw4_1.out).trans Rw4_1.out)
          have LW4_1 := Lib.hid (show w.heap.size + 1 < W4.heap.size from Nat.lt_of_lt_of_le Lw4_1.out hb.size)
          have FW4_x := Lib.hid (Fw4_x.out.trans (hb.mono Fw4_x.out.size))
          have HBW4 := Lib.hid (HBw4.out.trans (hb.mono HBw4.out.size))
          have RW4_2 := Lib.hid (show W4.heap[w4.heap.size]? = some (.cells #[.int .i64 xk, .int .i64 xn, .string xS, .slice xA xl xc, .slice xB xm xd] 25 (0, 0)) by rw [hW4]; exact heapNew _ _)
          have LW4_2 := Lib.hid (show w4.heap.size < W4.heap.size by rw [hW4, szAl]; exact Nat.lt_succ_self _)
          have HW4 := Lib.hid hW4
          clear hW4 hb
          have q0 := RW4_0.out
          rw [HW4.out] at q0
          obtain ⟨⟨p0_0, p0_1, p0_2, p0_3, p0_4⟩, -⟩ := row5 q0
          clear q0
          have q1 := RW4_1.out
          rw [HW4.out] at q1
          obtain ⟨⟨p1_0, p1_1, p1_2, p1_3, p1_4⟩, -⟩ := row5 q1
          clear q1
          have q2 := RW4_2.out
          rw [HW4.out] at q2
          obtain ⟨⟨p2_0, p2_1, p2_2, p2_3, p2_4⟩, -⟩ := row5 q2
          clear q2
          go_wp2_with fail
          rw [← HW4.out]
          clear p0_0 p0_1 p0_2 p0_3 p0_4 p1_0 p1_1 p1_2 p1_3 p1_4 p2_0 p2_1 p2_2 p2_3 p2_4
          refine (HPT.out _).mono ?_
          rintro e w5 ⟨hres, hb⟩
          have Rw5_0 := Lib.hid (show w5.heap[w.heap.size]? = some (.cells #[.int .i64 k, .int .i64 n, .string S, .slice A1 l1 c1, .slice A2 m1 c2] 25 (0, 0)) from (hb.block _ LW4_0.out).trans RW4_0.out)
          have Lw5_0 := Lib.hid (show w.heap.size < w5.heap.size from Nat.lt_of_lt_of_le LW4_0.out hb.size)
          have Rw5_1 := Lib.hid (show w5.heap[w.heap.size + 1]? = some (.cells #[.int .i64 pk, .int .i64 pn, .string PS, .slice B1 pl e1, .slice B2 pm e2] 25 (0, 0)) from (hb.block _ LW4_1.out).trans RW4_1.out)
          have Lw5_1 := Lib.hid (show w.heap.size + 1 < w5.heap.size from Nat.lt_of_lt_of_le LW4_1.out hb.size)
          have Rw5_2 := Lib.hid (show w5.heap[w4.heap.size]? = some (.cells #[.int .i64 xk, .int .i64 xn, .string xS, .slice xA xl xc, .slice xB xm xd] 25 (0, 0)) from (hb.block _ LW4_2.out).trans RW4_2.out)
          have Lw5_2 := Lib.hid (show w4.heap.size < w5.heap.size from Nat.lt_of_lt_of_le LW4_2.out hb.size)
          have Fw5_x := Lib.hid (FW4_x.out.trans (hb.mono FW4_x.out.size))
          have HBw5 := Lib.hid (HBW4.out.trans (hb.mono HBW4.out.size))
          clear hb
          rcases hres with ⟨ls, lv, hls, rfl, hown⟩ | ⟨hls, rfl⟩
          · have HLS := Lib.hid hls
            have HOW := Lib.hid (RdS.of_own hown)
            obtain ⟨lA, lc, rfl⟩ := own_is_slice hown
            obtain ⟨nl, hnl⟩ : ∃ nl, ls.length = nl := ⟨_, rfl⟩
            have HNL := Lib.hid hnl
            rw [hnl] at HOW ⊢
            clear hls hown hnl
            have Fw5_l := Lib.hid (Below.refl w5.heap.size w5)
            obtain ⟨⟨p0_0, p0_1, p0_2, p0_3, p0_4⟩, -⟩ := row5 Rw5_0.out
            obtain ⟨⟨p1_0, p1_1, p1_2, p1_3, p1_4⟩, -⟩ := row5 Rw5_1.out
            obtain ⟨⟨p2_0, p2_1, p2_2, p2_3, p2_4⟩, -⟩ := row5 Rw5_2.out
            go_wp2_with fail
            clear p0_0 p0_1 p0_2 p0_3 p0_4 p1_0 p1_1 p1_2 p1_3 p1_4 p2_0 p2_1 p2_2 p2_3 p2_4
            go_loopw [11] (fun si wr => ∃ kk : Nat, si = .int .i64 kk ∧ kk ≤ pm ∧ Aside (∀ j (h : j < d.length), j < kk → apP (pth d[j].nm) ls) ∧ Aside (Below w5.heap.size w5 wr)) (fun si _ => pm - (intOf si).toNat)
            case atStart => exact ⟨0, rfl, by omega, (show ∀ j (_ : j < d.length), _ → _ from fun j _ h => by omega), (show Below _ _ _ from Below.refl _ _)⟩
            case round =>
              obtain ⟨kk, rfl, hk, hap, hbel⟩ := hrel
              obtain ⟨wo, hwo⟩ : ∃ wo, wo = wr := ⟨_, rfl⟩
              subst hwo
              have HAPT := Lib.hid hap.out
              have hb := hbel.out
              clear hap hbel
              have Rwo_0 := Lib.hid (show wo.heap[w.heap.size]? = some (.cells #[.int .i64 k, .int .i64 n, .string S, .slice A1 l1 c1, .slice A2 m1 c2] 25 (0, 0)) from (hb.block _ Lw5_0.out).trans Rw5_0.out)
              have Lwo_0 := Lib.hid (show w.heap.size < wo.heap.size from Nat.lt_of_lt_of_le Lw5_0.out hb.size)
              have Rwo_1 := Lib.hid (show wo.heap[w.heap.size + 1]? = some (.cells #[.int .i64 pk, .int .i64 pn, .string PS, .slice B1 pl e1, .slice B2 pm e2] 25 (0, 0)) from (hb.block _ Lw5_1.out).trans Rw5_1.out)
              have Lwo_1 := Lib.hid (show w.heap.size + 1 < wo.heap.size from Nat.lt_of_lt_of_le Lw5_1.out hb.size)
              have Rwo_2 := Lib.hid (show wo.heap[w4.heap.size]? = some (.cells #[.int .i64 xk, .int .i64 xn, .string xS, .slice xA xl xc, .slice xB xm xd] 25 (0, 0)) from (hb.block _ Lw5_2.out).trans Rw5_2.out)
              have Lwo_2 := Lib.hid (show w4.heap.size < wo.heap.size from Nat.lt_of_lt_of_le Lw5_2.out hb.size)
              have Fwo_x := Lib.hid (Fw5_x.out.trans (hb.mono Fw5_x.out.size))
              have Fwo_l := Lib.hid (Fw5_l.out.trans (hb.mono Fw5_l.out.size))
              have HBwo := Lib.hid (HBw5.out.trans (hb.mono HBw5.out.size))
              have HBL := Lib.hid hb
              clear hb
              have Fwo_o := Lib.hid (Below.refl wo.heap.size wo)
              by_cases hlt : kk < pm
              · have t1 : decide ((kk : Int) < (pm : Int)) = true := decide_eq_true (by omega)
                have t2 : decide (kk < pm) = true := decide_eq_true hlt
                have k0 : (0 : Int) ≤ (kk : Int) := by omega
                have k1 : (kk : Int) < (pm : Int) := by omega
                have k2 : ((kk : Int)).toNat = kk := by omega
                have HLT := Lib.hid hlt
                have hkm : kk < p.ms.length := by rw [HPM.out]; exact hlt
                have hkd : kk < d.length := by rw [HDL.out]; exact hkm
                have hkn : kk < p.ns.length := by rw [HPN.out]; exact hkm
                have hkl : kk < (lst p).length := by rw [lst_len HPN.out]; exact hkm
                have hnk : p.ns[kk] = d[kk].nm := by
                  have : (d.map M6.nm)[kk]'(by rw [List.length_map]; exact hkd) = p.ns[kk] := by simp only [HDN.out]
                  rw [← this, List.getElem_map]
                obtain ⟨mps, hpts, -⟩ := HFIT.out.2.2.2.1 _ (List.getElem_mem hkn)
                have hmp := pth_of hpts
                have heach := apl_each _ v (HFT.out HFIT.out) HLV.out _ (List.getElem_mem hkl)
                rw [lst_get hkl hkn hkm, hmp, HXV.out] at heach
                rw [hnk] at hpts hmp
                have HVAL := Lib.hid (HDV.out kk hkd hkm)
                have HZY := Lib.hid (HZM.out _ (List.getElem_mem hkm))
                have hql := HZN.out _ (List.getElem_mem hkn)
                rw [hnk] at hql
                obtain ⟨bb, off, rfl, hbb, hcl⟩ := HDR.out (by omega)
                have hcx := (hcl kk hkd).keep (W' := wo) (fun j => HBwo.out.cell (p := ⟨bb, j, none⟩) hbb)
                have HBB := Lib.hid (show bb < w.heap.size from hbb)
                have HCL := Lib.hid (hcl kk hkd)
                have HNX := Lib.hid (show apP mps ls → ∀ j (h : j < d.length), j < kk + 1 → apP (pth d[j].nm) ls from fun ha j h hj => by
                  by_cases e : j = kk
                  · subst e; rw [hmp]; exact ha
                  · exact HAPT.out j h (by omega))
                obtain ⟨m, hm⟩ : ∃ m, d[kk]'hkd = m := ⟨_, rfl⟩
                rw [hm] at hcx hpts hql HVAL HCL
                obtain ⟨qq, qk, qn, qS, qA, ql, qc, qB, qm, qd⟩ := m
                simp only at hpts hql
                simp only [m6tail] at HVAL
                simp only [M6At] at hcx HCL
                obtain ⟨a0, a1, a2, a3, a4, a5⟩ := hcx
                obtain ⟨z, hz⟩ : ∃ z, p.ms[kk] = z := ⟨_, rfl⟩
                rw [hz] at heach HVAL HZY
                have HEACH := Lib.hid heach
                have HZK := Lib.hid (show z.k = qk by
                  obtain ⟨_, _, _, _, e, -⟩ := HVAL.out.cells
                  injection e with e _
                  injection e with _ e
                  exact e.symm)
                have HQL := Lib.hid (show mps.length ≤ 4398046511001 by have := (prts_len hpts).1; rw [List.length_cons] at this; omega)
                have HPA := Lib.hid (fun (W : World) => Parts_any (strOf (47 :: qq)) (by rw [strOf_size, List.length_cons]; omega) W)
                rw [strOf_data, hpts] at HPA
                have HLEAD := Lib.hid (show leadsV leadV (47 :: qq) x = if z.k = 1 then (V0, 81) else (z, 0) by
                  unfold leadsV
                  rw [hpts]
                  simp only []
                  rw [fol_lead HEACH.out.1, HEACH.out.2]
                  by_cases h1 : z.k = 1
                  · rw [if_pos h1, if_pos h1]
                  · rw [if_neg h1, if_neg h1])
                have HFQ := Lib.hid (fun (W : World) (cx : List Value) (h1 : RdA W 0 W.heap.size x cx) => Find_any x cx (47 :: qq) W h1 (szA_of _ x HXF.out.2.1 (by have := HXF.out.2.2; omega)) (by rw [List.length_cons]; omega))
                obtain ⟨QX, hX⟩ : ∃ QX, strOf qq = QX := ⟨_, rfl⟩
                obtain ⟨PX, hPX⟩ : ∃ PX, strOf (47 :: qq) = PX := ⟨_, rfl⟩
                have hadd : ∀ W : World, (Op.stringOp .add ⟨#[47]⟩ QX).run Try.prog W = .ok (.string PX) W := fun W => by
                  rw [← hPX, ← slash_app, hX]
                  exact run_string_add_sum W _ _ (by show 1 + QX.size ≤ 9223372036854775807; rw [← hX, strOf_size]; omega)
                have HADD := Lib.hid hadd
                rw [hX] at a0 HCL
                rw [hPX] at HPA HFQ
                clear hX hPX hkm hkd hkn hkl hnk hpts hmp heach hql hbb hcl hm hz hlt
                obtain ⟨⟨p0_0, p0_1, p0_2, p0_3, p0_4⟩, -⟩ := row5 Rwo_0.out
                obtain ⟨⟨p1_0, p1_1, p1_2, p1_3, p1_4⟩, -⟩ := row5 Rwo_1.out
                obtain ⟨⟨p2_0, p2_1, p2_2, p2_3, p2_4⟩, -⟩ := row5 Rwo_2.out
                go_wp2_with fail
                clear p0_0 p0_1 p0_2 p0_3 p0_4 p1_0 p1_1 p1_2 p1_3 p1_4 p2_0 p2_1 p2_2 p2_3 p2_4
                refine (HPA.out _).mono ?_
                rintro e w6 ⟨hres, hb⟩
                have Rw6_0 := Lib.hid (show w6.heap[w.heap.size]? = some (.cells #[.int .i64 k, .int .i64 n, .string S, .slice A1 l1 c1, .slice A2 m1 c2] 25 (0, 0)) from (hb.block _ Lwo_0.out).trans Rwo_0.out)
                have Lw6_0 := Lib.hid (show w.heap.size < w6.heap.size from Nat.lt_of_lt_of_le Lwo_0.out hb.size)
                have Rw6_1 := Lib.hid (show w6.heap[w.heap.size + 1]? = some (.cells #[.int .i64 pk, .int .i64 pn, .string PS, .slice B1 pl e1, .slice (some ⟨bb, off, none⟩) pm e2] 25 (0, 0)) from (hb.block _ Lwo_1.out).trans Rwo_1.out)
                have Lw6_1 := Lib.hid (show w.heap.size + 1 < w6.heap.size from Nat.lt_of_lt_of_le Lwo_1.out hb.size)
                have Rw6_2 := Lib.hid (show w6.heap[w4.heap.size]? = some (.cells #[.int .i64 xk, .int .i64 xn, .string xS, .slice xA xl xc, .slice xB xm xd] 25 (0, 0)) from (hb.block _ Lwo_2.out).trans Rwo_2.out)
                have Lw6_2 := Lib.hid (show w4.heap.size < w6.heap.size from Nat.lt_of_lt_of_le Lwo_2.out hb.size)
                have Fw6_x := Lib.hid (Fwo_x.out.trans (hb.mono Fwo_x.out.size))
                have Fw6_l := Lib.hid (Fwo_l.out.trans (hb.mono Fwo_l.out.size))
                have Fw6_o := Lib.hid (Fwo_o.out.trans (hb.mono Fwo_o.out.size))
                have HBw6 := Lib.hid (HBwo.out.trans (hb.mono HBwo.out.size))
                obtain ⟨ps, mv, hps, rfl, hown⟩ := hres.resolve_right (fun h => by cases h.1)
                injection hps with hps
                subst hps
                have HMW := Lib.hid (RdS.of_own hown)
                obtain ⟨mA, mc, rfl⟩ := own_is_slice hown
                obtain ⟨nm, hnm⟩ : ∃ nm, mps.length = nm := ⟨_, rfl⟩
                have HNM := Lib.hid hnm
                rw [hnm] at HMW ⊢
                clear hres hown hnm hadd a0 a1 a2 a3 a4 a5
                clear hb
                have Fw6_m := Lib.hid (Below.refl w6.heap.size w6)
                have HNL7 := Lib.hid (show nl < 4611686018427387904 by have := (prts_len HLS.out).1; have := HNL.out; have := HAT.out; omega)
                have HNM7 := Lib.hid (show nm < 4611686018427387904 by have := HQL.out; have := HNM.out; omega)
                obtain ⟨N, hN⟩ : ∃ N, min nl nm = N := ⟨_, rfl⟩
                have HNN := Lib.hid hN
                have hmn : min (nl : Int) (nm : Int) = (N : Int) := by omega
                obtain ⟨⟨p0_0, p0_1, p0_2, p0_3, p0_4⟩, -⟩ := row5 Rw6_0.out
                obtain ⟨⟨p1_0, p1_1, p1_2, p1_3, p1_4⟩, -⟩ := row5 Rw6_1.out
                obtain ⟨⟨p2_0, p2_1, p2_2, p2_3, p2_4⟩, -⟩ := row5 Rw6_2.out
                go_wp2_with fail
                clear p0_0 p0_1 p0_2 p0_3 p0_4 p1_0 p1_1 p1_2 p1_3 p1_4 p2_0 p2_1 p2_2 p2_3 p2_4
                clear hmn hN
                go_loopw [15, 16] (fun bv si wr => ∃ (j : Nat) (sm : Bool), bv = .bool sm ∧ si = .int .i64 j ∧ j ≤ N ∧ Aside (sm = true ↔ ls.take j = mps.take j) ∧ Aside (Below w6.heap.size w6 wr)) (fun _ si _ => N - (intOf si).toNat)
                case atStart => exact ⟨0, true, rfl, rfl, by omega, (show (true = true ↔ _) from by simp), (show Below _ _ _ from Below.refl _ _)⟩
                case round =>
                  obtain ⟨j, sm, rfl, rfl, hj, hsm, hbel⟩ := hrel
                  obtain ⟨wj, hwj⟩ : ∃ wj, wj = wr := ⟨_, rfl⟩
                  subst hwj
                  have HSM := Lib.hid hsm.out
                  have HBJ := Lib.hid hbel.out
                  have hb := hbel.out
                  clear hsm hbel
                  have Rwj_0 := Lib.hid (show wj.heap[w.heap.size]? = some (.cells #[.int .i64 k, .int .i64 n, .string S, .slice A1 l1 c1, .slice A2 m1 c2] 25 (0, 0)) from (hb.block _ Lw6_0.out).trans Rw6_0.out)
                  have Lwj_0 := Lib.hid (show w.heap.size < wj.heap.size from Nat.lt_of_lt_of_le Lw6_0.out hb.size)
                  have Rwj_1 := Lib.hid (show wj.heap[w.heap.size + 1]? = some (.cells #[.int .i64 pk, .int .i64 pn, .string PS, .slice B1 pl e1, .slice (some ⟨bb, off, none⟩) pm e2] 25 (0, 0)) from (hb.block _ Lw6_1.out).trans Rw6_1.out)
                  have Lwj_1 := Lib.hid (show w.heap.size + 1 < wj.heap.size from Nat.lt_of_lt_of_le Lw6_1.out hb.size)
                  have Rwj_2 := Lib.hid (show wj.heap[w4.heap.size]? = some (.cells #[.int .i64 xk, .int .i64 xn, .string xS, .slice xA xl xc, .slice xB xm xd] 25 (0, 0)) from (hb.block _ Lw6_2.out).trans Rw6_2.out)
                  have Lwj_2 := Lib.hid (show w4.heap.size < wj.heap.size from Nat.lt_of_lt_of_le Lw6_2.out hb.size)
                  have Fwj_x := Lib.hid (Fw6_x.out.trans (hb.mono Fw6_x.out.size))
                  have Fwj_l := Lib.hid (Fw6_l.out.trans (hb.mono Fw6_l.out.size))
                  have Fwj_o := Lib.hid (Fw6_o.out.trans (hb.mono Fw6_o.out.size))
                  have Fwj_m := Lib.hid (Fw6_m.out.trans (hb.mono Fw6_m.out.size))
                  have HBwj := Lib.hid (HBw6.out.trans (hb.mono HBw6.out.size))
                  clear hb
                  by_cases hl2 : j < N
                  · have s1 : decide ((j : Int) < (N : Int)) = true := decide_eq_true (by omega)
                    have s2 : decide (j < N) = true := decide_eq_true hl2
                    have j0 : (0 : Int) ≤ (j : Int) := by omega
                    have j2 : ((j : Int)).toNat = j := by omega
                    have hjn : j < nl ∧ j < nm := by have := HNN.out; omega
                    have j3 : (j : Int) < (nl : Int) := by omega
                    have j4 : (j : Int) < (nm : Int) := by omega
                    have hjl : j < ls.length := by rw [HNL.out]; exact hjn.1
                    have hjm : j < mps.length := by rw [HNM.out]; exact hjn.2
                    have HL2 := Lib.hid hl2
                    have hN7 := HNL7.out
                    have hM7 := HNM7.out
                    cases sm
                    · have HNO := Lib.hid (show ¬ ls.take (j + 1) = mps.take (j + 1) from fun e => by
                        have h1 : ls.take j = mps.take j := by
                          have := congrArg (List.take j) e
                          simpa [List.take_take] using this
                        have := HSM.out.2 h1
                        cases this)
                      clear hl2 hjl hjm hjn
                      go_wp2_with (go_quiet (fail))
                      go_roundw
                      case rel => exact ⟨j + 1, false, rfl, by go_num, by have := HL2.out; omega, (show (false = true ↔ _) from by simp [HNO.out]), (show Below _ _ _ from bDrewN HBJ.out _)⟩
                      case measure => have := HL2.out; simp [intOf]; omega
                    · have hap := (RdS.below HOW.out Fwj_l.out Fwj_l.out.size)
                      have hbp := (RdS.below HMW.out Fwj_m.out Fwj_m.out.size)
                      obtain ⟨lA', lc', e1, -, hx1⟩ := hap
                      obtain ⟨mA', mc', e2, -, hx2⟩ := hbp
                      injection e1 with e1 _ _
                      injection e2 with e2 _ _
                      subst e1 e2
                      obtain ⟨ad, rfl, -, hx1⟩ := hx1 (by omega)
                      obtain ⟨bd, rfl, -, hx2⟩ := hx2 (by omega)
                      have ap := hx1 j _ (strC_at ls j hjl)
                      have bp := hx2 j _ (strC_at mps j hjm)
                      by_cases he : ls[j] = mps[j]
                      · have tt : ((strOf ls[j]).toList == (strOf mps[j]).toList) = true := by rw [he]; simp
                        have HNO := Lib.hid (show ls.take (j + 1) = mps.take (j + 1) by rw [List.take_succ_eq_append_getElem hjl, List.take_succ_eq_append_getElem hjm, HSM.out.1 rfl, he])
                        generalize strOf ls[j] = Y1 at *
                        generalize strOf mps[j] = Y2 at *
                        clear hl2 hjl hjm hjn he hx1 hx2
                        go_wp2_with (go_quiet (fail))
                        go_roundw
                        case rel => exact ⟨j + 1, true, rfl, by go_num, by have := HL2.out; omega, (show (true = true ↔ _) from by simp [HNO.out]), (show Below _ _ _ from bDrewN HBJ.out _)⟩
                        case measure => have := HL2.out; simp [intOf]; omega
                      · have tt : ((strOf ls[j]).toList == (strOf mps[j]).toList) = false := by rw [strOf_list, strOf_list]; exact beq_eq_false_iff_ne.2 he
                        have HNO := Lib.hid (show ¬ ls.take (j + 1) = mps.take (j + 1) from fun e => he (by
                          have h1 : (ls.take (j + 1))[j]'(by simp; omega) = (mps.take (j + 1))[j]'(by simp; omega) := by simp only [e]
                          simpa using h1))
                        generalize strOf ls[j] = Y1 at *
                        generalize strOf mps[j] = Y2 at *
                        clear hl2 hjl hjm hjn he hx1 hx2
                        go_wp2_with (go_quiet (fail))
                        go_roundw
                        case rel => exact ⟨j + 1, false, rfl, by go_num, by have := HL2.out; omega, (show (false = true ↔ _) from by simp [HNO.out]), (show Below _ _ _ from bDrewN HBJ.out _)⟩
                        case measure => have := HL2.out; simp [intOf]; omega
                  · have s1 : decide ((j : Int) < (N : Int)) = false := decide_eq_false (by omega)
                    have s2 : decide (j < N) = false := decide_eq_false hl2
                    have HJN := Lib.hid (show j = min nl nm by have := HNN.out; omega)
                    clear hl2 hj
                    cases sm
                    · have HAPM := Lib.hid (HNX.out (ap_of HNL.out HNM.out (by rw [← HJN.out]; intro h; have := HSM.out.2 h; cases this)))
                      have hpmm : pm ≤ 1048576 := by rw [← HPM.out]; exact HPML.out
                      obtain ⟨⟨p0_0, p0_1, p0_2, p0_3, p0_4⟩, -⟩ := row5 Rwj_0.out
                      obtain ⟨⟨p1_0, p1_1, p1_2, p1_3, p1_4⟩, -⟩ := row5 Rwj_1.out
                      obtain ⟨⟨p2_0, p2_1, p2_2, p2_3, p2_4⟩, -⟩ := row5 Rwj_2.out
                      go_wp2
                      go_roundw
                      case rel => exact ⟨kk + 1, by go_num, by have := HLT.out; omega, (show ∀ _ _, _ → _ from HAPM.out), (show Below _ _ _ from HBL.out.trans (Fwj_o.out.mono HBL.out.size))⟩
                      case measure => have := HLT.out; simp [intOf]; omega
                    · by_cases hle : nm ≤ nl
                      · have s3 : decide ((nm : Int) ≤ (nl : Int)) = true := decide_eq_true (by omega)
                        have s4 : decide (nm ≤ nl) = true := decide_eq_true hle
                        clear hle
                        have HPX := Lib.hid (show w.heap.size + 1 < wj.heap.size from Lwj_1.out)
                        have HEX := Lib.hid (show w4.heap.size < wj.heap.size from Lwj_2.out)
                        have HBBJ := Lib.hid (show bb < wj.heap.size by have := HBB.out; have := HBwj.out.size; omega)
                        have HC6 := Lib.hid (show Six w bb (off + kk * 6) (.string QX) (.int .i64 qk) (.int .i64 qn) (.string qS) (.slice qA ql qc) (.slice qB qm qd) from HCL.out)
                        have HCJ := Lib.hid (HC6.out.keep (w' := wj) (fun i => HBwj.out.cell (p := ⟨bb, i, none⟩) HBB.out))
                        have HSJ := Lib.hid (show wj.heap[w4.heap.size]? = some (.cells #[.int .i64 xk, .int .i64 xn, .string xS, .slice xA xl xc, .slice xB xm xd] 25 (0, 0)) ∧ wj.heap[w.heap.size + 1]? = some (.cells #[.int .i64 pk, .int .i64 pn, .string PS, .slice B1 pl e1, .slice (some ⟨bb, off, none⟩) pm e2] 25 (0, 0)) ∧ wj.cell? ⟨bb, off + kk * 6, none⟩ = some (.string QX) from ⟨Rwj_2.out, Rwj_1.out, HCJ.out.1⟩)
                        have HFJ := Lib.hid (fun (W : World) (hW : Below wj.heap.size wj W) => HFQ.out W [.int .i64 xk, .int .i64 xn, .string xS, .slice xA xl xc, .slice xB xm xd] (Hx.out.below (Fwj_x.out.trans (hW.mono Fwj_x.out.size)) (Nat.le_refl _) (Nat.le_trans Fwj_x.out.size hW.size)))
                        rw [HLEAD.out] at HFJ
                        by_cases hq1 : qk = 1
                        · have u1 : (qk == 1) = true := beq_iff_eq.2 hq1
                          rw [if_pos (HZK.out.trans hq1)] at HFJ
                          clear hq1
                          obtain ⟨⟨p0_0, p0_1, p0_2, p0_3, p0_4⟩, -⟩ := row5 Rwj_0.out
                          obtain ⟨⟨p1_0, p1_1, p1_2, p1_3, p1_4⟩, -⟩ := row5 Rwj_1.out
                          obtain ⟨⟨p2_0, p2_1, p2_2, p2_3, p2_4⟩, -⟩ := row5 Rwj_2.out
                          go_wp2_with fail
                          clear p0_0 p0_1 p0_2 p0_3 p0_4 p1_0 p1_1 p1_2 p1_3 p1_4 p2_0 p2_1 p2_2 p2_3 p2_4
                          refine wp_region_held_drew (S := fun W' => W'.heap[w4.heap.size]? = some (.cells #[.int .i64 xk, .int .i64 xn, .string xS, .slice xA xl xc, .slice xB xm xd] 25 (0, 0)) ∧ W'.heap[w.heap.size + 1]? = some (.cells #[.int .i64 pk, .int .i64 pn, .string PS, .slice B1 pl e1, .slice (some ⟨bb, off, none⟩) pm e2] 25 (0, 0)) ∧ W'.cell? ⟨bb, off + kk * 6, none⟩ = some (.string QX)) (by kernel_rfl) (HSJ.out) (fun hHeld => ?_)
                          refine wpAnyH_take (i := 0) (oi := { dst := some 108, op := Op.load 25 (Operand.tmp 7), type := 25, pos := "law.go:60", after := #[], guard := none }) (v := ?_) rfl (by kernel_rfl) (by kernel_rfl) (by kernel_rfl) (fun _ _ _ h => h) (Or.inl ⟨by rfl, ?_⟩) hHeld ?_
                          rotate_left
                          · intro w hSw; (try dsimp only at hSw); obtain ⟨⟨p0, p1, p2, p3, p4⟩, -⟩ := row5 hSw.1; go_simp; with_reducible rfl
                          try simp only [Act.put, List.setIfInBounds_toArray, List.set_cons_zero, List.set_cons_succ]
                          refine wpAnyH_take (i := 1) (oi := { dst := some 109, op := Op.fieldAddr 25 (Operand.tmp 4) 4, type := 0, pos := "law.go:60", after := #[], guard := none }) (v := ?_) rfl (by kernel_rfl) (by kernel_rfl) (by kernel_rfl) (fun _ _ _ h => h) (Or.inl ⟨by rfl, ?_⟩) hHeld ?_
                          rotate_left
                          · intro w hSw; (try dsimp only at hSw); go_simp; with_reducible rfl
                          try simp only [Act.put, List.setIfInBounds_toArray, List.set_cons_zero, List.set_cons_succ]
                          refine wpAnyH_take (i := 2) (oi := { dst := some 110, op := Op.load 23 (Operand.tmp 109), type := 23, pos := "law.go:60", after := #[{ on := 1, ground := Ground.data }], guard := none }) (v := ?_) rfl (by kernel_rfl) (by kernel_rfl) (by kernel_rfl) (fun _ _ _ h => h) (Or.inl ⟨by rfl, ?_⟩) hHeld ?_
                          rotate_left
                          · intro w hSw; (try dsimp only at hSw); obtain ⟨⟨p0, p1, p2, p3, p4⟩, -⟩ := row5 hSw.2.1; go_simp; with_reducible rfl
                          try simp only [Act.put, List.setIfInBounds_toArray, List.set_cons_zero, List.set_cons_succ]
                          refine wpAnyH_take (i := 3) (oi := { dst := some 111, op := Op.move (Operand.tmp 11), type := 3, pos := "law.go:60", after := #[], guard := none }) (v := ?_) rfl (by kernel_rfl) (by kernel_rfl) (by kernel_rfl) (fun _ _ _ h => h) (Or.inl ⟨by rfl, ?_⟩) hHeld ?_
                          rotate_left
                          · intro w hSw; (try dsimp only at hSw); go_simp; with_reducible rfl
                          try simp only [Act.put, List.setIfInBounds_toArray, List.set_cons_zero, List.set_cons_succ]
                          refine wpAnyH_take (i := 4) (oi := { dst := some 112, op := Op.indexAddr 23 (Operand.tmp 110) (Operand.tmp 111), type := 0, pos := "law.go:60", after := #[{ on := 2, ground := Ground.data }, { on := 3, ground := Ground.data }], guard := none }) (v := ?_) rfl (by kernel_rfl) (by kernel_rfl) (by kernel_rfl) (fun _ _ _ h => h) (Or.inl ⟨by rfl, ?_⟩) hHeld ?_
                          rotate_left
                          · intro w hSw; (try dsimp only at hSw); go_simp; with_reducible rfl
                          try simp only [Act.put, List.setIfInBounds_toArray, List.set_cons_zero, List.set_cons_succ]
                          refine wpAnyH_take (i := 5) (oi := { dst := some 113, op := Op.fieldAddr 36 (Operand.tmp 112) 0, type := 0, pos := "law.go:60", after := #[{ on := 4, ground := Ground.data }], guard := none }) (v := ?_) rfl (by kernel_rfl) (by kernel_rfl) (by kernel_rfl) (fun _ _ _ h => h) (Or.inl ⟨by rfl, ?_⟩) hHeld ?_
                          rotate_left
                          · intro w hSw; (try dsimp only at hSw); go_simp; with_reducible rfl
                          try simp only [Act.put, List.setIfInBounds_toArray, List.set_cons_zero, List.set_cons_succ]
                          refine wpAnyH_take (i := 6) (oi := { dst := some 114, op := Op.load 9 (Operand.tmp 113), type := 9, pos := "law.go:60", after := #[{ on := 5, ground := Ground.data }], guard := none }) (v := ?_) rfl (by kernel_rfl) (by kernel_rfl) (by kernel_rfl) (fun _ _ _ h => h) (Or.inl ⟨by rfl, ?_⟩) hHeld ?_
                          rotate_left
                          · intro w hSw; (try dsimp only at hSw); have hq := hSw.2.2; go_simp; with_reducible rfl
                          try simp only [Act.put, List.setIfInBounds_toArray, List.set_cons_zero, List.set_cons_succ]
                          refine wpAnyH_take (i := 7) (oi := { dst := some 115, op := Op.binOp BinOp.add 9 (Operand.const (Value.string { data := #[47] })) (Operand.tmp 114) 9, type := 9, pos := "law.go:60", after := #[{ on := 6, ground := Ground.data }], guard := none }) (v := ?_) rfl (by kernel_rfl) (by kernel_rfl) (by kernel_rfl) (fun _ _ _ h => h) (Or.inl ⟨by rfl, ?_⟩) hHeld ?_
                          rotate_left
                          · intro w hSw; (try dsimp only at hSw); have hq := HADD.out; go_simp; (try rw [hq]); with_reducible rfl
                          try simp only [Act.put, List.setIfInBounds_toArray, List.set_cons_zero, List.set_cons_succ]
                          refine wpAnyH_ready (rs := [8, 12]) (by kernel_rfl) (by simp) ?_
                          refine AllReadyH.cons (o := { dst := some 116, op := Op.call { callee := Callee.value (Operand.func 12), args := #[Operand.tmp 108, Operand.tmp 115], argTypes := #[25, 9] }, type := 30, pos := "law.go:60", after := #[{ on := 0, ground := Ground.data }, { on := 7, ground := Ground.data }], guard := none }) rfl (fun K hK => ?_) (AllReadyH.cons (o := { dst := some 17, op := Op.alloc 25, type := 0, pos := "law.go:60", after := #[], guard := none }) rfl (fun K hK => ?_) AllReadyH.nil)
                          · go_simp
                            go_at_call 12
                            refine (HFJ.out _ (Below.drew (Below.refl wj.heap.size wj))).mono ?_
                            rintro e w8 ⟨⟨cy, rfl, hcy⟩, hb8⟩
                            simp only at hcy ⊢
                            have Hy := Lib.hid hcy.wide
                            obtain ⟨yA, yc, yB, yd, ey, -⟩ := hcy.cells
                            subst ey
                            clear hcy
                            generalize (V0).k = yk at *
                            generalize (V0).n = yn at *
                            generalize strOf (V0).s = yS at *
                            generalize (V0).l.length = yl at *
                            generalize (V0).ms.length = ym at *
                            have HB8 := Lib.hid (show Below wj.heap.size wj w8 from (Below.drew (Below.refl wj.heap.size wj)).trans (hb8.mono (Below.drew (Below.refl wj.heap.size wj)).size))
                            have HSX8 := Lib.hid (show w8.heap[w4.heap.size]? = some (.cells #[.int .i64 xk, .int .i64 xn, .string xS, .slice xA xl xc, .slice xB xm xd] 25 (0, 0)) ∧ w8.heap[w.heap.size + 1]? = some (.cells #[.int .i64 pk, .int .i64 pn, .string PS, .slice B1 pl e1, .slice (some ⟨bb, off, none⟩) pm e2] 25 (0, 0)) ∧ w8.cell? ⟨bb, off + kk * 6, none⟩ = some (.string QX) from ⟨(HB8.out.block _ HEX.out).trans HSJ.out.1, (HB8.out.block _ HPX.out).trans HSJ.out.2.1, (HB8.out.cell (show bb < _ from HBBJ.out)).trans HSJ.out.2.2⟩)
                            clear hb8
                            refine hK.out _ _ (HSX8.out) (fun hHeld => ?_)
                            clear hK K
                            try simp only [Act.put, List.setIfInBounds_toArray, List.set_cons_zero, List.set_cons_succ]
                            refine wpAnyH_take (i := 9) (oi := { dst := some 107, op := Op.move (Operand.tmp 116), type := 30, pos := "law.go:60", after := #[{ on := 8, ground := Ground.data }], guard := none }) (v := ?_) rfl (by kernel_rfl) (by kernel_rfl) (by kernel_rfl) (fun _ _ _ h => h) (Or.inl ⟨by rfl, ?_⟩) hHeld ?_
                            rotate_left
                            · intro w hSw; (try dsimp only at hSw); go_simp; with_reducible rfl
                            try simp only [Act.put, List.setIfInBounds_toArray, List.set_cons_zero, List.set_cons_succ]
                            refine wpAnyH_take (i := 10) (oi := { dst := some 117, op := Op.extract (Operand.tmp 107) 0, type := 25, pos := "law.go:60", after := #[{ on := 9, ground := Ground.data }], guard := none }) (v := ?_) rfl (by kernel_rfl) (by kernel_rfl) (by kernel_rfl) (fun _ _ _ h => h) (Or.inl ⟨by rfl, ?_⟩) hHeld ?_
                            rotate_left
                            · intro w hSw; (try dsimp only at hSw); go_simp; with_reducible rfl
                            try simp only [Act.put, List.setIfInBounds_toArray, List.set_cons_zero, List.set_cons_succ]
                            refine wpAnyH_take (i := 11) (oi := { dst := some 118, op := Op.extract (Operand.tmp 107) 1, type := 28, pos := "law.go:60", after := #[{ on := 9, ground := Ground.data }, { on := 13, ground := Ground.gcOnly Departure.lateStores }], guard := none }) (v := ?_) rfl (by kernel_rfl) (by kernel_rfl) (by kernel_rfl) (fun _ _ _ h => h) (Or.inl ⟨by rfl, ?_⟩) hHeld ?_
                            rotate_left
                            · intro w hSw; (try dsimp only at hSw); go_simp; with_reducible rfl
                            try simp only [Act.put, List.setIfInBounds_toArray, List.set_cons_zero, List.set_cons_succ]
                            refine wpAnyH_ready (rs := [12]) (by kernel_rfl) (by simp) ?_
                            refine AllReadyH.cons (o := { dst := some 17, op := Op.alloc 25, type := 0, pos := "law.go:60", after := #[], guard := none }) rfl (fun K hK => ?_) AllReadyH.nil
                            have HZ := Lib.hid (heapNew w8 (.cells #[.int .i64 0, .int .i64 0, .string ⟨#[]⟩, .slice none 0 0, .slice none 0 0] 25))
                            go_simp
                            refine hK.out _ _ (⟨heapOld hHeld.1 _, heapOld hHeld.2.1 _, (World.cell?_of_block (Below.heap_alloc _ _ _ (lt_of_cell hHeld.2.2))).trans hHeld.2.2⟩) (fun hHeld => ?_)
                            clear hK K
                            try simp only [Act.put, List.setIfInBounds_toArray, List.set_cons_zero, List.set_cons_succ]
                            refine wpAnyH_ready (rs := [13]) (by kernel_rfl) (by simp) ?_
                            refine AllReadyH.cons (o := { dst := none, op := Op.store 25 (Operand.tmp 17) (Operand.tmp 117), type := 0, pos := "law.go:60", after := #[{ on := 12, ground := Ground.data }, { on := 10, ground := Ground.data }, { on := 8, ground := Ground.chain }, { on := 0, ground := Ground.phase }, { on := 1, ground := Ground.phase }, { on := 2, ground := Ground.phase }, { on := 3, ground := Ground.phase }, { on := 4, ground := Ground.phase }, { on := 5, ground := Ground.phase }, { on := 6, ground := Ground.phase }, { on := 7, ground := Ground.phase }, { on := 8, ground := Ground.phase }, { on := 9, ground := Ground.phase }, { on := 10, ground := Ground.phase }, { on := 11, ground := Ground.textOnly Departure.lateStores }, { on := 12, ground := Ground.phase }], guard := none }) rfl (fun K hK => ?_) AllReadyH.nil
                            obtain ⟨⟨z0, z1, z2, z3, z4⟩, ⟨y0, y1, y2, y3, y4⟩⟩ := row5 HZ.out
                            go_simp
                            clear z0 z1 z2 z3 z4 y0 y1 y2 y3 y4
                            refine hK.out _ _ (⟨heapOld HSX8.out.1 _, heapOld HSX8.out.2.1 _, (World.cell?_of_block (Below.heap_alloc _ _ _ (lt_of_cell HSX8.out.2.2))).trans HSX8.out.2.2⟩) (fun hHeld => ?_)
                            clear hK K
                            try simp only [Act.put, List.setIfInBounds_toArray, List.set_cons_zero, List.set_cons_succ]
                            refine wpAnyH_take (i := 14) (oi := { dst := some 18, op := Op.assign (Operand.tmp 118), type := 28, pos := "law.go:60", after := #[{ on := 11, ground := Ground.data }, { on := 13, ground := Ground.chain }, { on := 0, ground := Ground.phase }, { on := 1, ground := Ground.phase }, { on := 2, ground := Ground.phase }, { on := 3, ground := Ground.phase }, { on := 4, ground := Ground.phase }, { on := 5, ground := Ground.phase }, { on := 6, ground := Ground.phase }, { on := 7, ground := Ground.phase }, { on := 8, ground := Ground.phase }, { on := 9, ground := Ground.phase }, { on := 10, ground := Ground.phase }, { on := 11, ground := Ground.phase }, { on := 12, ground := Ground.phase }, { on := 13, ground := Ground.phase }], guard := none }) (v := ?_) rfl (by kernel_rfl) (by kernel_rfl) (by kernel_rfl) (fun _ _ _ h => h) (Or.inl ⟨by rfl, ?_⟩) hHeld ?_
                            rotate_left
                            · intro w hSw; (try dsimp only at hSw); go_simp; with_reducible rfl
                            try simp only [Act.put, List.setIfInBounds_toArray, List.set_cons_zero, List.set_cons_succ]
                            refine wpAnyH_done (by kernel_rfl) ?_ _
                            clear hHeld
                            obtain ⟨W9, hW9⟩ : ∃ W9, W9 = w8.alloc (.cells #[.int .i64 yk, .int .i64 yn, .string yS, .slice yA yl yc, .slice yB ym yd] 25) := ⟨_, rfl⟩
                            obtain ⟨E, hE⟩ : ∃ E, E = w8.heap.size := ⟨_, rfl⟩
                            have HX9 := Lib.hid (show W9.heap[E]? = some (.cells #[.int .i64 yk, .int .i64 yn, .string yS, .slice yA yl yc, .slice yB ym yd] 25 (0, 0)) by rw [hW9, hE]; exact heapNew _ _)
                            have HB9 := Lib.hid (show Below wj.heap.size wj W9 by rw [hW9]; exact HB8.out.alloc HB8.out.size _)
                            have Hy9 := Lib.hid (show RdA W9 0 W9.heap.size V0 [.int .i64 yk, .int .i64 yn, .string yS, .slice yA yl yc, .slice yB ym yd] by rw [hW9]; exact Hy.out.below ((Below.refl _ _).alloc (Nat.le_refl _) _) (Nat.le_refl _) (by simp))
                            rw [← hW9, ← hE]
                            clear hW9 hE HZ HB8 HSX8
                            have HBW9 := Lib.hid (show Below w.heap.size w W9 from HBwj.out.trans (HB9.out.mono HBwj.out.size))
                            have HP9 := Lib.hid (show W9.heap[w.heap.size + 1]? = some (.cells #[.int .i64 pk, .int .i64 pn, .string PS, .slice B1 pl e1, .slice (some ⟨bb, off, none⟩) pm e2] 25 (0, 0)) from (HB9.out.block _ HPX.out).trans Rwj_1.out)
                            have HM9 := Lib.hid (HC6.out.keep (w' := W9) (fun i => HBW9.out.cell (p := ⟨bb, i, none⟩) HBB.out))
                            obtain ⟨⟨p0, p1, p2, p3, p4⟩, -⟩ := row5 HP9.out
                            obtain ⟨a0, a1, a2, a3, a4, a5⟩ := HM9.out
                            go_wp2
                            go_ret
                            exact ⟨rfl, HBW9.out⟩
                          · go_simp
                            refine hK.out _ _ (⟨heapOld hHeld.1 _, heapOld hHeld.2.1 _, (World.cell?_of_block (Below.heap_alloc _ _ _ (lt_of_cell hHeld.2.2))).trans hHeld.2.2⟩) (fun hHeld => ?_)
                            clear hK K
                            try simp only [Act.put, List.setIfInBounds_toArray, List.set_cons_zero, List.set_cons_succ]
                            refine wpAnyH_ready (rs := [8]) (by kernel_rfl) (by simp) ?_
                            refine AllReadyH.cons (o := { dst := some 116, op := Op.call { callee := Callee.value (Operand.func 12), args := #[Operand.tmp 108, Operand.tmp 115], argTypes := #[25, 9] }, type := 30, pos := "law.go:60", after := #[{ on := 0, ground := Ground.data }, { on := 7, ground := Ground.data }], guard := none }) rfl (fun K hK => ?_) AllReadyH.nil
                            go_simp
                            go_at_call 12
                            refine (HFJ.out _ ((Below.drew (Below.refl wj.heap.size wj)).alloc (Nat.le_refl _) _)).mono ?_
                            rintro e w8 ⟨⟨cy, rfl, hcy⟩, hb8⟩
                            simp only at hcy ⊢
                            have Hy := Lib.hid hcy.wide
                            have hcylo := RdA.keep (lo' := wj.heap.size + 1) (fun _ _ _ => rfl) (by simp) (Nat.le_refl _) _ _ hcy
                            obtain ⟨yA, yc, yB, yd, ey, -⟩ := hcy.cells
                            subst ey
                            clear hcy
                            generalize (V0).k = yk at *
                            generalize (V0).n = yn at *
                            generalize strOf (V0).s = yS at *
                            generalize (V0).l.length = yl at *
                            generalize (V0).ms.length = ym at *
                            have HB8 := Lib.hid (show Below wj.heap.size wj w8 from ((Below.drew (Below.refl wj.heap.size wj)).alloc (Nat.le_refl _) _).trans (hb8.mono ((Below.drew (Below.refl wj.heap.size wj)).alloc (Nat.le_refl _) _).size))
                            have HSX8 := Lib.hid (show w8.heap[w4.heap.size]? = some (.cells #[.int .i64 xk, .int .i64 xn, .string xS, .slice xA xl xc, .slice xB xm xd] 25 (0, 0)) ∧ w8.heap[w.heap.size + 1]? = some (.cells #[.int .i64 pk, .int .i64 pn, .string PS, .slice B1 pl e1, .slice (some ⟨bb, off, none⟩) pm e2] 25 (0, 0)) ∧ w8.cell? ⟨bb, off + kk * 6, none⟩ = some (.string QX) from ⟨(HB8.out.block _ HEX.out).trans HSJ.out.1, (HB8.out.block _ HPX.out).trans HSJ.out.2.1, (HB8.out.cell (show bb < _ from HBBJ.out)).trans HSJ.out.2.2⟩)
                            have hz1 := (hb8.block wj.heap.size (by simp)).trans (heapNew wj (.cells #[.int .i64 0, .int .i64 0, .string ⟨#[]⟩, .slice none 0 0, .slice none 0 0] 25))
                            have HZ := Lib.hid hz1
                            have HLO := Lib.hid (show wj.heap.size + 1 ≤ w8.heap.size by have := hb8.size; simpa using this)
                            have HLY := Lib.hid (hcylo)
                            clear hb8 hz1
                            refine hK.out _ _ (HSX8.out) (fun hHeld => ?_)
                            clear hK K
                            try simp only [Act.put, List.setIfInBounds_toArray, List.set_cons_zero, List.set_cons_succ]
                            refine wpAnyH_take (i := 9) (oi := { dst := some 107, op := Op.move (Operand.tmp 116), type := 30, pos := "law.go:60", after := #[{ on := 8, ground := Ground.data }], guard := none }) (v := ?_) rfl (by kernel_rfl) (by kernel_rfl) (by kernel_rfl) (fun _ _ _ h => h) (Or.inl ⟨by rfl, ?_⟩) hHeld ?_
                            rotate_left
                            · intro w hSw; (try dsimp only at hSw); go_simp; with_reducible rfl
                            try simp only [Act.put, List.setIfInBounds_toArray, List.set_cons_zero, List.set_cons_succ]
                            refine wpAnyH_take (i := 10) (oi := { dst := some 117, op := Op.extract (Operand.tmp 107) 0, type := 25, pos := "law.go:60", after := #[{ on := 9, ground := Ground.data }], guard := none }) (v := ?_) rfl (by kernel_rfl) (by kernel_rfl) (by kernel_rfl) (fun _ _ _ h => h) (Or.inl ⟨by rfl, ?_⟩) hHeld ?_
                            rotate_left
                            · intro w hSw; (try dsimp only at hSw); go_simp; with_reducible rfl
                            try simp only [Act.put, List.setIfInBounds_toArray, List.set_cons_zero, List.set_cons_succ]
                            refine wpAnyH_take (i := 11) (oi := { dst := some 118, op := Op.extract (Operand.tmp 107) 1, type := 28, pos := "law.go:60", after := #[{ on := 9, ground := Ground.data }, { on := 13, ground := Ground.gcOnly Departure.lateStores }], guard := none }) (v := ?_) rfl (by kernel_rfl) (by kernel_rfl) (by kernel_rfl) (fun _ _ _ h => h) (Or.inl ⟨by rfl, ?_⟩) hHeld ?_
                            rotate_left
                            · intro w hSw; (try dsimp only at hSw); go_simp; with_reducible rfl
                            try simp only [Act.put, List.setIfInBounds_toArray, List.set_cons_zero, List.set_cons_succ]
                            refine wpAnyH_ready (rs := [13]) (by kernel_rfl) (by simp) ?_
                            refine AllReadyH.cons (o := { dst := none, op := Op.store 25 (Operand.tmp 17) (Operand.tmp 117), type := 0, pos := "law.go:60", after := #[{ on := 12, ground := Ground.data }, { on := 10, ground := Ground.data }, { on := 8, ground := Ground.chain }, { on := 0, ground := Ground.phase }, { on := 1, ground := Ground.phase }, { on := 2, ground := Ground.phase }, { on := 3, ground := Ground.phase }, { on := 4, ground := Ground.phase }, { on := 5, ground := Ground.phase }, { on := 6, ground := Ground.phase }, { on := 7, ground := Ground.phase }, { on := 8, ground := Ground.phase }, { on := 9, ground := Ground.phase }, { on := 10, ground := Ground.phase }, { on := 11, ground := Ground.textOnly Departure.lateStores }, { on := 12, ground := Ground.phase }], guard := none }) rfl (fun K hK => ?_) AllReadyH.nil
                            obtain ⟨⟨z0, z1, z2, z3, z4⟩, ⟨y0, y1, y2, y3, y4⟩⟩ := row5 HZ.out
                            go_simp
                            clear z0 z1 z2 z3 z4 y0 y1 y2 y3 y4
                            obtain ⟨W9, hW9⟩ : ∃ W9, W9 = (((((w8.setCell ⟨wj.heap.size, 0, none⟩ (.int .i64 yk)).setCell ⟨wj.heap.size, 1, none⟩ (.int .i64 yn)).setCell ⟨wj.heap.size, 2, none⟩ (.string yS)).setCell ⟨wj.heap.size, 3, none⟩ (.slice yA yl yc)).setCell ⟨wj.heap.size, 4, none⟩ (.slice yB ym yd)) := ⟨_, rfl⟩
                            obtain ⟨E, hE⟩ : ∃ E, E = wj.heap.size := ⟨_, rfl⟩
                            have HX9 := Lib.hid (show W9.heap[E]? = some (.cells #[.int .i64 yk, .int .i64 yn, .string yS, .slice yA yl yc, .slice yB ym yd] 25 (0, 0)) by rw [hW9, hE]; exact st5_row HZ.out _ _ _ _ _)
                            have HB9 := Lib.hid (show Below wj.heap.size wj W9 by rw [hW9]; exact st5_below HB8.out (Nat.le_refl _) _ _ _ _ _)
                            have Hy9 := Lib.hid (show RdA W9 0 W9.heap.size V0 [.int .i64 yk, .int .i64 yn, .string yS, .slice yA yl yc, .slice yB ym yd] from RdA.keep (lo := wj.heap.size + 1) (hi := w8.heap.size) (fun q h1 _ => by rw [hW9]; exact cell_of_blk (st5_other (by omega) _ _ _ _ _)) (Nat.zero_le _) (by rw [hW9]; exact Nat.le_of_eq (st5_size (w := w8) (b := wj.heap.size) _ _ _ _ _).symm) _ _ HLY.out)
                            rw [← hW9, ← hE]
                            clear hW9 hE HZ HB8
                            refine hK.out _ _ (⟨(HB9.out.block _ HEX.out).trans HSJ.out.1, (HB9.out.block _ HPX.out).trans HSJ.out.2.1, (HB9.out.cell (show bb < _ from HBBJ.out)).trans HSJ.out.2.2⟩) (fun hHeld => ?_)
                            clear hK K
                            try simp only [Act.put, List.setIfInBounds_toArray, List.set_cons_zero, List.set_cons_succ]
                            refine wpAnyH_take (i := 14) (oi := { dst := some 18, op := Op.assign (Operand.tmp 118), type := 28, pos := "law.go:60", after := #[{ on := 11, ground := Ground.data }, { on := 13, ground := Ground.chain }, { on := 0, ground := Ground.phase }, { on := 1, ground := Ground.phase }, { on := 2, ground := Ground.phase }, { on := 3, ground := Ground.phase }, { on := 4, ground := Ground.phase }, { on := 5, ground := Ground.phase }, { on := 6, ground := Ground.phase }, { on := 7, ground := Ground.phase }, { on := 8, ground := Ground.phase }, { on := 9, ground := Ground.phase }, { on := 10, ground := Ground.phase }, { on := 11, ground := Ground.phase }, { on := 12, ground := Ground.phase }, { on := 13, ground := Ground.phase }], guard := none }) (v := ?_) rfl (by kernel_rfl) (by kernel_rfl) (by kernel_rfl) (fun _ _ _ h => h) (Or.inl ⟨by rfl, ?_⟩) hHeld ?_
                            rotate_left
                            · intro w hSw; (try dsimp only at hSw); go_simp; with_reducible rfl
                            try simp only [Act.put, List.setIfInBounds_toArray, List.set_cons_zero, List.set_cons_succ]
                            refine wpAnyH_done (by kernel_rfl) ?_ _
                            clear hHeld
                            have HBW9 := Lib.hid (show Below w.heap.size w W9 from HBwj.out.trans (HB9.out.mono HBwj.out.size))
                            have HP9 := Lib.hid (show W9.heap[w.heap.size + 1]? = some (.cells #[.int .i64 pk, .int .i64 pn, .string PS, .slice B1 pl e1, .slice (some ⟨bb, off, none⟩) pm e2] 25 (0, 0)) from (HB9.out.block _ HPX.out).trans Rwj_1.out)
                            have HM9 := Lib.hid (HC6.out.keep (w' := W9) (fun i => HBW9.out.cell (p := ⟨bb, i, none⟩) HBB.out))
                            obtain ⟨⟨p0, p1, p2, p3, p4⟩, -⟩ := row5 HP9.out
                            obtain ⟨a0, a1, a2, a3, a4, a5⟩ := HM9.out
                            go_wp2
                            go_ret
                            exact ⟨rfl, HBW9.out⟩
                        · have u1 : (qk == 1) = false := beq_eq_false_iff_ne.2 hq1
                          rw [if_neg (by rw [HZK.out]; exact hq1)] at HFJ
                          clear hq1
                          obtain ⟨⟨p0_0, p0_1, p0_2, p0_3, p0_4⟩, -⟩ := row5 Rwj_0.out
                          obtain ⟨⟨p1_0, p1_1, p1_2, p1_3, p1_4⟩, -⟩ := row5 Rwj_1.out
                          obtain ⟨⟨p2_0, p2_1, p2_2, p2_3, p2_4⟩, -⟩ := row5 Rwj_2.out
                          go_wp2_with fail
                          clear p0_0 p0_1 p0_2 p0_3 p0_4 p1_0 p1_1 p1_2 p1_3 p1_4 p2_0 p2_1 p2_2 p2_3 p2_4
                          refine wp_region_held_drew (S := fun W' => W'.heap[w4.heap.size]? = some (.cells #[.int .i64 xk, .int .i64 xn, .string xS, .slice xA xl xc, .slice xB xm xd] 25 (0, 0)) ∧ W'.heap[w.heap.size + 1]? = some (.cells #[.int .i64 pk, .int .i64 pn, .string PS, .slice B1 pl e1, .slice (some ⟨bb, off, none⟩) pm e2] 25 (0, 0)) ∧ W'.cell? ⟨bb, off + kk * 6, none⟩ = some (.string QX)) (by kernel_rfl) (HSJ.out) (fun hHeld => ?_)
                          refine wpAnyH_take (i := 0) (oi := { dst := some 108, op := Op.load 25 (Operand.tmp 7), type := 25, pos := "law.go:60", after := #[], guard := none }) (v := ?_) rfl (by kernel_rfl) (by kernel_rfl) (by kernel_rfl) (fun _ _ _ h => h) (Or.inl ⟨by rfl, ?_⟩) hHeld ?_
                          rotate_left
                          · intro w hSw; (try dsimp only at hSw); obtain ⟨⟨p0, p1, p2, p3, p4⟩, -⟩ := row5 hSw.1; go_simp; with_reducible rfl
                          try simp only [Act.put, List.setIfInBounds_toArray, List.set_cons_zero, List.set_cons_succ]
                          refine wpAnyH_take (i := 1) (oi := { dst := some 109, op := Op.fieldAddr 25 (Operand.tmp 4) 4, type := 0, pos := "law.go:60", after := #[], guard := none }) (v := ?_) rfl (by kernel_rfl) (by kernel_rfl) (by kernel_rfl) (fun _ _ _ h => h) (Or.inl ⟨by rfl, ?_⟩) hHeld ?_
                          rotate_left
                          · intro w hSw; (try dsimp only at hSw); go_simp; with_reducible rfl
                          try simp only [Act.put, List.setIfInBounds_toArray, List.set_cons_zero, List.set_cons_succ]
                          refine wpAnyH_take (i := 2) (oi := { dst := some 110, op := Op.load 23 (Operand.tmp 109), type := 23, pos := "law.go:60", after := #[{ on := 1, ground := Ground.data }], guard := none }) (v := ?_) rfl (by kernel_rfl) (by kernel_rfl) (by kernel_rfl) (fun _ _ _ h => h) (Or.inl ⟨by rfl, ?_⟩) hHeld ?_
                          rotate_left
                          · intro w hSw; (try dsimp only at hSw); obtain ⟨⟨p0, p1, p2, p3, p4⟩, -⟩ := row5 hSw.2.1; go_simp; with_reducible rfl
                          try simp only [Act.put, List.setIfInBounds_toArray, List.set_cons_zero, List.set_cons_succ]
                          refine wpAnyH_take (i := 3) (oi := { dst := some 111, op := Op.move (Operand.tmp 11), type := 3, pos := "law.go:60", after := #[], guard := none }) (v := ?_) rfl (by kernel_rfl) (by kernel_rfl) (by kernel_rfl) (fun _ _ _ h => h) (Or.inl ⟨by rfl, ?_⟩) hHeld ?_
                          rotate_left
                          · intro w hSw; (try dsimp only at hSw); go_simp; with_reducible rfl
                          try simp only [Act.put, List.setIfInBounds_toArray, List.set_cons_zero, List.set_cons_succ]
                          refine wpAnyH_take (i := 4) (oi := { dst := some 112, op := Op.indexAddr 23 (Operand.tmp 110) (Operand.tmp 111), type := 0, pos := "law.go:60", after := #[{ on := 2, ground := Ground.data }, { on := 3, ground := Ground.data }], guard := none }) (v := ?_) rfl (by kernel_rfl) (by kernel_rfl) (by kernel_rfl) (fun _ _ _ h => h) (Or.inl ⟨by rfl, ?_⟩) hHeld ?_
                          rotate_left
                          · intro w hSw; (try dsimp only at hSw); go_simp; with_reducible rfl
                          try simp only [Act.put, List.setIfInBounds_toArray, List.set_cons_zero, List.set_cons_succ]
                          refine wpAnyH_take (i := 5) (oi := { dst := some 113, op := Op.fieldAddr 36 (Operand.tmp 112) 0, type := 0, pos := "law.go:60", after := #[{ on := 4, ground := Ground.data }], guard := none }) (v := ?_) rfl (by kernel_rfl) (by kernel_rfl) (by kernel_rfl) (fun _ _ _ h => h) (Or.inl ⟨by rfl, ?_⟩) hHeld ?_
                          rotate_left
                          · intro w hSw; (try dsimp only at hSw); go_simp; with_reducible rfl
                          try simp only [Act.put, List.setIfInBounds_toArray, List.set_cons_zero, List.set_cons_succ]
                          refine wpAnyH_take (i := 6) (oi := { dst := some 114, op := Op.load 9 (Operand.tmp 113), type := 9, pos := "law.go:60", after := #[{ on := 5, ground := Ground.data }], guard := none }) (v := ?_) rfl (by kernel_rfl) (by kernel_rfl) (by kernel_rfl) (fun _ _ _ h => h) (Or.inl ⟨by rfl, ?_⟩) hHeld ?_
                          rotate_left
                          · intro w hSw; (try dsimp only at hSw); have hq := hSw.2.2; go_simp; with_reducible rfl
                          try simp only [Act.put, List.setIfInBounds_toArray, List.set_cons_zero, List.set_cons_succ]
                          refine wpAnyH_take (i := 7) (oi := { dst := some 115, op := Op.binOp BinOp.add 9 (Operand.const (Value.string { data := #[47] })) (Operand.tmp 114) 9, type := 9, pos := "law.go:60", after := #[{ on := 6, ground := Ground.data }], guard := none }) (v := ?_) rfl (by kernel_rfl) (by kernel_rfl) (by kernel_rfl) (fun _ _ _ h => h) (Or.inl ⟨by rfl, ?_⟩) hHeld ?_
                          rotate_left
                          · intro w hSw; (try dsimp only at hSw); have hq := HADD.out; go_simp; (try rw [hq]); with_reducible rfl
                          try simp only [Act.put, List.setIfInBounds_toArray, List.set_cons_zero, List.set_cons_succ]
                          refine wpAnyH_ready (rs := [8, 12]) (by kernel_rfl) (by simp) ?_
                          refine AllReadyH.cons (o := { dst := some 116, op := Op.call { callee := Callee.value (Operand.func 12), args := #[Operand.tmp 108, Operand.tmp 115], argTypes := #[25, 9] }, type := 30, pos := "law.go:60", after := #[{ on := 0, ground := Ground.data }, { on := 7, ground := Ground.data }], guard := none }) rfl (fun K hK => ?_) (AllReadyH.cons (o := { dst := some 17, op := Op.alloc 25, type := 0, pos := "law.go:60", after := #[], guard := none }) rfl (fun K hK => ?_) AllReadyH.nil)
                          · go_simp
                            go_at_call 12
                            refine (HFJ.out _ (Below.drew (Below.refl wj.heap.size wj))).mono ?_
                            rintro e w8 ⟨⟨cy, rfl, hcy⟩, hb8⟩
                            simp only at hcy ⊢
                            have Hy := Lib.hid hcy.wide
                            obtain ⟨yA, yc, yB, yd, ey, -⟩ := hcy.cells
                            subst ey
                            clear hcy
                            generalize (z).k = yk at *
                            generalize (z).n = yn at *
                            generalize strOf (z).s = yS at *
                            generalize (z).l.length = yl at *
                            generalize (z).ms.length = ym at *
                            have HB8 := Lib.hid (show Below wj.heap.size wj w8 from (Below.drew (Below.refl wj.heap.size wj)).trans (hb8.mono (Below.drew (Below.refl wj.heap.size wj)).size))
                            have HSX8 := Lib.hid (show w8.heap[w4.heap.size]? = some (.cells #[.int .i64 xk, .int .i64 xn, .string xS, .slice xA xl xc, .slice xB xm xd] 25 (0, 0)) ∧ w8.heap[w.heap.size + 1]? = some (.cells #[.int .i64 pk, .int .i64 pn, .string PS, .slice B1 pl e1, .slice (some ⟨bb, off, none⟩) pm e2] 25 (0, 0)) ∧ w8.cell? ⟨bb, off + kk * 6, none⟩ = some (.string QX) from ⟨(HB8.out.block _ HEX.out).trans HSJ.out.1, (HB8.out.block _ HPX.out).trans HSJ.out.2.1, (HB8.out.cell (show bb < _ from HBBJ.out)).trans HSJ.out.2.2⟩)
                            clear hb8
                            refine hK.out _ _ (HSX8.out) (fun hHeld => ?_)
                            clear hK K
                            try simp only [Act.put, List.setIfInBounds_toArray, List.set_cons_zero, List.set_cons_succ]
                            refine wpAnyH_take (i := 9) (oi := { dst := some 107, op := Op.move (Operand.tmp 116), type := 30, pos := "law.go:60", after := #[{ on := 8, ground := Ground.data }], guard := none }) (v := ?_) rfl (by kernel_rfl) (by kernel_rfl) (by kernel_rfl) (fun _ _ _ h => h) (Or.inl ⟨by rfl, ?_⟩) hHeld ?_
                            rotate_left
                            · intro w hSw; (try dsimp only at hSw); go_simp; with_reducible rfl
                            try simp only [Act.put, List.setIfInBounds_toArray, List.set_cons_zero, List.set_cons_succ]
                            refine wpAnyH_take (i := 10) (oi := { dst := some 117, op := Op.extract (Operand.tmp 107) 0, type := 25, pos := "law.go:60", after := #[{ on := 9, ground := Ground.data }], guard := none }) (v := ?_) rfl (by kernel_rfl) (by kernel_rfl) (by kernel_rfl) (fun _ _ _ h => h) (Or.inl ⟨by rfl, ?_⟩) hHeld ?_
                            rotate_left
                            · intro w hSw; (try dsimp only at hSw); go_simp; with_reducible rfl
                            try simp only [Act.put, List.setIfInBounds_toArray, List.set_cons_zero, List.set_cons_succ]
                            refine wpAnyH_take (i := 11) (oi := { dst := some 118, op := Op.extract (Operand.tmp 107) 1, type := 28, pos := "law.go:60", after := #[{ on := 9, ground := Ground.data }, { on := 13, ground := Ground.gcOnly Departure.lateStores }], guard := none }) (v := ?_) rfl (by kernel_rfl) (by kernel_rfl) (by kernel_rfl) (fun _ _ _ h => h) (Or.inl ⟨by rfl, ?_⟩) hHeld ?_
                            rotate_left
                            · intro w hSw; (try dsimp only at hSw); go_simp; with_reducible rfl
                            try simp only [Act.put, List.setIfInBounds_toArray, List.set_cons_zero, List.set_cons_succ]
                            refine wpAnyH_ready (rs := [12]) (by kernel_rfl) (by simp) ?_
                            refine AllReadyH.cons (o := { dst := some 17, op := Op.alloc 25, type := 0, pos := "law.go:60", after := #[], guard := none }) rfl (fun K hK => ?_) AllReadyH.nil
                            have HZ := Lib.hid (heapNew w8 (.cells #[.int .i64 0, .int .i64 0, .string ⟨#[]⟩, .slice none 0 0, .slice none 0 0] 25))
                            go_simp
                            refine hK.out _ _ (⟨heapOld hHeld.1 _, heapOld hHeld.2.1 _, (World.cell?_of_block (Below.heap_alloc _ _ _ (lt_of_cell hHeld.2.2))).trans hHeld.2.2⟩) (fun hHeld => ?_)
                            clear hK K
                            try simp only [Act.put, List.setIfInBounds_toArray, List.set_cons_zero, List.set_cons_succ]
                            refine wpAnyH_ready (rs := [13]) (by kernel_rfl) (by simp) ?_
                            refine AllReadyH.cons (o := { dst := none, op := Op.store 25 (Operand.tmp 17) (Operand.tmp 117), type := 0, pos := "law.go:60", after := #[{ on := 12, ground := Ground.data }, { on := 10, ground := Ground.data }, { on := 8, ground := Ground.chain }, { on := 0, ground := Ground.phase }, { on := 1, ground := Ground.phase }, { on := 2, ground := Ground.phase }, { on := 3, ground := Ground.phase }, { on := 4, ground := Ground.phase }, { on := 5, ground := Ground.phase }, { on := 6, ground := Ground.phase }, { on := 7, ground := Ground.phase }, { on := 8, ground := Ground.phase }, { on := 9, ground := Ground.phase }, { on := 10, ground := Ground.phase }, { on := 11, ground := Ground.textOnly Departure.lateStores }, { on := 12, ground := Ground.phase }], guard := none }) rfl (fun K hK => ?_) AllReadyH.nil
                            obtain ⟨⟨z0, z1, z2, z3, z4⟩, ⟨y0, y1, y2, y3, y4⟩⟩ := row5 HZ.out
                            go_simp
                            clear z0 z1 z2 z3 z4 y0 y1 y2 y3 y4
                            refine hK.out _ _ (⟨heapOld HSX8.out.1 _, heapOld HSX8.out.2.1 _, (World.cell?_of_block (Below.heap_alloc _ _ _ (lt_of_cell HSX8.out.2.2))).trans HSX8.out.2.2⟩) (fun hHeld => ?_)
                            clear hK K
                            try simp only [Act.put, List.setIfInBounds_toArray, List.set_cons_zero, List.set_cons_succ]
                            refine wpAnyH_take (i := 14) (oi := { dst := some 18, op := Op.assign (Operand.tmp 118), type := 28, pos := "law.go:60", after := #[{ on := 11, ground := Ground.data }, { on := 13, ground := Ground.chain }, { on := 0, ground := Ground.phase }, { on := 1, ground := Ground.phase }, { on := 2, ground := Ground.phase }, { on := 3, ground := Ground.phase }, { on := 4, ground := Ground.phase }, { on := 5, ground := Ground.phase }, { on := 6, ground := Ground.phase }, { on := 7, ground := Ground.phase }, { on := 8, ground := Ground.phase }, { on := 9, ground := Ground.phase }, { on := 10, ground := Ground.phase }, { on := 11, ground := Ground.phase }, { on := 12, ground := Ground.phase }, { on := 13, ground := Ground.phase }], guard := none }) (v := ?_) rfl (by kernel_rfl) (by kernel_rfl) (by kernel_rfl) (fun _ _ _ h => h) (Or.inl ⟨by rfl, ?_⟩) hHeld ?_
                            rotate_left
                            · intro w hSw; (try dsimp only at hSw); go_simp; with_reducible rfl
                            try simp only [Act.put, List.setIfInBounds_toArray, List.set_cons_zero, List.set_cons_succ]
                            refine wpAnyH_done (by kernel_rfl) ?_ _
                            clear hHeld
                            obtain ⟨W9, hW9⟩ : ∃ W9, W9 = w8.alloc (.cells #[.int .i64 yk, .int .i64 yn, .string yS, .slice yA yl yc, .slice yB ym yd] 25) := ⟨_, rfl⟩
                            obtain ⟨E, hE⟩ : ∃ E, E = w8.heap.size := ⟨_, rfl⟩
                            have HX9 := Lib.hid (show W9.heap[E]? = some (.cells #[.int .i64 yk, .int .i64 yn, .string yS, .slice yA yl yc, .slice yB ym yd] 25 (0, 0)) by rw [hW9, hE]; exact heapNew _ _)
                            have HB9 := Lib.hid (show Below wj.heap.size wj W9 by rw [hW9]; exact HB8.out.alloc HB8.out.size _)
                            have Hy9 := Lib.hid (show RdA W9 0 W9.heap.size z [.int .i64 yk, .int .i64 yn, .string yS, .slice yA yl yc, .slice yB ym yd] by rw [hW9]; exact Hy.out.below ((Below.refl _ _).alloc (Nat.le_refl _) _) (Nat.le_refl _) (by simp))
                            rw [← hW9, ← hE]
                            clear hW9 hE HZ HB8 HSX8
                            have HBW9 := Lib.hid (show Below w.heap.size w W9 from HBwj.out.trans (HB9.out.mono HBwj.out.size))
                            have HP9 := Lib.hid (show W9.heap[w.heap.size + 1]? = some (.cells #[.int .i64 pk, .int .i64 pn, .string PS, .slice B1 pl e1, .slice (some ⟨bb, off, none⟩) pm e2] 25 (0, 0)) from (HB9.out.block _ HPX.out).trans Rwj_1.out)
                            have HM9 := Lib.hid (HC6.out.keep (w' := W9) (fun i => HBW9.out.cell (p := ⟨bb, i, none⟩) HBB.out))
                            obtain ⟨⟨p0, p1, p2, p3, p4⟩, -⟩ := row5 HP9.out
                            obtain ⟨a0, a1, a2, a3, a4, a5⟩ := HM9.out
                            go_wp2_with fail
                            clear p0 p1 p2 p3 p4 a0 a1 a2 a3 a4 a5
                            refine wp_region_held_drew (S := fun W' => W'.heap[E]? = some (.cells #[.int .i64 yk, .int .i64 yn, .string yS, .slice yA yl yc, .slice yB ym yd] 25 (0, 0)) ∧ W'.heap[w.heap.size + 1]? = some (.cells #[.int .i64 pk, .int .i64 pn, .string PS, .slice B1 pl e1, .slice (some ⟨bb, off, none⟩) pm e2] 25 (0, 0)) ∧ Six W' bb (off + kk * 6) (.string QX) (.int .i64 qk) (.int .i64 qn) (.string qS) (.slice qA ql qc) (.slice qB qm qd)) (by kernel_rfl) (⟨HX9.out, HP9.out, HM9.out⟩) (fun hHeld => ?_)
                            refine wpAnyH_take (i := 0) (oi := { dst := some 129, op := Op.move (Operand.tmp 18), type := 28, pos := "law.go:64", after := #[], guard := none }) (v := ?_) rfl (by kernel_rfl) (by kernel_rfl) (by kernel_rfl) (fun _ _ _ h => h) (Or.inl ⟨by rfl, ?_⟩) hHeld ?_
                            rotate_left
                            · intro w hSw; (try dsimp only at hSw); go_simp; with_reducible rfl
                            try simp only [Act.put, List.setIfInBounds_toArray, List.set_cons_zero, List.set_cons_succ]
                            refine wpAnyH_take (i := 1) (oi := { dst := some 130, op := Op.binOp BinOp.eql 28 (Operand.tmp 129) (Operand.const (Value.int IntKind.i64 0)) 28, type := 4, pos := "law.go:64", after := #[{ on := 0, ground := Ground.data }], guard := none }) (v := ?_) rfl (by kernel_rfl) (by kernel_rfl) (by kernel_rfl) (fun _ _ _ h => h) (Or.inl ⟨by rfl, ?_⟩) hHeld ?_
                            rotate_left
                            · intro w hSw; (try dsimp only at hSw); go_simp; with_reducible rfl
                            try simp only [Act.put, List.setIfInBounds_toArray, List.set_cons_zero, List.set_cons_succ]
                            refine wpAnyH_take (i := 2) (oi := { dst := some 131, op := Op.move (Operand.tmp 130), type := 4, pos := "law.go:64", after := #[{ on := 1, ground := Ground.data }], guard := none }) (v := ?_) rfl (by kernel_rfl) (by kernel_rfl) (by kernel_rfl) (fun _ _ _ h => h) (Or.inl ⟨by rfl, ?_⟩) hHeld ?_
                            rotate_left
                            · intro w hSw; (try dsimp only at hSw); go_simp; with_reducible rfl
                            try simp only [Act.put, List.setIfInBounds_toArray, List.set_cons_zero, List.set_cons_succ]
                            refine wpAnyH_take (i := 3) (oi := { dst := some 132, op := Op.load 25 (Operand.tmp 17), type := 25, pos := "law.go:64", after := #[{ on := 2, ground := Ground.guard }], guard := some (2, true) }) (v := ?_) rfl (by kernel_rfl) (by kernel_rfl) (by kernel_rfl) (fun _ _ _ h => h) (Or.inl ⟨by rfl, ?_⟩) hHeld ?_
                            rotate_left
                            · intro w hSw; (try dsimp only at hSw); obtain ⟨⟨p0, p1, p2, p3, p4⟩, -⟩ := row5 hSw.1; go_simp; with_reducible rfl
                            try simp only [Act.put, List.setIfInBounds_toArray, List.set_cons_zero, List.set_cons_succ]
                            refine wpAnyH_take (i := 4) (oi := { dst := some 133, op := Op.fieldAddr 25 (Operand.tmp 4) 4, type := 0, pos := "law.go:64", after := #[{ on := 2, ground := Ground.guard }], guard := some (2, true) }) (v := ?_) rfl (by kernel_rfl) (by kernel_rfl) (by kernel_rfl) (fun _ _ _ h => h) (Or.inl ⟨by rfl, ?_⟩) hHeld ?_
                            rotate_left
                            · intro w hSw; (try dsimp only at hSw); go_simp; with_reducible rfl
                            try simp only [Act.put, List.setIfInBounds_toArray, List.set_cons_zero, List.set_cons_succ]
                            refine wpAnyH_take (i := 5) (oi := { dst := some 134, op := Op.load 23 (Operand.tmp 133), type := 23, pos := "law.go:64", after := #[{ on := 4, ground := Ground.data }, { on := 2, ground := Ground.guard }], guard := some (2, true) }) (v := ?_) rfl (by kernel_rfl) (by kernel_rfl) (by kernel_rfl) (fun _ _ _ h => h) (Or.inl ⟨by rfl, ?_⟩) hHeld ?_
                            rotate_left
                            · intro w hSw; (try dsimp only at hSw); obtain ⟨⟨p0, p1, p2, p3, p4⟩, -⟩ := row5 hSw.2.1; go_simp; with_reducible rfl
                            try simp only [Act.put, List.setIfInBounds_toArray, List.set_cons_zero, List.set_cons_succ]
                            refine wpAnyH_take (i := 6) (oi := { dst := some 135, op := Op.move (Operand.tmp 11), type := 3, pos := "law.go:64", after := #[{ on := 2, ground := Ground.guard }], guard := some (2, true) }) (v := ?_) rfl (by kernel_rfl) (by kernel_rfl) (by kernel_rfl) (fun _ _ _ h => h) (Or.inl ⟨by rfl, ?_⟩) hHeld ?_
                            rotate_left
                            · intro w hSw; (try dsimp only at hSw); go_simp; with_reducible rfl
                            try simp only [Act.put, List.setIfInBounds_toArray, List.set_cons_zero, List.set_cons_succ]
                            refine wpAnyH_take (i := 7) (oi := { dst := some 136, op := Op.indexAddr 23 (Operand.tmp 134) (Operand.tmp 135), type := 0, pos := "law.go:64", after := #[{ on := 5, ground := Ground.data }, { on := 6, ground := Ground.data }, { on := 2, ground := Ground.guard }], guard := some (2, true) }) (v := ?_) rfl (by kernel_rfl) (by kernel_rfl) (by kernel_rfl) (fun _ _ _ h => h) (Or.inl ⟨by rfl, ?_⟩) hHeld ?_
                            rotate_left
                            · intro w hSw; (try dsimp only at hSw); go_simp; with_reducible rfl
                            try simp only [Act.put, List.setIfInBounds_toArray, List.set_cons_zero, List.set_cons_succ]
                            refine wpAnyH_take (i := 8) (oi := { dst := some 137, op := Op.fieldAddr 36 (Operand.tmp 136) 1, type := 0, pos := "law.go:64", after := #[{ on := 7, ground := Ground.data }, { on := 2, ground := Ground.guard }], guard := some (2, true) }) (v := ?_) rfl (by kernel_rfl) (by kernel_rfl) (by kernel_rfl) (fun _ _ _ h => h) (Or.inl ⟨by rfl, ?_⟩) hHeld ?_
                            rotate_left
                            · intro w hSw; (try dsimp only at hSw); go_simp; with_reducible rfl
                            try simp only [Act.put, List.setIfInBounds_toArray, List.set_cons_zero, List.set_cons_succ]
                            refine wpAnyH_take (i := 9) (oi := { dst := some 138, op := Op.load 25 (Operand.tmp 137), type := 25, pos := "law.go:64", after := #[{ on := 8, ground := Ground.data }, { on := 2, ground := Ground.guard }], guard := some (2, true) }) (v := ?_) rfl (by kernel_rfl) (by kernel_rfl) (by kernel_rfl) (fun _ _ _ h => h) (Or.inl ⟨by rfl, ?_⟩) hHeld ?_
                            rotate_left
                            · intro w hSw; (try dsimp only at hSw); obtain ⟨a0, a1, a2, a3, a4, a5⟩ := hSw.2.2; have b2 : w.cell? ⟨bb, off + kk * 6 + 1 + 1, none⟩ = some (.int .i64 qn) := a2; have b3 : w.cell? ⟨bb, off + kk * 6 + 1 + 2, none⟩ = some (.string qS) := a3; have b4 : w.cell? ⟨bb, off + kk * 6 + 1 + 3, none⟩ = some (.slice qA ql qc) := a4; have b5 : w.cell? ⟨bb, off + kk * 6 + 1 + 4, none⟩ = some (.slice qB qm qd) := a5; go_simp; with_reducible rfl
                            try simp only [Act.put, List.setIfInBounds_toArray, List.set_cons_zero, List.set_cons_succ]
                            refine wpAnyH_ready (rs := [10]) (by kernel_rfl) (by simp) ?_
                            refine AllReadyH.cons (o := { dst := some 139, op := Op.call { callee := Callee.value (Operand.func 13), args := #[Operand.tmp 132, Operand.tmp 138], argTypes := #[25, 25] }, type := 4, pos := "law.go:64", after := #[{ on := 3, ground := Ground.data }, { on := 9, ground := Ground.data }, { on := 2, ground := Ground.chain }, { on := 2, ground := Ground.guard }], guard := some (2, true) }) rfl (fun K hK => ?_) AllReadyH.nil
                            go_simp
                            go_at_call 13
                            refine (same_self z [.int .i64 yk, .int .i64 yn, .string yS, .slice yA yl yc, .slice yB ym yd] [.int .i64 qk, .int .i64 qn, .string qS, .slice qA ql qc, .slice qB qm qd] _ HZY.out (Hy9.out.below ((Below.refl W9.heap.size W9).drew) (Nat.le_refl _) (Nat.le_refl _)) (HVAL.out.below HBW9.out.drew (Nat.le_refl _) HBW9.out.size)).mono ?_
                            rintro e wf ⟨rfl, hbf⟩
                            have HBF := Lib.hid (show Below W9.heap.size W9 wf from (Below.drew (Below.refl W9.heap.size W9)).trans hbf)
                            have HE9 := Lib.hid (Array.getElem?_eq_some_iff.1 HX9.out).1
                            clear hbf
                            refine hK.out _ _ (⟨(HBF.out.block _ HE9.out).trans HX9.out, (HBF.out.block _ (Nat.lt_of_lt_of_le HPX.out HB9.out.size)).trans HP9.out, HM9.out.keep (fun i => HBF.out.cell (p := ⟨bb, i, none⟩) (Nat.lt_of_lt_of_le HBBJ.out HB9.out.size))⟩) (fun hHeld => ?_)
                            clear hK K
                            try simp only [Act.put, List.setIfInBounds_toArray, List.set_cons_zero, List.set_cons_succ]
                            refine wpAnyH_take (i := 11) (oi := { dst := some 140, op := Op.pick (Operand.tmp 131) (Operand.tmp 139) (Operand.const (Value.bool false)), type := 4, pos := "law.go:64", after := #[{ on := 2, ground := Ground.data }, { on := 10, ground := Ground.data }], guard := none }) (v := ?_) rfl (by kernel_rfl) (by kernel_rfl) (by kernel_rfl) (fun _ _ _ h => h) (Or.inl ⟨by rfl, ?_⟩) hHeld ?_
                            rotate_left
                            · intro w hSw; (try dsimp only at hSw); go_simp; with_reducible rfl
                            try simp only [Act.put, List.setIfInBounds_toArray, List.set_cons_zero, List.set_cons_succ]
                            refine wpAnyH_take (i := 12) (oi := { dst := some 6, op := Op.assign (Operand.tmp 140), type := 4, pos := "law.go:64", after := #[{ on := 11, ground := Ground.data }, { on := 10, ground := Ground.chain }, { on := 0, ground := Ground.phase }, { on := 1, ground := Ground.phase }, { on := 2, ground := Ground.phase }, { on := 3, ground := Ground.phase }, { on := 4, ground := Ground.phase }, { on := 5, ground := Ground.phase }, { on := 6, ground := Ground.phase }, { on := 7, ground := Ground.phase }, { on := 8, ground := Ground.phase }, { on := 9, ground := Ground.phase }, { on := 10, ground := Ground.phase }, { on := 11, ground := Ground.phase }], guard := none }) (v := ?_) rfl (by kernel_rfl) (by kernel_rfl) (by kernel_rfl) (fun _ _ _ h => h) (Or.inl ⟨by rfl, ?_⟩) hHeld ?_
                            rotate_left
                            · intro w hSw; (try dsimp only at hSw); go_simp; with_reducible rfl
                            try simp only [Act.put, List.setIfInBounds_toArray, List.set_cons_zero, List.set_cons_succ]
                            refine wpAnyH_done (by kernel_rfl) ?_ _
                            clear hHeld
                            go_wp2
                            go_ret
                            exact ⟨rfl, HBW9.out.trans (HBF.out.mono HBW9.out.size)⟩
                          · go_simp
                            refine hK.out _ _ (⟨heapOld hHeld.1 _, heapOld hHeld.2.1 _, (World.cell?_of_block (Below.heap_alloc _ _ _ (lt_of_cell hHeld.2.2))).trans hHeld.2.2⟩) (fun hHeld => ?_)
                            clear hK K
                            try simp only [Act.put, List.setIfInBounds_toArray, List.set_cons_zero, List.set_cons_succ]
                            refine wpAnyH_ready (rs := [8]) (by kernel_rfl) (by simp) ?_
                            refine AllReadyH.cons (o := { dst := some 116, op := Op.call { callee := Callee.value (Operand.func 12), args := #[Operand.tmp 108, Operand.tmp 115], argTypes := #[25, 9] }, type := 30, pos := "law.go:60", after := #[{ on := 0, ground := Ground.data }, { on := 7, ground := Ground.data }], guard := none }) rfl (fun K hK => ?_) AllReadyH.nil
                            go_simp
                            go_at_call 12
                            refine (HFJ.out _ ((Below.drew (Below.refl wj.heap.size wj)).alloc (Nat.le_refl _) _)).mono ?_
                            rintro e w8 ⟨⟨cy, rfl, hcy⟩, hb8⟩
                            simp only at hcy ⊢
                            have Hy := Lib.hid hcy.wide
                            have hcylo := RdA.keep (lo' := wj.heap.size + 1) (fun _ _ _ => rfl) (by simp) (Nat.le_refl _) _ _ hcy
                            obtain ⟨yA, yc, yB, yd, ey, -⟩ := hcy.cells
                            subst ey
                            clear hcy
                            generalize (z).k = yk at *
                            generalize (z).n = yn at *
                            generalize strOf (z).s = yS at *
                            generalize (z).l.length = yl at *
                            generalize (z).ms.length = ym at *
                            have HB8 := Lib.hid (show Below wj.heap.size wj w8 from ((Below.drew (Below.refl wj.heap.size wj)).alloc (Nat.le_refl _) _).trans (hb8.mono ((Below.drew (Below.refl wj.heap.size wj)).alloc (Nat.le_refl _) _).size))
                            have HSX8 := Lib.hid (show w8.heap[w4.heap.size]? = some (.cells #[.int .i64 xk, .int .i64 xn, .string xS, .slice xA xl xc, .slice xB xm xd] 25 (0, 0)) ∧ w8.heap[w.heap.size + 1]? = some (.cells #[.int .i64 pk, .int .i64 pn, .string PS, .slice B1 pl e1, .slice (some ⟨bb, off, none⟩) pm e2] 25 (0, 0)) ∧ w8.cell? ⟨bb, off + kk * 6, none⟩ = some (.string QX) from ⟨(HB8.out.block _ HEX.out).trans HSJ.out.1, (HB8.out.block _ HPX.out).trans HSJ.out.2.1, (HB8.out.cell (show bb < _ from HBBJ.out)).trans HSJ.out.2.2⟩)
                            have hz1 := (hb8.block wj.heap.size (by simp)).trans (heapNew wj (.cells #[.int .i64 0, .int .i64 0, .string ⟨#[]⟩, .slice none 0 0, .slice none 0 0] 25))
                            have HZ := Lib.hid hz1
                            have HLO := Lib.hid (show wj.heap.size + 1 ≤ w8.heap.size by have := hb8.size; simpa using this)
                            have HLY := Lib.hid (hcylo)
                            clear hb8 hz1
                            refine hK.out _ _ (HSX8.out) (fun hHeld => ?_)
                            clear hK K
                            try simp only [Act.put, List.setIfInBounds_toArray, List.set_cons_zero, List.set_cons_succ]
                            refine wpAnyH_take (i := 9) (oi := { dst := some 107, op := Op.move (Operand.tmp 116), type := 30, pos := "law.go:60", after := #[{ on := 8, ground := Ground.data }], guard := none }) (v := ?_) rfl (by kernel_rfl) (by kernel_rfl) (by kernel_rfl) (fun _ _ _ h => h) (Or.inl ⟨by rfl, ?_⟩) hHeld ?_
                            rotate_left
                            · intro w hSw; (try dsimp only at hSw); go_simp; with_reducible rfl
                            try simp only [Act.put, List.setIfInBounds_toArray, List.set_cons_zero, List.set_cons_succ]
                            refine wpAnyH_take (i := 10) (oi := { dst := some 117, op := Op.extract (Operand.tmp 107) 0, type := 25, pos := "law.go:60", after := #[{ on := 9, ground := Ground.data }], guard := none }) (v := ?_) rfl (by kernel_rfl) (by kernel_rfl) (by kernel_rfl) (fun _ _ _ h => h) (Or.inl ⟨by rfl, ?_⟩) hHeld ?_
                            rotate_left
                            · intro w hSw; (try dsimp only at hSw); go_simp; with_reducible rfl
                            try simp only [Act.put, List.setIfInBounds_toArray, List.set_cons_zero, List.set_cons_succ]
                            refine wpAnyH_take (i := 11) (oi := { dst := some 118, op := Op.extract (Operand.tmp 107) 1, type := 28, pos := "law.go:60", after := #[{ on := 9, ground := Ground.data }, { on := 13, ground := Ground.gcOnly Departure.lateStores }], guard := none }) (v := ?_) rfl (by kernel_rfl) (by kernel_rfl) (by kernel_rfl) (fun _ _ _ h => h) (Or.inl ⟨by rfl, ?_⟩) hHeld ?_
                            rotate_left
                            · intro w hSw; (try dsimp only at hSw); go_simp; with_reducible rfl
                            try simp only [Act.put, List.setIfInBounds_toArray, List.set_cons_zero, List.set_cons_succ]
                            refine wpAnyH_ready (rs := [13]) (by kernel_rfl) (by simp) ?_
                            refine AllReadyH.cons (o := { dst := none, op := Op.store 25 (Operand.tmp 17) (Operand.tmp 117), type := 0, pos := "law.go:60", after := #[{ on := 12, ground := Ground.data }, { on := 10, ground := Ground.data }, { on := 8, ground := Ground.chain }, { on := 0, ground := Ground.phase }, { on := 1, ground := Ground.phase }, { on := 2, ground := Ground.phase }, { on := 3, ground := Ground.phase }, { on := 4, ground := Ground.phase }, { on := 5, ground := Ground.phase }, { on := 6, ground := Ground.phase }, { on := 7, ground := Ground.phase }, { on := 8, ground := Ground.phase }, { on := 9, ground := Ground.phase }, { on := 10, ground := Ground.phase }, { on := 11, ground := Ground.textOnly Departure.lateStores }, { on := 12, ground := Ground.phase }], guard := none }) rfl (fun K hK => ?_) AllReadyH.nil
                            obtain ⟨⟨z0, z1, z2, z3, z4⟩, ⟨y0, y1, y2, y3, y4⟩⟩ := row5 HZ.out
                            go_simp
                            clear z0 z1 z2 z3 z4 y0 y1 y2 y3 y4
                            obtain ⟨W9, hW9⟩ : ∃ W9, W9 = (((((w8.setCell ⟨wj.heap.size, 0, none⟩ (.int .i64 yk)).setCell ⟨wj.heap.size, 1, none⟩ (.int .i64 yn)).setCell ⟨wj.heap.size, 2, none⟩ (.string yS)).setCell ⟨wj.heap.size, 3, none⟩ (.slice yA yl yc)).setCell ⟨wj.heap.size, 4, none⟩ (.slice yB ym yd)) := ⟨_, rfl⟩
                            obtain ⟨E, hE⟩ : ∃ E, E = wj.heap.size := ⟨_, rfl⟩
                            have HX9 := Lib.hid (show W9.heap[E]? = some (.cells #[.int .i64 yk, .int .i64 yn, .string yS, .slice yA yl yc, .slice yB ym yd] 25 (0, 0)) by rw [hW9, hE]; exact st5_row HZ.out _ _ _ _ _)
                            have HB9 := Lib.hid (show Below wj.heap.size wj W9 by rw [hW9]; exact st5_below HB8.out (Nat.le_refl _) _ _ _ _ _)
                            have Hy9 := Lib.hid (show RdA W9 0 W9.heap.size z [.int .i64 yk, .int .i64 yn, .string yS, .slice yA yl yc, .slice yB ym yd] from RdA.keep (lo := wj.heap.size + 1) (hi := w8.heap.size) (fun q h1 _ => by rw [hW9]; exact cell_of_blk (st5_other (by omega) _ _ _ _ _)) (Nat.zero_le _) (by rw [hW9]; exact Nat.le_of_eq (st5_size (w := w8) (b := wj.heap.size) _ _ _ _ _).symm) _ _ HLY.out)
                            rw [← hW9, ← hE]
                            clear hW9 hE HZ HB8
                            refine hK.out _ _ (⟨(HB9.out.block _ HEX.out).trans HSJ.out.1, (HB9.out.block _ HPX.out).trans HSJ.out.2.1, (HB9.out.cell (show bb < _ from HBBJ.out)).trans HSJ.out.2.2⟩) (fun hHeld => ?_)
                            clear hK K
                            try simp only [Act.put, List.setIfInBounds_toArray, List.set_cons_zero, List.set_cons_succ]
                            refine wpAnyH_take (i := 14) (oi := { dst := some 18, op := Op.assign (Operand.tmp 118), type := 28, pos := "law.go:60", after := #[{ on := 11, ground := Ground.data }, { on := 13, ground := Ground.chain }, { on := 0, ground := Ground.phase }, { on := 1, ground := Ground.phase }, { on := 2, ground := Ground.phase }, { on := 3, ground := Ground.phase }, { on := 4, ground := Ground.phase }, { on := 5, ground := Ground.phase }, { on := 6, ground := Ground.phase }, { on := 7, ground := Ground.phase }, { on := 8, ground := Ground.phase }, { on := 9, ground := Ground.phase }, { on := 10, ground := Ground.phase }, { on := 11, ground := Ground.phase }, { on := 12, ground := Ground.phase }, { on := 13, ground := Ground.phase }], guard := none }) (v := ?_) rfl (by kernel_rfl) (by kernel_rfl) (by kernel_rfl) (fun _ _ _ h => h) (Or.inl ⟨by rfl, ?_⟩) hHeld ?_
                            rotate_left
                            · intro w hSw; (try dsimp only at hSw); go_simp; with_reducible rfl
                            try simp only [Act.put, List.setIfInBounds_toArray, List.set_cons_zero, List.set_cons_succ]
                            refine wpAnyH_done (by kernel_rfl) ?_ _
                            clear hHeld
                            have HBW9 := Lib.hid (show Below w.heap.size w W9 from HBwj.out.trans (HB9.out.mono HBwj.out.size))
                            have HP9 := Lib.hid (show W9.heap[w.heap.size + 1]? = some (.cells #[.int .i64 pk, .int .i64 pn, .string PS, .slice B1 pl e1, .slice (some ⟨bb, off, none⟩) pm e2] 25 (0, 0)) from (HB9.out.block _ HPX.out).trans Rwj_1.out)
                            have HM9 := Lib.hid (HC6.out.keep (w' := W9) (fun i => HBW9.out.cell (p := ⟨bb, i, none⟩) HBB.out))
                            obtain ⟨⟨p0, p1, p2, p3, p4⟩, -⟩ := row5 HP9.out
                            obtain ⟨a0, a1, a2, a3, a4, a5⟩ := HM9.out
                            go_wp2_with fail
                            clear p0 p1 p2 p3 p4 a0 a1 a2 a3 a4 a5
                            refine wp_region_held_drew (S := fun W' => W'.heap[E]? = some (.cells #[.int .i64 yk, .int .i64 yn, .string yS, .slice yA yl yc, .slice yB ym yd] 25 (0, 0)) ∧ W'.heap[w.heap.size + 1]? = some (.cells #[.int .i64 pk, .int .i64 pn, .string PS, .slice B1 pl e1, .slice (some ⟨bb, off, none⟩) pm e2] 25 (0, 0)) ∧ Six W' bb (off + kk * 6) (.string QX) (.int .i64 qk) (.int .i64 qn) (.string qS) (.slice qA ql qc) (.slice qB qm qd)) (by kernel_rfl) (⟨HX9.out, HP9.out, HM9.out⟩) (fun hHeld => ?_)
                            refine wpAnyH_take (i := 0) (oi := { dst := some 129, op := Op.move (Operand.tmp 18), type := 28, pos := "law.go:64", after := #[], guard := none }) (v := ?_) rfl (by kernel_rfl) (by kernel_rfl) (by kernel_rfl) (fun _ _ _ h => h) (Or.inl ⟨by rfl, ?_⟩) hHeld ?_
                            rotate_left
                            · intro w hSw; (try dsimp only at hSw); go_simp; with_reducible rfl
                            try simp only [Act.put, List.setIfInBounds_toArray, List.set_cons_zero, List.set_cons_succ]
                            refine wpAnyH_take (i := 1) (oi := { dst := some 130, op := Op.binOp BinOp.eql 28 (Operand.tmp 129) (Operand.const (Value.int IntKind.i64 0)) 28, type := 4, pos := "law.go:64", after := #[{ on := 0, ground := Ground.data }], guard := none }) (v := ?_) rfl (by kernel_rfl) (by kernel_rfl) (by kernel_rfl) (fun _ _ _ h => h) (Or.inl ⟨by rfl, ?_⟩) hHeld ?_
                            rotate_left
                            · intro w hSw; (try dsimp only at hSw); go_simp; with_reducible rfl
                            try simp only [Act.put, List.setIfInBounds_toArray, List.set_cons_zero, List.set_cons_succ]
                            refine wpAnyH_take (i := 2) (oi := { dst := some 131, op := Op.move (Operand.tmp 130), type := 4, pos := "law.go:64", after := #[{ on := 1, ground := Ground.data }], guard := none }) (v := ?_) rfl (by kernel_rfl) (by kernel_rfl) (by kernel_rfl) (fun _ _ _ h => h) (Or.inl ⟨by rfl, ?_⟩) hHeld ?_
                            rotate_left
                            · intro w hSw; (try dsimp only at hSw); go_simp; with_reducible rfl
                            try simp only [Act.put, List.setIfInBounds_toArray, List.set_cons_zero, List.set_cons_succ]
                            refine wpAnyH_take (i := 3) (oi := { dst := some 132, op := Op.load 25 (Operand.tmp 17), type := 25, pos := "law.go:64", after := #[{ on := 2, ground := Ground.guard }], guard := some (2, true) }) (v := ?_) rfl (by kernel_rfl) (by kernel_rfl) (by kernel_rfl) (fun _ _ _ h => h) (Or.inl ⟨by rfl, ?_⟩) hHeld ?_
                            rotate_left
                            · intro w hSw; (try dsimp only at hSw); obtain ⟨⟨p0, p1, p2, p3, p4⟩, -⟩ := row5 hSw.1; go_simp; with_reducible rfl
                            try simp only [Act.put, List.setIfInBounds_toArray, List.set_cons_zero, List.set_cons_succ]
                            refine wpAnyH_take (i := 4) (oi := { dst := some 133, op := Op.fieldAddr 25 (Operand.tmp 4) 4, type := 0, pos := "law.go:64", after := #[{ on := 2, ground := Ground.guard }], guard := some (2, true) }) (v := ?_) rfl (by kernel_rfl) (by kernel_rfl) (by kernel_rfl) (fun _ _ _ h => h) (Or.inl ⟨by rfl, ?_⟩) hHeld ?_
                            rotate_left
                            · intro w hSw; (try dsimp only at hSw); go_simp; with_reducible rfl
                            try simp only [Act.put, List.setIfInBounds_toArray, List.set_cons_zero, List.set_cons_succ]
                            refine wpAnyH_take (i := 5) (oi := { dst := some 134, op := Op.load 23 (Operand.tmp 133), type := 23, pos := "law.go:64", after := #[{ on := 4, ground := Ground.data }, { on := 2, ground := Ground.guard }], guard := some (2, true) }) (v := ?_) rfl (by kernel_rfl) (by kernel_rfl) (by kernel_rfl) (fun _ _ _ h => h) (Or.inl ⟨by rfl, ?_⟩) hHeld ?_
                            rotate_left
                            · intro w hSw; (try dsimp only at hSw); obtain ⟨⟨p0, p1, p2, p3, p4⟩, -⟩ := row5 hSw.2.1; go_simp; with_reducible rfl
                            try simp only [Act.put, List.setIfInBounds_toArray, List.set_cons_zero, List.set_cons_succ]
                            refine wpAnyH_take (i := 6) (oi := { dst := some 135, op := Op.move (Operand.tmp 11), type := 3, pos := "law.go:64", after := #[{ on := 2, ground := Ground.guard }], guard := some (2, true) }) (v := ?_) rfl (by kernel_rfl) (by kernel_rfl) (by kernel_rfl) (fun _ _ _ h => h) (Or.inl ⟨by rfl, ?_⟩) hHeld ?_
                            rotate_left
                            · intro w hSw; (try dsimp only at hSw); go_simp; with_reducible rfl
                            try simp only [Act.put, List.setIfInBounds_toArray, List.set_cons_zero, List.set_cons_succ]
                            refine wpAnyH_take (i := 7) (oi := { dst := some 136, op := Op.indexAddr 23 (Operand.tmp 134) (Operand.tmp 135), type := 0, pos := "law.go:64", after := #[{ on := 5, ground := Ground.data }, { on := 6, ground := Ground.data }, { on := 2, ground := Ground.guard }], guard := some (2, true) }) (v := ?_) rfl (by kernel_rfl) (by kernel_rfl) (by kernel_rfl) (fun _ _ _ h => h) (Or.inl ⟨by rfl, ?_⟩) hHeld ?_
                            rotate_left
                            · intro w hSw; (try dsimp only at hSw); go_simp; with_reducible rfl
                            try simp only [Act.put, List.setIfInBounds_toArray, List.set_cons_zero, List.set_cons_succ]
                            refine wpAnyH_take (i := 8) (oi := { dst := some 137, op := Op.fieldAddr 36 (Operand.tmp 136) 1, type := 0, pos := "law.go:64", after := #[{ on := 7, ground := Ground.data }, { on := 2, ground := Ground.guard }], guard := some (2, true) }) (v := ?_) rfl (by kernel_rfl) (by kernel_rfl) (by kernel_rfl) (fun _ _ _ h => h) (Or.inl ⟨by rfl, ?_⟩) hHeld ?_
                            rotate_left
                            · intro w hSw; (try dsimp only at hSw); go_simp; with_reducible rfl
                            try simp only [Act.put, List.setIfInBounds_toArray, List.set_cons_zero, List.set_cons_succ]
                            refine wpAnyH_take (i := 9) (oi := { dst := some 138, op := Op.load 25 (Operand.tmp 137), type := 25, pos := "law.go:64", after := #[{ on := 8, ground := Ground.data }, { on := 2, ground := Ground.guard }], guard := some (2, true) }) (v := ?_) rfl (by kernel_rfl) (by kernel_rfl) (by kernel_rfl) (fun _ _ _ h => h) (Or.inl ⟨by rfl, ?_⟩) hHeld ?_
                            rotate_left
                            · intro w hSw; (try dsimp only at hSw); obtain ⟨a0, a1, a2, a3, a4, a5⟩ := hSw.2.2; have b2 : w.cell? ⟨bb, off + kk * 6 + 1 + 1, none⟩ = some (.int .i64 qn) := a2; have b3 : w.cell? ⟨bb, off + kk * 6 + 1 + 2, none⟩ = some (.string qS) := a3; have b4 : w.cell? ⟨bb, off + kk * 6 + 1 + 3, none⟩ = some (.slice qA ql qc) := a4; have b5 : w.cell? ⟨bb, off + kk * 6 + 1 + 4, none⟩ = some (.slice qB qm qd) := a5; go_simp; with_reducible rfl
                            try simp only [Act.put, List.setIfInBounds_toArray, List.set_cons_zero, List.set_cons_succ]
                            refine wpAnyH_ready (rs := [10]) (by kernel_rfl) (by simp) ?_
                            refine AllReadyH.cons (o := { dst := some 139, op := Op.call { callee := Callee.value (Operand.func 13), args := #[Operand.tmp 132, Operand.tmp 138], argTypes := #[25, 25] }, type := 4, pos := "law.go:64", after := #[{ on := 3, ground := Ground.data }, { on := 9, ground := Ground.data }, { on := 2, ground := Ground.chain }, { on := 2, ground := Ground.guard }], guard := some (2, true) }) rfl (fun K hK => ?_) AllReadyH.nil
                            go_simp
                            go_at_call 13
                            refine (same_self z [.int .i64 yk, .int .i64 yn, .string yS, .slice yA yl yc, .slice yB ym yd] [.int .i64 qk, .int .i64 qn, .string qS, .slice qA ql qc, .slice qB qm qd] _ HZY.out (Hy9.out.below ((Below.refl W9.heap.size W9).drew) (Nat.le_refl _) (Nat.le_refl _)) (HVAL.out.below HBW9.out.drew (Nat.le_refl _) HBW9.out.size)).mono ?_
                            rintro e wf ⟨rfl, hbf⟩
                            have HBF := Lib.hid (show Below W9.heap.size W9 wf from (Below.drew (Below.refl W9.heap.size W9)).trans hbf)
                            have HE9 := Lib.hid (Array.getElem?_eq_some_iff.1 HX9.out).1
                            clear hbf
                            refine hK.out _ _ (⟨(HBF.out.block _ HE9.out).trans HX9.out, (HBF.out.block _ (Nat.lt_of_lt_of_le HPX.out HB9.out.size)).trans HP9.out, HM9.out.keep (fun i => HBF.out.cell (p := ⟨bb, i, none⟩) (Nat.lt_of_lt_of_le HBBJ.out HB9.out.size))⟩) (fun hHeld => ?_)
                            clear hK K
                            try simp only [Act.put, List.setIfInBounds_toArray, List.set_cons_zero, List.set_cons_succ]
                            refine wpAnyH_take (i := 11) (oi := { dst := some 140, op := Op.pick (Operand.tmp 131) (Operand.tmp 139) (Operand.const (Value.bool false)), type := 4, pos := "law.go:64", after := #[{ on := 2, ground := Ground.data }, { on := 10, ground := Ground.data }], guard := none }) (v := ?_) rfl (by kernel_rfl) (by kernel_rfl) (by kernel_rfl) (fun _ _ _ h => h) (Or.inl ⟨by rfl, ?_⟩) hHeld ?_
                            rotate_left
                            · intro w hSw; (try dsimp only at hSw); go_simp; with_reducible rfl
                            try simp only [Act.put, List.setIfInBounds_toArray, List.set_cons_zero, List.set_cons_succ]
                            refine wpAnyH_take (i := 12) (oi := { dst := some 6, op := Op.assign (Operand.tmp 140), type := 4, pos := "law.go:64", after := #[{ on := 11, ground := Ground.data }, { on := 10, ground := Ground.chain }, { on := 0, ground := Ground.phase }, { on := 1, ground := Ground.phase }, { on := 2, ground := Ground.phase }, { on := 3, ground := Ground.phase }, { on := 4, ground := Ground.phase }, { on := 5, ground := Ground.phase }, { on := 6, ground := Ground.phase }, { on := 7, ground := Ground.phase }, { on := 8, ground := Ground.phase }, { on := 9, ground := Ground.phase }, { on := 10, ground := Ground.phase }, { on := 11, ground := Ground.phase }], guard := none }) (v := ?_) rfl (by kernel_rfl) (by kernel_rfl) (by kernel_rfl) (fun _ _ _ h => h) (Or.inl ⟨by rfl, ?_⟩) hHeld ?_
                            rotate_left
                            · intro w hSw; (try dsimp only at hSw); go_simp; with_reducible rfl
                            try simp only [Act.put, List.setIfInBounds_toArray, List.set_cons_zero, List.set_cons_succ]
                            refine wpAnyH_done (by kernel_rfl) ?_ _
                            clear hHeld
                            go_wp2
                            go_ret
                            exact ⟨rfl, HBW9.out.trans (HBF.out.mono HBW9.out.size)⟩
                      · have s3 : decide ((nm : Int) ≤ (nl : Int)) = false := decide_eq_false (by omega)
                        have s4 : decide (nm ≤ nl) = false := decide_eq_false hle
                        clear hle
                        obtain ⟨⟨p0_0, p0_1, p0_2, p0_3, p0_4⟩, -⟩ := row5 Rwj_0.out
                        obtain ⟨⟨p1_0, p1_1, p1_2, p1_3, p1_4⟩, -⟩ := row5 Rwj_1.out
                        obtain ⟨⟨p2_0, p2_1, p2_2, p2_3, p2_4⟩, -⟩ := row5 Rwj_2.out
                        go_wp2
                        go_ret
                        exact ⟨rfl, HBwj.out⟩
              · have t1 : decide ((kk : Int) < (pm : Int)) = false := decide_eq_false (by omega)
                have t2 : decide (kk < pm) = false := decide_eq_false hlt
                obtain rfl : pm = kk := by omega
                have HLEQ := Lib.hid (show leadsV leadV at_ x = leadsV leadV at_ v by
                  unfold leadsV
                  rw [HLS.out, ← HXV.out]
                  simp only []
                  rw [apl_lead _ v ls (HFT.out HFIT.out) HLV.out (fun m hm => by
                    obtain ⟨j, hj, rfl⟩ := List.getElem_of_mem hm
                    have hj2 : j < p.ms.length := by rw [← lst_len HPN.out]; exact hj
                    have hj3 : j < d.length := by rw [HDL.out]; exact hj2
                    rw [lst_get hj (by rw [HPN.out]; exact hj2) hj2]
                    have h1 := HAPT.out j hj3 (by rw [← HPM.out]; exact hj2)
                    have h2 : p.ns[j]'(by rw [HPN.out]; exact hj2) = d[j].nm := by
                      have : (d.map M6.nm)[j]'(by rw [List.length_map]; exact hj3) = p.ns[j]'(by rw [HPN.out]; exact hj2) := by simp only [HDN.out]
                      rw [← this, List.getElem_map]
                    rw [h2]
                    exact h1)])
                clear hlt hk
                obtain ⟨⟨p0_0, p0_1, p0_2, p0_3, p0_4⟩, -⟩ := row5 Rwo_0.out
                obtain ⟨⟨p1_0, p1_1, p1_2, p1_3, p1_4⟩, -⟩ := row5 Rwo_1.out
                obtain ⟨⟨p2_0, p2_1, p2_2, p2_3, p2_4⟩, -⟩ := row5 Rwo_2.out
                go_wp2_with fail
                clear p0_0 p0_1 p0_2 p0_3 p0_4 p1_0 p1_1 p1_2 p1_3 p1_4 p2_0 p2_1 p2_2 p2_3 p2_4
                refine (HFV.out _ HBwo.out).mono ?_
                rintro e w6 ⟨⟨ags, rfl, ha⟩, hb⟩
                have Rw6_0 := Lib.hid (show w6.heap[w.heap.size]? = some (.cells #[.int .i64 k, .int .i64 n, .string S, .slice A1 l1 c1, .slice A2 m1 c2] 25 (0, 0)) from (hb.block _ Lwo_0.out).trans Rwo_0.out)
                have Lw6_0 := Lib.hid (show w.heap.size < w6.heap.size from Nat.lt_of_lt_of_le Lwo_0.out hb.size)
                have Rw6_1 := Lib.hid (show w6.heap[w.heap.size + 1]? = some (.cells #[.int .i64 pk, .int .i64 pn, .string PS, .slice B1 pl e1, .slice B2 pm e2] 25 (0, 0)) from (hb.block _ Lwo_1.out).trans Rwo_1.out)
                have Lw6_1 := Lib.hid (show w.heap.size + 1 < w6.heap.size from Nat.lt_of_lt_of_le Lwo_1.out hb.size)
                have Rw6_2 := Lib.hid (show w6.heap[w4.heap.size]? = some (.cells #[.int .i64 xk, .int .i64 xn, .string xS, .slice xA xl xc, .slice xB xm xd] 25 (0, 0)) from (hb.block _ Lwo_2.out).trans Rwo_2.out)
                have Lw6_2 := Lib.hid (show w4.heap.size < w6.heap.size from Nat.lt_of_lt_of_le Lwo_2.out hb.size)
                have Fw6_x := Lib.hid (Fwo_x.out.trans (hb.mono Fwo_x.out.size))
                have Fw6_l := Lib.hid (Fwo_l.out.trans (hb.mono Fwo_l.out.size))
                have Fw6_o := Lib.hid (Fwo_o.out.trans (hb.mono Fwo_o.out.size))
                have HBw6 := Lib.hid (HBwo.out.trans (hb.mono HBwo.out.size))
                have Ha0 := ha.wide
                clear hb
                obtain ⟨r, hr⟩ : ∃ r, leadsV leadV at_ v = r := ⟨_, rfl⟩
                have HR := Lib.hid hr
                rw [hr] at Ha0 ha ⊢
                obtain ⟨y, g⟩ := r
                simp only at Ha0 ha ⊢
                have Ha := Lib.hid Ha0
                obtain ⟨aA, ac, aB, ad, ea, -⟩ := ha.cells
                subst ea
                clear ha hr Ha0
                generalize y.k = ak at *
                generalize y.n = an at *
                generalize strOf y.s = aS at *
                generalize y.l.length = al at *
                generalize y.ms.length = am at *
                have Fw6_a := Lib.hid (Below.refl w6.heap.size w6)
                obtain ⟨W6, hW6⟩ : ∃ W6, W6 = w6.alloc (.cells #[.int .i64 ak, .int .i64 an, .string aS, .slice aA al ac, .slice aB am ad] 25) := ⟨_, rfl⟩
                have hb : Below w6.heap.size w6 W6 := by rw [hW6]; exact (Below.refl _ _).alloc (Nat.le_refl _) _
                have RW6_0 := Lib.hid (show W6.heap[w.heap.size]? = some (.cells #[.int .i64 k, .int .i64 n, .string S, .slice A1 l1 c1, .slice A2 m1 c2] 25 (0, 0)) from (hb.block _ Lw6_0.out).trans Rw6_0.out)
                have LW6_0 := Lib.hid (show w.heap.size < W6.heap.size from Nat.lt_of_lt_of_le Lw6_0.out hb.size)
                have RW6_1 := Lib.hid (show W6.heap[w.heap.size + 1]? = some (.cells #[.int .i64 pk, .int .i64 pn, .string PS, .slice B1 pl e1, .slice B2 pm e2] 25 (0, 0)) from (hb.block _ Lw6_1.out).trans Rw6_1.out)
                have LW6_1 := Lib.hid (show w.heap.size + 1 < W6.heap.size from Nat.lt_of_lt_of_le Lw6_1.out hb.size)
                have RW6_2 := Lib.hid (show W6.heap[w4.heap.size]? = some (.cells #[.int .i64 xk, .int .i64 xn, .string xS, .slice xA xl xc, .slice xB xm xd] 25 (0, 0)) from (hb.block _ Lw6_2.out).trans Rw6_2.out)
                have LW6_2 := Lib.hid (show w4.heap.size < W6.heap.size from Nat.lt_of_lt_of_le Lw6_2.out hb.size)
                have FW6_x := Lib.hid (Fw6_x.out.trans (hb.mono Fw6_x.out.size))
                have FW6_l := Lib.hid (Fw6_l.out.trans (hb.mono Fw6_l.out.size))
                have FW6_o := Lib.hid (Fw6_o.out.trans (hb.mono Fw6_o.out.size))
                have FW6_a := Lib.hid (Fw6_a.out.trans (hb.mono Fw6_a.out.size))
                have HBW6 := Lib.hid (HBw6.out.trans (hb.mono HBw6.out.size))
                have RW6_3 := Lib.hid (show W6.heap[w6.heap.size]? = some (.cells #[.int .i64 ak, .int .i64 an, .string aS, .slice aA al ac, .slice aB am ad] 25 (0, 0)) by rw [hW6]; exact heapNew _ _)
                have LW6_3 := Lib.hid (show w6.heap.size < W6.heap.size by rw [hW6, szAl]; exact Nat.lt_succ_self _)
                have HW6 := Lib.hid hW6
                clear hW6 hb
                have HSY := Lib.hid (show szA 4611686018427387904 y by
                  have h := sz_leads (p := at_) HNMV.out HSV.out
                  rw [HR.out] at h
                  exact Em.szA_more (by omega) _ h)
                have q0 := RW6_0.out
                rw [HW6.out] at q0
                obtain ⟨⟨p0_0, p0_1, p0_2, p0_3, p0_4⟩, -⟩ := row5 q0
                clear q0
                have q1 := RW6_1.out
                rw [HW6.out] at q1
                obtain ⟨⟨p1_0, p1_1, p1_2, p1_3, p1_4⟩, -⟩ := row5 q1
                clear q1
                have q2 := RW6_2.out
                rw [HW6.out] at q2
                obtain ⟨⟨p2_0, p2_1, p2_2, p2_3, p2_4⟩, -⟩ := row5 q2
                clear q2
                have q3 := RW6_3.out
                rw [HW6.out] at q3
                obtain ⟨⟨p3_0, p3_1, p3_2, p3_3, p3_4⟩, -⟩ := row5 q3
                clear q3
                go_wp2_with fail
                rw [← HW6.out]
                clear p0_0 p0_1 p0_2 p0_3 p0_4 p1_0 p1_1 p1_2 p1_3 p1_4 p2_0 p2_1 p2_2 p2_3 p2_4 p3_0 p3_1 p3_2 p3_3 p3_4
                refine (HFX.out x [.int .i64 xk, .int .i64 xn, .string xS, .slice xA xl xc, .slice xB xm xd] _ (Hx.out.below FW6_x.out (Nat.le_refl _) FW6_x.out.size) (szA_of _ x HXF.out.2.1 (by have := HXF.out.2.2; omega))).mono ?_
                rintro e w7 ⟨⟨bs, rfl, hb2⟩, hb⟩
                have Rw7_0 := Lib.hid (show w7.heap[w.heap.size]? = some (.cells #[.int .i64 k, .int .i64 n, .string S, .slice A1 l1 c1, .slice A2 m1 c2] 25 (0, 0)) from (hb.block _ LW6_0.out).trans RW6_0.out)
                have Lw7_0 := Lib.hid (show w.heap.size < w7.heap.size from Nat.lt_of_lt_of_le LW6_0.out hb.size)
                have Rw7_1 := Lib.hid (show w7.heap[w.heap.size + 1]? = some (.cells #[.int .i64 pk, .int .i64 pn, .string PS, .slice B1 pl e1, .slice B2 pm e2] 25 (0, 0)) from (hb.block _ LW6_1.out).trans RW6_1.out)
                have Lw7_1 := Lib.hid (show w.heap.size + 1 < w7.heap.size from Nat.lt_of_lt_of_le LW6_1.out hb.size)
                have Rw7_2 := Lib.hid (show w7.heap[w4.heap.size]? = some (.cells #[.int .i64 xk, .int .i64 xn, .string xS, .slice xA xl xc, .slice xB xm xd] 25 (0, 0)) from (hb.block _ LW6_2.out).trans RW6_2.out)
                have Lw7_2 := Lib.hid (show w4.heap.size < w7.heap.size from Nat.lt_of_lt_of_le LW6_2.out hb.size)
                have Rw7_3 := Lib.hid (show w7.heap[w6.heap.size]? = some (.cells #[.int .i64 ak, .int .i64 an, .string aS, .slice aA al ac, .slice aB am ad] 25 (0, 0)) from (hb.block _ LW6_3.out).trans RW6_3.out)
                have Lw7_3 := Lib.hid (show w6.heap.size < w7.heap.size from Nat.lt_of_lt_of_le LW6_3.out hb.size)
                have Fw7_x := Lib.hid (FW6_x.out.trans (hb.mono FW6_x.out.size))
                have Fw7_l := Lib.hid (FW6_l.out.trans (hb.mono FW6_l.out.size))
                have Fw7_o := Lib.hid (FW6_o.out.trans (hb.mono FW6_o.out.size))
                have Fw7_a := Lib.hid (FW6_a.out.trans (hb.mono FW6_a.out.size))
                have HBw7 := Lib.hid (HBW6.out.trans (hb.mono HBW6.out.size))
                have Hb0 := hb2.wide
                clear hb
                rw [HLEQ.out, HR.out] at Hb0 hb2 ⊢
                simp only at Hb0 hb2 ⊢
                have Hb := Lib.hid Hb0
                obtain ⟨bA, bc, bB, bd, eb, -⟩ := hb2.cells
                obtain ⟨bk, hyk⟩ : ∃ z, y.k = z := ⟨_, rfl⟩
                obtain ⟨bn, hyn⟩ : ∃ z, y.n = z := ⟨_, rfl⟩
                obtain ⟨bS, hyS⟩ : ∃ z, strOf y.s = z := ⟨_, rfl⟩
                obtain ⟨bl, hyl⟩ : ∃ z, y.l.length = z := ⟨_, rfl⟩
                obtain ⟨bm, hym⟩ : ∃ z, y.ms.length = z := ⟨_, rfl⟩
                rw [hyk, hyn, hyS, hyl, hym] at eb
                subst eb
                clear hb2 Hb0 hyk hyn hyS hyl hym
                have tg : (g == g) = true := beq_self_eq_true g
                have Fw7_b := Lib.hid (Below.refl w7.heap.size w7)
                obtain ⟨W7, hW7⟩ : ∃ W7, W7 = w7.alloc (.cells #[.int .i64 bk, .int .i64 bn, .string bS, .slice bA bl bc, .slice bB bm bd] 25) := ⟨_, rfl⟩
                have hb : Below w7.heap.size w7 W7 := by rw [hW7]; exact (Below.refl _ _).alloc (Nat.le_refl _) _
                have RW7_0 := Lib.hid (show W7.heap[w.heap.size]? = some (.cells #[.int .i64 k, .int .i64 n, .string S, .slice A1 l1 c1, .slice A2 m1 c2] 25 (0, 0)) from (hb.block _ Lw7_0.out).trans Rw7_0.out)
                have LW7_0 := Lib.hid (show w.heap.size < W7.heap.size from Nat.lt_of_lt_of_le Lw7_0.out hb.size)
                have RW7_1 := Lib.hid (show W7.heap[w.heap.size + 1]? = some (.cells #[.int .i64 pk, .int .i64 pn, .string PS, .slice B1 pl e1, .slice B2 pm e2] 25 (0, 0)) from (hb.block _ Lw7_1.out).trans Rw7_1.out)
                have LW7_1 := Lib.hid (show w.heap.size + 1 < W7.heap.size from Nat.lt_of_lt_of_le Lw7_1.out hb.size)
                have RW7_2 := Lib.hid (show W7.heap[w4.heap.size]? = some (.cells #[.int .i64 xk, .int .i64 xn, .string xS, .slice xA xl xc, .slice xB xm xd] 25 (0, 0)) from (hb.block _ Lw7_2.out).trans Rw7_2.out)
                have LW7_2 := Lib.hid (show w4.heap.size < W7.heap.size from Nat.lt_of_lt_of_le Lw7_2.out hb.size)
                have RW7_3 := Lib.hid (show W7.heap[w6.heap.size]? = some (.cells #[.int .i64 ak, .int .i64 an, .string aS, .slice aA al ac, .slice aB am ad] 25 (0, 0)) from (hb.block _ Lw7_3.out).trans Rw7_3.out)
                have LW7_3 := Lib.hid (show w6.heap.size < W7.heap.size from Nat.lt_of_lt_of_le Lw7_3.out hb.size)
                have FW7_x := Lib.hid (Fw7_x.out.trans (hb.mono Fw7_x.out.size))
                have FW7_l := Lib.hid (Fw7_l.out.trans (hb.mono Fw7_l.out.size))
                have FW7_o := Lib.hid (Fw7_o.out.trans (hb.mono Fw7_o.out.size))
                have FW7_a := Lib.hid (Fw7_a.out.trans (hb.mono Fw7_a.out.size))
                have FW7_b := Lib.hid (Fw7_b.out.trans (hb.mono Fw7_b.out.size))
                have HBW7 := Lib.hid (HBw7.out.trans (hb.mono HBw7.out.size))
                have RW7_4 := Lib.hid (show W7.heap[w7.heap.size]? = some (.cells #[.int .i64 bk, .int .i64 bn, .string bS, .slice bA bl bc, .slice bB bm bd] 25 (0, 0)) by rw [hW7]; exact heapNew _ _)
                have LW7_4 := Lib.hid (show w7.heap.size < W7.heap.size by rw [hW7, szAl]; exact Nat.lt_succ_self _)
                have HW7 := Lib.hid hW7
                clear hW7 hb
                have q0 := RW7_0.out
                rw [HW7.out] at q0
                obtain ⟨⟨p0_0, p0_1, p0_2, p0_3, p0_4⟩, -⟩ := row5 q0
                clear q0
                have q1 := RW7_1.out
                rw [HW7.out] at q1
                obtain ⟨⟨p1_0, p1_1, p1_2, p1_3, p1_4⟩, -⟩ := row5 q1
                clear q1
                have q2 := RW7_2.out
                rw [HW7.out] at q2
                obtain ⟨⟨p2_0, p2_1, p2_2, p2_3, p2_4⟩, -⟩ := row5 q2
                clear q2
                have q3 := RW7_3.out
                rw [HW7.out] at q3
                obtain ⟨⟨p3_0, p3_1, p3_2, p3_3, p3_4⟩, -⟩ := row5 q3
                clear q3
                have q4 := RW7_4.out
                rw [HW7.out] at q4
                obtain ⟨⟨p4_0, p4_1, p4_2, p4_3, p4_4⟩, -⟩ := row5 q4
                clear q4
                go_wp2_with fail
                rw [← HW7.out]
                clear p0_0 p0_1 p0_2 p0_3 p0_4 p1_0 p1_1 p1_2 p1_3 p1_4 p2_0 p2_1 p2_2 p2_3 p2_4 p3_0 p3_1 p3_2 p3_3 p3_4 p4_0 p4_1 p4_2 p4_3 p4_4
                refine (same_self y [.int .i64 ak, .int .i64 an, .string aS, .slice aA al ac, .slice aB am ad] [.int .i64 bk, .int .i64 bn, .string bS, .slice bA bl bc, .slice bB bm bd] _ HSY.out (Ha.out.below FW7_a.out (Nat.le_refl _) FW7_a.out.size) (Hb.out.below FW7_b.out (Nat.le_refl _) FW7_b.out.size)).mono ?_
                rintro e w8 ⟨rfl, hb⟩
                have Rw8_0 := Lib.hid (show w8.heap[w.heap.size]? = some (.cells #[.int .i64 k, .int .i64 n, .string S, .slice A1 l1 c1, .slice A2 m1 c2] 25 (0, 0)) from (hb.block _ LW7_0.out).trans RW7_0.out)
                have Lw8_0 := Lib.hid (show w.heap.size < w8.heap.size from Nat.lt_of_lt_of_le LW7_0.out hb.size)
                have Rw8_1 := Lib.hid (show w8.heap[w.heap.size + 1]? = some (.cells #[.int .i64 pk, .int .i64 pn, .string PS, .slice B1 pl e1, .slice B2 pm e2] 25 (0, 0)) from (hb.block _ LW7_1.out).trans RW7_1.out)
                have Lw8_1 := Lib.hid (show w.heap.size + 1 < w8.heap.size from Nat.lt_of_lt_of_le LW7_1.out hb.size)
                have Rw8_2 := Lib.hid (show w8.heap[w4.heap.size]? = some (.cells #[.int .i64 xk, .int .i64 xn, .string xS, .slice xA xl xc, .slice xB xm xd] 25 (0, 0)) from (hb.block _ LW7_2.out).trans RW7_2.out)
                have Lw8_2 := Lib.hid (show w4.heap.size < w8.heap.size from Nat.lt_of_lt_of_le LW7_2.out hb.size)
                have Rw8_3 := Lib.hid (show w8.heap[w6.heap.size]? = some (.cells #[.int .i64 ak, .int .i64 an, .string aS, .slice aA al ac, .slice aB am ad] 25 (0, 0)) from (hb.block _ LW7_3.out).trans RW7_3.out)
                have Lw8_3 := Lib.hid (show w6.heap.size < w8.heap.size from Nat.lt_of_lt_of_le LW7_3.out hb.size)
                have Rw8_4 := Lib.hid (show w8.heap[w7.heap.size]? = some (.cells #[.int .i64 bk, .int .i64 bn, .string bS, .slice bA bl bc, .slice bB bm bd] 25 (0, 0)) from (hb.block _ LW7_4.out).trans RW7_4.out)
                have Lw8_4 := Lib.hid (show w7.heap.size < w8.heap.size from Nat.lt_of_lt_of_le LW7_4.out hb.size)
                have Fw8_x := Lib.hid (FW7_x.out.trans (hb.mono FW7_x.out.size))
                have Fw8_l := Lib.hid (FW7_l.out.trans (hb.mono FW7_l.out.size))
                have Fw8_o := Lib.hid (FW7_o.out.trans (hb.mono FW7_o.out.size))
                have Fw8_a := Lib.hid (FW7_a.out.trans (hb.mono FW7_a.out.size))
                have Fw8_b := Lib.hid (FW7_b.out.trans (hb.mono FW7_b.out.size))
                have HBw8 := Lib.hid (HBW7.out.trans (hb.mono HBW7.out.size))
                clear hb
                go_wp2
                go_ret
                exact ⟨rfl, HBw8.out⟩
          · clear hls
            obtain ⟨⟨p0_0, p0_1, p0_2, p0_3, p0_4⟩, -⟩ := row5 Rw5_0.out
            obtain ⟨⟨p1_0, p1_1, p1_2, p1_3, p1_4⟩, -⟩ := row5 Rw5_1.out
            obtain ⟨⟨p2_0, p2_1, p2_2, p2_3, p2_4⟩, -⟩ := row5 Rw5_2.out
            go_wp2
            go_ret
            exact ⟨rfl, HBw5.out⟩
        · subst e0 ex
          clear hfit
          obtain ⟨W4, hW4⟩ : ∃ W4, W4 = w4.alloc (.cells #[.int .i64 0, .int .i64 0, .string ⟨#[]⟩, .slice none 0 0, .slice none 0 0] 25) := ⟨_, rfl⟩
          have hb : Below w4.heap.size w4 W4 := by rw [hW4]; exact (Below.refl _ _).alloc (Nat.le_refl _) _
          have RW4_0 := Lib.hid (show W4.heap[w.heap.size]? = some (.cells #[.int .i64 k, .int .i64 n, .string S, .slice A1 l1 c1, .slice A2 m1 c2] 25 (0, 0)) from (hb.block _ Lw4_0.out).trans Rw4_0.out)
          have LW4_0 := Lib.hid (show w.heap.size < W4.heap.size from Nat.lt_of_lt_of_le Lw4_0.out hb.size)
          have RW4_1 := Lib.hid (show W4.heap[w.heap.size + 1]? = some (.cells #[.int .i64 pk, .int .i64 pn, .string PS, .slice B1 pl e1, .slice B2 pm e2] 25 (0, 0)) from (hb.block _ Lw4_1.out).trans Rw4_1.out)
          have LW4_1 := Lib.hid (show w.heap.size + 1 < W4.heap.size from Nat.lt_of_lt_of_le Lw4_1.out hb.size)
          have HBW4 := Lib.hid (HBw4.out.trans (hb.mono HBw4.out.size))
          have RW4_2 := Lib.hid (show W4.heap[w4.heap.size]? = some (.cells #[.int .i64 0, .int .i64 0, .string ⟨#[]⟩, .slice none 0 0, .slice none 0 0] 25 (0, 0)) by rw [hW4]; exact heapNew _ _)
          have LW4_2 := Lib.hid (show w4.heap.size < W4.heap.size by rw [hW4, szAl]; exact Nat.lt_succ_self _)
          have HW4 := Lib.hid hW4
          clear hW4 hb
          have q0 := RW4_0.out
          rw [HW4.out] at q0
          obtain ⟨⟨p0_0, p0_1, p0_2, p0_3, p0_4⟩, -⟩ := row5 q0
          clear q0
          have q1 := RW4_1.out
          rw [HW4.out] at q1
          obtain ⟨⟨p1_0, p1_1, p1_2, p1_3, p1_4⟩, -⟩ := row5 q1
          clear q1
          have q2 := RW4_2.out
          rw [HW4.out] at q2
          obtain ⟨⟨p2_0, p2_1, p2_2, p2_3, p2_4⟩, -⟩ := row5 q2
          clear q2
          go_wp2_with fail
          rw [← HW4.out]
          clear p0_0 p0_1 p0_2 p0_3 p0_4 p1_0 p1_1 p1_2 p1_3 p1_4 p2_0 p2_1 p2_2 p2_3 p2_4
          refine (HPT.out _).mono ?_
          rintro e w5 ⟨hres, hb⟩
          have Rw5_0 := Lib.hid (show w5.heap[w.heap.size]? = some (.cells #[.int .i64 k, .int .i64 n, .string S, .slice A1 l1 c1, .slice A2 m1 c2] 25 (0, 0)) from (hb.block _ LW4_0.out).trans RW4_0.out)
          have Lw5_0 := Lib.hid (show w.heap.size < w5.heap.size from Nat.lt_of_lt_of_le LW4_0.out hb.size)
          have Rw5_1 := Lib.hid (show w5.heap[w.heap.size + 1]? = some (.cells #[.int .i64 pk, .int .i64 pn, .string PS, .slice B1 pl e1, .slice B2 pm e2] 25 (0, 0)) from (hb.block _ LW4_1.out).trans RW4_1.out)
          have Lw5_1 := Lib.hid (show w.heap.size + 1 < w5.heap.size from Nat.lt_of_lt_of_le LW4_1.out hb.size)
          have Rw5_2 := Lib.hid (show w5.heap[w4.heap.size]? = some (.cells #[.int .i64 0, .int .i64 0, .string ⟨#[]⟩, .slice none 0 0, .slice none 0 0] 25 (0, 0)) from (hb.block _ LW4_2.out).trans RW4_2.out)
          have Lw5_2 := Lib.hid (show w4.heap.size < w5.heap.size from Nat.lt_of_lt_of_le LW4_2.out hb.size)
          have HBw5 := Lib.hid (HBW4.out.trans (hb.mono HBW4.out.size))
          clear hb
          rcases hres with ⟨ls, lv, hls, rfl, hown⟩ | ⟨hls, rfl⟩
          · clear hls hown
            obtain ⟨⟨p0_0, p0_1, p0_2, p0_3, p0_4⟩, -⟩ := row5 Rw5_0.out
            obtain ⟨⟨p1_0, p1_1, p1_2, p1_3, p1_4⟩, -⟩ := row5 Rw5_1.out
            obtain ⟨⟨p2_0, p2_1, p2_2, p2_3, p2_4⟩, -⟩ := row5 Rw5_2.out
            go_wp2
            go_ret
            exact ⟨rfl, HBw5.out⟩
          · clear hls
            obtain ⟨⟨p0_0, p0_1, p0_2, p0_3, p0_4⟩, -⟩ := row5 Rw5_0.out
            obtain ⟨⟨p1_0, p1_1, p1_2, p1_3, p1_4⟩, -⟩ := row5 Rw5_1.out
            obtain ⟨⟨p2_0, p2_1, p2_2, p2_3, p2_4⟩, -⟩ := row5 Rw5_2.out
            go_wp2
            go_ret
            exact ⟨rfl, HBw5.out⟩
      · have tcV : (cV != 0) = true := bne_iff_ne.2 hcV
        clear hcV
        obtain ⟨⟨p0_0, p0_1, p0_2, p0_3, p0_4⟩, -⟩ := row5 Rw3_0.out
        obtain ⟨⟨p1_0, p1_1, p1_2, p1_3, p1_4⟩, -⟩ := row5 Rw3_1.out
        go_wp2_with fail
        clear p0_0 p0_1 p0_2 p0_3 p0_4 p1_0 p1_1 p1_2 p1_3 p1_4
        refine (awake_any9 _).mono ?_
        rintro e w4 ⟨rfl, hb⟩
        have Rw4_0 := Lib.hid (show w4.heap[w.heap.size]? = some (.cells #[.int .i64 k, .int .i64 n, .string S, .slice A1 l1 c1, .slice A2 m1 c2] 25 (0, 0)) from (hb.block _ Lw3_0.out).trans Rw3_0.out)
        have Lw4_0 := Lib.hid (show w.heap.size < w4.heap.size from Nat.lt_of_lt_of_le Lw3_0.out hb.size)
        have Rw4_1 := Lib.hid (show w4.heap[w.heap.size + 1]? = some (.cells #[.int .i64 pk, .int .i64 pn, .string PS, .slice B1 pl e1, .slice B2 pm e2] 25 (0, 0)) from (hb.block _ Lw3_1.out).trans Rw3_1.out)
        have Lw4_1 := Lib.hid (show w.heap.size + 1 < w4.heap.size from Nat.lt_of_lt_of_le Lw3_1.out hb.size)
        have HBw4 := Lib.hid (HBw3.out.trans (hb.mono HBw3.out.size))
        clear hb
        go_wp2
        go_ret
        exact ⟨rfl, HBw4.out⟩
  · have d1 : decide ((100 : Int) < ((strOf at_).size : Int)) = true := decide_eq_true (by rw [hXs]; omega)
    have d2 : decide (100 < (strOf at_).size) = true := decide_eq_true (by rw [hXs]; omega)
    clear hat hX hXs
    generalize strOf at_ = X at *
    generalize v.k = k at *
    generalize v.n = n at *
    generalize strOf v.s = S at *
    generalize v.l.length = l1 at *
    generalize v.ms.length = m1 at *
    generalize p.k = pk at *
    generalize p.n = pn at *
    generalize strOf p.s = PS at *
    generalize p.l.length = pl at *
    obtain ⟨W0, hW0⟩ : ∃ W0, W0 = ((w.alloc (.cells #[.int .i64 k, .int .i64 n, .string S, .slice A1 l1 c1, .slice A2 m1 c2] 25)).alloc (.cells #[.int .i64 pk, .int .i64 pn, .string PS, .slice B1 pl e1, .slice B2 pm e2] 25)) := ⟨_, rfl⟩
    have HBW0 := Lib.hid (show Below w.heap.size w W0 by rw [hW0]; exact ((Below.refl _ _).alloc (Nat.le_refl _) _).alloc (by simp) _)
    have hs0 : W0.heap.size = w.heap.size + 2 := by rw [hW0, szAl, szAl]
    have RW0_0 := Lib.hid (show W0.heap[w.heap.size]? = some (.cells #[.int .i64 k, .int .i64 n, .string S, .slice A1 l1 c1, .slice A2 m1 c2] 25 (0, 0)) by rw [hW0]; exact heapOld ((show (w.alloc (.cells #[.int .i64 k, .int .i64 n, .string S, .slice A1 l1 c1, .slice A2 m1 c2] 25)).heap[w.heap.size]? = some (.cells #[.int .i64 k, .int .i64 n, .string S, .slice A1 l1 c1, .slice A2 m1 c2] 25 (0, 0)) from by rw [show w.heap.size = w.heap.size by simp]; exact heapNew _ _)) _)
    have LW0_0 := Lib.hid (show w.heap.size < W0.heap.size by omega)
    have RW0_1 := Lib.hid (show W0.heap[w.heap.size + 1]? = some (.cells #[.int .i64 pk, .int .i64 pn, .string PS, .slice B1 pl e1, .slice B2 pm e2] 25 (0, 0)) by rw [hW0]; exact (show ((w.alloc (.cells #[.int .i64 k, .int .i64 n, .string S, .slice A1 l1 c1, .slice A2 m1 c2] 25)).alloc (.cells #[.int .i64 pk, .int .i64 pn, .string PS, .slice B1 pl e1, .slice B2 pm e2] 25)).heap[w.heap.size + 1]? = some (.cells #[.int .i64 pk, .int .i64 pn, .string PS, .slice B1 pl e1, .slice B2 pm e2] 25 (0, 0)) from by rw [show w.heap.size + 1 = (w.alloc (.cells #[.int .i64 k, .int .i64 n, .string S, .slice A1 l1 c1, .slice A2 m1 c2] 25)).heap.size by simp]; exact heapNew _ _))
    have LW0_1 := Lib.hid (show w.heap.size + 1 < W0.heap.size by omega)
    have HW0 := Lib.hid hW0
    clear hW0 hs0
    go_enter Try.func3, Try.ntmps3
    go_wp2_with fail
    rw [← HW0.out]
    refine (awake_any9 _).mono ?_
    rintro e w1 ⟨rfl, hb⟩
    have Rw1_0 := Lib.hid (show w1.heap[w.heap.size]? = some (.cells #[.int .i64 k, .int .i64 n, .string S, .slice A1 l1 c1, .slice A2 m1 c2] 25 (0, 0)) from (hb.block _ LW0_0.out).trans RW0_0.out)
    have Lw1_0 := Lib.hid (show w.heap.size < w1.heap.size from Nat.lt_of_lt_of_le LW0_0.out hb.size)
    have Rw1_1 := Lib.hid (show w1.heap[w.heap.size + 1]? = some (.cells #[.int .i64 pk, .int .i64 pn, .string PS, .slice B1 pl e1, .slice B2 pm e2] 25 (0, 0)) from (hb.block _ LW0_1.out).trans RW0_1.out)
    have Lw1_1 := Lib.hid (show w.heap.size + 1 < w1.heap.size from Nat.lt_of_lt_of_le LW0_1.out hb.size)
    have HBw1 := Lib.hid (HBW0.out.trans (hb.mono HBW0.out.size))
    clear hb
    obtain ⟨⟨p0_0, p0_1, p0_2, p0_3, p0_4⟩, -⟩ := row5 Rw1_0.out
    obtain ⟨⟨p1_0, p1_1, p1_2, p1_3, p1_4⟩, -⟩ := row5 Rw1_1.out
    go_wp2_with fail
    clear p0_0 p0_1 p0_2 p0_3 p0_4 p1_0 p1_1 p1_2 p1_3 p1_4
    refine (HFEW.out _ HBw1.out).mono ?_
    rintro e w2 ⟨⟨b, rfl⟩, hb⟩
    have Rw2_0 := Lib.hid (show w2.heap[w.heap.size]? = some (.cells #[.int .i64 k, .int .i64 n, .string S, .slice A1 l1 c1, .slice A2 m1 c2] 25 (0, 0)) from (hb.block _ Lw1_0.out).trans Rw1_0.out)
    have Lw2_0 := Lib.hid (show w.heap.size < w2.heap.size from Nat.lt_of_lt_of_le Lw1_0.out hb.size)
    have Rw2_1 := Lib.hid (show w2.heap[w.heap.size + 1]? = some (.cells #[.int .i64 pk, .int .i64 pn, .string PS, .slice B1 pl e1, .slice B2 pm e2] 25 (0, 0)) from (hb.block _ Lw1_1.out).trans Rw1_1.out)
    have Lw2_1 := Lib.hid (show w.heap.size + 1 < w2.heap.size from Nat.lt_of_lt_of_le Lw1_1.out hb.size)
    have HBw2 := Lib.hid (HBw1.out.trans (hb.mono HBw1.out.size))
    clear hb
    cases b
    · obtain ⟨⟨p0_0, p0_1, p0_2, p0_3, p0_4⟩, -⟩ := row5 Rw2_0.out
      obtain ⟨⟨p1_0, p1_1, p1_2, p1_3, p1_4⟩, -⟩ := row5 Rw2_1.out
      go_wp2_with fail
      clear p0_0 p0_1 p0_2 p0_3 p0_4 p1_0 p1_1 p1_2 p1_3 p1_4
      refine (awake_any9 _).mono ?_
      rintro e w3 ⟨rfl, hb⟩
      have Rw3_0 := Lib.hid (show w3.heap[w.heap.size]? = some (.cells #[.int .i64 k, .int .i64 n, .string S, .slice A1 l1 c1, .slice A2 m1 c2] 25 (0, 0)) from (hb.block _ Lw2_0.out).trans Rw2_0.out)
      have Lw3_0 := Lib.hid (show w.heap.size < w3.heap.size from Nat.lt_of_lt_of_le Lw2_0.out hb.size)
      have Rw3_1 := Lib.hid (show w3.heap[w.heap.size + 1]? = some (.cells #[.int .i64 pk, .int .i64 pn, .string PS, .slice B1 pl e1, .slice B2 pm e2] 25 (0, 0)) from (hb.block _ Lw2_1.out).trans Rw2_1.out)
      have Lw3_1 := Lib.hid (show w.heap.size + 1 < w3.heap.size from Nat.lt_of_lt_of_le Lw2_1.out hb.size)
      have HBw3 := Lib.hid (HBw2.out.trans (hb.mono HBw2.out.size))
      clear hb
      go_wp2
      go_ret
      exact ⟨rfl, HBw3.out⟩
    · obtain ⟨⟨p0_0, p0_1, p0_2, p0_3, p0_4⟩, -⟩ := row5 Rw2_0.out
      obtain ⟨⟨p1_0, p1_1, p1_2, p1_3, p1_4⟩, -⟩ := row5 Rw2_1.out
      go_wp2_with fail
      clear p0_0 p0_1 p0_2 p0_3 p0_4 p1_0 p1_1 p1_2 p1_3 p1_4
      refine (awake_any9 _).mono ?_
      rintro e w3 ⟨rfl, hb⟩
      have Rw3_0 := Lib.hid (show w3.heap[w.heap.size]? = some (.cells #[.int .i64 k, .int .i64 n, .string S, .slice A1 l1 c1, .slice A2 m1 c2] 25 (0, 0)) from (hb.block _ Lw2_0.out).trans Rw2_0.out)
      have Lw3_0 := Lib.hid (show w.heap.size < w3.heap.size from Nat.lt_of_lt_of_le Lw2_0.out hb.size)
      have Rw3_1 := Lib.hid (show w3.heap[w.heap.size + 1]? = some (.cells #[.int .i64 pk, .int .i64 pn, .string PS, .slice B1 pl e1, .slice B2 pm e2] 25 (0, 0)) from (hb.block _ Lw2_1.out).trans Rw2_1.out)
      have Lw3_1 := Lib.hid (show w.heap.size + 1 < w3.heap.size from Nat.lt_of_lt_of_le Lw2_1.out hb.size)
      have HBw3 := Lib.hid (HBw2.out.trans (hb.mono HBw2.out.size))
      clear hb
      go_wp2
      go_ret
      exact ⟨rfl, HBw3.out⟩
end Go.Proofs.Ytbfogkcnfnjcaaa.Pa
