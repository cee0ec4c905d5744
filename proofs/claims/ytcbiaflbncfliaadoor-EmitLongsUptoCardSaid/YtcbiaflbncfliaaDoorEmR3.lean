import Derived.Test.YtcbiaflbncfliaaDoorEmR2
import Derived.Test.YtcbiaflbncfliaaDoorEmC
import Derived.Test.YtcbiaflbncfliaaDoorEmO
import Derived.Test.YtcbiaflbncfliaaDoorEmPl3
/- Contracts of the document's answer: Walk, Check, all. Written by tools/genEmR3.py. -/
namespace Go.Proofs.YtcbiaflbncfliaaDoor.Em
open Go.RowKit
open Go.Proofs.YtcbiaflbncfliaaDoor.Utf
open Go.Proofs.YtcbiaflbncfliaaDoor.Sc
open Go.Proofs.YtcbiaflbncfliaaDoor.Re

/-- what Walk hands back -/
def GivesK (r : Nat × Int) (w : World) (e : Ending) (w' : World) : Prop := e = .returned (.tuple #[.int .i64 r.1, .int .i64 r.2]) ∧ Below w.heap.size w w'
theorem mxL_mem {L : Nat} {v : V} : ∀ {l : List V}, mxL L l → v ∈ l → mx L v := by
  intro l
  induction l with
  | nil => intro _ h; cases h
  | cons a r ih =>
    intro h hv
    rw [mxL] at h
    rcases List.mem_cons.1 hv with rfl | hv
    · exact h.1
    · exact ih h.2 hv
mutual
theorem mx_of_sz (L : Nat) : ∀ v : V, szU v ≤ L → mx L v
  | .mk k n s l ns ms, h => by
    rw [szU] at h
    rw [mx]
    exact ⟨by omega, fun x hx => by have := sum_mem' hx; omega, mxL_of_sz L l (by omega), mxL_of_sz L ms (by omega)⟩
theorem mxL_of_sz (L : Nat) : ∀ l : List V, szUL l ≤ L → mxL L l
  | [], _ => by rw [mxL]; trivial
  | v :: r, h => by
    rw [szUL] at h
    rw [mxL]
    exact ⟨mx_of_sz L v (by omega), mxL_of_sz L r (by omega)⟩
end
theorem mx_eq (L : Nat) (v : V) : mx L v ↔ (v.s.length ≤ L ∧ (∀ x ∈ v.ns, x.length ≤ L) ∧ mxL L v.l ∧ mxL L v.ms) := by
  cases v; rw [mx]; rfl

set_option maxRecDepth 100000 in
set_option maxHeartbeats 16000000 in
theorem rWalk_any (h : Nat) : ∀ (v : V) (cs : List Value) (d p : Nat) (w : World), ht v ≤ h → szA 4611686018427387904 v → mx 1048576 v → RdA w 0 w.heap.size v cs → d ≤ 17 → p ≤ 8192 →
    Calls Tryd.prog 28 #[.agg cs.toArray, .int .i64 d, .int .i64 p] w (GivesK (wk v d p) w) := by
  induction h with
  | zero => intro v cs d p w hh; rw [ht_eq] at hh; omega
  | succ h ih =>
    intro v cs d p w hh hz hm hR hd hp
    have hR0 := hR
    obtain ⟨A, c, A2, c2, rfl, hn, hL, hM⟩ := hR.cells
    obtain ⟨_, _, hz3, hz4, hz5, hz6, hz7, hz8⟩ := (szA_eq _ v).1 hz
    obtain ⟨hm1, hm2, hm3, hm4⟩ := (mx_eq _ v).1 hm
    have hht := ht_eq v
    have iR := fun w1 (hb : Below w.heap.size w w1) => rown_any v _ 0 w1 (hR.below hb (Nat.le_refl _) hb.size) hm1 hm2 (by omega)
    have il : ∀ v', v' ∈ v.l → ∀ (cs : List Value) (q : Nat) (w : World), RdA w 0 w.heap.size v' cs → d + 1 ≤ 17 → q ≤ 8192 → Calls Tryd.prog 28 #[.agg cs.toArray, .int .i64 ((d : Int) + 1), .int .i64 q] w (GivesK (wk v' (d + 1) q) w) :=
      fun v' hv cs q w h1 h3 h4 => ih v' cs (d + 1) q w (by have := htL_mem hv; omega) (szAL_mem hz7 hv) (mxL_mem hm3 hv) h1 h3 h4
    have im : ∀ v', v' ∈ v.ms → ∀ (cs : List Value) (q : Nat) (w : World), RdA w 0 w.heap.size v' cs → d + 1 ≤ 17 → q ≤ 8192 → Calls Tryd.prog 28 #[.agg cs.toArray, .int .i64 ((d : Int) + 1), .int .i64 q] w (GivesK (wk v' (d + 1) q) w) :=
      fun v' hv cs q w h1 h3 h4 => ih v' cs (d + 1) q w (by have := htL_mem hv; omega) (szAL_mem hz8 hv) (mxL_mem hm4 hv) h1 h3 h4
    have hW : wk v d p = if 16 < d then (p, 51) else if p = 8192 then (p, 53) else if own v.k v.n v.s v.l.length v.ns v.ms.length then
      (if (wkL v.l (d + 1) (p + 1)).2 ≠ 0 then wkL v.l (d + 1) (p + 1) else wkL v.ms (d + 1) (wkL v.l (d + 1) (p + 1)).1) else (p, 1) := by cases v; rw [wk]; rfl
    have hw1 : 16 < d → wk v d p = (p, 51) := fun e => by rw [hW, if_pos e]
    have hw2 : ¬ 16 < d → p = 8192 → wk v d p = (p, 53) := fun e1 e2 => by rw [hW, if_neg e1, if_pos e2]
    have hw3 : ¬ 16 < d → ¬ p = 8192 → ¬ own v.k v.n v.s v.l.length v.ns v.ms.length → wk v d p = (p, 1) := fun e1 e2 e3 => by rw [hW, if_neg e1, if_neg e2, if_neg e3]
    have hw4 : ¬ 16 < d → ¬ p = 8192 → own v.k v.n v.s v.l.length v.ns v.ms.length → wk v d p = if (wkL v.l (d + 1) (p + 1)).2 ≠ 0 then wkL v.l (d + 1) (p + 1) else wkL v.ms (d + 1) (wkL v.l (d + 1) (p + 1)).1 := fun e1 e2 e3 => by rw [hW, if_neg e1, if_neg e2, if_pos e3]
    clear hW
    have hsl : v.l.length ≤ 4611686018427387904 := by omega
    have hsm : v.ms.length ≤ 4611686018427387904 := by omega
    clear ih hh hht hz hR hR0 hz3 hz4 hz5 hz6 hz7 hz8 hm hm1 hm2 hm3 hm4
    obtain ⟨k, n, s, l, ns, ms⟩ := v
    simp only [V.k, V.n, V.s, V.l, V.ns, V.ms] at *
    generalize wk (V.mk k n s l ns ms) d p = r at *
    generalize own k n s l.length ns ms.length = Q at *
    generalize strOf s = S at *
    have HL := Lib.hid hL; clear hL
    have HM := Lib.hid hM; clear hM
    have IL := Lib.hid il; clear il
    have IM := Lib.hid im; clear im
    have IR := Lib.hid iR; clear iR
    have HSl := Lib.hid hsl; clear hsl
    have HSms := Lib.hid hsm; clear hsm
    have HW := Lib.hid (And.intro hw1 (And.intro hw2 (And.intro hw3 hw4))); clear hw1 hw2 hw3 hw4
    have HN := Lib.hid hn; clear hn
    have hb0 : ∀ o, Below w.heap.size w (w.alloc o) := fun o => (Below.refl _ _).alloc (Nat.le_refl _) _
    have HB0 := Lib.hid hb0; clear hb0
    by_cases h1 : 16 < d
    · have t1 : decide ((16 : Int) < (d : Int)) = true := decide_eq_true (by omega)
      have t1b : decide (16 < d) = true := decide_eq_true h1
      have hr : r = (p, 51) := HW.out.1 h1
      subst hr
      go_enter Tryd.func28, Tryd.ntmps28
      go_wp2_with fail
      go_ret2
      exact ⟨rfl, HB0.out _⟩
    · have t1 : decide ((16 : Int) < (d : Int)) = false := decide_eq_false (by omega)
      have t1b : decide (16 < d) = false := decide_eq_false h1
      by_cases h2 : p = 8192
      · have t2 : ((p : Int) == 8192) = true := by rw [beq_iff_eq]; omega
        have hr : r = (p, 53) := HW.out.2.1 h1 h2
        subst hr h2
        go_enter Tryd.func28, Tryd.ntmps28
        go_wp2_with fail
        go_ret2
        exact ⟨rfl, HB0.out _⟩
      · have t2 : ((p : Int) == 8192) = false := by rw [beq_eq_false_iff_ne]; omega
        have t2b : ((p : Int) = 8192) = False := by simp; omega
        go_enter Tryd.func28, Tryd.ntmps28
        go_wp2_with fail
        refine (IR.out _ (HB0.out _)).mono ?_
        rintro e w1 ⟨⟨x, rfl, hx⟩, hb⟩
        have hbw : Below w.heap.size w w1 := (HB0.out _).trans (hb.mono (by simp))
        have hz1 := (hb.block w.heap.size (by simp)).trans (heap_alloc_new w _)
        have f3 := (cell_of_row _ _ 3 _ _ _ hz1).trans rfl
        have f4 := (cell_of_row _ _ 4 _ _ _ hz1).trans rfl
        have s1 := hb.size
        rw [szAlloc'] at s1
        have HZ1 := Lib.hid hz1; clear hz1
        have HBW := Lib.hid hbw; clear hbw
        have HX := Lib.hid hx; clear hx
        clear hb
        cases x with
        | false =>
          have hr : r = (p, 1) := HW.out.2.2.1 h1 h2 (fun hq => by have := HX.out.2 hq; simp at this)
          subst hr
          go_wp2_with fail
          go_ret2
          exact ⟨rfl, HBW.out⟩
        | true =>
          have hr : r = if (wkL l (d + 1) (p + 1)).2 ≠ 0 then wkL l (d + 1) (p + 1) else wkL ms (d + 1) (wkL l (d + 1) (p + 1)).1 := HW.out.2.2.2 h1 h2 (HX.out.1 (by trivial))
          have HR := Lib.hid hr; clear hr HW HX
          go_wp2_with fail
          obtain ⟨nl, hnl⟩ : ∃ z, l.length = z := ⟨_, rfl⟩
          rw [hnl] at f3
          have HHnl := Lib.hid hnl
          have HLLnl := Lib.hid (fun h => HL.out (by rw [hnl]; exact h))
          have hsnl : nl ≤ 4611686018427387904 := by have := HSl.out; omega
          clear hnl
          go_loopw [8, 9, 10] (fun nn why i wr => ∃ kk : Nat, ∃ q : Nat, i = .int .i64 kk ∧ nn = .int .i64 q ∧ why = .int .i64 0 ∧ kk ≤ nl ∧ q ≤ 8192 ∧ wkL l (d + 1) (p + 1) = wkL (l.drop kk) (d + 1) q ∧ Below (w.heap.size + 1) w1 wr) (fun nn why i _ => nl - (intOf i).toNat)
          case atStart => exact ⟨0, p + 1, rfl, rfl, rfl, by omega, by omega, by rw [List.drop_zero], (Below.refl w1.heap.size w1).mono (by omega)⟩
          case round =>
            obtain ⟨kk, q, rfl, rfl, rfl, hk, hq, heq, hf⟩ := hrel
            have hf0 := hf
            have HF := Lib.hid hf0; clear hf0
            have hfw : Below w.heap.size w wr := HBW.out.trans (hf.mono (by omega))
            have e3 := (hf.cell (p := ⟨w.heap.size, 3, none⟩) (by show w.heap.size < _; omega)).trans f3
            have hsr := hf.size
            by_cases hlt0 : kk < nl
            · have hlt : kk < l.length := by rw [HHnl.out]; exact hlt0
              have hlb : decide ((kk : Int) < (nl : Int)) = true := decide_eq_true (by omega)
              have hlb2 : decide (kk < nl) = true := decide_eq_true hlt0
              have k0 : (0 : Int) ≤ (kk : Int) := by omega
              have k1 : (kk : Int) < (nl : Int) := by omega
              obtain ⟨g, o1, e1, _, hg, hRR⟩ := HLLnl.out (by omega)
              subst e1
              obtain ⟨xa, hxa, hva⟩ := RdAL.at_ _ o1 hRR kk hlt
              obtain ⟨p1, p2, p3, p4, ea, hj⟩ := hva.cells
              clear hj
              have hva2 := hva.below hfw (Nat.le_refl _) hfw.size
              have hcell : ∀ j u, xa[j]? = some u → wr.cell? ⟨g, o1 + kk * 5 + j, none⟩ = some u := fun j u hu => (hfw.cell (p := ⟨g, o1 + kk * 5 + j, none⟩) hg).trans (hxa j u hu)
              have hmem := List.getElem_mem hlt
              have hdr := wkL_drop hlt (d + 1) q
              have hcall := IL.out _ hmem xa q wr hva2 (by omega) hq
              clear hmem
              rw [ea] at hcell hcall
              generalize l[kk] = v' at *
              generalize v'.k = y1 at *
              generalize v'.n = y2 at *
              generalize strOf v'.s = y3 at *
              generalize v'.l.length = y4 at *
              generalize v'.ms.length = y5 at *
              have a0 : wr.cell? ⟨g, o1 + kk * 5, none⟩ = _ := hcell 0 _ rfl
              have a1 : wr.cell? ⟨g, o1 + kk * 5 + 1, none⟩ = _ := hcell 1 _ rfl
              have a2 : wr.cell? ⟨g, o1 + kk * 5 + 2, none⟩ = _ := hcell 2 _ rfl
              have a3 : wr.cell? ⟨g, o1 + kk * 5 + 3, none⟩ = _ := hcell 3 _ rfl
              have a4 : wr.cell? ⟨g, o1 + kk * 5 + 4, none⟩ = _ := hcell 4 _ rfl
              clear hcell hxa hva hva2 ea hRR
              rcases hr2 : wk v' (d + 1) q with ⟨q2, y⟩
              have hq2 := wk_le v' (d + 1) q hq
              rw [hr2] at hdr hcall hq2
              have HCALL := Lib.hid hcall; clear hcall
              have hdr2 := heq.trans hdr
              clear hdr heq
              by_cases hy : y = 0
              · subst hy
                have HDR := Lib.hid (hdr2.trans (if_neg (by simp))); clear hdr2
                go_wp2_with fail
                refine HCALL.out.mono ?_
                rintro e w2 ⟨rfl, hf3⟩
                go_wp2_with fail
                go_roundw
                case rel => exact ⟨kk + 1, q2, by go_num, rfl, rfl, by omega, hq2.1, HDR.out, HF.out.trans (hf3.mono (by omega))⟩
                case measure => simp [intOf]; omega
              · have HDR := Lib.hid (hdr2.trans (if_pos hy)); clear hdr2
                have ty : (y != 0) = true := by rw [bne_iff_ne]; exact hy
                have HY := Lib.hid hy; clear hy
                go_wp2_with fail
                refine HCALL.out.mono ?_
                rintro e w2 ⟨rfl, hf3⟩
                go_wp2_with fail
                go_ret2
                have hr3 : r = (q2, y) := by rw [HR.out, HDR.out, if_pos HY.out]
                rw [hr3]
                exact ⟨rfl, HBW.out.trans ((HF.out.trans (hf3.mono (by omega))).mono (by omega))⟩
            · have hlb : decide ((kk : Int) < (nl : Int)) = false := decide_eq_false (by omega)
              have hlb2 : decide (kk < nl) = false := decide_eq_false hlt0
              obtain rfl : nl = kk := by omega
              rw [wkL_end (by rw [HHnl.out]; exact Nat.le_refl _)] at heq
              have hr4 : r = wkL ms (d + 1) q := by rw [HR.out, heq]; simp
              have HR := Lib.hid hr4; clear hr4 heq
              obtain ⟨q0, hq0e⟩ : ∃ z, z = q := ⟨_, rfl⟩
              rw [← hq0e] at HR hq ⊢
              clear hq0e
              have hq0 := hq
              have HF5 := Lib.hid hf; clear hf hfw
              go_wp2_with fail
              obtain ⟨nms, hnms⟩ : ∃ z, ms.length = z := ⟨_, rfl⟩
              rw [hnms] at f4
              have HHnms := Lib.hid hnms
              have HLLnms := Lib.hid (fun h => HM.out (by rw [hnms]; exact h))
              have hsnms : nms ≤ 4611686018427387904 := by have := HSms.out; omega
              clear hnms
              go_loopw [8, 9, 11] (fun nn why i wr => ∃ kk : Nat, ∃ q : Nat, i = .int .i64 kk ∧ nn = .int .i64 q ∧ why = .int .i64 0 ∧ kk ≤ nms ∧ q ≤ 8192 ∧ wkL ms (d + 1) q0 = wkL (ms.drop kk) (d + 1) q ∧ Below (w.heap.size + 1) w1 wr) (fun nn why i _ => nms - (intOf i).toNat)
              case atStart => exact ⟨0, q0, rfl, rfl, rfl, by omega, hq0, by rw [List.drop_zero], HF5.out⟩
              case round =>
                obtain ⟨kk, q, rfl, rfl, rfl, hk, hq, heq, hf⟩ := hrel
                have hf0 := hf
                have HF := Lib.hid hf0; clear hf0
                have hfw : Below w.heap.size w wr := HBW.out.trans (hf.mono (by omega))
                have e4 := (hf.cell (p := ⟨w.heap.size, 4, none⟩) (by show w.heap.size < _; omega)).trans f4
                have hsr := hf.size
                by_cases hlt0 : kk < nms
                · have hlt : kk < ms.length := by rw [HHnms.out]; exact hlt0
                  have hlb : decide ((kk : Int) < (nms : Int)) = true := decide_eq_true (by omega)
                  have hlb2 : decide (kk < nms) = true := decide_eq_true hlt0
                  have k0 : (0 : Int) ≤ (kk : Int) := by omega
                  have k1 : (kk : Int) < (nms : Int) := by omega
                  obtain ⟨g, o1, e1, _, hg, hRR⟩ := HLLnms.out (by omega)
                  subst e1
                  have hlt2 : kk < ns.length := by rw [HN.out]; exact hlt
                  obtain ⟨_, xa, hxa, hva⟩ := RdAM.at_ _ _ o1 hRR kk hlt hlt2
                  obtain ⟨p1, p2, p3, p4, ea, hj⟩ := hva.cells
                  clear hj
                  have hva2 := hva.below hfw (Nat.le_refl _) hfw.size
                  have hcell : ∀ j u, xa[j]? = some u → wr.cell? ⟨g, o1 + kk * 6 + 1 + j, none⟩ = some u := fun j u hu => (hfw.cell (p := ⟨g, o1 + kk * 6 + 1 + j, none⟩) hg).trans (hxa j u hu)
                  have hmem := List.getElem_mem hlt
                  have hdr := wkL_drop hlt (d + 1) q
                  have hcall := IM.out _ hmem xa q wr hva2 (by omega) hq
                  clear hmem
                  rw [ea] at hcell hcall
                  generalize ms[kk] = v' at *
                  generalize v'.k = y1 at *
                  generalize v'.n = y2 at *
                  generalize strOf v'.s = y3 at *
                  generalize v'.l.length = y4 at *
                  generalize v'.ms.length = y5 at *
                  have a0 : wr.cell? ⟨g, o1 + kk * 6 + 1, none⟩ = _ := hcell 0 _ rfl
                  have a1 : wr.cell? ⟨g, o1 + kk * 6 + 2, none⟩ = _ := hcell 1 _ rfl
                  have a2 : wr.cell? ⟨g, o1 + kk * 6 + 3, none⟩ = _ := hcell 2 _ rfl
                  have a3 : wr.cell? ⟨g, o1 + kk * 6 + 4, none⟩ = _ := hcell 3 _ rfl
                  have a4 : wr.cell? ⟨g, o1 + kk * 6 + 5, none⟩ = _ := hcell 4 _ rfl
                  clear hcell hxa hva hva2 ea hRR
                  rcases hr2 : wk v' (d + 1) q with ⟨q2, y⟩
                  have hq2 := wk_le v' (d + 1) q hq
                  rw [hr2] at hdr hcall hq2
                  have HCALL := Lib.hid hcall; clear hcall
                  have hdr2 := heq.trans hdr
                  clear hdr heq
                  by_cases hy : y = 0
                  · subst hy
                    have HDR := Lib.hid (hdr2.trans (if_neg (by simp))); clear hdr2
                    go_wp2_with fail
                    refine HCALL.out.mono ?_
                    rintro e w2 ⟨rfl, hf3⟩
                    go_wp2_with fail
                    go_roundw
                    case rel => exact ⟨kk + 1, q2, by go_num, rfl, rfl, by omega, hq2.1, HDR.out, HF.out.trans (hf3.mono (by omega))⟩
                    case measure => simp [intOf]; omega
                  · have HDR := Lib.hid (hdr2.trans (if_pos hy)); clear hdr2
                    have ty : (y != 0) = true := by rw [bne_iff_ne]; exact hy
                    have HY := Lib.hid hy; clear hy
                    go_wp2_with fail
                    refine HCALL.out.mono ?_
                    rintro e w2 ⟨rfl, hf3⟩
                    go_wp2_with fail
                    go_ret2
                    have hr3 : r = (q2, y) := by rw [HR.out, HDR.out]
                    rw [hr3]
                    exact ⟨rfl, HBW.out.trans ((HF.out.trans (hf3.mono (by omega))).mono (by omega))⟩
                · have hlb : decide ((kk : Int) < (nms : Int)) = false := decide_eq_false (by omega)
                  have hlb2 : decide (kk < nms) = false := decide_eq_false hlt0
                  obtain rfl : nms = kk := by omega
                  rw [wkL_end (by rw [HHnms.out]; exact Nat.le_refl _)] at heq
                  go_wp2_with fail
                  go_ret2
                  have hr3 : r = (q, 0) := by rw [HR.out, heq]
                  rw [hr3]
                  exact ⟨rfl, hfw⟩

set_option maxRecDepth 100000 in
set_option maxHeartbeats 4000000 in
theorem rCheck_any (v : V) (cs : List Value) (w : World) (hz : szA 4611686018427387904 v) (hm : mx 1048576 v) (hR : RdA w 0 w.heap.size v cs) :
    Calls Tryd.prog 17 #[.agg cs.toArray] w (Gives (.int .i64 (chk v)) w) := by
  obtain ⟨A, c, A2, c2, e, _, _, _⟩ := hR.cells
  have hv := fun w1 (hb : Below w.heap.size w w1) => rWalk_any (ht v) v cs 1 0 w1 (Nat.le_refl _) hz hm (hR.below hb (Nat.le_refl _) hb.size) (by omega) (by omega)
  rw [e] at hv ⊢
  clear hR
  unfold chk
  generalize wk v 1 0 = r at *
  generalize v.k = y1 at *
  generalize v.n = y2 at *
  generalize strOf v.s = y3 at *
  generalize v.l.length = y4 at *
  generalize v.ms.length = y5 at *
  have HV := Lib.hid hv; clear hv
  have hb0 : ∀ o, Below w.heap.size w (w.alloc o) := fun o => (Below.refl _ _).alloc (Nat.le_refl _) _
  have HB0 := Lib.hid hb0; clear hb0
  go_enter Tryd.func17, Tryd.ntmps17
  go_wp2_with fail
  refine (HV.out _ (HB0.out _)).mono ?_
  rintro e w1 ⟨rfl, hb⟩
  have HB := Lib.hid ((HB0.out _).trans (hb.mono (by simp))); clear hb
  go_wp2_with fail
  go_ret
  exact ⟨rfl, HB.out⟩
set_option maxRecDepth 100000 in
set_option maxHeartbeats 16000000 in
theorem rall_any (h : Nat) : ∀ (v : V) (cs : List Value) (w : World), ht v ≤ h → szA 4611686018427387904 v → mx 1048576 v → RdA w 0 w.heap.size v cs →
    Calls Tryd.prog 14 #[.agg cs.toArray] w (Tells (allV v) w) := by
  induction h with
  | zero => intro v cs w hh; rw [ht_eq] at hh; omega
  | succ h ih =>
    intro v cs w hh hz hm hR
    have hR0 := hR
    obtain ⟨A, c, A2, c2, rfl, hn, hL, hM⟩ := hR.cells
    obtain ⟨_, _, hz3, hz4, hz5, hz6, hz7, hz8⟩ := (szA_eq _ v).1 hz
    obtain ⟨hm1, hm2, hm3, hm4⟩ := (mx_eq _ v).1 hm
    have hht := ht_eq v
    have iR := fun w1 (hb : Below w.heap.size w w1) => rown_any v _ 0 w1 (hR.below hb (Nat.le_refl _) hb.size) hm1 hm2 (by omega)
    have il : ∀ v', v' ∈ v.l → ∀ (cs : List Value) (w : World), RdA w 0 w.heap.size v' cs → Calls Tryd.prog 14 #[.agg cs.toArray] w (Tells (allV v') w) :=
      fun v' hv cs w h1 => ih v' cs w (by have := htL_mem hv; omega) (szAL_mem hz7 hv) (mxL_mem hm3 hv) h1
    have im : ∀ v', v' ∈ v.ms → ∀ (cs : List Value) (w : World), RdA w 0 w.heap.size v' cs → Calls Tryd.prog 14 #[.agg cs.toArray] w (Tells (allV v') w) :=
      fun v' hv cs w h1 => ih v' cs w (by have := htL_mem hv; omega) (szAL_mem hz8 hv) (mxL_mem hm4 hv) h1
    have hW : allV v ↔ own v.k v.n v.s v.l.length v.ns v.ms.length ∧ allL v.l ∧ allL v.ms := by cases v; rw [allV]; rfl
    have hsl : v.l.length ≤ 4611686018427387904 := by omega
    have hsm : v.ms.length ≤ 4611686018427387904 := by omega
    clear ih hh hht hz hR hR0 hz3 hz4 hz5 hz6 hz7 hz8 hm hm1 hm2 hm3 hm4
    obtain ⟨k, n, s, l, ns, ms⟩ := v
    simp only [V.k, V.n, V.s, V.l, V.ns, V.ms] at *
    generalize allV (V.mk k n s l ns ms) = R at *
    generalize own k n s l.length ns ms.length = Q at *
    generalize strOf s = S at *
    have HL := Lib.hid hL; clear hL
    have HM := Lib.hid hM; clear hM
    have IL := Lib.hid il; clear il
    have IM := Lib.hid im; clear im
    have IR := Lib.hid iR; clear iR
    have HSl := Lib.hid hsl; clear hsl
    have HSms := Lib.hid hsm; clear hsm
    have HW := Lib.hid hW; clear hW
    have HN := Lib.hid hn; clear hn
    obtain ⟨w1, hw1⟩ : ∃ z, z = w.alloc (.cells #[.int .i64 k, .int .i64 n, .string S, .slice A l.length c, .slice A2 ms.length c2] 25) := ⟨_, rfl⟩
    have hb1 : Below w.heap.size w w1 := by rw [hw1]; exact (Below.refl _ _).alloc (Nat.le_refl _) _
    have hz1 : w1.heap[w.heap.size]? = some (.cells #[.int .i64 k, .int .i64 n, .string S, .slice A l.length c, .slice A2 ms.length c2] 25 (0, 0)) := by rw [hw1]; exact heap_alloc_new w _
    have s1 : w1.heap.size = w.heap.size + 1 := by rw [hw1, szAlloc']
    have f0 : w1.cell? ⟨w.heap.size, 0, none⟩ = some (.int .i64 k) := (cell_of_row _ _ 0 _ _ _ hz1).trans rfl
    have f1 : w1.cell? ⟨w.heap.size, 1, none⟩ = some (.int .i64 n) := (cell_of_row _ _ 1 _ _ _ hz1).trans rfl
    have f2 : w1.cell? ⟨w.heap.size, 2, none⟩ = some (.string S) := (cell_of_row _ _ 2 _ _ _ hz1).trans rfl
    have f3 : w1.cell? ⟨w.heap.size, 3, none⟩ = some (.slice A l.length c) := (cell_of_row _ _ 3 _ _ _ hz1).trans rfl
    have f4 : w1.cell? ⟨w.heap.size, 4, none⟩ = some (.slice A2 ms.length c2) := (cell_of_row _ _ 4 _ _ _ hz1).trans rfl
    have HBW := Lib.hid hb1; clear hb1 hz1
    have HW1 := Lib.hid hw1; clear hw1
    go_enter Tryd.func14, Tryd.ntmps14
    go_wp2_with fail
    rw [← HW1.out]
    obtain ⟨nl, hnl⟩ : ∃ z, l.length = z := ⟨_, rfl⟩
    rw [hnl] at f3
    have HHnl := Lib.hid hnl
    have HLLnl := Lib.hid (fun h => HL.out (by rw [hnl]; exact h))
    have hsnl : nl ≤ 4611686018427387904 := by have := HSl.out; omega
    clear hnl
    go_loopw [3] (fun i wr => ∃ kk : Nat, i = .int .i64 kk ∧ kk ≤ nl ∧ (allL l ↔ allL (l.drop kk)) ∧ Below (w.heap.size + 1) w1 wr) (fun i _ => nl - (intOf i).toNat)
    case atStart => exact ⟨0, rfl, by omega, by rw [List.drop_zero], (Below.refl w1.heap.size w1).mono (by omega)⟩
    case round =>
      obtain ⟨kk, rfl, hk, heq, hf⟩ := hrel
      have hf0 := hf
      have HF := Lib.hid hf0; clear hf0
      have hfw : Below w.heap.size w wr := HBW.out.trans (hf.mono (by omega))
      have e3 := (hf.cell (p := ⟨w.heap.size, 3, none⟩) (by show w.heap.size < _; omega)).trans f3
      have hsr := hf.size
      by_cases hlt0 : kk < nl
      · have hlt : kk < l.length := by rw [HHnl.out]; exact hlt0
        have hlb : decide ((kk : Int) < (nl : Int)) = true := decide_eq_true (by omega)
        have hlb2 : decide (kk < nl) = true := decide_eq_true hlt0
        have k0 : (0 : Int) ≤ (kk : Int) := by omega
        have k1 : (kk : Int) < (nl : Int) := by omega
        obtain ⟨g, o1, e1, _, hg, hRR⟩ := HLLnl.out (by omega)
        subst e1
        obtain ⟨xa, hxa, hva⟩ := RdAL.at_ _ o1 hRR kk hlt
        obtain ⟨p1, p2, p3, p4, ea, hj⟩ := hva.cells
        clear hj
        have hva2 := hva.below hfw (Nat.le_refl _) hfw.size
        have hcell : ∀ j u, xa[j]? = some u → wr.cell? ⟨g, o1 + kk * 5 + j, none⟩ = some u := fun j u hu => (hfw.cell (p := ⟨g, o1 + kk * 5 + j, none⟩) hg).trans (hxa j u hu)
        have hmem := List.getElem_mem hlt
        have hdr : allL (l.drop kk) ↔ allV l[kk] ∧ allL (l.drop (kk + 1)) := by rw [List.drop_eq_getElem_cons hlt, allL]
        have hcall := IL.out _ hmem xa wr hva2
        clear hmem
        rw [ea] at hcell hcall
        generalize l[kk] = v' at *
        generalize v'.k = y1 at *
        generalize v'.n = y2 at *
        generalize strOf v'.s = y3 at *
        generalize v'.l.length = y4 at *
        generalize v'.ms.length = y5 at *
        have a0 : wr.cell? ⟨g, o1 + kk * 5, none⟩ = _ := hcell 0 _ rfl
        have a1 : wr.cell? ⟨g, o1 + kk * 5 + 1, none⟩ = _ := hcell 1 _ rfl
        have a2 : wr.cell? ⟨g, o1 + kk * 5 + 2, none⟩ = _ := hcell 2 _ rfl
        have a3 : wr.cell? ⟨g, o1 + kk * 5 + 3, none⟩ = _ := hcell 3 _ rfl
        have a4 : wr.cell? ⟨g, o1 + kk * 5 + 4, none⟩ = _ := hcell 4 _ rfl
        clear hcell hxa hva hva2 ea hRR
        have HDR := Lib.hid (heq.trans hdr); clear hdr heq
        have HCALL := Lib.hid hcall; clear hcall
        go_wp2_with fail
        refine HCALL.out.mono ?_
        rintro e w2 ⟨⟨x, rfl, hx⟩, hf3⟩
        have HX := Lib.hid hx; clear hx
        cases x with
        | true =>
          have hx := HX.out.1 (by trivial)
          have HX2 := Lib.hid hx; clear hx
          go_wp2_with fail
          go_roundw
          case rel => exact ⟨kk + 1, by go_num, by omega, by rw [HDR.out]; exact ⟨fun h => h.2, fun h => ⟨HX2.out, h⟩⟩, HF.out.trans (hf3.mono (by omega))⟩
          case measure => simp [intOf]; omega
        | false =>
          have hx : ¬ allV v' := fun h => by have := HX.out.2 h; simp at this
          have HX2 := Lib.hid hx; clear hx
          go_wp2_with fail
          go_ret
          exact ⟨⟨false, rfl, ⟨fun h => (by cases h), fun h => absurd ((HDR.out.1 (HW.out.1 h).2.1).1) HX2.out⟩⟩, HBW.out.trans ((HF.out.trans (hf3.mono (by omega))).mono (by omega))⟩
      · have hlb : decide ((kk : Int) < (nl : Int)) = false := decide_eq_false (by omega)
        have hlb2 : decide (kk < nl) = false := decide_eq_false hlt0
        obtain rfl : nl = kk := by omega
        have hq : allL l := heq.2 (by rw [List.drop_of_length_le (by rw [HHnl.out]; exact Nat.le_refl _), allL]; trivial)
        have HQL := Lib.hid hq; clear hq heq
        have HF5 := Lib.hid hf; clear hf hfw
        go_wp2_with fail
        obtain ⟨nms, hnms⟩ : ∃ z, ms.length = z := ⟨_, rfl⟩
        rw [hnms] at f4
        have HHnms := Lib.hid hnms
        have HLLnms := Lib.hid (fun h => HM.out (by rw [hnms]; exact h))
        have hsnms : nms ≤ 4611686018427387904 := by have := HSms.out; omega
        clear hnms
        go_loopw [4] (fun i wr => ∃ kk : Nat, i = .int .i64 kk ∧ kk ≤ nms ∧ (allL ms ↔ allL (ms.drop kk)) ∧ Below (w.heap.size + 1) w1 wr) (fun i _ => nms - (intOf i).toNat)
        case atStart => exact ⟨0, rfl, by omega, by rw [List.drop_zero], HF5.out⟩
        case round =>
          obtain ⟨kk, rfl, hk, heq, hf⟩ := hrel
          have hf0 := hf
          have HF := Lib.hid hf0; clear hf0
          have hfw : Below w.heap.size w wr := HBW.out.trans (hf.mono (by omega))
          have e4 := (hf.cell (p := ⟨w.heap.size, 4, none⟩) (by show w.heap.size < _; omega)).trans f4
          have hsr := hf.size
          by_cases hlt0 : kk < nms
          · have hlt : kk < ms.length := by rw [HHnms.out]; exact hlt0
            have hlb : decide ((kk : Int) < (nms : Int)) = true := decide_eq_true (by omega)
            have hlb2 : decide (kk < nms) = true := decide_eq_true hlt0
            have k0 : (0 : Int) ≤ (kk : Int) := by omega
            have k1 : (kk : Int) < (nms : Int) := by omega
            obtain ⟨g, o1, e1, _, hg, hRR⟩ := HLLnms.out (by omega)
            subst e1
            have hlt2 : kk < ns.length := by rw [HN.out]; exact hlt
            obtain ⟨_, xa, hxa, hva⟩ := RdAM.at_ _ _ o1 hRR kk hlt hlt2
            obtain ⟨p1, p2, p3, p4, ea, hj⟩ := hva.cells
            clear hj
            have hva2 := hva.below hfw (Nat.le_refl _) hfw.size
            have hcell : ∀ j u, xa[j]? = some u → wr.cell? ⟨g, o1 + kk * 6 + 1 + j, none⟩ = some u := fun j u hu => (hfw.cell (p := ⟨g, o1 + kk * 6 + 1 + j, none⟩) hg).trans (hxa j u hu)
            have hmem := List.getElem_mem hlt
            have hdr : allL (ms.drop kk) ↔ allV ms[kk] ∧ allL (ms.drop (kk + 1)) := by rw [List.drop_eq_getElem_cons hlt, allL]
            have hcall := IM.out _ hmem xa wr hva2
            clear hmem
            rw [ea] at hcell hcall
            generalize ms[kk] = v' at *
            generalize v'.k = y1 at *
            generalize v'.n = y2 at *
            generalize strOf v'.s = y3 at *
            generalize v'.l.length = y4 at *
            generalize v'.ms.length = y5 at *
            have a0 : wr.cell? ⟨g, o1 + kk * 6 + 1, none⟩ = _ := hcell 0 _ rfl
            have a1 : wr.cell? ⟨g, o1 + kk * 6 + 2, none⟩ = _ := hcell 1 _ rfl
            have a2 : wr.cell? ⟨g, o1 + kk * 6 + 3, none⟩ = _ := hcell 2 _ rfl
            have a3 : wr.cell? ⟨g, o1 + kk * 6 + 4, none⟩ = _ := hcell 3 _ rfl
            have a4 : wr.cell? ⟨g, o1 + kk * 6 + 5, none⟩ = _ := hcell 4 _ rfl
            clear hcell hxa hva hva2 ea hRR
            have HDR := Lib.hid (heq.trans hdr); clear hdr heq
            have HCALL := Lib.hid hcall; clear hcall
            go_wp2_with fail
            refine HCALL.out.mono ?_
            rintro e w2 ⟨⟨x, rfl, hx⟩, hf3⟩
            have HX := Lib.hid hx; clear hx
            cases x with
            | true =>
              have hx := HX.out.1 (by trivial)
              have HX2 := Lib.hid hx; clear hx
              go_wp2_with fail
              go_roundw
              case rel => exact ⟨kk + 1, by go_num, by omega, by rw [HDR.out]; exact ⟨fun h => h.2, fun h => ⟨HX2.out, h⟩⟩, HF.out.trans (hf3.mono (by omega))⟩
              case measure => simp [intOf]; omega
            | false =>
              have hx : ¬ allV v' := fun h => by have := HX.out.2 h; simp at this
              have HX2 := Lib.hid hx; clear hx
              go_wp2_with fail
              go_ret
              exact ⟨⟨false, rfl, ⟨fun h => (by cases h), fun h => absurd ((HDR.out.1 (HW.out.1 h).2.2).1) HX2.out⟩⟩, HBW.out.trans ((HF.out.trans (hf3.mono (by omega))).mono (by omega))⟩
          · have hlb : decide ((kk : Int) < (nms : Int)) = false := decide_eq_false (by omega)
            have hlb2 : decide (kk < nms) = false := decide_eq_false hlt0
            obtain rfl : nms = kk := by omega
            have hq : allL ms := heq.2 (by rw [List.drop_of_length_le (by rw [HHnms.out]; exact Nat.le_refl _), allL]; trivial)
            have HQM := Lib.hid hq; clear hq heq
            have hfb := fun j u (hu : ([.int .i64 k, .int .i64 n, .string S, .slice A nl c, .slice A2 nms c2] : List Value)[j]? = some u) (hc : w1.cell? ⟨w.heap.size, j, none⟩ = some u) => (hf.cell (p := ⟨w.heap.size, j, none⟩) (by show w.heap.size < _; omega)).trans hc
            have e0 := hfb 0 _ rfl f0
            have e1 := hfb 1 _ rfl f1
            have e2 := hfb 2 _ rfl f2
            have e3 := hfb 3 _ rfl f3
            have iR2 := IR.out wr hfw
            rw [HHnl.out, HHnms.out] at iR2
            have IR2 := Lib.hid iR2; clear iR2 hfb
            have HFW := Lib.hid hfw; clear hfw hf
            go_wp2_with fail
            refine IR2.out.mono ?_
            rintro e w2 ⟨⟨x, rfl, hx⟩, hf3⟩
            have HX := Lib.hid hx; clear hx
            have HF3 := Lib.hid hf3; clear hf3
            go_wp2_with fail
            go_ret
            exact ⟨⟨x, rfl, ⟨fun h => HW.out.2 ⟨HX.out.1 h, HQL.out, HQM.out⟩, fun h => HX.out.2 (HW.out.1 h).1⟩⟩, HFW.out.trans (HF3.out.mono HFW.out.size)⟩
end Go.Proofs.YtcbiaflbncfliaaDoor.Em
