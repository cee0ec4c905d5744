import Derived.Test.YtcbiaflbncfliaaDoorEmR6
/- Contract of few, of the laws. Written by tools/genEmR7.py. -/
namespace Go.Proofs.YtcbiaflbncfliaaDoor.Em
open Go.RowKit
open Go.Proofs.YtcbiaflbncfliaaDoor.Utf
open Go.Proofs.YtcbiaflbncfliaaDoor.Sc
open Go.Proofs.YtcbiaflbncfliaaDoor.Re

/-- what few hands back of a value of so many values -/
def GivesF (c : Nat) (m : Int) (w : World) (e : Ending) (w' : World) : Prop := ∃ (q : Int) (b : Bool), e = .returned (.tuple #[.int .i64 q, .bool b]) ∧ (b = true → q = c ∧ q ≤ m) ∧ Below w.heap.size w w'

set_option maxRecDepth 100000 in
set_option maxHeartbeats 16000000 in
theorem few_any (h : Nat) : ∀ (v : V) (cs : List Value) (m d : Int) (w : World), ht v ≤ h → szA 4611686018427387904 v → RdA w 0 w.heap.size v cs → 0 ≤ m → m ≤ 3000 → 0 ≤ d → d ≤ 100 →
    Calls Tryd.prog 5 #[.agg cs.toArray, .int .i64 m, .int .i64 d] w (GivesF (cnt v) m w) := by
  induction h with
  | zero => intro v cs m d w hh; rw [ht_eq] at hh; omega
  | succ h ih =>
    intro v cs m d w hh hz hR hm0 hm1 hd0 hd1
    obtain ⟨A, c, A2, c2, rfl, hn, hL, hM⟩ := hR.cells
    obtain ⟨_, _, hz3, hz4, hz5, hz6, hz7, hz8⟩ := (szA_eq _ v).1 hz
    have hht := ht_eq v
    have il : ∀ v', v' ∈ v.l → ∀ (cs : List Value) (q : Nat) (w : World), RdA w 0 w.heap.size v' cs → 1 ≤ d → (q : Int) ≤ m → Calls Tryd.prog 5 #[.agg cs.toArray, .int .i64 (m - q), .int .i64 (d - 1)] w (GivesF (cnt v') (m - q) w) :=
      fun v' hv cs q w h1 h2 h3 => ih v' cs (m - q) (d - 1) w (by have := htL_mem hv; omega) (szAL_mem hz7 hv) h1 (by omega) (by omega) (by omega) (by omega)
    have im : ∀ v', v' ∈ v.ms → ∀ (cs : List Value) (q : Nat) (w : World), RdA w 0 w.heap.size v' cs → 1 ≤ d → (q : Int) ≤ m → Calls Tryd.prog 5 #[.agg cs.toArray, .int .i64 (m - q), .int .i64 (d - 1)] w (GivesF (cnt v') (m - q) w) :=
      fun v' hv cs q w h1 h2 h3 => ih v' cs (m - q) (d - 1) w (by have := htL_mem hv; omega) (szAL_mem hz8 hv) h1 (by omega) (by omega) (by omega) (by omega)
    have hC : cnt v = 1 + cntL v.l + cntL v.ms := by cases v; rw [cnt]; rfl
    have hsl : v.l.length ≤ 4611686018427387904 := by omega
    have hsm : v.ms.length ≤ 4611686018427387904 := by omega
    clear ih hh hht hz hR hz3 hz4 hz5 hz6 hz7 hz8
    obtain ⟨k, n, s, l, ns, ms⟩ := v
    simp only [V.k, V.n, V.s, V.l, V.ns, V.ms] at *
    generalize cnt (V.mk k n s l ns ms) = C at *
    generalize strOf s = S at *
    have HL := Lib.hid hL; clear hL
    have HM := Lib.hid hM; clear hM
    have IL := Lib.hid il; clear il
    have IM := Lib.hid im; clear im
    have HSl := Lib.hid hsl; clear hsl
    have HSms := Lib.hid hsm; clear hsm
    have HC := Lib.hid hC; clear hC
    have HN := Lib.hid hn; clear hn
    obtain ⟨nl, hnl⟩ : ∃ z, l.length = z := ⟨_, rfl⟩
    rw [hnl]
    have HHnl := Lib.hid hnl
    have HLLnl := Lib.hid (fun h => HL.out (by rw [hnl]; exact h))
    have hsnl : nl ≤ 4611686018427387904 := by have := HSl.out; omega
    clear hnl
    obtain ⟨nms, hnms⟩ : ∃ z, ms.length = z := ⟨_, rfl⟩
    rw [hnms]
    have HHnms := Lib.hid hnms
    have HLLnms := Lib.hid (fun h => HM.out (by rw [hnms]; exact h))
    have hsnms : nms ≤ 4611686018427387904 := by have := HSms.out; omega
    clear hnms
    have hb0 : Below w.heap.size w (w.alloc (.cells #[.int .i64 k, .int .i64 n, .string S, .slice A nl c, .slice A2 nms c2] 25)) := (Below.refl _ _).alloc (Nat.le_refl _) _
    have f3 : (w.alloc (.cells #[.int .i64 k, .int .i64 n, .string S, .slice A nl c, .slice A2 nms c2] 25)).cell? ⟨w.heap.size, 3, none⟩ = some (.slice A nl c) := (cell_of_row _ _ 3 _ _ _ (heap_alloc_new w _)).trans rfl
    have f4 : (w.alloc (.cells #[.int .i64 k, .int .i64 n, .string S, .slice A nl c, .slice A2 nms c2] 25)).cell? ⟨w.heap.size, 4, none⟩ = some (.slice A2 nms c2) := (cell_of_row _ _ 4 _ _ _ (heap_alloc_new w _)).trans rfl
    obtain ⟨w1, hw1⟩ : ∃ z, z = w.alloc (.cells #[.int .i64 k, .int .i64 n, .string S, .slice A nl c, .slice A2 nms c2] 25) := ⟨_, rfl⟩
    have hBW : Below w.heap.size w w1 := by rw [hw1]; exact hb0
    have HW1 := Lib.hid hw1
    have HB0 := Lib.hid hb0; clear hb0 hw1
    have HBW := Lib.hid hBW; clear hBW
    by_cases h1 : m < 1
    · have t1 : decide (m < 1) = true := decide_eq_true h1
      go_enter Tryd.func5, Tryd.ntmps5
      go_wp2_with fail
      go_ret2
      exact ⟨0, false, rfl, (fun h => by cases h), HB0.out⟩
    · have t1 : decide (m < 1) = false := decide_eq_false h1
      by_cases h2 : d < 1
      · have t2 : decide (d < 1) = true := decide_eq_true h2
        go_enter Tryd.func5, Tryd.ntmps5
        go_wp2_with fail
        go_ret2
        exact ⟨0, false, rfl, (fun h => by cases h), HB0.out⟩
      · have t2 : decide (d < 1) = false := decide_eq_false h2
        by_cases h3 : m < (nl : Int)
        · have t3 : decide (m < (nl : Int)) = true := decide_eq_true h3
          go_enter Tryd.func5, Tryd.ntmps5
          go_wp2_with fail
          go_ret2
          exact ⟨0, false, rfl, (fun h => by cases h), HB0.out⟩
        · have t3 : decide (m < (nl : Int)) = false := decide_eq_false h3
          by_cases h4 : m < (nms : Int)
          · have t4 : decide (m < (nms : Int)) = true := decide_eq_true h4
            go_enter Tryd.func5, Tryd.ntmps5
            go_wp2_with fail
            go_ret2
            exact ⟨0, false, rfl, (fun h => by cases h), HB0.out⟩
          · have t4 : decide (m < (nms : Int)) = false := decide_eq_false h4
            go_enter Tryd.func5, Tryd.ntmps5
            go_wp2_with fail
            rw [← HW1.out] at f3 f4 ⊢
            have s1 : w1.heap.size = w.heap.size + 1 := by rw [HW1.out, szAlloc']
            go_loopw [8, 9] (fun nn i wr => ∃ kk : Nat, ∃ q : Nat, i = .int .i64 kk ∧ nn = .int .i64 q ∧ kk ≤ nl ∧ 1 ≤ q ∧ (q : Int) ≤ m ∧ q + cntL (l.drop kk) = 1 + cntL l ∧ Below (w.heap.size + 1) w1 wr) (fun nn i _ => nl - (intOf i).toNat)
            case atStart => exact ⟨0, 1, rfl, rfl, by omega, by omega, by omega, by rw [List.drop_zero], (Below.refl w1.heap.size w1).mono (by omega)⟩
            case round =>
              obtain ⟨kk, q, rfl, rfl, hk, hq1, hq, heq, hf⟩ := hrel
              have hf0 := hf
              have HF := Lib.hid hf0; clear hf0
              have hfw : Below w.heap.size w wr := HBW.out.trans (hf.mono (by omega))
              have e3 := (hf.cell (p := ⟨w.heap.size, 3, none⟩) (by show w.heap.size < _; omega)).trans f3
              have hsr := hf.size
              by_cases hlt0 : kk < nl
              · have hlt : kk < l.length := by rw [HHnl.out]; exact hlt0
                have hlb : decide ((kk : Int) < (nl : Int)) = true := decide_eq_true (by omega)
                have hlb2 : decide (kk < nl) = true := decide_eq_true hlt0
                have k0 : (0 : Int) ≤ (kk : Int) := by omega
                have k1 : (kk : Int) < (nl : Int) := by omega
                obtain ⟨g, o1, e1, _, hg, hRR⟩ := HLLnl.out (by omega)
                subst e1
                obtain ⟨xa, hxa, hva⟩ := RdAL.at_ _ o1 hRR kk hlt
                obtain ⟨p1, p2, p3, p4, ea, hj⟩ := hva.cells
                clear hj
                have hva2 := hva.below hfw (Nat.le_refl _) hfw.size
                have hcell : ∀ j u, xa[j]? = some u → wr.cell? ⟨g, o1 + kk * 5 + j, none⟩ = some u := fun j u hu => (hfw.cell (p := ⟨g, o1 + kk * 5 + j, none⟩) hg).trans (hxa j u hu)
                have hmem := List.getElem_mem hlt
                have hdr : cntL (l.drop kk) = cnt l[kk] + cntL (l.drop (kk + 1)) := by rw [List.drop_eq_getElem_cons hlt, cntL]
                have hcall := IL.out _ hmem xa q wr hva2 (by omega) hq
                clear hmem
                rw [ea] at hcell hcall
                generalize l[kk] = v' at *
                generalize v'.k = y1 at *
                generalize v'.n = y2 at *
                generalize strOf v'.s = y3 at *
                generalize v'.l.length = y4 at *
                generalize v'.ms.length = y5 at *
                have a0 : wr.cell? ⟨g, o1 + kk * 5, none⟩ = _ := hcell 0 _ rfl
                have a1 : wr.cell? ⟨g, o1 + kk * 5 + 1, none⟩ = _ := hcell 1 _ rfl
                have a2 : wr.cell? ⟨g, o1 + kk * 5 + 2, none⟩ = _ := hcell 2 _ rfl
                have a3 : wr.cell? ⟨g, o1 + kk * 5 + 3, none⟩ = _ := hcell 3 _ rfl
                have a4 : wr.cell? ⟨g, o1 + kk * 5 + 4, none⟩ = _ := hcell 4 _ rfl
                clear hcell hxa hva hva2 ea hRR
                generalize cnt v' = C' at *
                have HDR := Lib.hid (And.intro hdr heq); clear hdr heq
                have HCALL := Lib.hid hcall; clear hcall
                go_wp2_with fail
                refine HCALL.out.mono ?_
                rintro e w2 ⟨q2, b, rfl, hb, hf3⟩
                have HFF := Lib.hid hf3; clear hf3
                cases b with
                | true =>
                  obtain ⟨hq2, hq3⟩ := hb rfl
                  clear hb
                  subst hq2
                  go_wp2_with fail
                  go_roundw
                  case rel => exact ⟨kk + 1, q + C', by go_num, by go_num, by omega, by omega, by omega, by have := HDR.out; omega, HF.out.trans (HFF.out.mono (by omega))⟩
                  case measure => simp [intOf]; omega
                | false =>
                  clear hb
                  go_wp2_with fail
                  go_ret2
                  exact ⟨0, false, rfl, (fun h => by cases h), HBW.out.trans ((HF.out.trans (HFF.out.mono (by omega))).mono (by omega))⟩
              · have hlb : decide ((kk : Int) < (nl : Int)) = false := decide_eq_false (by omega)
                have hlb2 : decide (kk < nl) = false := decide_eq_false hlt0
                obtain rfl : nl = kk := by omega
                have hdr : cntL (l.drop nl) = 0 := by rw [List.drop_of_length_le (by rw [HHnl.out]; exact Nat.le_refl _), cntL]
                have HQ := Lib.hid (And.intro hdr heq); clear hdr heq
                have HF5 := Lib.hid hf; clear hf hfw
                go_wp2_with fail
                go_loopw [8, 12] (fun nn i wr => ∃ kk : Nat, ∃ q : Nat, i = .int .i64 kk ∧ nn = .int .i64 q ∧ kk ≤ nms ∧ 1 ≤ q ∧ (q : Int) ≤ m ∧ q + cntL (ms.drop kk) = 1 + cntL l + cntL ms ∧ Below (w.heap.size + 1) w1 wr) (fun nn i _ => nms - (intOf i).toNat)
                case atStart => exact ⟨0, q, rfl, rfl, by omega, hq1, hq, by rw [List.drop_zero]; have := HQ.out; omega, HF5.out⟩
                case round =>
                  obtain ⟨kk, q, rfl, rfl, hk, hq1, hq, heq, hf⟩ := hrel
                  have hf0 := hf
                  have HF := Lib.hid hf0; clear hf0
                  have hfw : Below w.heap.size w wr := HBW.out.trans (hf.mono (by omega))
                  have e4 := (hf.cell (p := ⟨w.heap.size, 4, none⟩) (by show w.heap.size < _; omega)).trans f4
                  have hsr := hf.size
                  by_cases hlt0 : kk < nms
                  · have hlt : kk < ms.length := by rw [HHnms.out]; exact hlt0
                    have hlb : decide ((kk : Int) < (nms : Int)) = true := decide_eq_true (by omega)
                    have hlb2 : decide (kk < nms) = true := decide_eq_true hlt0
                    have k0 : (0 : Int) ≤ (kk : Int) := by omega
                    have k1 : (kk : Int) < (nms : Int) := by omega
                    obtain ⟨g, o1, e1, _, hg, hRR⟩ := HLLnms.out (by omega)
                    subst e1
                    have hlt2 : kk < ns.length := by rw [HN.out]; exact hlt
                    obtain ⟨_, xa, hxa, hva⟩ := RdAM.at_ _ _ o1 hRR kk hlt hlt2
                    obtain ⟨p1, p2, p3, p4, ea, hj⟩ := hva.cells
                    clear hj
                    have hva2 := hva.below hfw (Nat.le_refl _) hfw.size
                    have hcell : ∀ j u, xa[j]? = some u → wr.cell? ⟨g, o1 + kk * 6 + 1 + j, none⟩ = some u := fun j u hu => (hfw.cell (p := ⟨g, o1 + kk * 6 + 1 + j, none⟩) hg).trans (hxa j u hu)
                    have hmem := List.getElem_mem hlt
                    have hdr : cntL (ms.drop kk) = cnt ms[kk] + cntL (ms.drop (kk + 1)) := by rw [List.drop_eq_getElem_cons hlt, cntL]
                    have hcall := IM.out _ hmem xa q wr hva2 (by omega) hq
                    clear hmem
                    rw [ea] at hcell hcall
                    generalize ms[kk] = v' at *
                    generalize v'.k = y1 at *
                    generalize v'.n = y2 at *
                    generalize strOf v'.s = y3 at *
                    generalize v'.l.length = y4 at *
                    generalize v'.ms.length = y5 at *
                    have a0 : wr.cell? ⟨g, o1 + kk * 6 + 1, none⟩ = _ := hcell 0 _ rfl
                    have a1 : wr.cell? ⟨g, o1 + kk * 6 + 2, none⟩ = _ := hcell 1 _ rfl
                    have a2 : wr.cell? ⟨g, o1 + kk * 6 + 3, none⟩ = _ := hcell 2 _ rfl
                    have a3 : wr.cell? ⟨g, o1 + kk * 6 + 4, none⟩ = _ := hcell 3 _ rfl
                    have a4 : wr.cell? ⟨g, o1 + kk * 6 + 5, none⟩ = _ := hcell 4 _ rfl
                    clear hcell hxa hva hva2 ea hRR
                    generalize cnt v' = C' at *
                    have HDR := Lib.hid (And.intro hdr heq); clear hdr heq
                    have HCALL := Lib.hid hcall; clear hcall
                    go_wp2_with fail
                    refine HCALL.out.mono ?_
                    rintro e w2 ⟨q2, b, rfl, hb, hf3⟩
                    have HFF := Lib.hid hf3; clear hf3
                    cases b with
                    | true =>
                      obtain ⟨hq2, hq3⟩ := hb rfl
                      clear hb
                      subst hq2
                      go_wp2_with fail
                      go_roundw
                      case rel => exact ⟨kk + 1, q + C', by go_num, by go_num, by omega, by omega, by omega, by have := HDR.out; omega, HF.out.trans (HFF.out.mono (by omega))⟩
                      case measure => simp [intOf]; omega
                    | false =>
                      clear hb
                      go_wp2_with fail
                      go_ret2
                      exact ⟨0, false, rfl, (fun h => by cases h), HBW.out.trans ((HF.out.trans (HFF.out.mono (by omega))).mono (by omega))⟩
                  · have hlb : decide ((kk : Int) < (nms : Int)) = false := decide_eq_false (by omega)
                    have hlb2 : decide (kk < nms) = false := decide_eq_false hlt0
                    obtain rfl : nms = kk := by omega
                    have hdr : cntL (ms.drop nms) = 0 := by rw [List.drop_of_length_le (by rw [HHnms.out]; exact Nat.le_refl _), cntL]
                    have HQ := Lib.hid (And.intro hdr heq); clear hdr heq
                    go_wp2_with fail
                    go_ret2
                    exact ⟨_, true, rfl, fun _ => ⟨by have := HQ.out; have := HC.out; omega, hq⟩, hfw⟩
end Go.Proofs.YtcbiaflbncfliaaDoor.Em
