import Derived.Test.YtoflogckoepioaaReA
/- Contract of layer 5's law's count. -/
namespace Go.Proofs.Ytoflogckoepioaa.Re
open Go.RowKit
open Go.Proofs.Ytoflogckoepioaa.Utf
open Go.Proofs.Ytoflogckoepioaa.Sc

theorem cntL_take (l : List V) (k : Nat) (h : k < l.length) : cntL (l.take (k + 1)) = cntL (l.take k) + cnt l[k] := by
  rw [take_succ' l k h]
  have : ∀ (a : List V) (v : V), cntL (a ++ [v]) = cntL a + cnt v := by
    intro a v
    induction a with
    | nil => simp [cntL]
    | cons b r ih => rw [List.cons_append, cntL, ih, cntL]; omega
  exact this _ _
theorem dpL_take (l : List V) (d k : Nat) (h : k < l.length) : dpL (l.take (k + 1)) d = max (dpL (l.take k) d) (dp l[k] d) := by
  rw [take_succ' l k h]
  have : ∀ (a : List V) (v : V), dpL (a ++ [v]) d = max (dpL a d) (dp v d) := by
    intro a v
    induction a with
    | nil => simp [dpL]
    | cons b r ih => rw [List.cons_append, dpL, ih, dpL]; omega
  exact this _ _
theorem cntL_le (l : List V) (k : Nat) : cntL (l.take k) ≤ cntL l := by
  induction l generalizing k with
  | nil => simp [cntL]
  | cons v r ih =>
    cases k with
    | zero => simp [cntL]
    | succ k => rw [List.take_succ_cons, cntL, cntL]; have := ih k; omega
theorem htL_take (l : List V) (k : Nat) : htL (l.take k) ≤ htL l := by
  induction l generalizing k with
  | nil => simp [htL]
  | cons v r ih =>
    cases k with
    | zero => simp [htL]
    | succ k => rw [List.take_succ_cons, htL, htL]; have := ih k; omega
theorem okL_mem {v : V} {l : List V} (h : okL l) (hv : v ∈ l) : okV v := by
  induction l with
  | nil => cases hv
  | cons a r ih =>
    rw [okL] at h
    rcases List.mem_cons.1 hv with rfl | hv
    · exact h.1
    · exact ih h.2 hv
theorem okV_eq (v : V) : okV v ↔ v.ns.length = v.ms.length ∧ v.ns.Nodup ∧ okL v.l ∧ okL v.ms := by cases v; rw [okV]; rfl
theorem dp_eq (v : V) (d : Nat) : dp v d = max d (max (dpL v.l (d + 1)) (dpL v.ms (d + 1))) := by cases v; rw [dp]; rfl

mutual
theorem dp_le : ∀ (v : V) (d : Nat), dp v d ≤ d + ht v
  | .mk k n s l ns ms, d => by
    have h1 := dpL_le l (d + 1)
    have h2 := dpL_le ms (d + 1)
    rw [dp, ht]
    omega
theorem dpL_le : ∀ (l : List V) (d : Nat), dpL l d ≤ d + htL l
  | [], d => by rw [dpL]; omega
  | v :: r, d => by
    have h1 := dp_le v d
    have h2 := dpL_le r d
    rw [dpL, htL]
    omega
end

set_option maxRecDepth 100000 in
set_option maxHeartbeats 8000000 in
theorem count_any (h : Nat) : ∀ (a : V) (d : Nat) (ca : List Value) (w : World), ht a ≤ h → okV a → cnt a ≤ 4611686018427387904 → d + h ≤ 4611686018427387904 → RdV w 0 w.heap.size a ca →
    Calls Try.prog 10 #[.agg ca.toArray, .int .i64 d] w fun e w' => e = .returned (.tuple #[.int .i64 (cnt a : Nat), .int .i64 (dp a d : Nat)]) ∧ Below w.heap.size w w' := by
  induction h with
  | zero => intro a d ca w hh; rw [ht_eq] at hh; omega
  | succ h ih =>
    intro a d ca w hh hok hcnt hd ra
    obtain ⟨A1, c1, A2, c2, rfl, hna, hla, hma⟩ := ra.cells
    have hcn := cnt_eq a
    have hll := len_cntL a.l
    have hml := len_cntL a.ms
    have hht := ht_eq a
    obtain ⟨_, ok2, ok3, ok4⟩ := (okV_eq a).1 hok
    have hdp : dp a d = max (max d (dpL a.l (d + 1))) (dpL a.ms (d + 1)) := by rw [dp_eq]; omega
    have hdl := dp_le a d
    have ihl : ∀ v ∈ a.l, ∀ (ca : List Value) (w : World), RdV w 0 w.heap.size v ca → Calls Try.prog 10 #[.agg ca.toArray, .int .i64 (d + 1 : Nat)] w fun e w' => e = .returned (.tuple #[.int .i64 (cnt v : Nat), .int .i64 (dp v (d + 1) : Nat)]) ∧ Below w.heap.size w w' := fun v hv ca w => ih v (d + 1) ca w (by have := htL_mem hv; omega) (okL_mem ok3 hv) (by have := cnt_mem hv; omega) (by omega)
    have ihm : ∀ v ∈ a.ms, ∀ (ca : List Value) (w : World), RdV w 0 w.heap.size v ca → Calls Try.prog 10 #[.agg ca.toArray, .int .i64 (d + 1 : Nat)] w fun e w' => e = .returned (.tuple #[.int .i64 (cnt v : Nat), .int .i64 (dp v (d + 1) : Nat)]) ∧ Below w.heap.size w w' := fun v hv ca w => ih v (d + 1) ca w (by have := htL_mem hv; omega) (okL_mem ok4 hv) (by have := cnt_mem hv; omega) (by omega)
    have hcl : ∀ k, cntL (a.l.take k) ≤ 4611686018427387904 := fun k => by have := cntL_le a.l k; omega
    have hcm : ∀ k, cntL a.l + cntL (a.ms.take k) ≤ 4611686018427387904 := fun k => by have := cntL_le a.ms k; omega
    have hmx : a.l.length + a.ms.length ≤ 4611686018427387904 := by omega
    have hhl := fun v hv => htL_mem (v := v) (l := a.l) hv
    have hhm := fun v hv => htL_mem (v := v) (l := a.ms) hv
    have hbl : ∀ v ∈ a.l, dp v (d + 1) ≤ 4611686018427387905 := fun v hv => by have := hhl v hv; have := dp_le v (d + 1); omega
    have hbm : ∀ v ∈ a.ms, dp v (d + 1) ≤ 4611686018427387905 := fun v hv => by have := hhm v hv; have := dp_le v (d + 1); omega
    have hdx : ∀ k, dpL (a.l.take k) (d + 1) ≤ 4611686018427387905 := fun k => by have := dpL_le (a.l.take k) (d + 1); have := htL_take a.l k; omega
    have hdm : ∀ k, dpL (a.ms.take k) (d + 1) ≤ 4611686018427387905 := fun k => by have := dpL_le (a.ms.take k) (d + 1); have := htL_take a.ms k; omega
    rw [hcn, hdp]
    clear hhl hhm
    clear ih ra hcn hht hok hdp
    obtain ⟨ak, an, sa, al, ans, ams⟩ := a
    simp only [V.k, V.n, V.s, V.l, V.ns, V.ms] at *
    generalize strOf sa = X at *
    obtain ⟨nl, hnl⟩ : ∃ n, al.length = n := ⟨_, rfl⟩
    obtain ⟨nm, hnm⟩ : ∃ n, ams.length = n := ⟨_, rfl⟩
    have IL := Lib.hid ihl; clear ihl
    have IM := Lib.hid ihm; clear ihm
    have HCL := Lib.hid hcl; clear hcl
    have HCM := Lib.hid hcm; clear hcm
    have HND := Lib.hid ok2; clear ok2
    have HBL := Lib.hid hbl; clear hbl
    have HBM := Lib.hid hbm; clear hbm
    have HDX := Lib.hid hdx; clear hdx
    have HDM := Lib.hid hdm; clear hdm
    rw [hnl, hnm]
    rw [hnl] at hll
    rw [hnm] at hml
    have HLA := Lib.hid (fun h => hla (by rw [hnl]; exact h))
    have HMA := Lib.hid (fun h => hma (by rw [hnm]; exact h))
    have HN1 := Lib.hid hnl
    have HN3 := Lib.hid hnm
    have HN5 := Lib.hid hna
    clear hla hma hnl hnm hna ok3 ok4 hdl
    obtain ⟨w0, hw0⟩ : ∃ w0, w0 = w.alloc (.cells #[.int .i64 ak, .int .i64 an, .string X, .slice A1 nl c1, .slice A2 nm c2] 25) := ⟨_, rfl⟩
    have h1 : w0.heap[w.heap.size]? = some (.cells #[.int .i64 ak, .int .i64 an, .string X, .slice A1 nl c1, .slice A2 nm c2] 25 (0, 0)) := by rw [hw0]; exact heap_alloc_new w _
    have FA3 : w0.cell? ⟨w.heap.size, 3, none⟩ = some (.slice A1 nl c1) := (cell_of_row _ _ 3 _ _ _ h1).trans rfl
    have FA4 : w0.cell? ⟨w.heap.size, 4, none⟩ = some (.slice A2 nm c2) := (cell_of_row _ _ 4 _ _ _ h1).trans rfl
    have BB : ∀ w', Below (w.heap.size + 1) w0 w' → Below w.heap.size w w' := fun w' hb => ((Below.refl w.heap.size w).alloc (Nat.le_refl _) _).trans (by rw [hw0] at hb; exact hb.mono (by omega))
    have HSW := Lib.hid (show w0.heap.size = w.heap.size + 1 by rw [hw0, szAlloc])
    have HW0 := Lib.hid hw0
    clear hw0 h1
    rw [HN1.out, HN3.out] at hmx
    have hd1 : d ≤ 4611686018427387904 := by omega
    clear hh hcnt hd hll hml
    go_enter Try.func10, Try.ntmps10
    go_wp2_with fail
    go_loopw [6, 7, 8, 9, 10] (fun n m i _ _ wr => ∃ k : Nat, i = .int .i64 k ∧ k ≤ nl ∧ n = .int .i64 (1 + cntL (al.take k) : Nat) ∧ m = .int .i64 (max d (dpL (al.take k) (d + 1)) : Nat) ∧ Below (w.heap.size + 1) w0 wr) (fun _ _ i _ _ _ => nl - (intOf i).toNat)
    case atStart => exact ⟨0, rfl, by omega, by simp [cntL], by simp [dpL], by rw [HW0.out]; exact Below.refl _ _⟩
    case round =>
      obtain ⟨k, rfl, hk, rfl, rfl, hbel2⟩ := hrel
      have hsz := hbel2.size
      rw [HSW.out] at hsz
      have hbel := BB _ hbel2
      have f1 : wr.cell? ⟨w.heap.size, 3, none⟩ = some (.slice A1 nl c1) := (hbel2.cell (p := ⟨w.heap.size, 3, none⟩) (by show w.heap.size < _; omega)).trans FA3
      by_cases hlt0 : k < nl
      · have hlt : k < al.length := by rw [HN1.out]; exact hlt0
        have hlb : decide ((k : Int) < (nl : Int)) = true := decide_eq_true (by omega)
        have hlb2 : decide (k < nl) = true := decide_eq_true hlt0
        have k0 : (0 : Int) ≤ (k : Int) := by omega
        have k1 : (k : Int) < (nl : Int) := by omega
        obtain ⟨g, e1, _, hg, hR⟩ := HLA.out (by omega)
        subst e1
        obtain ⟨xa, hxa, hva⟩ := RdL.at_ _ 0 hR k hlt
        rw [Nat.zero_add] at hxa
        have hmem : al[k] ∈ al := List.getElem_mem hlt
        have hc := IL.out _ hmem xa wr (hva.below hbel (Nat.le_refl _) hbel.size)
        obtain ⟨p1, p2, p3, p4, ea, _⟩ := hva.cells
        rw [ea] at hc hxa
        have a0 := (hbel.cell (p := ⟨g, k * 5, none⟩) hg).trans (hxa 0 _ rfl)
        have a1 := (hbel.cell (p := ⟨g, k * 5 + 1, none⟩) hg).trans (hxa 1 _ rfl)
        have a2 := (hbel.cell (p := ⟨g, k * 5 + 2, none⟩) hg).trans (hxa 2 _ rfl)
        have a3 := (hbel.cell (p := ⟨g, k * 5 + 3, none⟩) hg).trans (hxa 3 _ rfl)
        have a4 := (hbel.cell (p := ⟨g, k * 5 + 4, none⟩) hg).trans (hxa 4 _ rfl)
        have hct := cntL_take al k hlt
        have hdt := dpL_take al (d + 1) k hlt
        have hle := HCL.out (k + 1)
        have hcp := cnt_pos al[k]
        have hDb := HBL.out _ hmem
        have hMb := HDX.out k
        have hnx : 1 + cntL (al.take (k + 1)) = 1 + cntL (al.take k) + cnt al[k] := by omega
        have hmx2 : max d (dpL (al.take (k + 1)) (d + 1)) = max (max d (dpL (al.take k) (d + 1))) (dp al[k] (d + 1)) := by omega
        rw [hct] at hle
        have HNX := Lib.hid hnx
        have HMX := Lib.hid hmx2
        have hMd : max d (dpL (al.take k) (d + 1)) ≤ 4611686018427387905 := by omega
        clear hnx hmx2 hct hdt hMb
        generalize cnt al[k] = C at *
        generalize dp al[k] (d + 1) = D at *
        generalize cntL (al.take k) = N at *
        generalize max d (dpL (al.take k) (d + 1)) = M at *
        have HC := Lib.hid hc
        have c0 : ((C : Int) == 0) = false := by rw [beq_eq_false_iff_ne]; omega
        have hw1 : IntKind.i64.wrap (((1 + N : Nat) : Int) + (C : Int)) = ((1 + N + C : Nat) : Int) := IntWalk.i64_in _ (by omega) |>.trans (by omega)
        clear hc hva hR hxa ea hmem
        by_cases hMD : M < D
        · have z1 : (M : Int) < (D : Int) := by omega
          have HMD := Lib.hid (show max M D = D by omega)
          clear hMD
          go_wp2_with fail
          refine HC.out.mono ?_
          rintro e w5 ⟨rfl, hb5⟩
          go_wp2_with fail
          go_roundw
          case rel => exact ⟨k + 1, by go_num, by omega, by rw [HNX.out]; congr 1, by rw [HMX.out, HMD.out], hbel2.trans (hb5.mono (by omega))⟩
          case measure => simp [intOf]; omega
        · have z1 : ((M : Int) < (D : Int)) = False := by simp; omega
          have HMD := Lib.hid (show max M D = M by omega)
          clear hMD
          go_wp2_with fail
          refine HC.out.mono ?_
          rintro e w5 ⟨rfl, hb5⟩
          go_wp2_with fail
          go_roundw
          case rel => exact ⟨k + 1, by go_num, by omega, by rw [HNX.out]; congr 1, by rw [HMX.out, HMD.out], hbel2.trans (hb5.mono (by omega))⟩
          case measure => simp [intOf]; omega
      · obtain rfl : nl = k := by omega
        have hlb : decide ((nl : Int) < (nl : Int)) = false := decide_eq_false (by omega)
        have htk : al.take nl = al := by rw [← HN1.out]; exact List.take_length
        rw [htk]
        have hdx := HDX.out nl
        rw [htk] at hdx
        have HCM := Lib.hid HCM.out
        have hM1 : max d (dpL al (d + 1)) ≤ 4611686018427387905 := by omega
        have hcm2 : ∀ k, 1 + cntL al + cntL (ams.take k) ≤ 4611686018427387905 := fun k => by have := HCM.out k; omega
        have HCN := Lib.hid hcm2
        have hN1 : 1 + cntL al ≤ 4611686018427387905 := by have := HCM.out 0; omega
        clear hcm2 htk HCM hdx f1 hlt0
        generalize hN1e : 1 + cntL al = N1 at *
        generalize hM1e : max d (dpL al (d + 1)) = M1 at *
        have HN1E := Lib.hid hN1e
        have HM1E := Lib.hid hM1e
        clear hN1e hM1e
        obtain ⟨w1, hw1⟩ : ∃ w1, w1 = wr := ⟨_, rfl⟩
        have hbel1 : Below (w.heap.size + 1) w0 w1 := by rw [hw1]; exact hbel2
        rw [← hw1]
        have f1 : w1.cell? ⟨w.heap.size, 3, none⟩ = some (.slice A1 nl c1) := (hbel1.cell (p := ⟨w.heap.size, 3, none⟩) (by show w.heap.size < _; omega)).trans FA3
        have hs1 := hbel1.size
        rw [HSW.out] at hs1
        clear hbel hbel2 hw1 hsz
        go_wp2_with fail
        go_loopw [6, 7, 11, 12, 13, 14] (fun n m i _ _ _ wr => ∃ k : Nat, i = .int .i64 k ∧ k ≤ nm ∧ n = .int .i64 (N1 + cntL (ams.take k) : Nat) ∧ m = .int .i64 (max M1 (dpL (ams.take k) (d + 1)) : Nat) ∧ Below (w.heap.size + 1) w1 wr) (fun _ _ i _ _ _ _ => nm - (intOf i).toNat)
        case atStart => exact ⟨0, rfl, by omega, by simp [cntL], by simp [dpL], Below.refl _ _⟩
        case round =>
          obtain ⟨k, rfl, hk, rfl, rfl, hbel0⟩ := hrel
          have hbel2 := hbel1.trans hbel0
          have hsz := hbel2.size
          rw [HSW.out] at hsz
          have hbel := BB _ hbel2
          have f1 : wr.cell? ⟨w.heap.size, 4, none⟩ = some (.slice A2 nm c2) := (hbel2.cell (p := ⟨w.heap.size, 4, none⟩) (by show w.heap.size < _; omega)).trans FA4
          by_cases hlt0 : k < nm
          · have hlt : k < ams.length := by rw [HN3.out]; exact hlt0
            have hln : k < ans.length := by rw [HN5.out]; exact hlt
            have hlb : decide ((k : Int) < (nm : Int)) = true := decide_eq_true (by omega)
            have hlb2 : decide (k < nm) = true := decide_eq_true hlt0
            have k0 : (0 : Int) ≤ (k : Int) := by omega
            have k1 : (k : Int) < (nm : Int) := by omega
            obtain ⟨g, e1, _, hg, hR⟩ := HMA.out (by omega)
            subst e1
            have HR := Lib.hid hR
            obtain ⟨hnk, xa, hxa, hva⟩ := RdM.at_ _ _ 0 hR k hlt hln
            rw [Nat.zero_add] at hxa hnk
            have hmem : ams[k] ∈ ams := List.getElem_mem hlt
            have hc := fun w0 (hw : Below w.heap.size w w0) => IM.out _ hmem xa w0 (hva.below hw (Nat.le_refl _) hw.size)
            obtain ⟨p1, p2, p3, p4, ea, _⟩ := hva.cells
            rw [ea] at hc hxa
            have HXA := Lib.hid hxa
            have hct := cntL_take ams k hlt
            have hdt := dpL_take ams (d + 1) k hlt
            have hle := HCN.out (k + 1)
            have hcp := cnt_pos ams[k]
            have hDb := HBM.out _ hmem
            have hMb := HDM.out k
            have hnx : N1 + cntL (ams.take (k + 1)) = N1 + cntL (ams.take k) + cnt ams[k] := by omega
            have hmx2 : max M1 (dpL (ams.take (k + 1)) (d + 1)) = max (max M1 (dpL (ams.take k) (d + 1))) (dp ams[k] (d + 1)) := by omega
            rw [hct] at hle
            have HNX := Lib.hid hnx
            have HMX := Lib.hid hmx2
            have hMd : max M1 (dpL (ams.take k) (d + 1)) ≤ 4611686018427387905 := by omega
            clear hnx hmx2 hct hdt hMb
            generalize cnt ams[k] = C at *
            generalize dp ams[k] (d + 1) = D at *
            generalize cntL (ams.take k) = N at *
            generalize max M1 (dpL (ams.take k) (d + 1)) = M at *
            have HC := Lib.hid hc
            have c0 : ((C : Int) == 0) = false := by rw [beq_eq_false_iff_ne]; omega
            have hw1 : IntKind.i64.wrap (((N1 + N : Nat) : Int) + (C : Int)) = ((N1 + N + C : Nat) : Int) := IntWalk.i64_in _ (by omega) |>.trans (by omega)
            clear hc hva hR hxa ea hmem
            go_wp2_with fail
            go_loopw [12] (fun j wr2 => ∃ q : Nat, j = .int .i64 q ∧ q ≤ k ∧ Below (w.heap.size + 1) wr wr2) (fun j _ => k - (intOf j).toNat)
            case atStart => exact ⟨0, rfl, by omega, Below.refl _ _⟩
            case round =>
              obtain ⟨q, rfl, hq, hbi⟩ := hrel
              have hbj := hbel2.trans hbi
              have hszj := hbj.size
              rw [HSW.out] at hszj
              have hbl := BB _ hbj
              have f2 : wr.cell? ⟨w.heap.size, 4, none⟩ = some (.slice (some ⟨g, 0, none⟩) nm c2) := (hbj.cell (p := ⟨w.heap.size, 4, none⟩) (by show w.heap.size < _; omega)).trans FA4
              by_cases hqk : q < k
              · have hqb : decide ((q : Int) < (k : Int)) = true := decide_eq_true (by omega)
                have hqb2 : decide (q < k) = true := decide_eq_true hqk
                have q0 : (0 : Int) ≤ (q : Int) := by omega
                have q1 : (q : Int) < (nm : Int) := by omega
                have hlq : q < ans.length := by omega
                obtain ⟨hnq, _⟩ := RdM.at_ _ _ 0 HR.out q (by omega) hlq
                rw [Nat.zero_add] at hnq
                have hne : ¬ (strOf ans[q]).toList = (strOf ans[k]).toList := by rw [strOf_list, strOf_list]; exact List.pairwise_iff_getElem.1 HND.out q k hlq hln hqk
                have n1 := (hbl.cell (p := ⟨g, q * 6, none⟩) hg).trans hnq
                have n2 := (hbl.cell (p := ⟨g, k * 6, none⟩) hg).trans hnk
                generalize strOf ans[q] = Y1 at *
                generalize strOf ans[k] = Y2 at *
                have t1 : (Y1.toList == Y2.toList) = false := by rw [beq_eq_false_iff_ne]; exact hne
                clear hne hnq hbj hbl f1
                go_wp2_with fail
                go_quiet (fail)
                go_wp2_with fail
                go_roundw
                case rel => exact ⟨q + 1, by go_num, by omega, below_drewN hbi _⟩
                case measure => simp [intOf]; omega
              · obtain rfl : k = q := by omega
                have hqb : decide ((k : Int) < (k : Int)) = false := decide_eq_false (by omega)
                have a0 := (hbl.cell (p := ⟨g, k * 6 + 1, none⟩) hg).trans (HXA.out 0 _ rfl)
                have a1 := (hbl.cell (p := ⟨g, k * 6 + 2, none⟩) hg).trans (HXA.out 1 _ rfl)
                have a2 := (hbl.cell (p := ⟨g, k * 6 + 3, none⟩) hg).trans (HXA.out 2 _ rfl)
                have a3 := (hbl.cell (p := ⟨g, k * 6 + 4, none⟩) hg).trans (HXA.out 3 _ rfl)
                have a4 := (hbl.cell (p := ⟨g, k * 6 + 5, none⟩) hg).trans (HXA.out 4 _ rfl)
                have HBW := Lib.hid hbl
                have HBI := Lib.hid (hbel0.trans hbi)
                clear f1 hnk hbel hbj
                by_cases hMD : M < D
                · have z1 : (M : Int) < (D : Int) := by omega
                  have HMD := Lib.hid (show max M D = D by omega)
                  clear hMD
                  go_wp2_with fail
                  refine (HC.out _ HBW.out).mono ?_
                  rintro e w5 ⟨rfl, hb5⟩
                  go_wp2_with fail
                  go_roundw
                  case rel => exact ⟨k + 1, by go_num, by omega, by rw [HNX.out]; congr 1, by rw [HMX.out, HMD.out], HBI.out.trans (hb5.mono (by omega))⟩
                  case measure => simp [intOf]; omega
                · have z1 : ((M : Int) < (D : Int)) = False := by simp; omega
                  have HMD := Lib.hid (show max M D = M by omega)
                  clear hMD
                  go_wp2_with fail
                  refine (HC.out _ HBW.out).mono ?_
                  rintro e w5 ⟨rfl, hb5⟩
                  go_wp2_with fail
                  go_roundw
                  case rel => exact ⟨k + 1, by go_num, by omega, by rw [HNX.out]; congr 1, by rw [HMX.out, HMD.out], HBI.out.trans (hb5.mono (by omega))⟩
                  case measure => simp [intOf]; omega
          · obtain rfl : nm = k := by omega
            have hlb : decide ((nm : Int) < (nm : Int)) = false := decide_eq_false (by omega)
            have htk : ams.take nm = ams := by rw [← HN3.out]; exact List.take_length
            go_wp2_with fail
            go_ret2
            exact ⟨by rw [htk, ← HN1E.out, ← HM1E.out]; rfl, BB _ hbel2⟩
end Go.Proofs.Ytoflogckoepioaa.Re
