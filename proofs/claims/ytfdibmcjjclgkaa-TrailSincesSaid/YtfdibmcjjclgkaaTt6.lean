/- Merged: TlD TlE TlPl2. -/
import Derived.Test.YtfdibmcjjclgkaaTt5
import Derived.Test.YtfdibmcjjclgkaaTt0
import Derived.Deep.AppendLies
import Derived.Deep.RegionHeld3
namespace Go.Proofs.Ytfdibmcjjclgkaa.Tl
open Go.Proofs Go.RowKit
open Go.Proofs.Ytfdibmcjjclgkaa.Utf
open Go.Proofs.Ytfdibmcjjclgkaa.Ro

theorem infoPa : (Try.prog.info? 45).map (fun i => (i.zero, i.size, i.bytes)) = some (some (.agg #[.string ByteArray.empty, .bool false, .bool false, .int .i64 0]), 4, 32) := by kernel_rfl
def FstI (l : List En) (s : Int) (id : List UInt8) (i j : Nat) (z : Int) : Prop :=
  (z = -1 ∧ ∀ m (h : m < l.length), j ≤ m → m ≤ i → hit s id l[m] = false) ∨ ∃ f : Nat, z = (f : Int) ∧ j ≤ f ∧ f ≤ i ∧ (∃ h : f < l.length, hit s id l[f] = true) ∧ ∀ m (h : m < l.length), j ≤ m → m < f → hit s id l[m] = false
section
variable {l : List En} {s z : Int} {id : List UInt8} {i j m : Nat}
theorem FstI.start : FstI l s id i (i + 1) (-1) := .inl ⟨rfl, fun m _ h1 h2 => by omega⟩
theorem FstI.hit (hmi : m ≤ i) (hm : m < l.length) (h : hit s id l[m] = true) : FstI l s id i m (m : Int) := .inr ⟨m, rfl, Nat.le_refl _, hmi, ⟨hm, h⟩, fun k _ h1 h2 => by omega⟩
theorem FstI.no (hf : FstI l s id i (m + 1) z) (h : ∀ hm : m < l.length, Tl.hit s id l[m] = false) : FstI l s id i m z := by
  rcases hf with ⟨rfl, hn⟩ | ⟨f, rfl, h1, h2, h3, h4⟩
  · refine .inl ⟨rfl, fun k hk k1 k2 => ?_⟩
    by_cases e : k = m
    · subst e; exact h hk
    · exact hn k hk (by omega) k2
  · refine .inr ⟨f, rfl, by omega, h2, h3, fun k hk k1 k2 => ?_⟩
    by_cases e : k = m
    · subst e; exact h hk
    · exact h4 k hk (by omega) k2
theorem FstI.found (hf : FstI l s id i 0 z) (hi : i < l.length) (h : Tl.hit s id l[i] = true) : ∃ f : Nat, z = (f : Int) ∧ f ≤ i ∧ ∃ hl : f < l.length, Tl.hit s id l[f] = true ∧ ∀ m (hm : m < l.length), m < f → Tl.hit s id l[m] = false := by
  rcases hf with ⟨rfl, hn⟩ | ⟨f, rfl, h1, h2, ⟨h3, h5⟩, h4⟩
  · have := hn i hi (Nat.zero_le _) (Nat.le_refl _)
    rw [h] at this; cases this
  · exact ⟨f, rfl, h2, h3, h5, fun m hm k => h4 m hm (Nat.zero_le _) k⟩
theorem find_fst {f : Nat} (hi : i < l.length) (hfi : f ≤ i) (hfl : f < l.length) (h1 : Tl.hit s id l[f] = true) (h2 : ∀ m (hm : m < l.length), m < f → Tl.hit s id l[m] = false) : (l.take (i + 1)).find? (Tl.hit s id) = some l[f] := by
  rw [List.find?_eq_some_iff_getElem]
  refine ⟨h1, f, by rw [List.length_take]; omega, by rw [List.getElem_take], fun j hj => ?_⟩
  rw [List.getElem_take, h2 j (by omega) hj]; rfl
theorem any_mid (h1 : i + 1 ≤ j) (h2 : j < l.length) : ((l.drop (i + 1)).take (j + 1 - (i + 1))).any (Tl.hit s id) = (((l.drop (i + 1)).take (j - (i + 1))).any (Tl.hit s id) || Tl.hit s id l[j]) := by
  have hz : j - (i + 1) < (l.drop (i + 1)).length := by rw [List.length_drop]; omega
  have e : (l.drop (i + 1))[j - (i + 1)] = l[j] := by
    rw [List.getElem_drop]
    congr 1
    omega
  rw [show j + 1 - (i + 1) = j - (i + 1) + 1 by omega, List.take_succ_eq_append_getElem hz, List.any_append, e]
  simp
end
theorem sk5 {W u w' : World} {a p0 p1 p2 p3 : Nat} {v0 v1 v2 v3 : Value} (h : Below W.heap.size W u ∧ u.cell? ⟨a, p0, none⟩ = some v0 ∧ u.cell? ⟨a, p1, none⟩ = some v1 ∧ u.cell? ⟨a, p2, none⟩ = some v2 ∧ u.cell? ⟨a, p3, none⟩ = some v3) (ha : a < W.heap.size) (hb : Below W.heap.size u w') :
    Below W.heap.size W w' ∧ w'.cell? ⟨a, p0, none⟩ = some v0 ∧ w'.cell? ⟨a, p1, none⟩ = some v1 ∧ w'.cell? ⟨a, p2, none⟩ = some v2 ∧ w'.cell? ⟨a, p3, none⟩ = some v3 := by
  obtain ⟨h0, h1, h2, h3, h4⟩ := h
  have k : ∀ j, w'.cell? ⟨a, j, none⟩ = u.cell? ⟨a, j, none⟩ := fun j => hb.cell (p := ⟨a, j, none⟩) ha
  exact ⟨h0.trans hb, (k p0).trans h1, (k p1).trans h2, (k p2).trans h3, (k p3).trans h4⟩
theorem own_slice {w : World} {B E s n : Nat} {v : Value} {xs : List Value} (h : w.ownsRow B E s v n xs) : ∃ A c, v = .slice A n c := by
  rcases h.2 with ⟨rfl, rfl⟩ | ⟨g, cap, cur, rfl, _⟩
  · exact ⟨none, 0, rfl⟩
  · exact ⟨_, cap, rfl⟩
theorem row4 {w : World} {b : Nat} {t : TypeId} {v0 v1 v2 v3 : Value} (h : w.heap[b]? = some (.cells #[v0, v1, v2, v3] t (0, 0))) : w.cell? ⟨b, 0, none⟩ = some v0 ∧ w.cell? ⟨b, 1, none⟩ = some v1 ∧ w.cell? ⟨b, 2, none⟩ = some v2 ∧ w.cell? ⟨b, 3, none⟩ = some v3 :=
  ⟨(cell_of_row w b 0 _ _ _ h).trans rfl, (cell_of_row w b 1 _ _ _ h).trans rfl, (cell_of_row w b 2 _ _ _ h).trans rfl, (cell_of_row w b 3 _ _ _ h).trans rfl⟩
theorem own_pa {w : World} {B T gb cap : Nat} {L : List Pa} (h : w.ownsRow B T 4 (.slice (some ⟨gb, 0, none⟩) L.length cap) L.length (paC L).flatten) {k : Nat} (hk : k < L.length) : ∀ j u, (paR L[k])[j]? = some u → w.cell? ⟨gb, k * 4 + j, none⟩ = some u ∧ w.frozen? ⟨gb, k * 4 + j, none⟩ = false := fun j u hj => by
  have hs : ∀ r ∈ paC L, r.length = 4 := fun r hr => by
    obtain ⟨q, -, rfl⟩ := List.mem_map.1 hr; rfl
  refine own_cell h ?_
  have hj4 : j < 4 := (List.getElem?_eq_some_iff.1 hj).1
  rw [flat_at _ hs k (by rw [paC_len]; exact hk) j hj4]
  unfold paC
  rw [List.getElem_map]; exact hj
theorem own_pset {w : World} {B T gb cap : Nat} {L : List Pa} (h : w.ownsRow B T 4 (.slice (some ⟨gb, 0, none⟩) L.length cap) L.length (paC L).flatten) {k : Nat} (hk : k < L.length) (Y : Pa) (v0 v1 v2 v3 : Value) (hY : paR Y = [v0, v1, v2, v3]) :
    ((((w.setCell ⟨gb, k * 4, none⟩ v0).setCell ⟨gb, k * 4 + 1, none⟩ v1).setCell ⟨gb, k * 4 + 2, none⟩ v2).setCell ⟨gb, k * 4 + 3, none⟩ v3).ownsRow B T 4 (.slice (some ⟨gb, 0, none⟩) L.length cap) (L.set k Y).length (paC (L.set k Y)).flatten := by
  have hs : ∀ r ∈ paC L, r.length = 4 := fun r hr => by
    obtain ⟨q, -, rfl⟩ := List.mem_map.1 hr; rfl
  have h2 := own_set4 (rows := paC L) (k := k) (by rw [paC_len]; exact h) hs (by rw [paC_len]; exact hk) v0 v1 v2 v3
  have e : (paC L).set k [v0, v1, v2, v3] = paC (L.set k Y) := by unfold paC; rw [List.map_set, hY]
  rw [e, paC_len, paC_len] at h2
  exact h2
theorem mid_at {O : List Pa} {X : Pa} {a : Nat} (ha : a ≤ O.length) : (O.take a ++ X :: O.drop a)[a]'(by rw [List.length_append, List.length_cons, List.length_take, List.length_drop]; omega) = X := by
  rw [List.getElem_append_right (by rw [List.length_take]; omega)]
  have : a - (O.take a).length = 0 := by rw [List.length_take]; omega
  simp only [this, List.getElem_cons_zero]
theorem mid_low {O : List Pa} {X : Pa} {a m : Nat} (hm : m < a) (hO : m < O.length) : (O.take a ++ X :: O.drop a)[m]'(by rw [List.length_append, List.length_cons, List.length_take, List.length_drop]; omega) = O[m] := by
  rw [List.getElem_append_left (by rw [List.length_take]; omega), List.getElem_take]
theorem mid_set {O : List Pa} {X Y : Pa} {a : Nat} (ha : a ≤ O.length) : (O.take a ++ X :: O.drop a).set a Y = O.take a ++ Y :: O.drop a := by
  rw [List.set_append_right _ _ (by rw [List.length_take]; omega)]
  have : a - (O.take a).length = 0 := by rw [List.length_take]; omega
  rw [this, List.set_cons_zero]
def GivesSn (l : List En) (s : Int) (T : TypeId) (w : World) (e : Ending) (w' : World) : Prop :=
  ∃ x, e = .returned x ∧ w'.ownsRow w.heap.size T 4 x (sinS l s).length (paC (sinS l s)).flatten ∧ Below w.heap.size w w'
set_option maxRecDepth 100000 in
set_option maxHeartbeats 2000000 in
theorem rSince_any (v : Value) (l : List En) (s : Int) (w : World) (hl : RdE w w.heap.size v l) (hn : l.length ≤ 1000000000) :
    Calls Try.prog 18 #[v, .int .i64 s] w (GivesSn l s 45 w) := by
  have mixed : Try.prog.follows .mixedOrders = true := by kernel_rfl
  obtain ⟨i0, hi0, hz0, hz1, hz2⟩ := info_parts infoPa
  obtain ⟨A, c, rfl⟩ := RdE.form hl
  have HL := Lib.hid hl
  clear hl
  obtain ⟨n, hn'⟩ : ∃ n, l.length = n := ⟨_, rfl⟩
  have HN := Lib.hid hn'
  rw [hn'] at hn HL ⊢
  clear hn'
  go_enter Try.func18, Try.ntmps18
  go_wp2_with fail
  go_loopw [5, 6] (fun v ii wr => ∃ (i : Nat) (O : List Pa), ii = .int .i64 (i : Int) ∧ i ≤ n ∧ O.length ≤ i ∧ Aside (sinS l s = (canS s (l.take i) (l.drop i)).foldl insP O) ∧ Aside (wr.ownsRow w.heap.size 45 4 v O.length (paC O).flatten) ∧ Aside (Below w.heap.size w wr)) (fun _ ii _ => n - (intOf ii).toNat)
  case atStart => exact ⟨0, [], rfl, by omega, Nat.le_refl _, (show _ = _ from rfl), (show World.ownsRow _ _ _ _ _ _ _ from World.ownsRow_nil _ _ _ _), (show Below _ _ _ from Below.refl _ _)⟩
  case round =>
    obtain ⟨i, O, rfl, hin, hOi, hsi, hrow, hbel⟩ := hrel
    have HSI := Lib.hid hsi.out
    have HRO := Lib.hid hrow.out
    have HBE := Lib.hid hbel.out
    clear hsi hrow hbel
    obtain ⟨wo, hwo⟩ : ∃ wo, wo = wr := ⟨_, rfl⟩
    subst hwo
    by_cases hlt : i < n
    · have ta : decide ((i : Int) < (n : Int)) = true := decide_eq_true (by omega)
      have tb : decide (i < n) = true := decide_eq_true (by omega)
      have k3 : (0 : Int) ≤ (i : Int) := by omega
      have k4 : (i : Int) < (n : Int) := by omega
      have k5 : ((i : Int)).toNat = i := by omega
      have hil : i < l.length := by rw [HN.out]; exact hlt
      obtain ⟨g, o, c, e1, hg, a0, a1, a2⟩ := RdE.at_ HL.out HBE.out hil
      injection e1 with e1 z1 z2
      subst e1
      clear z1 z2
      rcases hx : l[i] with ⟨eq, eid, ea⟩
      rw [hx] at a0 a1 a2
      have HEi := Lib.hid hx
      simp only at a0 a1 a2
      clear hx
      obtain ⟨XE, hXE⟩ : ∃ z, strOf eid = z := ⟨_, rfl⟩
      have HXS := Lib.hid hXE
      have HXL := Lib.hid (show XE.toList = eid by rw [← hXE, strOf_list])
      rw [hXE] at a1
      clear hXE
      by_cases hq : s < eq
      · have q1 : decide ((eq : Int) ≤ s) = false := decide_eq_false (by omega)
        have HQ := Lib.hid hq
        clear hq
        go_wp2_with fail
        go_loopw [7, 8] (fun b ii wx => ∃ j : Nat, ii = .int .i64 (j : Int) ∧ i + 1 ≤ j ∧ j ≤ n ∧ b = .bool (!((l.drop (i + 1)).take (j - (i + 1))).any (hit s eid)) ∧ Aside (Below wo.heap.size wo wx)) (fun _ ii _ => n - (intOf ii).toNat)
        case atStart => exact ⟨i + 1, by go_num, by omega, by omega, by rw [Nat.sub_self, List.take_zero]; rfl, (show Below _ _ _ from Below.refl _ _)⟩
        case round =>
          obtain ⟨j, rfl, hij, hjn, rfl, hbx⟩ := hrel
          have HBO := Lib.hid hbx.out
          have HBX := Lib.hid (HBE.out.trans (hbx.out.mono HBE.out.size))
          clear hbx a0 a1 a2
          by_cases hjt : j < n
          · have ja : decide ((j : Int) < (n : Int)) = true := decide_eq_true (by omega)
            have jb : decide (j < n) = true := decide_eq_true (by omega)
            have j3 : (0 : Int) ≤ (j : Int) := by omega
            have j4 : (j : Int) < (n : Int) := by omega
            have j5 : ((j : Int)).toNat = j := by omega
            have hjl : j < l.length := by rw [HN.out]; exact hjt
            have HST := Lib.hid (any_mid (l := l) (s := s) (id := eid) hij hjl)
            obtain ⟨g2, o2, c2, e2, -, a0, a1, a2⟩ := RdE.at_ HL.out HBX.out hil
            injection e2 with e2 z1 z2
            injection e2 with e2
            injection e2 with e2 e3
            subst e2 e3
            clear z1 z2
            rw [HEi.out] at a0 a1 a2
            simp only at a0 a1 a2
            rw [HXS.out] at a1
            obtain ⟨g2, o2, c2, e2, -, b0, b1, b2⟩ := RdE.at_ HL.out HBX.out hjl
            injection e2 with e2 z1 z2
            injection e2 with e2
            injection e2 with e2 e3
            subst e2 e3
            clear z1 z2
            rcases hx : l[j] with ⟨yq, yid, ya⟩
            rw [hx] at b0 b1 b2
            have HEj := Lib.hid hx
            simp only at b0 b1 b2
            clear hx
            obtain ⟨Y, hY⟩ : ∃ z, strOf yid = z := ⟨_, rfl⟩
            have HY := Lib.hid (show Y.toList = yid by rw [← hY, strOf_list])
            rw [hY] at b1
            clear hY
            have HSTEP := Lib.hid (show ((l.drop (i + 1)).take (j + 1 - (i + 1))).any (hit s eid) = (((l.drop (i + 1)).take (j - (i + 1))).any (hit s eid) || hit s eid (yq, yid, ya)) by rw [HST.out, HEj.out])
            obtain ⟨z, hz⟩ : ∃ z, ((l.drop (i + 1)).take (j - (i + 1))).any (hit s eid) = z := ⟨_, rfl⟩
            have HZ := Lib.hid hz
            rw [hz]
            clear hz HST
            by_cases hid : yid = eid
            · have y1 : (Y.toList == XE.toList) = true := by rw [HY.out, HXL.out, hid]; exact beq_self_eq_true _
              have y2 : Y.toList = XE.toList := by rw [HY.out, HXL.out, hid]
              by_cases hq : s < yq
              · have qa : decide ((yq : Int) > s) = true := decide_eq_true (by omega)
                have qb : decide ((s : Int) < yq) = true := decide_eq_true (by omega)
                have HIT := Lib.hid (show hit s eid (yq, yid, ya) = true from decide_eq_true ⟨hid, hq⟩)
                clear hid hq
                go_wp2_with (go_quiet (fail))
                go_roundw
                case rel => exact ⟨j + 1, by go_num, by omega, by omega, by rw [HSTEP.out, HIT.out, Bool.or_true]; rfl, (show Below _ _ _ from bdN HBO.out _)⟩
                case measure => simp [intOf]; omega
              · have qa : decide ((yq : Int) > s) = false := decide_eq_false (by omega)
                have qb : decide ((s : Int) < yq) = false := decide_eq_false (by omega)
                have HIT := Lib.hid (show hit s eid (yq, yid, ya) = false from decide_eq_false fun h => hq h.2)
                clear hid hq
                go_wp2_with (go_quiet (fail))
                go_roundw
                case rel => exact ⟨j + 1, by go_num, by omega, by omega, by rw [HSTEP.out, HIT.out, Bool.or_false, HZ.out], (show Below _ _ _ from bdN HBO.out _)⟩
                case measure => simp [intOf]; omega
            · have y1 : (Y.toList == XE.toList) = false := by rw [HY.out, HXL.out]; exact beq_eq_false_iff_ne.2 hid
              have y2 : ¬ Y.toList = XE.toList := by rw [HY.out, HXL.out]; exact hid
              have HIT := Lib.hid (show hit s eid (yq, yid, ya) = false from decide_eq_false fun h => hid h.1)
              clear hid
              go_wp2_with (go_quiet (fail))
              go_roundw
              case rel => exact ⟨j + 1, by go_num, by omega, by omega, by rw [HSTEP.out, HIT.out, Bool.or_false, HZ.out], (show Below _ _ _ from bdN HBO.out _)⟩
              case measure => simp [intOf]; omega
          · have ja : decide ((j : Int) < (n : Int)) = false := decide_eq_false (by omega)
            have jb : decide (j < n) = false := decide_eq_false (by omega)
            obtain rfl : n = j := by omega
            obtain ⟨h, hh⟩ : ∃ h, (l.drop (i + 1)).any (hit s eid) = h := ⟨_, rfl⟩
            have HHH := Lib.hid hh
            rw [List.take_of_length_le (by rw [List.length_drop, HN.out]; exact Nat.le_refl _), hh]
            clear hh
            cases h with
            | true =>
              have HSN := Lib.hid (show sinS l s = (canS s (l.take (i + 1)) (l.drop (i + 1))).foldl insP O by
                rw [HSI.out, can_step hil, HEi.out, if_neg (fun h => by have h2 := h.2; simp only at h2; rw [HHH.out] at h2; cases h2), List.nil_append])
              have HRO := Lib.hid (own_below HRO.out HBO.out)
              have HBF := HBX
              go_wp2_with fail
              go_roundw
              case rel => exact ⟨i + 1, O, by go_num, by omega, by omega, HSN.out, HRO.out, HBF.out⟩
              case measure => simp [intOf]; omega
            | false =>
              go_wp2_with fail
              go_loopw [9, 10] (fun b ii wx => ∃ (j : Nat) (z : Int), ii = .int .i64 ((j : Int) - 1) ∧ j ≤ i + 1 ∧ b = .int .i64 z ∧ Aside (FstI l s eid i j z) ∧ Aside (Below wo.heap.size wo wx)) (fun _ ii _ => (intOf ii + 1).toNat)
              case atStart => exact ⟨i + 1, -1, by go_num, by omega, rfl, (show FstI _ _ _ _ _ _ from FstI.start), (show Below _ _ _ from HBO.out)⟩
              case round =>
                obtain ⟨j, z, rfl, hji, rfl, hfi, hbx⟩ := hrel
                have HF := Lib.hid hfi.out
                have HBO := Lib.hid hbx.out
                have HBX := Lib.hid (HBE.out.trans (hbx.out.mono HBE.out.size))
                clear hbx hfi
                rcases j with _ | m
                · have m1 : decide ((((0 : Nat) : Int) - 1) ≥ 0) = false := by decide
                  have m2 : decide (((0 : Nat) : Int) - 1 ≥ 0) = false := by decide
                  rw [show (((0 : Nat) : Int) - 1) = -1 from rfl]
                  -- the first one found
                  have HBZ := HBX
                  have HBZO := HBO
                  obtain ⟨wz, hwz⟩ : ∃ x, x = wr := ⟨_, rfl⟩
                  rw [← hwz] at HBZ HBZO ⊢
                  clear hwz
                  have hgz : g < wz.heap.size := Nat.lt_of_lt_of_le hg HBZ.out.size
                  obtain ⟨f, rfl, hfi, hfl, HFH, HFN⟩ := HF.out.found hil (by rw [HEi.out]; exact decide_eq_true ⟨rfl, HQ.out⟩)
                  have HFIND := Lib.hid (find_fst hil hfi hfl HFH HFN)
                  obtain ⟨g2, o2, c2, e2, -, a0, a1, a2⟩ := RdE.at_ HL.out HBZ.out hil
                  injection e2 with e2 z1 z2
                  injection e2 with e2
                  injection e2 with e2 e3
                  subst e2 e3
                  clear z1 z2
                  rw [HEi.out] at a0 a1 a2
                  simp only at a0 a1 a2
                  rw [HXS.out] at a1
                  obtain ⟨g2, o2, c2, e2, -, d0, d1, d2⟩ := RdE.at_ HL.out HBZ.out hfl
                  injection e2 with e2 z1 z2
                  injection e2 with e2
                  injection e2 with e2 e3
                  subst e2 e3
                  clear z1 z2
                  rcases hx : l[f] with ⟨fq, fid, fa⟩
                  rw [hx] at d0 d1 d2
                  have HEf := Lib.hid hx
                  simp only at d0 d1 d2
                  clear hx
                  obtain ⟨FX, hFX⟩ : ∃ z, strOf fid = z := ⟨_, rfl⟩
                  have HFX := Lib.hid (show FX.toList = fid by rw [← hFX, strOf_list])
                  rw [hFX] at d1
                  clear hFX
                  obtain ⟨b1, hb1⟩ : ∃ b, (fa != 1) = b := ⟨_, rfl⟩
                  obtain ⟨b2, hb2⟩ : ∃ b, (ea != 3) = b := ⟨_, rfl⟩
                  have HP := Lib.hid (show pastT s (l.take (i + 1)) l[i] = (eid, b1, b2, eq) by
                    unfold pastT
                    rw [HEi.out]
                    simp only
                    rw [HFIND.out, HEf.out, ← hb1, ← hb2]
                    simp only [Option.getD_some, Prod.mk.injEq, true_and, and_true]
                    refine ⟨?_, ?_⟩ <;> rw [Bool.eq_iff_iff] <;> simp)
                  have f3 : (0 : Int) ≤ (f : Int) := by omega
                  have f4 : (f : Int) < (n : Int) := by omega
                  have f5 : ((f : Int)).toNat = f := by omega
                  have i3 : (0 : Int) ≤ (i : Int) := by omega
                  have i4 : (i : Int) < (n : Int) := by omega
                  have i5 : ((i : Int)).toNat = i := by omega
                  clear HFH HFN hfi
                  have hbd : Below wz.heap.size wz wz.drew := (Below.refl _ _).drew
                  have hba : ∀ o, Below wz.heap.size wz (wz.alloc o).drew := fun o => ((Below.refl _ _).alloc (Nat.le_refl _) o).drew
                  go_wp2_with fail
                  go_region_held3 (fun w' => Below wz.heap.size wz w' ∧ w'.cell? ⟨g, o + i * 3, none⟩ = some (.int .i64 eq) ∧ w'.cell? ⟨g, o + i * 3 + 1, none⟩ = some (.string XE) ∧ w'.cell? ⟨g, o + i * 3 + 2, none⟩ = some (.int .i64 ea) ∧ w'.cell? ⟨g, o + f * 3 + 2, none⟩ = some (.int .i64 fa)) (first | exact sk5 (by assumption) hgz (by assumption) | go_keep) (fail)
                  obtain ⟨wq, hwq⟩ : ∃ x, x = (wz.alloc (.cells #[.string XE, .bool b1, .bool b2, .int .i64 eq] 45)).drew := ⟨_, rfl⟩
                  rw [← hwq]
                  have hbq : Below wz.heap.size wz wq := by rw [hwq]; exact hba _
                  have HBQ := Lib.hid (HBZ.out.trans (hbq.mono HBZ.out.size))
                  have HQO := Lib.hid (own_below HRO.out (HBZO.out.trans (hbq.mono HBZO.out.size)))
                  have HQR := Lib.hid (show wq.heap[wz.heap.size]? = some (.cells #[.string XE, .bool b1, .bool b2, .int .i64 eq] 45 (0, 0)) by rw [hwq]; exact heap_alloc_new wz _)
                  have HQS := Lib.hid (show wz.heap.size < wq.heap.size by rw [hwq]; show _ < (wz.alloc _).heap.size; simp)
                  obtain ⟨Ao, co, rfl⟩ := own_slice HRO.out
                  have HOB := Lib.hid (fun (k : Nat) (h : (Value.slice Ao O.length co).ownBlock = some k) => (show k < wz.heap.size from Nat.lt_of_lt_of_le (HRO.out.lt k h).2 HBZO.out.size))
                  obtain ⟨p, hp⟩ : ∃ p : Pa, p = (eid, b1, b2, eq) := ⟨_, rfl⟩
                  have HPR := Lib.hid (show paR p = [.string XE, .bool b1, .bool b2, .int .i64 eq] by rw [hp]; unfold paR; rw [HXS.out])
                  have HPL := Lib.hid (show p.2.2.2 = eq by rw [hp])
                  have HSN := Lib.hid (show sinS l s = (canS s (l.take (i + 1)) (l.drop (i + 1))).foldl insP (insP O p) by
                    have h := HP.out
                    rw [HSI.out, can_step hil, h, if_pos ⟨by rw [HEi.out]; exact HQ.out, by rw [HEi.out]; exact HHH.out⟩, ← hp, List.singleton_append, List.foldl_cons])
                  clear hwq hbq hba hbd hp hb1 hb2 a0 a1 a2 d0 d1 d2
                  have hown := HQO.out
                  have hle := hOi
                  obtain ⟨c0, c1, c2, c3⟩ := row4 HQR.out
                  have hqs := HBQ.out.size
                  go_wp2_with (at_builtin; go_loud (refine wpList_append_lies _ rfl _ _ 32 rfl w.heap.size 45 i0 _ 4 32 Try.underlying32 hi0 hz0 hz1 hz2 (by rfl) (by decide) (.slice Ao O.length co) O.length (paC O).flatten rfl (hown.alloc _) ⟨wq.heap.size, 0, none⟩ 1 1 [.string XE, .bool b1, .bool b2, .int .i64 eq] rfl rfl (cells_new _ _ _) ?_ ?_ ?_ ?_ ?_ _ rfl ?_; (intro u hu; simp at hu; rcases hu with rfl | rfl | rfl | rfl <;> rfl); omega; (unfold maxLen; omega); omega; (simp; omega); intro gb cap w8 hown8 hg8 hat hgl))
                  have HO8 := Lib.hid (show w8.ownsRow w.heap.size 45 4 (.slice (some ⟨gb, 0, none⟩) (O.length + 1) cap) (O.length + 1) (paC (O.take O.length ++ p :: O.drop O.length)).flatten by
                    rw [List.take_length, List.drop_length]
                    unfold paC at hown8 ⊢
                    rw [List.map_append, List.flatten_append, List.map_cons, List.map_nil, List.flatten_singleton, HPR.out]
                    exact hown8)
                  have HB8 := Lib.hid (show Below w.heap.size w w8 from (HBQ.out.alloc hqs _).grown hg8 (by simp; omega) (fun k hk => (hown.lt k hk).1))
                  have HR8 := Lib.hid (show w8.heap[wz.heap.size]? = some (.cells #[.string XE, .bool b1, .bool b2, .int .i64 eq] 45 (0, 0)) by
                    rw [hg8.block wz.heap.size (by have := HQS.out; simp; omega) (fun e => by have := HOB.out _ e.symm; omega)]
                    exact (Below.heap_alloc wq _ _ HQS.out).trans HQR.out)
                  have HGB := Lib.hid (show gb ≠ wz.heap.size from fun e => by
                    rcases hat with h | h
                    · have := HOB.out _ h; omega
                    · have := HQS.out; simp at h; omega)
                  obtain ⟨N, hN⟩ : ∃ N, O.length = N := ⟨_, rfl⟩
                  have HNN := Lib.hid hN
                  rw [hN] at HO8 ⊢
                  have hNn : N ≤ 1000000000 := by omega
                  clear hown hown8 hg8 hat hgl hle hqs hN c0 c1 c2 c3
                  go_wp2_with fail
                  go_loopw [12] (fun ii wx => ∃ (a : Nat) (X : Pa), ii = .int .i64 (a : Int) ∧ a ≤ N ∧ Aside (∀ x ∈ O.drop a, p.2.2.2 < x.2.2.2) ∧ Aside (wx.ownsRow w.heap.size 45 4 (.slice (some ⟨gb, 0, none⟩) (N + 1) cap) (N + 1) (paC (O.take a ++ X :: O.drop a)).flatten) ∧ Aside (wx.heap[wz.heap.size]? = some (.cells #[.string XE, .bool b1, .bool b2, .int .i64 eq] 45 (0, 0))) ∧ Aside (Below w.heap.size w wx)) (fun ii _ => (intOf ii).toNat)
                  case atStart => exact ⟨N, p, rfl, Nat.le_refl _, (show ∀ _ _, _ from fun x hx => by rw [← HNN.out, List.drop_length] at hx; cases hx), (show World.ownsRow _ _ _ _ _ _ _ from HO8.out), (show _ = _ from HR8.out), (show Below _ _ _ from HB8.out)⟩
                  case round =>
                    obtain ⟨a, X, rfl, haN, hlate, hown, hbox, hbl⟩ := hrel
                    obtain ⟨wx, hwx⟩ : ∃ x, x = wr := ⟨_, rfl⟩
                    subst hwx
                    have HLT := Lib.hid hlate.out
                    have HOX := Lib.hid hown.out
                    have HXR := Lib.hid hbox.out
                    have HBL := Lib.hid hbl.out
                    clear hlate hown hbox hbl
                    have haO : a ≤ O.length := by rw [HNN.out]; exact haN
                    have HLEN := Lib.hid (show (O.take a ++ X :: O.drop a).length = N + 1 by rw [List.length_append, List.length_cons, List.length_take, List.length_drop, HNN.out]; omega)
                    have HLA := Lib.hid (mid_at (X := X) haO)
                    have HOL := Lib.hid (show wx.ownsRow w.heap.size 45 4 (.slice (some ⟨gb, 0, none⟩) (O.take a ++ X :: O.drop a).length cap) (O.take a ++ X :: O.drop a).length (paC (O.take a ++ X :: O.drop a)).flatten by rw [HLEN.out]; exact HOX.out)
                    obtain ⟨c0, c1, c2, c3⟩ := row4 HXR.out
                    have ka0 : (0 : Int) ≤ (a : Int) := by omega
                    have ka1 : (a : Int) < (N : Int) + 1 := by omega
                    have ka2 : ((a : Int)).toNat = a := by omega
                    have ka3 : a < N + 1 := by omega
                    rcases Nat.eq_zero_or_pos a with ha0 | ha0
                    · have z1 : decide ((a : Int) > 0) = false := decide_eq_false (by omega)
                      have z2 : decide ((0 : Int) < (a : Int)) = false := decide_eq_false (by omega)
                      have z3 : decide (0 < a) = false := decide_eq_false (by omega)
                      have HPLC := Lib.hid (place_is haO HLT.out (.inl ha0))
                      clear ha0
                      go_wp2_with fail
                      go_quiet (fail)
                      obtain ⟨wy, hwy⟩ : ∃ x, x = wx.drewN nq := ⟨_, rfl⟩
                      rw [← hwy]
                      have HOL := Lib.hid (show wy.ownsRow w.heap.size 45 4 (.slice (some ⟨gb, 0, none⟩) (O.take a ++ X :: O.drop a).length cap) (O.take a ++ X :: O.drop a).length (paC (O.take a ++ X :: O.drop a)).flatten by rw [hwy]; exact HOL.out)
                      have HXR := Lib.hid (show wy.heap[wz.heap.size]? = some (.cells #[.string XE, .bool b1, .bool b2, .int .i64 eq] 45 (0, 0)) by rw [hwy]; exact HXR.out)
                      have HBL := Lib.hid (show Below w.heap.size w wy by rw [hwy]; exact bdN HBL.out _)
                      clear hwy c0 c1 c2 c3
                      obtain ⟨c0, c1, c2, c3⟩ := row4 HXR.out
                      have HCA := Lib.hid (own_pa HOL.out (k := a) (by rw [HLEN.out]; omega))
                      rw [HLA.out] at HCA
                      obtain ⟨xa, xb, xc, xd⟩ := X
                      obtain ⟨f0, g0⟩ := HCA.out 0 _ rfl
                      obtain ⟨f1, g1⟩ := HCA.out 1 _ rfl
                      obtain ⟨f2, g2⟩ := HCA.out 2 _ rfl
                      obtain ⟨f3, g3⟩ := HCA.out 3 _ rfl
                      rw [Nat.add_zero] at f0 g0
                      have HS9 := Lib.hid (own_pset HOL.out (k := a) (by rw [HLEN.out]; omega) p (.string XE) (.bool b1) (.bool b2) (.int .i64 eq) HPR.out)
                      have HSO := Lib.hid (show (O.take a ++ (xa, xb, xc, xd) :: O.drop a).set a p = insP O p by rw [mid_set haO]; unfold insP; rw [HPLC.out])
                      obtain ⟨W9, hW9⟩ : ∃ W9, W9 = ((((wy.setCell ⟨gb, a * 4, none⟩ (.string XE)).setCell ⟨gb, a * 4 + 1, none⟩ (.bool b1)).setCell ⟨gb, a * 4 + 2, none⟩ (.bool b2)).setCell ⟨gb, a * 4 + 3, none⟩ (.int .i64 eq)) := ⟨_, rfl⟩
                      have HO9 := Lib.hid (show W9.ownsRow w.heap.size 45 4 (.slice (some ⟨gb, 0, none⟩) (N + 1) cap) (insP O p).length (paC (insP O p)).flatten by
                        have h := HS9.out
                        rw [HSO.out, ← hW9, HLEN.out] at h
                        exact h)
                      have hbg := (HOL.out.lt gb rfl).1
                      have HX9 := Lib.hid (show W9.heap[wz.heap.size]? = some (.cells #[.string XE, .bool b1, .bool b2, .int .i64 eq] 45 (0, 0)) by
                        rw [hW9, Below.heap_setCell _ _ _ _ (by show wz.heap.size ≠ gb; exact fun e => HGB.out e.symm), Below.heap_setCell _ _ _ _ (by show wz.heap.size ≠ gb; exact fun e => HGB.out e.symm), Below.heap_setCell _ _ _ _ (by show wz.heap.size ≠ gb; exact fun e => HGB.out e.symm), Below.heap_setCell _ _ _ _ (by show wz.heap.size ≠ gb; exact fun e => HGB.out e.symm)]
                        exact HXR.out)
                      have HB9 := Lib.hid (show Below w.heap.size w W9 by rw [hW9]; exact (((HBL.out.setCell (p := ⟨gb, a * 4, none⟩) hbg _).setCell (p := ⟨gb, a * 4 + 1, none⟩) hbg _).setCell (p := ⟨gb, a * 4 + 2, none⟩) hbg _).setCell (p := ⟨gb, a * 4 + 3, none⟩) hbg _)
                      clear hbg
                      go_wp2_with fail
                      rw [← hW9]
                      clear hW9 c0 c1 c2 c3 f0 f1 f2 f3 g0 g1 g2 g3
                      go_roundw
                      case rel => exact ⟨i + 1, insP O p, by go_num, by omega, by rw [ins_len]; omega, HSN.out, HO9.out, HB9.out⟩
                      case measure => (simp [intOf]; try omega)
                    · obtain ⟨m, ha⟩ : ∃ m, m + 1 = a := ⟨a - 1, by omega⟩
                      have HAM := Lib.hid ha
                      have z1 : decide ((a : Int) > 0) = true := decide_eq_true (by omega)
                      have z2 : decide ((0 : Int) < (a : Int)) = true := decide_eq_true (by omega)
                      have z3 : decide (0 < a) = true := decide_eq_true (by omega)
                      have m1 : (a : Int) - 1 = (m : Int) := by omega
                      have m2 : IntKind.i64.wrap ((a : Int) - 1) = (m : Int) := by rw [m1]; exact IntWalk.i64_in _ (by omega)
                      have m3 : (0 : Int) ≤ (m : Int) := by omega
                      have m4 : (m : Int) < (N : Int) + 1 := by omega
                      have m5 : ((m : Int)).toNat = m := by omega
                      have m6 : m < N + 1 := by omega
                      have hmO : m < O.length := by omega
                      have HLM := Lib.hid (mid_low (X := X) (a := a) (m := m) (by omega) hmO)
                      have HCM := Lib.hid (own_pa HOL.out (k := m) (by rw [HLEN.out]; omega))
                      rcases hy : O[m] with ⟨ya, yb, yc, yd⟩
                      have HYM := Lib.hid hy
                      rw [HLM.out, hy] at HCM
                      obtain ⟨e3, -⟩ := HCM.out 3 _ rfl
                      obtain ⟨Y, hY⟩ : ∃ z, strOf ya = z := ⟨_, rfl⟩
                      have HYY := Lib.hid hY
                      simp only at e3
                      clear hy hY ha ha0
                      by_cases hgt : eq < yd
                      · have h1 : decide ((yd : Int) > eq) = true := decide_eq_true (by omega)
                        have h2 : decide ((eq : Int) < yd) = true := decide_eq_true hgt
                        have HLT2 := Lib.hid (show ∀ x ∈ O.drop m, p.2.2.2 < x.2.2.2 from fun x hx => by
                          rw [List.drop_eq_getElem_cons hmO, HAM.out] at hx
                          rcases List.mem_cons.1 hx with rfl | hx
                          · rw [HYM.out, HPL.out]; exact hgt
                          · exact HLT.out x hx)
                        clear hgt
                        go_wp2_with fail
                        go_quiet (fail)
                        obtain ⟨wy, hwy⟩ : ∃ x, x = wx.drewN nq := ⟨_, rfl⟩
                        rw [← hwy]
                        have HOL := Lib.hid (show wy.ownsRow w.heap.size 45 4 (.slice (some ⟨gb, 0, none⟩) (O.take a ++ X :: O.drop a).length cap) (O.take a ++ X :: O.drop a).length (paC (O.take a ++ X :: O.drop a)).flatten by rw [hwy]; exact HOL.out)
                        have HXR := Lib.hid (show wy.heap[wz.heap.size]? = some (.cells #[.string XE, .bool b1, .bool b2, .int .i64 eq] 45 (0, 0)) by rw [hwy]; exact HXR.out)
                        have HBL := Lib.hid (show Below w.heap.size w wy by rw [hwy]; exact bdN HBL.out _)
                        clear hwy c0 c1 c2 c3
                        obtain ⟨c0, c1, c2, c3⟩ := row4 HXR.out
                        have HCA := Lib.hid (own_pa HOL.out (k := a) (by rw [HLEN.out]; omega))
                        rw [HLA.out] at HCA
                        obtain ⟨f0, g0⟩ := HCA.out 0 _ rfl
                        obtain ⟨f1, g1⟩ := HCA.out 1 _ rfl
                        obtain ⟨f2, g2⟩ := HCA.out 2 _ rfl
                        obtain ⟨f3, g3⟩ := HCA.out 3 _ rfl
                        rw [Nat.add_zero] at f0 g0
                        have HCM := Lib.hid (own_pa HOL.out (k := m) (by rw [HLEN.out]; omega))
                        rw [HLM.out, HYM.out] at HCM
                        obtain ⟨e0, -⟩ := HCM.out 0 _ rfl
                        obtain ⟨e1, -⟩ := HCM.out 1 _ rfl
                        obtain ⟨e2, -⟩ := HCM.out 2 _ rfl
                        obtain ⟨e3, -⟩ := HCM.out 3 _ rfl
                        rw [Nat.add_zero] at e0
                        simp only at e0 e1 e2 e3
                        rw [HYY.out] at e0
                        have HS9 := Lib.hid (own_pset HOL.out (k := a) (by rw [HLEN.out]; omega) O[m] (.string Y) (.bool yb) (.bool yc) (.int .i64 yd) (by rw [HYM.out]; unfold paR; rw [HYY.out]))
                        have HSO := Lib.hid (show (O.take a ++ X :: O.drop a).set a O[m] = O.take m ++ O[m] :: O.drop m by
                          rw [mid_set haO, ← HAM.out, List.take_succ_eq_append_getElem hmO, List.append_assoc, List.singleton_append, List.drop_eq_getElem_cons hmO])
                        obtain ⟨W9, hW9⟩ : ∃ W9, W9 = ((((wy.setCell ⟨gb, a * 4, none⟩ (.string Y)).setCell ⟨gb, a * 4 + 1, none⟩ (.bool yb)).setCell ⟨gb, a * 4 + 2, none⟩ (.bool yc)).setCell ⟨gb, a * 4 + 3, none⟩ (.int .i64 yd)) := ⟨_, rfl⟩
                        have HO9 := Lib.hid (show W9.ownsRow w.heap.size 45 4 (.slice (some ⟨gb, 0, none⟩) (N + 1) cap) (N + 1) (paC (O.take m ++ O[m] :: O.drop m)).flatten by
                          have h := HS9.out
                          rw [← hW9, List.length_set, HLEN.out, HSO.out] at h
                          exact h)
                        have hbg := (HOL.out.lt gb rfl).1
                        have HX9 := Lib.hid (show W9.heap[wz.heap.size]? = some (.cells #[.string XE, .bool b1, .bool b2, .int .i64 eq] 45 (0, 0)) by
                          rw [hW9, Below.heap_setCell _ _ _ _ (by show wz.heap.size ≠ gb; exact fun e => HGB.out e.symm), Below.heap_setCell _ _ _ _ (by show wz.heap.size ≠ gb; exact fun e => HGB.out e.symm), Below.heap_setCell _ _ _ _ (by show wz.heap.size ≠ gb; exact fun e => HGB.out e.symm), Below.heap_setCell _ _ _ _ (by show wz.heap.size ≠ gb; exact fun e => HGB.out e.symm)]
                          exact HXR.out)
                        have HB9 := Lib.hid (show Below w.heap.size w W9 by rw [hW9]; exact (((HBL.out.setCell (p := ⟨gb, a * 4, none⟩) hbg _).setCell (p := ⟨gb, a * 4 + 1, none⟩) hbg _).setCell (p := ⟨gb, a * 4 + 2, none⟩) hbg _).setCell (p := ⟨gb, a * 4 + 3, none⟩) hbg _)
                        clear hbg
                        go_wp2_with fail
                        rw [← hW9]
                        clear hW9 e0 e1 e2 e3 c0 c1 c2 c3 f0 f1 f2 f3 g0 g1 g2 g3
                        go_roundw
                        case rel => exact ⟨m, O[m], by go_num, by omega, HLT2.out, HO9.out, HX9.out, HB9.out⟩
                        case measure => (simp [intOf]; try omega)
                      · have h1 : decide ((yd : Int) > eq) = false := decide_eq_false (by omega)
                        have h2 : decide ((eq : Int) < yd) = false := decide_eq_false hgt
                        have HPLC := Lib.hid (place_is (p := p) haO HLT.out (.inr ⟨by omega, by
                          have e : O[a - 1]'(by omega) = O[m] := by congr 1; omega
                          rw [e, HYM.out, HPL.out]; simp only; omega⟩))
                        clear hgt
                        go_wp2_with fail
                        go_quiet (fail)
                        obtain ⟨wy, hwy⟩ : ∃ x, x = wx.drewN nq := ⟨_, rfl⟩
                        rw [← hwy]
                        have HOL := Lib.hid (show wy.ownsRow w.heap.size 45 4 (.slice (some ⟨gb, 0, none⟩) (O.take a ++ X :: O.drop a).length cap) (O.take a ++ X :: O.drop a).length (paC (O.take a ++ X :: O.drop a)).flatten by rw [hwy]; exact HOL.out)
                        have HXR := Lib.hid (show wy.heap[wz.heap.size]? = some (.cells #[.string XE, .bool b1, .bool b2, .int .i64 eq] 45 (0, 0)) by rw [hwy]; exact HXR.out)
                        have HBL := Lib.hid (show Below w.heap.size w wy by rw [hwy]; exact bdN HBL.out _)
                        clear hwy c0 c1 c2 c3
                        obtain ⟨c0, c1, c2, c3⟩ := row4 HXR.out
                        have HCA := Lib.hid (own_pa HOL.out (k := a) (by rw [HLEN.out]; omega))
                        rw [HLA.out] at HCA
                        obtain ⟨xa, xb, xc, xd⟩ := X
                        obtain ⟨f0, g0⟩ := HCA.out 0 _ rfl
                        obtain ⟨f1, g1⟩ := HCA.out 1 _ rfl
                        obtain ⟨f2, g2⟩ := HCA.out 2 _ rfl
                        obtain ⟨f3, g3⟩ := HCA.out 3 _ rfl
                        rw [Nat.add_zero] at f0 g0
                        have HS9 := Lib.hid (own_pset HOL.out (k := a) (by rw [HLEN.out]; omega) p (.string XE) (.bool b1) (.bool b2) (.int .i64 eq) HPR.out)
                        have HSO := Lib.hid (show (O.take a ++ (xa, xb, xc, xd) :: O.drop a).set a p = insP O p by rw [mid_set haO]; unfold insP; rw [HPLC.out])
                        obtain ⟨W9, hW9⟩ : ∃ W9, W9 = ((((wy.setCell ⟨gb, a * 4, none⟩ (.string XE)).setCell ⟨gb, a * 4 + 1, none⟩ (.bool b1)).setCell ⟨gb, a * 4 + 2, none⟩ (.bool b2)).setCell ⟨gb, a * 4 + 3, none⟩ (.int .i64 eq)) := ⟨_, rfl⟩
                        have HO9 := Lib.hid (show W9.ownsRow w.heap.size 45 4 (.slice (some ⟨gb, 0, none⟩) (N + 1) cap) (insP O p).length (paC (insP O p)).flatten by
                          have h := HS9.out
                          rw [HSO.out, ← hW9, HLEN.out] at h
                          exact h)
                        have hbg := (HOL.out.lt gb rfl).1
                        have HX9 := Lib.hid (show W9.heap[wz.heap.size]? = some (.cells #[.string XE, .bool b1, .bool b2, .int .i64 eq] 45 (0, 0)) by
                          rw [hW9, Below.heap_setCell _ _ _ _ (by show wz.heap.size ≠ gb; exact fun e => HGB.out e.symm), Below.heap_setCell _ _ _ _ (by show wz.heap.size ≠ gb; exact fun e => HGB.out e.symm), Below.heap_setCell _ _ _ _ (by show wz.heap.size ≠ gb; exact fun e => HGB.out e.symm), Below.heap_setCell _ _ _ _ (by show wz.heap.size ≠ gb; exact fun e => HGB.out e.symm)]
                          exact HXR.out)
                        have HB9 := Lib.hid (show Below w.heap.size w W9 by rw [hW9]; exact (((HBL.out.setCell (p := ⟨gb, a * 4, none⟩) hbg _).setCell (p := ⟨gb, a * 4 + 1, none⟩) hbg _).setCell (p := ⟨gb, a * 4 + 2, none⟩) hbg _).setCell (p := ⟨gb, a * 4 + 3, none⟩) hbg _)
                        clear hbg
                        go_wp2_with fail
                        rw [← hW9]
                        clear hW9 c0 c1 c2 c3 f0 f1 f2 f3 g0 g1 g2 g3
                        go_roundw
                        case rel => exact ⟨i + 1, insP O p, by go_num, by omega, by rw [ins_len]; omega, HSN.out, HO9.out, HB9.out⟩
                        case measure => (simp [intOf]; try omega)
                · rw [show (((m + 1 : Nat) : Int) - 1) = (m : Int) by omega]
                  have m1 : decide ((m : Int) ≥ 0) = true := decide_eq_true (by omega)
                  have m2 : decide ((0 : Int) ≤ (m : Int)) = true := decide_eq_true (by omega)
                  have hml : m < l.length := by rw [HN.out]; omega
                  have m3 : (0 : Int) ≤ (m : Int) := by omega
                  have m4 : (m : Int) < (n : Int) := by omega
                  have m5 : ((m : Int)).toNat = m := by omega
                  obtain ⟨g2, o2, c2, e2, -, a0, a1, a2⟩ := RdE.at_ HL.out HBX.out hil
                  injection e2 with e2 z1 z2
                  injection e2 with e2
                  injection e2 with e2 e3
                  subst e2 e3
                  clear z1 z2
                  rw [HEi.out] at a0 a1 a2
                  simp only at a0 a1 a2
                  rw [HXS.out] at a1
                  obtain ⟨g2, o2, c2, e2, -, b0, b1, b2⟩ := RdE.at_ HL.out HBX.out hml
                  injection e2 with e2 z1 z2
                  injection e2 with e2
                  injection e2 with e2 e3
                  subst e2 e3
                  clear z1 z2
                  rcases hx : l[m] with ⟨yq, yid, ya⟩
                  rw [hx] at b0 b1 b2
                  have HEm := Lib.hid hx
                  simp only at b0 b1 b2
                  clear hx
                  obtain ⟨Y, hY⟩ : ∃ z, strOf yid = z := ⟨_, rfl⟩
                  have HY := Lib.hid (show Y.toList = yid by rw [← hY, strOf_list])
                  rw [hY] at b1
                  clear hY
                  by_cases hid : yid = eid
                  · have y1 : (Y.toList == XE.toList) = true := by rw [HY.out, HXL.out, hid]; exact beq_self_eq_true _
                    have y2 : Y.toList = XE.toList := by rw [HY.out, HXL.out, hid]
                    by_cases hq : s < yq
                    · have qa : decide ((yq : Int) > s) = true := decide_eq_true (by omega)
                      have qb : decide ((s : Int) < yq) = true := decide_eq_true (by omega)
                      have HIT := Lib.hid (show hit s eid (yq, yid, ya) = true from decide_eq_true ⟨hid, hq⟩)
                      clear hid hq
                      have HF2 := Lib.hid (show FstI l s eid i m (m : Int) from FstI.hit (by omega) hml (by rw [HEm.out]; exact HIT.out))
                      go_wp2_with (go_quiet (fail))
                      go_roundw
                      case rel => exact ⟨m, (m : Int), by go_num, by omega, rfl, HF2.out, (show Below _ _ _ from bdN HBO.out _)⟩
                      case measure => simp [intOf]
                    · have qa : decide ((yq : Int) > s) = false := decide_eq_false (by omega)
                      have qb : decide ((s : Int) < yq) = false := decide_eq_false (by omega)
                      have HIT := Lib.hid (show hit s eid (yq, yid, ya) = false from decide_eq_false fun h => hq h.2)
                      clear hid hq
                      have HF2 := Lib.hid (show FstI l s eid i m z from FstI.no HF.out (fun hl => by rw [HEm.out]; exact HIT.out))
                      go_wp2_with (go_quiet (fail))
                      go_roundw
                      case rel => exact ⟨m, z, by go_num, by omega, rfl, HF2.out, (show Below _ _ _ from bdN HBO.out _)⟩
                      case measure => simp [intOf]
                  · have y1 : (Y.toList == XE.toList) = false := by rw [HY.out, HXL.out]; exact beq_eq_false_iff_ne.2 hid
                    have y2 : ¬ Y.toList = XE.toList := by rw [HY.out, HXL.out]; exact hid
                    have HIT := Lib.hid (show hit s eid (yq, yid, ya) = false from decide_eq_false fun h => hid h.1)
                    clear hid
                    have HF2 := Lib.hid (show FstI l s eid i m z from FstI.no HF.out (fun hl => by rw [HEm.out]; exact HIT.out))
                    go_wp2_with (go_quiet (fail))
                    go_roundw
                    case rel => exact ⟨m, z, by go_num, by omega, rfl, HF2.out, (show Below _ _ _ from bdN HBO.out _)⟩
                    case measure => simp [intOf]
      · have q1 : decide ((eq : Int) ≤ s) = true := decide_eq_true (by omega)
        have HSN := Lib.hid (show sinS l s = (canS s (l.take (i + 1)) (l.drop (i + 1))).foldl insP O by
          rw [HSI.out, can_step hil, HEi.out, if_neg (fun h => hq h.1), List.nil_append])
        have HBF := HBE
        clear hq
        go_wp2_with fail
        go_roundw
        case rel => exact ⟨i + 1, O, by go_num, by omega, by omega, HSN.out, HRO.out, HBF.out⟩
        case measure => simp [intOf]; omega
    · have ta : decide ((i : Int) < (n : Int)) = false := decide_eq_false (by omega)
      have tb : decide (i < n) = false := decide_eq_false (by omega)
      have HE := Lib.hid (show sinS l s = O by rw [HSI.out, List.drop_eq_nil_of_le (by rw [HN.out]; omega), canS]; rfl)
      go_wp2_with fail
      go_ret
      exact ⟨_, rfl, by rw [HE.out]; exact HRO.out, HBE.out⟩
end Go.Proofs.Ytfdibmcjjclgkaa.Tl
namespace Go.Proofs.Ytfdibmcjjclgkaa.Tl
open Go.Proofs Go.RowKit
open Go.Proofs.Ytfdibmcjjclgkaa.Utf
open Go.Proofs.Ytfdibmcjjclgkaa.Ro

def GivesPs (l : List Pa) (T : TypeId) (w : World) (e : Ending) (w' : World) : Prop :=
  ∃ x, e = .returned x ∧ w'.ownsRow w.heap.size T 4 x l.length (paC l).flatten ∧ Below w.heap.size w w'
set_option maxRecDepth 100000 in
set_option maxHeartbeats 2000000 in
theorem pasts_any (v : Value) (l : List Pa) (w : World) (hl : RdP w w.heap.size v l) (hn : l.length ≤ 1000000000) :
    Calls Try.prog 16 #[v] w (GivesPs l 45 w) := by
  have mixed : Try.prog.follows .mixedOrders = true := by kernel_rfl
  obtain ⟨i0, hi0, hz0, hz1, hz2⟩ := info_parts infoPa
  obtain ⟨A, c, rfl⟩ := RdP.form hl
  have HL := Lib.hid hl
  clear hl
  obtain ⟨n, hn'⟩ : ∃ n, l.length = n := ⟨_, rfl⟩
  have HN := Lib.hid hn'
  rw [hn'] at hn HL
  clear hn'
  rw [HN.out]
  go_enter Try.func16, Try.ntmps16
  go_wp2_with fail
  go_loopw [3, 4] (fun v ii wr => ∃ i : Nat, ii = .int .i64 (i : Int) ∧ i ≤ n ∧ Aside (wr.ownsRow w.heap.size 45 4 v i (paC (l.take i)).flatten) ∧ Aside (Below w.heap.size w wr)) (fun _ ii _ => n - (intOf ii).toNat)
  case atStart => exact ⟨0, rfl, by omega, (show World.ownsRow _ _ _ _ _ _ _ from World.ownsRow_nil _ _ _ _), (show Below _ _ _ from Below.refl _ _)⟩
  case round =>
    obtain ⟨i, rfl, hin, hrow, hbel⟩ := hrel
    have HRO := Lib.hid hrow.out
    have HBE := Lib.hid hbel.out
    clear hrow hbel
    obtain ⟨wz, hwz⟩ : ∃ wo, wo = wr := ⟨_, rfl⟩
    subst hwz
    by_cases hlt : i < n
    · have t0 : decide ((i : Int) < (n : Int)) = true := decide_eq_true (by omega)
      have t1 : decide (i < n) = true := decide_eq_true hlt
      have k0 : (0 : Int) ≤ (i : Int) := by omega
      have k1 : (i : Int) < (n : Int) := by omega
      have k2 : ((i : Int)).toNat = i := by omega
      have hil : i < l.length := by rw [HN.out]; exact hlt
      obtain ⟨g, o, c, e1, hg, a0, a1, a2, a3⟩ := RdP.at_ HL.out HBE.out hil
      injection e1 with e1 z1 z2
      subst e1
      clear z1 z2
      rcases hx : l[i] with ⟨eid, b1, b2, eq⟩
      rw [hx] at a0 a1 a2 a3
      have HEi := Lib.hid hx
      simp only at a0 a1 a2 a3
      clear hx
      obtain ⟨XE, hXE⟩ : ∃ z, strOf eid = z := ⟨_, rfl⟩
      have HXS := Lib.hid hXE
      rw [hXE] at a0
      clear hXE
      have hgz : g < wz.heap.size := Nat.lt_of_lt_of_le hg HBE.out.size
      obtain ⟨Ao, co, rfl⟩ := own_slice HRO.out
      have hown := HRO.out
      have hle := hin
      have hqs := HBE.out.size
      have HROW := Lib.hid (show (paC (l.take i)).flatten ++ [.string XE, .bool b1, .bool b2, .int .i64 eq] = (paC (l.take (i + 1))).flatten by
        rw [List.take_succ_eq_append_getElem hil, HEi.out]
        unfold paC
        rw [List.map_append, List.flatten_append, List.map_cons, List.map_nil, List.flatten_singleton]
        unfold paR
        rw [HXS.out])
      have hbd : Below wz.heap.size wz wz.drew := (Below.refl _ _).drew
      have hba : ∀ o, Below wz.heap.size wz (wz.alloc o).drew := fun o => ((Below.refl _ _).alloc (Nat.le_refl _) o).drew
      have hgo : ∀ k, some k = (Value.slice Ao i co).ownBlock → g = k → False := fun k e h => by have := (hown.lt k e.symm).1; omega
      have HNB := Lib.hid (show ((wz.alloc (.cells #[.string XE, .bool b1, .bool b2, .int .i64 eq] 45)).drew).heap[wz.heap.size]? = some (.cells #[.string XE, .bool b1, .bool b2, .int .i64 eq] 45 (0, 0)) from heap_alloc_new wz _)
      go_wp2_with fail
      go_region_held3 (fun w' => w'.cell? ⟨g, o + i * 4, none⟩ = some (.string XE) ∧ w'.cell? ⟨g, o + i * 4 + 1, none⟩ = some (.bool b1) ∧ w'.cell? ⟨g, o + i * 4 + 2, none⟩ = some (.bool b2) ∧ w'.cell? ⟨g, o + i * 4 + 3, none⟩ = some (.int .i64 eq)) (first | go_keep | exact ⟨(hg8.cell_far ⟨g, o + i * 4, none⟩ (by simp; omega) (fun e => hgo g e rfl)).trans (((hba _).cell (p := ⟨g, o + i * 4, none⟩) hgz).trans a0), (hg8.cell_far ⟨g, o + i * 4 + 1, none⟩ (by simp; omega) (fun e => hgo g e rfl)).trans (((hba _).cell (p := ⟨g, o + i * 4 + 1, none⟩) hgz).trans a1), (hg8.cell_far ⟨g, o + i * 4 + 2, none⟩ (by simp; omega) (fun e => hgo g e rfl)).trans (((hba _).cell (p := ⟨g, o + i * 4 + 2, none⟩) hgz).trans a2), (hg8.cell_far ⟨g, o + i * 4 + 3, none⟩ (by simp; omega) (fun e => hgo g e rfl)).trans (((hba _).cell (p := ⟨g, o + i * 4 + 3, none⟩) hgz).trans a3)⟩)
        ((refine step_append_lies _ (by rfl) _ _ _ (by rfl) w.heap.size 45 i0 _ 4 32 Try.underlying32 hi0 hz0 hz1 hz2 (by rfl) (by decide) (.slice Ao i co) i (paC (l.take i)).flatten (by rfl) ((hown.alloc _).drew) ⟨wz.heap.size, 0, none⟩ 1 1 [.string XE, .bool b1, .bool b2, .int .i64 eq] (by rfl) (by rfl) (World.news_of_block (cs := #[.string XE, .bool b1, .bool b2, .int .i64 eq]) (t := 45) (fr := (0, 0)) HNB.out) (by intro u hu; simp at hu; rcases hu with rfl | rfl | rfl | rfl <;> rfl) (by omega) (by unfold maxLen; omega) (by omega) (by simp; omega) (wz.heap.size + 1) (by simp) ?_; intro gb cap w8 hown8 hg8 hat hgl))
      have HO8 := Lib.hid (show w8.ownsRow w.heap.size 45 4 (.slice (some ⟨gb, 0, none⟩) (i + 1) cap) (i + 1) (paC (l.take (i + 1))).flatten by rw [← HROW.out]; exact hown8)
      have HB8 := Lib.hid (show Below w.heap.size w w8 from ((HBE.out.alloc hqs _).drew).grown hg8 (by simp; omega) (fun k hk => (hown.lt k hk).1))
      go_wp2_with fail
      go_roundw
      case rel => exact ⟨i + 1, by go_num, by omega, HO8.out, HB8.out⟩
      case measure => simp [intOf]; omega
    · have t0 : decide ((i : Int) < (n : Int)) = false := decide_eq_false (by omega)
      have t1 : decide (i < n) = false := decide_eq_false hlt
      obtain rfl : i = n := by omega
      have HT := Lib.hid (show l.take i = l from List.take_of_length_le (by rw [HN.out]; exact Nat.le_refl _))
      rw [HT.out] at HRO
      go_wp2_with fail
      go_ret
      exact ⟨_, rfl, by rw [HN.out]; exact HRO.out, HBE.out⟩

theorem rd_block {w : World} {B g s c : Nat} {cs : Array Value} {t : TypeId} {fr : Nat × Nat} {rows : List (List Value)} (h : w.heap[g]? = some (.cells cs t fr)) (hs : ∀ r ∈ rows, r.length = s) (hc : rows.flatten = cs.toList) (hg : g < B) : RdR w B s (.slice (some ⟨g, 0, none⟩) rows.length c) rows := by
  refine ⟨hs, _, _, rfl, fun _ => ⟨g, 0, rfl, hg, fun k hk j u hu => ?_⟩⟩
  have hj : j < s := by
    have := (List.getElem?_eq_some_iff.1 hu).1
    rwa [hs _ (List.getElem_mem hk)] at this
  rw [Nat.zero_add, cell_of_row w g _ cs t fr h, ← Array.getElem?_toList, ← hc, flat_at rows hs k hk j hj]
  exact hu
def exE : List En := [(1, [97], 1), (2, [98], 1), (3, [97], 3), (4, [98], 2)]
def GivesE (l : List En) (w : World) (e : Ending) (w' : World) : Prop := ∃ x, e = .returned x ∧ RdE w' w'.heap.size x l ∧ (∀ A m c, x = .slice A m c → m ≤ c) ∧ Below w.heap.size w w'
set_option maxHeartbeats 1000000 in
set_option maxRecDepth 100000 in
theorem example_any (w : World) : Calls Try.prog 21 #[] w (GivesE exE w) := by
  go_enter Try.func21, Try.ntmps21
  go_wp2_with fail
  go_ret
  exact ⟨_, rfl, rd_block (rows := enC exE) (heap_alloc_new w _) (fun r hr => by obtain ⟨q, -, rfl⟩ := List.mem_map.1 hr; rfl) rfl (by simp), (fun _ _ _ h => by injection h with h1 h2 h3; omega), (Below.refl _ _).alloc (Nat.le_refl _) _⟩
end Go.Proofs.Ytfdibmcjjclgkaa.Tl
namespace Go.Proofs.Ytfdibmcjjclgkaa.Tl
open Go.Proofs Go.RowKit
open Go.Proofs.Ytfdibmcjjclgkaa.Utf

theorem hit_is {s : Int} {id : List UInt8} {x : En} : hit s id x = true ↔ x.2.1 = id ∧ s < x.1 := by unfold hit; rw [decide_eq_true_iff]
section
variable {f s : Int} {l : List En} {x : Pa}
end
end Go.Proofs.Ytfdibmcjjclgkaa.Tl
