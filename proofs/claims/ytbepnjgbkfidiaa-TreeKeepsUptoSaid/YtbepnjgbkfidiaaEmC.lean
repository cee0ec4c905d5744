import Derived.Test.YtbepnjgbkfidiaaEmB
import Derived.Test.YtbepnjgbkfidiaaRaOpen
import Derived.Test.YtbepnjgbkfidiaaReC
/- Contracts of package emit: the checker's value, Check. -/
namespace Go.Proofs.Ytbepnjgbkfidiaa.Em
open Go.RowKit Go.Maps
open Go.Proofs.Ytbepnjgbkfidiaa.Utf
open Go.Proofs.Ytbepnjgbkfidiaa.Sc
open Go.Proofs.Ytbepnjgbkfidiaa.Re

/-- the checker, in its block: how many values were right -/
def Chk (w : World) (cb p : Nat) : Prop := w.heap[cb]? = some (.cells #[.int .i64 p] 52 (0, 0))
theorem Chk.lt {w : World} {cb p : Nat} (h : Chk w cb p) : cb < w.heap.size := (Array.getElem?_eq_some_iff.1 h).1
theorem Chk.cell {w : World} {cb p : Nat} (h : Chk w cb p) : w.cell? ⟨cb, 0, none⟩ = some (.int .i64 p) ∧ w.frozen? ⟨cb, 0, none⟩ = false :=
  ⟨(cell_of_row _ _ 0 _ _ _ h).trans rfl, frozen_of_row _ _ 0 _ _ h⟩
theorem Chk.below {w w' : World} {cb p : Nat} (h : Chk w cb p) (hb : Below w.heap.size w w') : Chk w' cb p := (hb.block cb h.lt).trans h
theorem Chk.alloc {w : World} {cb p : Nat} (h : Chk w cb p) (o : Obj) : Chk (w.alloc o) cb p := (heap_alloc_old _ _ h.lt).trans h
theorem Chk.set {w : World} {cb p : Nat} (h : Chk w cb p) (q : Nat) : Chk (w.setCell ⟨cb, 0, none⟩ (.int .i64 q)) cb q := heap_setCell_same w cb 0 _ _ (.int .i64 q) h
/-- what value hands back -/
def GivesC (cb : Nat) (r : Nat × Int) (w : World) (e : Ending) (w' : World) : Prop := e = .returned (.int .i64 r.2) ∧ Chk w' cb r.1 ∧ w.grownBy w' (some cb)
theorem RdA_fr {w w' : World} {lo hi cb : Nat} {v : V} {cs : List Value} (h : RdA w lo hi v cs) (hf : w.grownBy w' (some cb)) (h1 : hi ≤ cb) (h2 : hi ≤ w.heap.size) : RdA w' lo hi v cs :=
  RdA.keep (fun p _ hp => World.cell?_of_block (hf.block p.block (by omega) (fun e => by have := Option.some.inj e; omega))) (Nat.le_refl _) (Nat.le_refl _) v cs h
theorem wkL_drop {l : List V} {k : Nat} (h : k < l.length) (d q : Nat) : wkL (l.drop k) d q = if (wk l[k] d q).2 ≠ 0 then wk l[k] d q else wkL (l.drop (k + 1)) d (wk l[k] d q).1 := by
  rw [List.drop_eq_getElem_cons h, wkL]
theorem wkL_end {l : List V} {k : Nat} (h : l.length ≤ k) (d q : Nat) : wkL (l.drop k) d q = (q, 0) := by
  rw [List.drop_of_length_le h, wkL]

set_option maxRecDepth 100000 in
set_option maxHeartbeats 16000000 in
theorem cvalue_any (h : Nat) : ∀ (v : V) (cs : List Value) (lo hi cb d p : Nat) (w : World), ht v ≤ h → szA 4611686018427387904 v → RdA w lo hi v cs → hi ≤ cb → Chk w cb p → d ≤ 17 → p ≤ 8192 →
    Calls Try.prog 30 #[.pointer (some ⟨cb, 0, none⟩), .agg cs.toArray, .int .i64 d] w (GivesC cb (wk v d p) w) := by
  induction h with
  | zero => intro v cs lo hi cb d p w hh; rw [ht_eq] at hh; omega
  | succ h ih =>
    intro v cs lo hi cb d p w hh hz hR hhi hC hd hp
    have hlt := hC.lt
    obtain ⟨A, c, A2, c2, rfl, hn, hL, hM⟩ := hR.cells
    obtain ⟨_, _, hz3, hz4, hz5, hz6, hz7, hz8⟩ := (szA_eq _ v).1 hz
    have hht := ht_eq v
    have iR := fun w1 (hb : Below w.heap.size w w1) => isRight_any v _ lo w1 (hR.below hb (by omega) (by have := hb.size; omega)) (by unfold maxLen; omega) (fun x hx => by have := hz6 x hx; unfold maxLen; omega) (by omega)
    have il : ∀ v', v' ∈ v.l → ∀ (cs : List Value) (q : Nat) (w : World), RdA w lo hi v' cs → Chk w cb q → d + 1 ≤ 17 → q ≤ 8192 → Calls Try.prog 30 #[.pointer (some ⟨cb, 0, none⟩), .agg cs.toArray, .int .i64 ((d : Int) + 1)] w (GivesC cb (wk v' (d + 1) q) w) :=
      fun v' hv cs q w h1 h2 h3 h4 => ih v' cs lo hi cb (d + 1) q w (by have := htL_mem hv; omega) (szAL_mem hz7 hv) h1 hhi h2 h3 h4
    have im : ∀ v', v' ∈ v.ms → ∀ (cs : List Value) (q : Nat) (w : World), RdA w lo hi v' cs → Chk w cb q → d + 1 ≤ 17 → q ≤ 8192 → Calls Try.prog 30 #[.pointer (some ⟨cb, 0, none⟩), .agg cs.toArray, .int .i64 ((d : Int) + 1)] w (GivesC cb (wk v' (d + 1) q) w) :=
      fun v' hv cs q w h1 h2 h3 h4 => ih v' cs lo hi cb (d + 1) q w (by have := htL_mem hv; omega) (szAL_mem hz8 hv) h1 hhi h2 h3 h4
    have hW : wk v d p = if 16 < d then (p, 51) else if p = 8192 then (p, 53) else if own v.k v.n v.s v.l.length v.ns v.ms.length then
      (if (wkL v.l (d + 1) (p + 1)).2 ≠ 0 then wkL v.l (d + 1) (p + 1) else wkL v.ms (d + 1) (wkL v.l (d + 1) (p + 1)).1) else (p, 1) := by cases v; rw [wk]; rfl
    have hw1 : 16 < d → wk v d p = (p, 51) := fun e => by rw [hW, if_pos e]
    have hw2 : ¬ 16 < d → p = 8192 → wk v d p = (p, 53) := fun e1 e2 => by rw [hW, if_neg e1, if_pos e2]
    have hw3 : ¬ 16 < d → ¬ p = 8192 → ¬ own v.k v.n v.s v.l.length v.ns v.ms.length → wk v d p = (p, 1) := fun e1 e2 e3 => by rw [hW, if_neg e1, if_neg e2, if_neg e3]
    have hw4 : ¬ 16 < d → ¬ p = 8192 → own v.k v.n v.s v.l.length v.ns v.ms.length → wk v d p = if (wkL v.l (d + 1) (p + 1)).2 ≠ 0 then wkL v.l (d + 1) (p + 1) else wkL v.ms (d + 1) (wkL v.l (d + 1) (p + 1)).1 := fun e1 e2 e3 => by rw [hW, if_neg e1, if_neg e2, if_pos e3]
    clear hW
    have hsl : v.l.length ≤ 4611686018427387904 := by omega
    have hsm : v.ms.length ≤ 4611686018427387904 := by omega
    have wle := fun l d q => wkL_le l d q
    clear ih hh hht hz hR hz3 hz4 hz5 hz6 hz7 hz8
    obtain ⟨k, n, s, l, ns, ms⟩ := v
    simp only [V.k, V.n, V.s, V.l, V.ns, V.ms] at *
    generalize wk (V.mk k n s l ns ms) d p = r at *
    generalize own k n s l.length ns ms.length = Q at *
    generalize strOf s = S at *
    have HC := Lib.hid hC
    have HL := Lib.hid hL; clear hL
    have HM := Lib.hid hM; clear hM
    have IL := Lib.hid il; clear il
    have IM := Lib.hid im; clear im
    have IR := Lib.hid iR; clear iR
    have HW := Lib.hid (And.intro hw1 (And.intro hw2 (And.intro hw3 hw4))); clear hw1 hw2 hw3 hw4
    have HN := Lib.hid hn; clear hn
    obtain ⟨c0, _⟩ := hC.cell
    clear hC
    have hb0 : ∀ o, Below w.heap.size w (w.alloc o) := fun o => (Below.refl _ _).alloc (Nat.le_refl _) _
    have HB0 := Lib.hid hb0; clear hb0
    have hne : w.heap.size ≠ cb := by omega
    by_cases h1 : 16 < d
    · have t1 : decide ((16 : Int) < (d : Int)) = true := decide_eq_true (by omega)
      have t1b : decide (16 < d) = true := decide_eq_true h1
      have hr : r = (p, 51) := HW.out.1 h1
      subst hr
      go_enter Try.func30, Try.ntmps30
      go_wp2_with fail
      go_ret
      exact ⟨rfl, HC.out.alloc _, Fr.of cb (HB0.out _)⟩
    · have t1 : decide ((16 : Int) < (d : Int)) = false := decide_eq_false (by omega)
      have t1b : decide (16 < d) = false := decide_eq_false h1
      by_cases h2 : p = 8192
      · have t2 : ((p : Int) == 8192) = true := by rw [beq_iff_eq]; omega
        have hr : r = (p, 53) := HW.out.2.1 h1 h2
        subst hr h2
        go_enter Try.func30, Try.ntmps30
        go_wp2_with fail
        go_ret
        exact ⟨rfl, HC.out.alloc _, Fr.of cb (HB0.out _)⟩
      · have t2 : ((p : Int) == 8192) = false := by rw [beq_eq_false_iff_ne]; omega
        have t2b : ((p : Int) = 8192) = False := by simp; omega
        go_enter Try.func30, Try.ntmps30
        go_wp2_with fail
        refine (IR.out _ (HB0.out _)).mono ?_
        rintro e w1 ⟨⟨x, rfl, hx⟩, hb⟩
        have hbw : Below w.heap.size w w1 := (HB0.out _).trans (hb.mono (by simp))
        have hC1 := HC.out.below hbw
        obtain ⟨d0, fz⟩ := hC1.cell
        have hz1 := (hb.block w.heap.size (by simp)).trans (heap_alloc_new w _)
        have f3 := (cell_of_row _ _ 3 _ _ _ hz1).trans rfl
        have HC1 := Lib.hid hC1; clear hC1
        have HZ1 := Lib.hid hz1; clear hz1
        have HBW := Lib.hid hbw; clear hbw
        have HX := Lib.hid hx; clear hx
        clear hb
        cases x with
        | false =>
          have hr : r = (p, 1) := HW.out.2.2.1 h1 h2 (fun hq => by have := HX.out.2 hq; simp at this)
          subst hr
          go_wp2_with fail
          go_ret
          exact ⟨rfl, HC1.out, Fr.of cb HBW.out⟩
        | true =>
          have hr : r = if (wkL l (d + 1) (p + 1)).2 ≠ 0 then wkL l (d + 1) (p + 1) else wkL ms (d + 1) (wkL l (d + 1) (p + 1)).1 := HW.out.2.2.2 h1 h2 (HX.out.1 (by trivial))
          have HR := Lib.hid hr; clear hr HW HX
          go_wp2_with fail
          obtain ⟨nl, hnl⟩ : ∃ z, l.length = z := ⟨_, rfl⟩
          rw [hnl]
          rw [hnl] at hsl
          have HHnl := Lib.hid hnl
          have HLLnl := Lib.hid (fun h => HL.out (by rw [hnl]; exact h))
          clear hnl
          go_loopw [36] (fun i wr => ∃ kk q : Nat, i = .int .i64 kk ∧ kk ≤ nl ∧ Chk wr cb q ∧ q ≤ 8192 ∧ wkL l (d + 1) (p + 1) = wkL (l.drop kk) (d + 1) q ∧ w1.grownBy wr (some cb)) (fun i _ => nl - (intOf i).toNat)
          case atStart => exact ⟨0, p + 1, rfl, by omega, (HC1.out.set (p + 1)), by omega, by rw [List.drop_zero], Fr.set w1 cb 0 _⟩
          case round =>
            obtain ⟨kk, q, rfl, hk, hC2, hq, heq, hf⟩ := hrel
            have hf0 := hf
            have HF := Lib.hid hf0; clear hf0
            have hfw : w.grownBy wr (some cb) := (Fr.of cb HBW.out).trans hf
            by_cases hlt0 : kk < nl
            · have hlt : kk < l.length := by rw [HHnl.out]; exact hlt0
              have hlb : decide ((kk : Int) < (nl : Int)) = true := decide_eq_true (by omega)
              have hlb2 : decide (kk < nl) = true := decide_eq_true hlt0
              have k0 : (0 : Int) ≤ (kk : Int) := by omega
              have k1 : (kk : Int) < (nl : Int) := by omega
              obtain ⟨g, o1, e1, _, hg, hRR⟩ := HLLnl.out (by omega)
              subst e1
              obtain ⟨xa, hxa, hva⟩ := RdAL.at_ _ o1 hRR kk hlt
              have hva2 := RdA_fr (w' := wr) hva hfw hhi (by omega)
              obtain ⟨p1, p2, p3, p4, ea, hj⟩ := hva.cells
              clear hj
              have hcell : ∀ j u, xa[j]? = some u → wr.cell? ⟨g, o1 + kk * 5 + j, none⟩ = some u := fun j u hu => (World.cell?_of_block (hfw.block g (by omega) (fun e => by have := Option.some.inj e; omega))).trans (hxa j u hu)
              have hdr := wkL_drop hlt (d + 1) q
              have hmem := List.getElem_mem hlt
              have hcall := fun w2 h1 h2 => IL.out _ hmem xa q w2 h1 h2 (by omega) hq
              clear hmem
              rw [ea] at hcell hcall hva2
              generalize l[kk] = v' at *
              generalize v'.k = y1 at *
              generalize v'.n = y2 at *
              generalize strOf v'.s = y3 at *
              generalize v'.l.length = y4 at *
              generalize v'.ms.length = y5 at *
              have a0 : wr.cell? ⟨g, o1 + kk * 5, none⟩ = _ := hcell 0 _ rfl
              have a1 : wr.cell? ⟨g, o1 + kk * 5 + 1, none⟩ = _ := hcell 1 _ rfl
              have a2 : wr.cell? ⟨g, o1 + kk * 5 + 2, none⟩ = _ := hcell 2 _ rfl
              have a3 : wr.cell? ⟨g, o1 + kk * 5 + 3, none⟩ = _ := hcell 3 _ rfl
              have a4 : wr.cell? ⟨g, o1 + kk * 5 + 4, none⟩ = _ := hcell 4 _ rfl
              clear hcell hxa hva ea hRR
              rcases hr2 : wk v' (d + 1) q with ⟨q2, y⟩
              have hq2 := wk_le v' (d + 1) q hq
              rw [hr2] at hdr hcall hq2
              have hC2' := hC2.alloc (.cells #[.int .i64 y1, .int .i64 y2, .string y3, .slice p1 y4 p2, .slice p3 y5 p4] 25)
              have hcc := hcall _ (hva2.below ((Below.refl _ _).alloc (Nat.le_refl _) (.cells #[.int .i64 y1, .int .i64 y2, .string y3, .slice p1 y4 p2, .slice p3 y5 p4] 25)) (by have := hfw.size; omega) (Nat.le_refl _)) hC2'
              clear hva2 hC2'
              have HCALL := Lib.hid hcc; clear hcc hcall
              have hdr2 := heq.trans hdr
              clear hdr heq
              by_cases hy : y = 0
              · subst hy
                have HDR := Lib.hid (hdr2.trans (if_neg (by simp))); clear hdr2
                go_wp2_with fail
                refine HCALL.out.mono ?_
                rintro e w2 ⟨rfl, hC3, hf3⟩
                go_wp2_with fail
                go_roundw
                case rel => exact ⟨kk + 1, q2, by go_num, by omega, hC3, hq2.1, HDR.out, (Fr.alloc HF.out _).trans hf3⟩
                case measure => simp [intOf]; omega
              · have HDR := Lib.hid (hdr2.trans (if_pos hy)); clear hdr2
                have ty : (y != 0) = true := by rw [bne_iff_ne]; exact hy
                have HY := Lib.hid hy; clear hy
                go_wp2_with fail
                refine HCALL.out.mono ?_
                rintro e w2 ⟨rfl, hC3, hf3⟩
                go_wp2_with fail
                go_ret
                have hr3 : r = (q2, y) := by rw [HR.out, HDR.out, if_pos HY.out]
                rw [hr3]
                exact ⟨rfl, hC3, (Fr.of cb HBW.out).trans ((Fr.alloc HF.out _).trans hf3)⟩
            · have hlb : decide ((kk : Int) < (nl : Int)) = false := decide_eq_false (by omega)
              have hlb2 : decide (kk < nl) = false := decide_eq_false hlt0
              obtain rfl : nl = kk := by omega
              rw [wkL_end (by rw [HHnl.out]; exact Nat.le_refl _)] at heq
              have HEnl := Lib.hid heq; clear heq
              have hr4 : r = wkL ms (d + 1) q := by rw [HR.out, HEnl.out]; simp
              have HR := Lib.hid hr4; clear hr4
              have hz2 := (hf.block w.heap.size (by have := HZ1.out; exact (Array.getElem?_eq_some_iff.1 this).1) (fun e => hne (Option.some.inj e).symm.symm)).trans HZ1.out
              have f4 := (cell_of_row _ _ 4 _ _ _ hz2).trans rfl
              clear hz2
              obtain ⟨q0, hq0e⟩ : ∃ z, z = q := ⟨_, rfl⟩
              rw [← hq0e] at HR hC2 hq
              clear hq0e HEnl
              have hq0 := hq
              have HC5 := Lib.hid hC2; clear hC2
              have HF5 := Lib.hid hf; clear hf hfw
              go_wp2_with fail
              obtain ⟨nm, hnm⟩ : ∃ z, ms.length = z := ⟨_, rfl⟩
              rw [hnm]
              rw [hnm] at hsm
              have HHnm := Lib.hid hnm
              have HLLnm := Lib.hid (fun h => HM.out (by rw [hnm]; exact h))
              clear hnm
              go_loopw [52] (fun i wr => ∃ kk q : Nat, i = .int .i64 kk ∧ kk ≤ nm ∧ Chk wr cb q ∧ q ≤ 8192 ∧ wkL ms (d + 1) q0 = wkL (ms.drop kk) (d + 1) q ∧ w1.grownBy wr (some cb)) (fun i _ => nm - (intOf i).toNat)
              case atStart => exact ⟨0, q0, rfl, by omega, HC5.out, hq0, by rw [List.drop_zero], HF5.out⟩
              case round =>
                obtain ⟨kk, q, rfl, hk, hC2, hq, heq, hf⟩ := hrel
                have hf0 := hf
                have HF := Lib.hid hf0; clear hf0
                have hfw : w.grownBy wr (some cb) := (Fr.of cb HBW.out).trans hf
                by_cases hlt0 : kk < nm
                · have hlt : kk < ms.length := by rw [HHnm.out]; exact hlt0
                  have hlb : decide ((kk : Int) < (nm : Int)) = true := decide_eq_true (by omega)
                  have hlb2 : decide (kk < nm) = true := decide_eq_true hlt0
                  have k0 : (0 : Int) ≤ (kk : Int) := by omega
                  have k1 : (kk : Int) < (nm : Int) := by omega
                  obtain ⟨g, o1, e1, _, hg, hRR⟩ := HLLnm.out (by omega)
                  subst e1
                  have hlt2 : kk < ns.length := by rw [HN.out]; exact hlt
                  obtain ⟨hnm, xa, hxa, hva⟩ := RdAM.at_ _ _ o1 hRR kk hlt hlt2
                  have hva2 := RdA_fr (w' := wr) hva hfw hhi (by omega)
                  obtain ⟨p1, p2, p3, p4, ea, hj⟩ := hva.cells
                  clear hj
                  have hcell : ∀ j u, xa[j]? = some u → wr.cell? ⟨g, o1 + kk * 6 + 1 + j, none⟩ = some u := fun j u hu => (World.cell?_of_block (hfw.block g (by omega) (fun e => by have := Option.some.inj e; omega))).trans (hxa j u hu)
                  have hdr := wkL_drop hlt (d + 1) q
                  have hmem := List.getElem_mem hlt
                  have hcall := fun w2 h1 h2 => IM.out _ hmem xa q w2 h1 h2 (by omega) hq
                  clear hmem
                  rw [ea] at hcell hcall hva2
                  generalize ms[kk] = v' at *
                  generalize v'.k = y1 at *
                  generalize v'.n = y2 at *
                  generalize strOf v'.s = y3 at *
                  generalize v'.l.length = y4 at *
                  generalize v'.ms.length = y5 at *
                  have a0 : wr.cell? ⟨g, o1 + kk * 6 + 1, none⟩ = _ := hcell 0 _ rfl
                  have a1 : wr.cell? ⟨g, o1 + kk * 6 + 2, none⟩ = _ := hcell 1 _ rfl
                  have a2 : wr.cell? ⟨g, o1 + kk * 6 + 3, none⟩ = _ := hcell 2 _ rfl
                  have a3 : wr.cell? ⟨g, o1 + kk * 6 + 4, none⟩ = _ := hcell 3 _ rfl
                  have a4 : wr.cell? ⟨g, o1 + kk * 6 + 5, none⟩ = _ := hcell 4 _ rfl
                  have b0 : wr.cell? ⟨g, o1 + kk * 6, none⟩ = some (.string (strOf ns[kk])) := (World.cell?_of_block (hfw.block g (by omega) (fun e => by have := Option.some.inj e; omega))).trans hnm
                  clear hnm
                  generalize strOf ns[kk] = X at *
                  clear hcell hxa hva ea hRR
                  rcases hr2 : wk v' (d + 1) q with ⟨q2, y⟩
                  have hq2 := wk_le v' (d + 1) q hq
                  rw [hr2] at hdr hcall hq2
                  have hC2' := hC2.alloc (.cells #[.string X, .int .i64 y1, .int .i64 y2, .string y3, .slice p1 y4 p2, .slice p3 y5 p4] 50)
                  have hcc := hcall _ (hva2.below ((Below.refl _ _).alloc (Nat.le_refl _) (.cells #[.string X, .int .i64 y1, .int .i64 y2, .string y3, .slice p1 y4 p2, .slice p3 y5 p4] 50)) (by have := hfw.size; omega) (Nat.le_refl _)) hC2'
                  clear hva2 hC2'
                  have HCALL := Lib.hid hcc; clear hcc hcall
                  have hdr2 := heq.trans hdr
                  clear hdr heq
                  by_cases hy : y = 0
                  · subst hy
                    have HDR := Lib.hid (hdr2.trans (if_neg (by simp))); clear hdr2
                    go_wp2_with fail
                    refine HCALL.out.mono ?_
                    rintro e w2 ⟨rfl, hC3, hf3⟩
                    go_wp2_with fail
                    go_roundw
                    case rel => exact ⟨kk + 1, q2, by go_num, by omega, hC3, hq2.1, HDR.out, (Fr.alloc HF.out _).trans hf3⟩
                    case measure => simp [intOf]; omega
                  · have HDR := Lib.hid (hdr2.trans (if_pos hy)); clear hdr2
                    have ty : (y != 0) = true := by rw [bne_iff_ne]; exact hy
                    have HY := Lib.hid hy; clear hy
                    go_wp2_with fail
                    refine HCALL.out.mono ?_
                    rintro e w2 ⟨rfl, hC3, hf3⟩
                    go_wp2_with fail
                    go_ret
                    have hr3 : r = (q2, y) := by rw [HR.out, HDR.out]
                    rw [hr3]
                    exact ⟨rfl, hC3, (Fr.of cb HBW.out).trans ((Fr.alloc HF.out _).trans hf3)⟩
                · have hlb : decide ((kk : Int) < (nm : Int)) = false := decide_eq_false (by omega)
                  have hlb2 : decide (kk < nm) = false := decide_eq_false hlt0
                  obtain rfl : nm = kk := by omega
                  rw [wkL_end (by rw [HHnm.out]; exact Nat.le_refl _)] at heq
                  have HEnm := Lib.hid heq; clear heq
                  go_wp2_with fail
                  go_ret
                  have hr3 : r = (q, 0) := by rw [HR.out, HEnm.out]
                  rw [hr3]
                  exact ⟨rfl, hC2, hfw⟩

set_option maxRecDepth 100000 in
set_option maxHeartbeats 4000000 in
theorem Check_any (v : V) (cs : List Value) (lo : Nat) (w : World) (hz : szA 4611686018427387904 v) (hR : RdA w lo w.heap.size v cs) :
    Calls Try.prog 17 #[.agg cs.toArray] w (Gives (.int .i64 (chk v)) w) := by
  obtain ⟨A, c, A2, c2, e, _, _, _⟩ := hR.cells
  have hv := fun cb w1 (hb : Below w.heap.size w w1) h1 h2 => cvalue_any (ht v) v cs lo w.heap.size cb 1 0 w1 (Nat.le_refl _) hz (hR.below hb (Nat.le_refl _) (Nat.le_refl _)) h1 h2 (by omega) (by omega)
  rw [e] at hv ⊢
  clear hR
  unfold chk
  generalize wk v 1 0 = r at *
  generalize v.k = y1 at *
  generalize v.n = y2 at *
  generalize strOf v.s = y3 at *
  generalize v.l.length = y4 at *
  generalize v.ms.length = y5 at *
  have HV := Lib.hid hv; clear hv
  go_enter Try.func17, Try.ntmps17
  go_wp2_with fail
  refine (HV.out (w.heap.size + 1) _ (((Below.refl w.heap.size w).alloc (Nat.le_refl _) _).alloc (by simp) _) (by omega) (by
    have := heap_alloc_new (w.alloc (.cells #[.int .i64 y1, .int .i64 y2, .string y3, .slice A y4 c, .slice A2 y5 c2] 25)) (.cells #[.int .i64 0] 52)
    rw [szAlloc'] at this
    exact this)).mono ?_
  rintro e w1 ⟨rfl, hC, hf⟩
  go_wp2_with fail
  go_ret
  refine ⟨rfl, ?_⟩
  have hb := ((Below.refl w.heap.size w).alloc (Nat.le_refl _) (.cells #[.int .i64 y1, .int .i64 y2, .string y3, .slice A y4 c, .slice A2 y5 c2] 25)).alloc (by simp) (.cells #[.int .i64 0] 52)
  exact hb.grown hf (by simp; omega) (fun k hk => by have := Option.some.inj hk; omega)
end Go.Proofs.Ytbepnjgbkfidiaa.Em
