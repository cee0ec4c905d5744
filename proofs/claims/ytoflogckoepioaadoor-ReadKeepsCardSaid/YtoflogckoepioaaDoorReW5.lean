import Derived.Test.YtoflogckoepioaaDoorReW1
import Derived.Test.YtoflogckoepioaaDoorScI
import Derived.Test.YtoflogckoepioaaDoorChTab
/- The walk of the law ReadKeeps. -/
namespace Go.Proofs.YtoflogckoepioaaDoor.Re
open Go.RowKit
open Go.Proofs.YtoflogckoepioaaDoor.Utf
open Go.Proofs.YtoflogckoepioaaDoor.Sc

/-- What Value hands back, its cells by their shapes; its lists may be written. -/
def GivesVal3 (v : V) (a y : Int) (w : World) (e : Ending) (w' : World) : Prop :=
  ∃ A c A2 c2, e = .returned (.tuple #[.agg #[.int .i64 v.k, .int .i64 v.n, .string (strOf v.s), .slice A v.l.length c, .slice A2 v.ms.length c2], .int .i64 a, .int .i64 y]) ∧
    RdV w' w.heap.size w'.heap.size v [.int .i64 v.k, .int .i64 v.n, .string (strOf v.s), .slice A v.l.length c, .slice A2 v.ms.length c2] ∧ Below w.heap.size w w' ∧ NF w' (.slice A v.l.length c) ∧ NF w' (.slice A2 v.ms.length c2)
theorem Value_any3 (s : ByteArray) (w : World) (hs : s.size ≤ 9223372036854775807) {v : V} {a y : Int} (h : rdV s.data.toList = (v, a, y)) :
    Calls Tryd.prog 5 #[.string s] w (GivesVal3 v a y w) := by
  refine (Value_any s w hs).mono fun e w' hg => ?_
  rw [h] at hg
  obtain ⟨c0, c1, c2, c3, c4, rfl, hok, hV, hb⟩ := hg
  obtain ⟨A, c, A2, d, hcs, _⟩ := hV.cells
  simp only [List.cons.injEq, and_true] at hcs
  obtain ⟨rfl, rfl, rfl, rfl, rfl⟩ := hcs
  exact ⟨A, c, A2, d, rfl, hV, hb, (hok _ (by simp)).2, (hok _ (by simp)).2⟩

theorem cell_hp {w w' : World} (p : Addr) (h : w'.heap[p.block]? = w.heap[p.block]?) : w'.cell? p = w.cell? p := by
  unfold World.cell?; rw [h]

/-- wr is w but for cells of blocks from lo on, below hi -/
def Chg (w wr : World) (lo hi : Nat) : Prop :=
  Below lo w wr ∧ wr.heap.size = w.heap.size ∧ (∀ b, hi ≤ b → wr.heap[b]? = w.heap[b]?) ∧ (∀ p, wr.frozen? p = w.frozen? p) ∧ (∀ p, (w.cell? p).isSome = true → (wr.cell? p).isSome = true)
theorem Chg.refl (w : World) (lo hi : Nat) : Chg w w lo hi := ⟨Below.refl _ _, rfl, fun _ _ => rfl, fun _ => rfl, fun _ h => h⟩
theorem Chg.set {w wr : World} {lo hi : Nat} (h : Chg w wr lo hi) (p : Addr) (h1 : lo ≤ p.block) (h2 : p.block < hi) (u : Value) : Chg w (wr.setCell p u) lo hi := by
  obtain ⟨a1, a2, a3, a4, a5⟩ := h
  refine ⟨a1.setCell h1 u, by simp [a2], fun b hb => (heap_setCell_other wr p b u (by omega)).trans (a3 b hb), fun q => by rw [World.frozen?_setCell]; exact a4 q, fun q hq => ?_⟩
  have hq2 := a5 q hq
  by_cases e : p = q
  · subst e
    obtain ⟨x, hx⟩ := Option.isSome_iff_exists.1 hq2
    rw [World.cell?_setCell_same _ _ _ hx]
    rfl
  · rw [World.cell?_setCell_other wr p q u e]; exact hq2

set_option maxRecDepth 100000 in
set_option maxHeartbeats 2000000 in
theorem keeps_walk (s : ByteArray) (w : World) (hs : s.size ≤ reachBytes) (ht : Ch.Tab w) :
    Calls Tryd.prog 4 #[.string s] w fun e w' => e = .returned (.bool true) ∧ Below w.heap.size w w' := by
  unfold reachBytes at hs
  have hT := rTokens_any s w (by omega) ht
  rcases hr : rdV s.data.toList with ⟨v, a, y⟩
  have hV3 : ∀ w, Calls Tryd.prog 5 #[.string s] w (GivesVal3 v a y w) := fun w => Value_any3 s w (by omega) hr
  have hV2 : ∀ w, Calls Tryd.prog 5 #[.string s] w (GivesVal2 v a y w) := fun w => Value_any2 s w (by omega) hr
  have hcnt : cnt v ≤ 8192 := by
    by_cases he : y = 0
    · have := (sorts_ok (l := s.data.toList) (by rw [hr]; exact he)).2.1
      rw [hr] at this; exact this
    · have := (sorts_bad (l := s.data.toList) (by rw [hr]; exact he)).1
      rw [hr] at this
      simp only at this
      rw [this]; decide
  have hll := len_cntL v.l
  have hml := len_cntL v.ms
  have hce := cnt_eq v
  rcases hsc : scnS s.data.toList with ⟨ts, at_, er⟩
  have her : er ≠ 0 → y = er := fun h => by
    unfold rdV at hr
    rw [hsc] at hr
    simp only at hr
    rw [if_pos h] at hr
    exact (congrArg (fun x => x.2.2) hr).symm
  rw [hsc] at hT
  clear hsc hr
  have hg1 : (er != 0) = false ∨ ((er != 0) = true ∧ (y != er) = false) := by
    by_cases h : er = 0
    · exact .inl (by rw [bne_eq_false_iff_eq]; exact h)
    · exact .inr ⟨by rw [bne_iff_ne]; exact h, by rw [bne_eq_false_iff_eq]; exact her h⟩
  clear her
  have HT := Lib.hid hT; clear hT
  have HV3 := Lib.hid hV3; clear hV3
  have HV2 := Lib.hid hV2; clear hV2
  obtain ⟨X, hX⟩ : ∃ X, X = strOf v.s := ⟨_, rfl⟩
  have HX := Lib.hid hX; clear hX
  obtain ⟨nl, hnl⟩ : ∃ n, n = v.l.length := ⟨_, rfl⟩
  obtain ⟨nm, hnm⟩ : ∃ n, n = v.ms.length := ⟨_, rfl⟩
  have HNL := Lib.hid hnl
  have HNM := Lib.hid hnm
  rw [← hnl] at hll
  rw [← hnm] at hml
  clear hnl hnm ht
  have hnl2 : nl ≤ 8192 := by omega
  have hnm2 : nm ≤ 8192 := by omega
  clear hll hml hce
  rcases hg1 with g1 | ⟨g1, g2⟩
  all_goals
    go_enter Tryd.func4, Tryd.ntmps4
    go_wp2_with fail
    refine HT.out.mono ?_
    rintro e_ w1 ⟨v1, rfl, hown1, hb1⟩
    obtain ⟨A0, c0, hv1⟩ : ∃ A c, v1 = .slice A ts.length c := by
      rcases hown1.2 with ⟨h, h2⟩ | ⟨b, cap, cur, h, _⟩
      · exact ⟨none, 0, by rw [h]; simp only at h2 ⊢; rw [h2]⟩
      · exact ⟨_, cap, h⟩
    rw [hv1]
    clear hv1 hown1
    have n1 := hb1.size
    go_wp2_with fail
    refine (HV3.out w1).mono ?_
    rintro e_ w2 ⟨A, c, A2, c2, rfl, hv2, hb2, nf1, nf2⟩
    rw [← HX.out, ← HNL.out, ← HNM.out] at hv2 ⊢
    rw [← HNL.out] at nf1
    rw [← HNM.out] at nf2
    have n2 := hb2.size
    obtain ⟨W2, hW2⟩ : ∃ W2, W2 = w2.alloc (.cells #[.int .i64 v.k, .int .i64 v.n, .string X, .slice A nl c, .slice A2 nm c2] 25) := ⟨_, rfl⟩
    have z2 : W2.heap[w2.heap.size]? = some (.cells #[.int .i64 v.k, .int .i64 v.n, .string X, .slice A nl c, .slice A2 nm c2] 25 (0, 0)) := by rw [hW2]; exact heap_alloc_new w2 _
    have s2 : W2.heap.size = w2.heap.size + 1 := by rw [hW2, szAlloc']
    have B2 : Below w2.heap.size w2 W2 := by rw [hW2]; exact (Below.refl _ _).alloc (Nat.le_refl _) _
    have HW2 := Lib.hid hW2; clear hW2
    have HV2m := Lib.hid hv2; clear hv2
    go_wp2_with fail
    rw [← HW2.out]
    refine (HV2.out W2).mono ?_
    rintro e_ w3 ⟨D, d, D2, d2, rfl, hv3, hb3⟩
    rw [← HX.out, ← HNL.out, ← HNM.out] at hv3 ⊢
    have n3 := hb3.size
    obtain ⟨W3, hW3⟩ : ∃ W3, W3 = w3.alloc (.cells #[.int .i64 v.k, .int .i64 v.n, .string X, .slice D nl d, .slice D2 nm d2] 25) := ⟨_, rfl⟩
    have z3 : W3.heap[w3.heap.size]? = some (.cells #[.int .i64 v.k, .int .i64 v.n, .string X, .slice D nl d, .slice D2 nm d2] 25 (0, 0)) := by rw [hW3]; exact heap_alloc_new w3 _
    have s3 : W3.heap.size = w3.heap.size + 1 := by rw [hW3, szAlloc']
    have B3 : Below w3.heap.size w3 W3 := by rw [hW3]; exact (Below.refl _ _).alloc (Nat.le_refl _) _
    have HW3 := Lib.hid hW3; clear hW3
    have HV3m := Lib.hid hv3; clear hv3
    go_wp2_with fail
    rw [← HW3.out]
    refine (awake_any5 _).mono ?_
    rintro e_ w4 ⟨rfl, hb4⟩
    have n4 := hb4.size
    have C3 : Below w3.heap.size w3 w4 := B3.trans (hb4.mono (by omega))
    have C2 : Below w2.heap.size w2 w4 := B2.trans ((hb3.mono (by omega)).trans (C3.mono (by omega)))
    have T4 : Below w.heap.size w w4 := hb1.trans ((hb2.mono n1).trans (C2.mono (by omega)))
    have r2 : w4.heap[w2.heap.size]? = _ := (C3.block w2.heap.size (by omega)).trans ((hb3.block w2.heap.size (by omega)).trans z2)
    have r3 : w4.heap[w3.heap.size]? = _ := (hb4.block w3.heap.size (by omega)).trans z3
    -- the cells of the first value's lists
    have hL : ∀ k, k < nl → ∃ g, A = some ⟨g, 0, none⟩ ∧ w1.heap.size ≤ g ∧ g < w2.heap.size ∧ (w4.cell? ⟨g, k * 5 + 2, none⟩).isSome = true ∧ w4.frozen? ⟨g, k * 5 + 2, none⟩ = false := fun k hk => by
      obtain ⟨_, _, _, _, hcs, _, h1, _⟩ := HV2m.out.cells
      simp only [List.cons.injEq, and_true] at hcs
      obtain ⟨_, _, _, h3, _⟩ := hcs
      rw [← HNL.out] at h3 h1
      obtain ⟨rfl, _⟩ : _ ∧ _ := by injection h3 with e1 e2 e3; exact ⟨e1, e3⟩
      obtain ⟨g, rfl, hg1, hg2, hLL⟩ := h1 (by omega)
      obtain ⟨cs, k1, r1⟩ := RdL.at_ _ 0 hLL k (by rw [← HNL.out]; exact hk)
      obtain ⟨_, _, _, _, rfl, _⟩ := r1.cells
      have x := k1 2 _ rfl
      rw [Nat.zero_add] at x
      obtain ⟨g', e, _, hf⟩ := nf1 _ _ _ rfl (by omega)
      obtain rfl : g = g' := by injection e with e; injection e
      refine ⟨g, rfl, hg1, hg2, ?_, ?_⟩
      · rw [C2.cell (p := ⟨g, k * 5 + 2, none⟩) hg2, x]; rfl
      · rw [C2.frozen (p := ⟨g, k * 5 + 2, none⟩) hg2]; exact hf _
    have hM : ∀ k, k < nm → ∃ g, A2 = some ⟨g, 0, none⟩ ∧ w1.heap.size ≤ g ∧ g < w2.heap.size ∧ (w4.cell? ⟨g, k * 6, none⟩).isSome = true ∧ w4.frozen? ⟨g, k * 6, none⟩ = false := fun k hk => by
      obtain ⟨_, _, _, _, hcs, hq, _, h1⟩ := HV2m.out.cells
      simp only [List.cons.injEq, and_true] at hcs
      obtain ⟨_, _, _, _, h3⟩ := hcs
      rw [← HNM.out] at h3 h1
      obtain ⟨rfl, _⟩ : _ ∧ _ := by injection h3 with e1 e2 e3; exact ⟨e1, e3⟩
      obtain ⟨g, rfl, hg1, hg2, hLL⟩ := h1 (by omega)
      obtain ⟨x, _⟩ := RdM.at_ _ _ 0 hLL k (by rw [← HNM.out]; exact hk) (by rw [hq, ← HNM.out]; exact hk)
      rw [Nat.zero_add] at x
      obtain ⟨g', e, _, hf⟩ := nf2 _ _ _ rfl (by omega)
      obtain rfl : g = g' := by injection e with e; injection e
      refine ⟨g, rfl, hg1, hg2, ?_, ?_⟩
      · rw [C2.cell (p := ⟨g, k * 6, none⟩) hg2, x]; rfl
      · rw [C2.frozen (p := ⟨g, k * 6, none⟩) hg2]; exact hf _
    have HL := Lib.hid hL; clear hL
    have HM := Lib.hid hM; clear hM
    have H2 := Lib.hid r2; clear r2
    have H3 := Lib.hid r3; clear r3
    have HC3 := Lib.hid C3; clear C3
    have HT4 := Lib.hid T4; clear T4
    clear nf1 nf2 z2 z3 B2 B3 hb1 hb2 hb3 hb4 C2
    go_wp2_with fail
    go_loopw [12] (fun i wr => ∃ k : Nat, i = .int .i64 k ∧ k ≤ nl ∧ Chg w4 wr w1.heap.size w2.heap.size) (fun i _ => nl - (intOf i).toNat)
    case atStart => exact ⟨0, rfl, by omega, Chg.refl _ _ _⟩
    case round =>
      obtain ⟨k, rfl, hk, hchg⟩ := hrel
      have z2 := (hchg.2.2.1 w2.heap.size (Nat.le_refl _)).trans H2.out
      have f1 : wr.cell? ⟨w2.heap.size, 3, none⟩ = some (.slice A nl c) := (cells5 z2).2.2.2.1
      clear z2
      by_cases hlt : k < nl
      · have d1 : decide ((k : Int) < (nl : Int)) = true := decide_eq_true (by omega)
        have d2' : decide (k < nl) = true := decide_eq_true hlt
        have k0 : (0 : Int) ≤ (k : Int) := by omega
        have k1 : (k : Int) < (nl : Int) := by omega
        obtain ⟨g, e1, hg1, hg2, x1, x2⟩ := HL.out k hlt
        rw [e1] at f1
        obtain ⟨u0, hu0⟩ := Option.isSome_iff_exists.1 (hchg.2.2.2.2 _ x1)
        have hfz := (hchg.2.2.2.1 ⟨g, k * 5 + 2, none⟩).trans x2
        have HCH := Lib.hid hchg; clear hchg
        clear x1 x2
        go_wp2_with fail
        go_roundw
        case rel => exact ⟨k + 1, by go_num, by omega, HCH.out.set ⟨g, k * 5 + 2, none⟩ hg1 hg2 _⟩
        case measure => simp [intOf]; omega
      · have d1 : decide ((k : Int) < (nl : Int)) = false := decide_eq_false (by omega)
        have d2' : decide (k < nl) = false := decide_eq_false hlt
        have HCH := Lib.hid hchg; clear hchg
        go_wp2_with fail
        go_loopw [13] (fun i wr => ∃ k : Nat, i = .int .i64 k ∧ k ≤ nm ∧ Chg w4 wr w1.heap.size w2.heap.size) (fun i _ => nm - (intOf i).toNat)
        case atStart => exact ⟨0, rfl, by omega, HCH.out⟩
        case round =>
          clear f1 HCH d1 d2' hlt
          obtain ⟨k, rfl, hk, hchg⟩ := hrel
          have z2 := (hchg.2.2.1 w2.heap.size (Nat.le_refl _)).trans H2.out
          have f1 := (cells5 z2).2.2.2.2
          clear z2
          by_cases hlt : k < nm
          · have d1 : decide ((k : Int) < (nm : Int)) = true := decide_eq_true (by omega)
            have d2' : decide (k < nm) = true := decide_eq_true hlt
            have k0 : (0 : Int) ≤ (k : Int) := by omega
            have k1 : (k : Int) < (nm : Int) := by omega
            obtain ⟨g, e1, hg1, hg2, x1, x2⟩ := HM.out k hlt
            rw [e1] at f1
            obtain ⟨u0, hu0⟩ := Option.isSome_iff_exists.1 (hchg.2.2.2.2 _ x1)
            have hfz := (hchg.2.2.2.1 ⟨g, k * 6, none⟩).trans x2
            have HCH := Lib.hid hchg; clear hchg
            clear x1 x2
            go_wp2_with fail
            go_roundw
            case rel => exact ⟨k + 1, by go_num, by omega, HCH.out.set ⟨g, k * 6, none⟩ hg1 hg2 _⟩
            case measure => simp [intOf]; omega
          · have d1 : decide ((k : Int) < (nm : Int)) = false := decide_eq_false (by omega)
            have d2' : decide (k < nm) = false := decide_eq_false hlt
            have HCH := Lib.hid hchg; clear hchg
            go_wp2_with fail
            refine (HV2.out wr).mono ?_
            rintro e_ w5 ⟨E, e, E2, e2, rfl, hv5, hb5⟩
            rw [← HX.out, ← HNL.out, ← HNM.out] at hv5 ⊢
            have n5 := hb5.size
            have nr := HCH.out.2.1
            obtain ⟨W5, hW5⟩ : ∃ W5, W5 = w5.alloc (.cells #[.int .i64 v.k, .int .i64 v.n, .string X, .slice E nl e, .slice E2 nm e2] 25) := ⟨_, rfl⟩
            have z5 : W5.heap[w5.heap.size]? = some (.cells #[.int .i64 v.k, .int .i64 v.n, .string X, .slice E nl e, .slice E2 nm e2] 25 (0, 0)) := by rw [hW5]; exact heap_alloc_new w5 _
            have s5 : W5.heap.size = w5.heap.size + 1 := by rw [hW5, szAlloc']
            have B5 : Below w5.heap.size w5 W5 := by rw [hW5]; exact (Below.refl _ _).alloc (Nat.le_refl _) _
            have C5 : Below wr.heap.size wr W5 := hb5.trans (B5.mono (by omega))
            have r3 : W5.heap[w3.heap.size]? = _ := (C5.block w3.heap.size (by omega)).trans ((HCH.out.2.2.1 w3.heap.size (by omega)).trans H3.out)
            have T5 : Below w.heap.size w W5 := HT4.out.trans ((HCH.out.1.mono n1).trans (C5.mono (by omega)))
            have R5 := hv5.wide B5 (Nat.le_refl _) (by omega)
            have R3 : RdV W5 0 W5.heap.size v _ := RdV.keep (fun p h1 h2 => ((C5.cell (p := p) (by omega)).trans ((cell_hp p (HCH.out.2.2.1 p.block (by omega))).trans (HC3.out.cell (p := p) h2)))) (Nat.zero_le _) (by omega) v _ HV3m.out
            obtain ⟨x0, x1, x2, x3, x4⟩ := cells5 z5
            obtain ⟨q0, q1, q2, q3, q4⟩ := cells5 r3
            have hsm := Same_any (ht v) v v _ _ W5 (Nat.le_refl _) (by omega) R5 R3
            rw [hW5] at q0 q1 q2 q3 q4 x0 x1 x2 x3 x4
            have HSM := Lib.hid hsm; clear hsm
            have HT5 := Lib.hid T5; clear T5
            have HW5 := Lib.hid hW5; clear hW5
            have t1 : decide ((0 : Int) ≤ (ts.length : Int)) = true := decide_eq_true (by omega)
            have t2 : decide (0 ≤ ts.length) = true := decide_eq_true (Nat.zero_le _)
            clear z5 r3 B5 C5 R5 R3 hv5 hb5 nr
            go_wp2_with fail
            rw [← HW5.out]
            refine HSM.out.mono ?_
            rintro e_ w6 ⟨⟨b, rfl, hb⟩, hb6⟩
            obtain rfl : b = true := hb.2 (by trivial)
            go_wp2_with fail
            go_ret
            exact ⟨rfl, HT5.out.trans (hb6.mono HT5.out.size)⟩
end Go.Proofs.YtoflogckoepioaaDoor.Re
