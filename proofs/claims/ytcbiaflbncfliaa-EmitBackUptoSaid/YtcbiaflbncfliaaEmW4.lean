import Derived.Test.YtcbiaflbncfliaaEmG
import Derived.Test.YtcbiaflbncfliaaEmPl3
import Derived.Test.YtcbiaflbncfliaaRaA
import Derived.Test.YtcbiaflbncfliaaRfH
/- The walk of EmitBack. Written by tools/genEmW4.py. -/
namespace Go.Proofs.Ytcbiaflbncfliaa.Em
open Go.RowKit
open Go.Proofs.Ytcbiaflbncfliaa.Utf
open Go.Proofs.Ytcbiaflbncfliaa.Sc
open Go.Proofs.Ytcbiaflbncfliaa.Re

/-- what Value hands back, as a value in memory -/
def GivesVal3 (v : V) (a y : Int) (w : World) (e : Ending) (w' : World) : Prop :=
  ∃ A c A2 c2, e = .returned (.tuple #[.agg #[.int .i64 v.k, .int .i64 v.n, .string (strOf v.s), .slice A v.l.length c, .slice A2 v.ms.length c2], .int .i64 a, .int .i64 y]) ∧
    RdA w' 0 w'.heap.size v [.int .i64 v.k, .int .i64 v.n, .string (strOf v.s), .slice A v.l.length c, .slice A2 v.ms.length c2] ∧ Below w.heap.size w w'
theorem Value_any3 (s : ByteArray) (w : World) (hs : s.size ≤ 9223372036854775807) {v : V} {a y : Int} (h : rdV s.data.toList = (v, a, y)) :
    Calls Try.prog 9 #[.string s] w (GivesVal3 v a y w) := by
  refine (Value_any s w hs).mono fun e w' hg => ?_
  rw [h] at hg
  obtain ⟨c0, c1, c2, c3, c4, rfl, _, hV, hb⟩ := hg
  obtain ⟨A, c, A2, d, hcs, _⟩ := hV.cells
  simp only [List.cons.injEq, and_true] at hcs
  obtain ⟨rfl, rfl, rfl, rfl, rfl⟩ := hcs
  exact ⟨A, c, A2, d, rfl, RdA.of_RdV _ _ (RdV.keep (fun _ _ _ => rfl) (Nat.zero_le _) (Nat.le_refl _) v _ hV), hb⟩
theorem szA_right {v : V} (h : chk v = 0) (hz : szU v ≤ 1099511627776) : szA 4611686018427387904 v := szA_of _ v (wf_all v (chk_ok h).2.2) (by omega)

set_option maxRecDepth 100000 in
set_option maxHeartbeats 16000000 in
theorem back_walk (a : V) (ca : List Value) (s : ByteArray) (w : World) (ha : RdA w 0 w.heap.size a ca) (za : szU a ≤ 1048576) (wa : wfV a) (hs : s.size ≤ 1048576) :
    Calls Try.prog 3 #[.agg ca.toArray, .string s] w fun e w' => e = .returned (.bool true) ∧ Below w.heap.size w w' := by
  have la := len_of_RdA a ca ha
  have hsa := szA_of 4611686018427387904 a wa (by omega)
  have ta := fun w1 (h : Below w.heap.size w w1) => Text_any a ca 0 w1 la (by omega) hsa (ha.below h (Nat.le_refl _) h.size)
  have sa := fun w1 cb (h : Below w.heap.size w w1) (hb : RdA w1 0 w1.heap.size a cb) => SameA_any (ht a) a a ca cb w1 (Nat.le_refl _) hsa (ha.below h (Nat.le_refl _) h.size) hb
  have va := fun w1 (h0 : chk a = 0) (h1 : (strOf (txtR a)).size ≤ 65536) => Value_any3 (strOf (txtR a)) w1 (by omega) (v := a) (a := 0) (y := 0) (by
    rw [strOf_size] at h1
    unfold txtR at *
    rw [if_pos h0] at *
    rw [strOf_data]
    exact rd_em h0 la h1)
  rcases hr : rdV s.data.toList with ⟨b, ab, yb⟩
  have vs := fun w1 => Value_any3 s w1 (by omega) hr
  have hb0 : yb = 0 → chk b = 0 ∧ lenV b ∧ szU b ≤ 1099511627776 := fun h => by
    have := rd_right (l := s.data.toList) (by rw [hr]; exact h)
    rw [hr] at this
    exact this
  have tb := fun (h : yb = 0) w1 cb (hb : RdA w1 0 w1.heap.size b cb) => Text_any b cb 0 w1 (hb0 h).2.1 (hb0 h).2.2 (szA_right (hb0 h).1 (hb0 h).2.2) hb
  have sb := fun (h : yb = 0) w1 cb cc (hb : RdA w1 0 w1.heap.size b cb) (hc : RdA w1 0 w1.heap.size b cc) => SameA_any (ht b) b b cb cc w1 (Nat.le_refl _) (szA_right (hb0 h).1 (hb0 h).2.2) hb hc
  have vb := fun w1 (h0 : yb = 0) (h1 : (strOf (txtR b)).size ≤ 65536) => Value_any3 (strOf (txtR b)) w1 (by omega) (v := b) (a := 0) (y := 0) (by
    rw [strOf_size] at h1
    have h2 := (hb0 h0).1
    unfold txtR at *
    rw [if_pos h2] at *
    rw [strOf_data]
    exact rd_em h2 (hb0 h0).2.1 h1)
  have hcb : yb = 0 → chk b = 0 := fun h => (hb0 h).1
  unfold GivesT at ta tb
  unfold GivesVal3 at va vs vb
  clear hb0 hr
  obtain ⟨A, c, A2, c2, ea, hj⟩ := ha.cells
  clear hj
  rw [ea] at ta sa ⊢
  clear ha la hsa ea
  generalize strOf (txtR a) = S at *
  generalize strOf (txtR b) = T at *
  generalize chk a = x at *
  generalize chk b = xb at *
  generalize a.k = k1 at *
  generalize a.n = n1 at *
  generalize strOf a.s = s1 at *
  generalize a.l.length = l1 at *
  generalize a.ms.length = m1 at *
  generalize b.k = k2 at *
  generalize b.n = n2 at *
  generalize strOf b.s = s2 at *
  generalize b.l.length = l2 at *
  generalize b.ms.length = m2 at *
  have TA := Lib.hid ta; clear ta
  have SA := Lib.hid sa; clear sa
  have VA := Lib.hid va; clear va
  have VS := Lib.hid vs; clear vs
  have TB := Lib.hid tb; clear tb
  have SB := Lib.hid sb; clear sb
  have VB := Lib.hid vb; clear vb
  have HCB := Lib.hid hcb; clear hcb
  have hbx := (Below.refl w.heap.size w).alloc (Nat.le_refl _) (.cells #[.int .i64 k1, .int .i64 n1, .string s1, .slice A l1 c, .slice A2 m1 c2] 25)
  have HB0 := Lib.hid hbx; clear hbx
  go_enter Try.func3, Try.ntmps3
  go_wp2_with fail
  refine (TA.out _ HB0.out).mono ?_
  rintro e w1 ⟨rfl, hb1⟩
  rw [szAlloc'] at hb1
  have HB1 := Lib.hid (HB0.out.trans (hb1.mono (by omega)))
  have B1 := Lib.hid hb1
  have s1z := hb1.size
  rw [szAlloc'] at s1z
  clear hb1
  go_wp2_with fail
  refine (awake_any6 _).mono ?_
  rintro e w2 ⟨rfl, hb2⟩
  have HB2 := Lib.hid (HB1.out.trans (hb2.mono HB1.out.size))
  have B2 := Lib.hid (B1.out.trans (hb2.mono s1z))
  have s2z := hb2.size
  clear hb2
  by_cases hA : x = 0 ∧ S.size ≤ 65536
  · obtain ⟨hx, hS⟩ := hA
    have t1 : decide ((S.size : Int) ≤ 65536) = true := decide_eq_true (by omega)
    have t1b : decide (S.size ≤ 65536) = true := decide_eq_true hS
    have hv := VA.out w2 hx hS
    subst hx
    have HV := Lib.hid hv; clear hv hS
    go_wp2_with fail
    refine HV.out.mono ?_
    rintro e w3 ⟨B, d, B2', d2, rfl, hrd, hb3⟩
    have HB3 := Lib.hid (HB2.out.trans (hb3.mono HB2.out.size))
    have B3 := Lib.hid (B2.out.trans (hb3.mono (by omega)))
    have s3z := hb3.size
    clear hb3
    obtain ⟨W3, hW3⟩ : ∃ z, z = w3.alloc (.cells #[.int .i64 k1, .int .i64 n1, .string s1, .slice B l1 d, .slice B2' m1 d2] 25) := ⟨_, rfl⟩
    have b3 : Below w3.heap.size w3 W3 := by rw [hW3]; exact (Below.refl _ _).alloc (Nat.le_refl _) _
    have z3 : W3.heap.size = w3.heap.size + 1 := by rw [hW3, szAlloc']
    have fe : ∀ (j : Nat) u, ([.int .i64 k1, .int .i64 n1, .string s1, .slice B l1 d, .slice B2' m1 d2] : List Value)[j]? = some u → W3.cell? ⟨w3.heap.size, j, none⟩ = some u := fun j u hu => by
      rw [hW3, cell_of_row _ _ j _ _ _ (heap_alloc_new w3 _)]
      simpa using hu
    have fa : ∀ (j : Nat) u, ([.int .i64 k1, .int .i64 n1, .string s1, .slice A l1 c, .slice A2 m1 c2] : List Value)[j]? = some u → W3.cell? ⟨w.heap.size, j, none⟩ = some u := fun j u hu => ((B3.out.trans (b3.mono (by omega))).cell (p := ⟨w.heap.size, j, none⟩) (by show w.heap.size < _; omega)).trans (by
      rw [cell_of_row _ _ j _ _ _ (heap_alloc_new w _)]; simpa using hu)
    have g0 := fe 0 _ rfl
    have g1 := fe 1 _ rfl
    have g2 := fe 2 _ rfl
    have g3 := fe 3 _ rfl
    have g4 := fe 4 _ rfl
    have f0 := fa 0 _ rfl
    have f1 := fa 1 _ rfl
    have f2 := fa 2 _ rfl
    have f3 := fa 3 _ rfl
    have f4 := fa 4 _ rfl
    have HBW := Lib.hid (HB3.out.trans (b3.mono HB3.out.size))
    have hsm := SA.out W3 [.int .i64 k1, .int .i64 n1, .string s1, .slice B l1 d, .slice B2' m1 d2] HBW.out (hrd.below b3 (Nat.le_refl _) b3.size)
    have HSM := Lib.hid hsm
    rw [hW3] at g0 g1 g2 g3 g4 f0 f1 f2 f3 f4
    have HW3 := Lib.hid hW3
    clear hsm fe fa hrd b3 hW3
    go_wp2_with fail
    rw [← HW3.out]
    refine HSM.out.mono ?_
    rintro e w4 ⟨⟨q, rfl, hq⟩, hb4⟩
    obtain rfl : q = true := hq.2 (by trivial)
    have HB4 := Lib.hid (HBW.out.trans (hb4.mono HBW.out.size))
    clear hq hb4 g0 g1 g2 g3 g4 f0 f1 f2 f3 f4
    go_wp2_with fail
    refine (VS.out w4).mono ?_
    rintro e w5 ⟨D, d3, D2, d4, rfl, hrd5, hb5⟩
    have HB5 := Lib.hid (HB4.out.trans (hb5.mono HB4.out.size)); clear hb5
    obtain ⟨W5, hW5⟩ : ∃ z, z = w5.alloc (.cells #[.int .i64 k2, .int .i64 n2, .string s2, .slice D l2 d3, .slice D2 m2 d4] 25) := ⟨_, rfl⟩
    have b5 : Below w5.heap.size w5 W5 := by rw [hW5]; exact (Below.refl _ _).alloc (Nat.le_refl _) _
    have z5 : W5.heap.size = w5.heap.size + 1 := by rw [hW5, szAlloc']
    have fx : ∀ (j : Nat) u, ([.int .i64 k2, .int .i64 n2, .string s2, .slice D l2 d3, .slice D2 m2 d4] : List Value)[j]? = some u → W5.cell? ⟨w5.heap.size, j, none⟩ = some u := fun j u hu => by
      rw [hW5, cell_of_row _ _ j _ _ _ (heap_alloc_new w5 _)]
      simpa using hu
    have HBW5 := Lib.hid (HB5.out.trans (b5.mono HB5.out.size))
    have HX5 := Lib.hid (hrd5.below b5 (Nat.le_refl _) b5.size)
    have HFX := Lib.hid fx
    have HW5 := Lib.hid hW5
    clear fx hrd5 b5 hW5
    by_cases hy : yb = 0
    · have hxb := HCB.out hy
      have HT5 := Lib.hid (TB.out hy W5 [.int .i64 k2, .int .i64 n2, .string s2, .slice D l2 d3, .slice D2 m2 d4] HX5.out)
      have HVB := Lib.hid (fun w1 => VB.out w1 hy)
      have HSB := Lib.hid (SB.out hy)
      rw [HW5.out] at HT5
      subst hy hxb
      go_wp2_with fail
      refine HT5.out.mono ?_
      rw [← HW5.out]
      rintro e w6 ⟨rfl, hb6⟩
      have HB6 := Lib.hid (HBW5.out.trans (hb6.mono HBW5.out.size))
      have B6 := Lib.hid hb6
      have s6z := hb6.size
      clear hb6
      by_cases hl : T.size ≤ 65536
      · have t3 : decide ((65536 : Int) < (T.size : Int)) = false := decide_eq_false (by omega)
        have t3b : decide (65536 < T.size) = false := decide_eq_false (by omega)
        have HV6 := Lib.hid (HVB.out w6 hl); clear hl
        go_wp2_with fail
        refine HV6.out.mono ?_
        rintro e w7 ⟨E, d5, E2, d6, rfl, hrd7, hb7⟩
        have HB7 := Lib.hid (HB6.out.trans (hb7.mono HB6.out.size))
        have B7 := Lib.hid (B6.out.trans (hb7.mono s6z))
        have s7z := hb7.size
        clear hb7
        obtain ⟨W7, hW7⟩ : ∃ z, z = w7.alloc (.cells #[.int .i64 k2, .int .i64 n2, .string s2, .slice E l2 d5, .slice E2 m2 d6] 25) := ⟨_, rfl⟩
        have b7 : Below w7.heap.size w7 W7 := by rw [hW7]; exact (Below.refl _ _).alloc (Nat.le_refl _) _
        have z7 : W7.heap.size = w7.heap.size + 1 := by rw [hW7, szAlloc']
        have fy : ∀ (j : Nat) u, ([.int .i64 k2, .int .i64 n2, .string s2, .slice E l2 d5, .slice E2 m2 d6] : List Value)[j]? = some u → W7.cell? ⟨w7.heap.size, j, none⟩ = some u := fun j u hu => by
          rw [hW7, cell_of_row _ _ j _ _ _ (heap_alloc_new w7 _)]
          simpa using hu
        have HBW7 := Lib.hid (HB7.out.trans (b7.mono HB7.out.size))
        have BW7 := Lib.hid (B7.out.trans (b7.mono (by omega)))
        have HX7 := Lib.hid (hrd7.below b7 (Nat.le_refl _) b7.size)
        have HT7 := Lib.hid (TB.out (by trivial) W7 [.int .i64 k2, .int .i64 n2, .string s2, .slice E l2 d5, .slice E2 m2 d6] HX7.out)
        have HFY := Lib.hid fy
        have HW7 := Lib.hid hW7
        rw [HW7.out] at HT7
        clear fy hrd7 b7 hW7
        go_wp2_with fail
        refine HT7.out.mono ?_
        rw [← HW7.out]
        rintro e w8 ⟨rfl, hb8⟩
        have HB8 := Lib.hid (HBW7.out.trans (hb8.mono HBW7.out.size))
        have hxx : ∀ (j : Nat) u, ([.int .i64 k2, .int .i64 n2, .string s2, .slice D l2 d3, .slice D2 m2 d4] : List Value)[j]? = some u → w8.cell? ⟨w5.heap.size, j, none⟩ = some u := fun j u hu => ((BW7.out.trans (hb8.mono (by omega))).cell (p := ⟨w5.heap.size, j, none⟩) (by show w5.heap.size < _; omega)).trans (HFX.out j u hu)
        have hyy : ∀ (j : Nat) u, ([.int .i64 k2, .int .i64 n2, .string s2, .slice E l2 d5, .slice E2 m2 d6] : List Value)[j]? = some u → w8.cell? ⟨w7.heap.size, j, none⟩ = some u := fun j u hu => (hb8.cell (p := ⟨w7.heap.size, j, none⟩) (by show w7.heap.size < _; omega)).trans (HFY.out j u hu)
        have HS8 := Lib.hid (HSB.out w8 [.int .i64 k2, .int .i64 n2, .string s2, .slice D l2 d3, .slice D2 m2 d4] [.int .i64 k2, .int .i64 n2, .string s2, .slice E l2 d5, .slice E2 m2 d6] (HX5.out.below (BW7.out.trans (hb8.mono (by omega))) (Nat.le_refl _) (by have := hb8.size; omega)) (HX7.out.below hb8 (Nat.le_refl _) hb8.size))
        have g0 := hxx 0 _ rfl
        have g1 := hxx 1 _ rfl
        have g2 := hxx 2 _ rfl
        have g3 := hxx 3 _ rfl
        have g4 := hxx 4 _ rfl
        have f0 := hyy 0 _ rfl
        have f1 := hyy 1 _ rfl
        have f2 := hyy 2 _ rfl
        have f3 := hyy 3 _ rfl
        have f4 := hyy 4 _ rfl
        clear hxx hyy hb8
        go_wp2_with fail
        refine HS8.out.mono ?_
        rintro e w9 ⟨⟨q, rfl, hq⟩, hb9⟩
        obtain rfl : q = true := hq.2 (by trivial)
        have HB9 := Lib.hid (HB8.out.trans (hb9.mono HB8.out.size))
        clear hq hb9
        go_wp2_with fail
        go_ret
        exact ⟨rfl, HB9.out⟩
      · have t3 : decide ((65536 : Int) < (T.size : Int)) = true := decide_eq_true (by omega)
        have t3b : decide (65536 < T.size) = true := decide_eq_true (by omega)
        go_wp2_with fail
        go_ret
        exact ⟨rfl, HB6.out⟩
    · have t3 : (yb != 0) = true := by rw [bne_iff_ne]; exact hy
      clear hy
      go_wp2_with fail
      go_ret
      rw [← HW5.out]
      exact ⟨rfl, HBW5.out⟩
  · have hA' : (x == 0) = false ∨ ((x == 0) = true ∧ decide ((S.size : Int) ≤ 65536) = false) := by
      by_cases hx : x = 0
      · exact .inr ⟨by rw [beq_iff_eq]; exact hx, decide_eq_false (by have := fun h => hA ⟨hx, h⟩; omega)⟩
      · exact .inl (by rw [beq_eq_false_iff_ne]; exact hx)
    clear hA
    rcases hA' with t1 | ⟨t1, t2⟩
    · go_wp2_with fail
      refine (VS.out w2).mono ?_
      rintro e w5 ⟨D, d3, D2, d4, rfl, hrd5, hb5⟩
      have HB5 := Lib.hid (HB2.out.trans (hb5.mono HB2.out.size)); clear hb5
      obtain ⟨W5, hW5⟩ : ∃ z, z = w5.alloc (.cells #[.int .i64 k2, .int .i64 n2, .string s2, .slice D l2 d3, .slice D2 m2 d4] 25) := ⟨_, rfl⟩
      have b5 : Below w5.heap.size w5 W5 := by rw [hW5]; exact (Below.refl _ _).alloc (Nat.le_refl _) _
      have z5 : W5.heap.size = w5.heap.size + 1 := by rw [hW5, szAlloc']
      have fx : ∀ (j : Nat) u, ([.int .i64 k2, .int .i64 n2, .string s2, .slice D l2 d3, .slice D2 m2 d4] : List Value)[j]? = some u → W5.cell? ⟨w5.heap.size, j, none⟩ = some u := fun j u hu => by
        rw [hW5, cell_of_row _ _ j _ _ _ (heap_alloc_new w5 _)]
        simpa using hu
      have HBW5 := Lib.hid (HB5.out.trans (b5.mono HB5.out.size))
      have HX5 := Lib.hid (hrd5.below b5 (Nat.le_refl _) b5.size)
      have HFX := Lib.hid fx
      have HW5 := Lib.hid hW5
      clear fx hrd5 b5 hW5
      by_cases hy : yb = 0
      · have hxb := HCB.out hy
        have HT5 := Lib.hid (TB.out hy W5 [.int .i64 k2, .int .i64 n2, .string s2, .slice D l2 d3, .slice D2 m2 d4] HX5.out)
        have HVB := Lib.hid (fun w1 => VB.out w1 hy)
        have HSB := Lib.hid (SB.out hy)
        rw [HW5.out] at HT5
        subst hy hxb
        go_wp2_with fail
        refine HT5.out.mono ?_
        rw [← HW5.out]
        rintro e w6 ⟨rfl, hb6⟩
        have HB6 := Lib.hid (HBW5.out.trans (hb6.mono HBW5.out.size))
        have B6 := Lib.hid hb6
        have s6z := hb6.size
        clear hb6
        by_cases hl : T.size ≤ 65536
        · have t3 : decide ((65536 : Int) < (T.size : Int)) = false := decide_eq_false (by omega)
          have t3b : decide (65536 < T.size) = false := decide_eq_false (by omega)
          have HV6 := Lib.hid (HVB.out w6 hl); clear hl
          go_wp2_with fail
          refine HV6.out.mono ?_
          rintro e w7 ⟨E, d5, E2, d6, rfl, hrd7, hb7⟩
          have HB7 := Lib.hid (HB6.out.trans (hb7.mono HB6.out.size))
          have B7 := Lib.hid (B6.out.trans (hb7.mono s6z))
          have s7z := hb7.size
          clear hb7
          obtain ⟨W7, hW7⟩ : ∃ z, z = w7.alloc (.cells #[.int .i64 k2, .int .i64 n2, .string s2, .slice E l2 d5, .slice E2 m2 d6] 25) := ⟨_, rfl⟩
          have b7 : Below w7.heap.size w7 W7 := by rw [hW7]; exact (Below.refl _ _).alloc (Nat.le_refl _) _
          have z7 : W7.heap.size = w7.heap.size + 1 := by rw [hW7, szAlloc']
          have fy : ∀ (j : Nat) u, ([.int .i64 k2, .int .i64 n2, .string s2, .slice E l2 d5, .slice E2 m2 d6] : List Value)[j]? = some u → W7.cell? ⟨w7.heap.size, j, none⟩ = some u := fun j u hu => by
            rw [hW7, cell_of_row _ _ j _ _ _ (heap_alloc_new w7 _)]
            simpa using hu
          have HBW7 := Lib.hid (HB7.out.trans (b7.mono HB7.out.size))
          have BW7 := Lib.hid (B7.out.trans (b7.mono (by omega)))
          have HX7 := Lib.hid (hrd7.below b7 (Nat.le_refl _) b7.size)
          have HT7 := Lib.hid (TB.out (by trivial) W7 [.int .i64 k2, .int .i64 n2, .string s2, .slice E l2 d5, .slice E2 m2 d6] HX7.out)
          have HFY := Lib.hid fy
          have HW7 := Lib.hid hW7
          rw [HW7.out] at HT7
          clear fy hrd7 b7 hW7
          go_wp2_with fail
          refine HT7.out.mono ?_
          rw [← HW7.out]
          rintro e w8 ⟨rfl, hb8⟩
          have HB8 := Lib.hid (HBW7.out.trans (hb8.mono HBW7.out.size))
          have hxx : ∀ (j : Nat) u, ([.int .i64 k2, .int .i64 n2, .string s2, .slice D l2 d3, .slice D2 m2 d4] : List Value)[j]? = some u → w8.cell? ⟨w5.heap.size, j, none⟩ = some u := fun j u hu => ((BW7.out.trans (hb8.mono (by omega))).cell (p := ⟨w5.heap.size, j, none⟩) (by show w5.heap.size < _; omega)).trans (HFX.out j u hu)
          have hyy : ∀ (j : Nat) u, ([.int .i64 k2, .int .i64 n2, .string s2, .slice E l2 d5, .slice E2 m2 d6] : List Value)[j]? = some u → w8.cell? ⟨w7.heap.size, j, none⟩ = some u := fun j u hu => (hb8.cell (p := ⟨w7.heap.size, j, none⟩) (by show w7.heap.size < _; omega)).trans (HFY.out j u hu)
          have HS8 := Lib.hid (HSB.out w8 [.int .i64 k2, .int .i64 n2, .string s2, .slice D l2 d3, .slice D2 m2 d4] [.int .i64 k2, .int .i64 n2, .string s2, .slice E l2 d5, .slice E2 m2 d6] (HX5.out.below (BW7.out.trans (hb8.mono (by omega))) (Nat.le_refl _) (by have := hb8.size; omega)) (HX7.out.below hb8 (Nat.le_refl _) hb8.size))
          have g0 := hxx 0 _ rfl
          have g1 := hxx 1 _ rfl
          have g2 := hxx 2 _ rfl
          have g3 := hxx 3 _ rfl
          have g4 := hxx 4 _ rfl
          have f0 := hyy 0 _ rfl
          have f1 := hyy 1 _ rfl
          have f2 := hyy 2 _ rfl
          have f3 := hyy 3 _ rfl
          have f4 := hyy 4 _ rfl
          clear hxx hyy hb8
          go_wp2_with fail
          refine HS8.out.mono ?_
          rintro e w9 ⟨⟨q, rfl, hq⟩, hb9⟩
          obtain rfl : q = true := hq.2 (by trivial)
          have HB9 := Lib.hid (HB8.out.trans (hb9.mono HB8.out.size))
          clear hq hb9
          go_wp2_with fail
          go_ret
          exact ⟨rfl, HB9.out⟩
        · have t3 : decide ((65536 : Int) < (T.size : Int)) = true := decide_eq_true (by omega)
          have t3b : decide (65536 < T.size) = true := decide_eq_true (by omega)
          go_wp2_with fail
          go_ret
          exact ⟨rfl, HB6.out⟩
      · have t3 : (yb != 0) = true := by rw [bne_iff_ne]; exact hy
        clear hy
        go_wp2_with fail
        go_ret
        rw [← HW5.out]
        exact ⟨rfl, HBW5.out⟩
    · have t2b : decide (S.size ≤ 65536) = false := decide_eq_false (by have := of_decide_eq_false t2; omega)
      go_wp2_with fail
      refine (VS.out w2).mono ?_
      rintro e w5 ⟨D, d3, D2, d4, rfl, hrd5, hb5⟩
      have HB5 := Lib.hid (HB2.out.trans (hb5.mono HB2.out.size)); clear hb5
      obtain ⟨W5, hW5⟩ : ∃ z, z = w5.alloc (.cells #[.int .i64 k2, .int .i64 n2, .string s2, .slice D l2 d3, .slice D2 m2 d4] 25) := ⟨_, rfl⟩
      have b5 : Below w5.heap.size w5 W5 := by rw [hW5]; exact (Below.refl _ _).alloc (Nat.le_refl _) _
      have z5 : W5.heap.size = w5.heap.size + 1 := by rw [hW5, szAlloc']
      have fx : ∀ (j : Nat) u, ([.int .i64 k2, .int .i64 n2, .string s2, .slice D l2 d3, .slice D2 m2 d4] : List Value)[j]? = some u → W5.cell? ⟨w5.heap.size, j, none⟩ = some u := fun j u hu => by
        rw [hW5, cell_of_row _ _ j _ _ _ (heap_alloc_new w5 _)]
        simpa using hu
      have HBW5 := Lib.hid (HB5.out.trans (b5.mono HB5.out.size))
      have HX5 := Lib.hid (hrd5.below b5 (Nat.le_refl _) b5.size)
      have HFX := Lib.hid fx
      have HW5 := Lib.hid hW5
      clear fx hrd5 b5 hW5
      by_cases hy : yb = 0
      · have hxb := HCB.out hy
        have HT5 := Lib.hid (TB.out hy W5 [.int .i64 k2, .int .i64 n2, .string s2, .slice D l2 d3, .slice D2 m2 d4] HX5.out)
        have HVB := Lib.hid (fun w1 => VB.out w1 hy)
        have HSB := Lib.hid (SB.out hy)
        rw [HW5.out] at HT5
        subst hy hxb
        go_wp2_with fail
        refine HT5.out.mono ?_
        rw [← HW5.out]
        rintro e w6 ⟨rfl, hb6⟩
        have HB6 := Lib.hid (HBW5.out.trans (hb6.mono HBW5.out.size))
        have B6 := Lib.hid hb6
        have s6z := hb6.size
        clear hb6
        by_cases hl : T.size ≤ 65536
        · have t3 : decide ((65536 : Int) < (T.size : Int)) = false := decide_eq_false (by omega)
          have t3b : decide (65536 < T.size) = false := decide_eq_false (by omega)
          have HV6 := Lib.hid (HVB.out w6 hl); clear hl
          go_wp2_with fail
          refine HV6.out.mono ?_
          rintro e w7 ⟨E, d5, E2, d6, rfl, hrd7, hb7⟩
          have HB7 := Lib.hid (HB6.out.trans (hb7.mono HB6.out.size))
          have B7 := Lib.hid (B6.out.trans (hb7.mono s6z))
          have s7z := hb7.size
          clear hb7
          obtain ⟨W7, hW7⟩ : ∃ z, z = w7.alloc (.cells #[.int .i64 k2, .int .i64 n2, .string s2, .slice E l2 d5, .slice E2 m2 d6] 25) := ⟨_, rfl⟩
          have b7 : Below w7.heap.size w7 W7 := by rw [hW7]; exact (Below.refl _ _).alloc (Nat.le_refl _) _
          have z7 : W7.heap.size = w7.heap.size + 1 := by rw [hW7, szAlloc']
          have fy : ∀ (j : Nat) u, ([.int .i64 k2, .int .i64 n2, .string s2, .slice E l2 d5, .slice E2 m2 d6] : List Value)[j]? = some u → W7.cell? ⟨w7.heap.size, j, none⟩ = some u := fun j u hu => by
            rw [hW7, cell_of_row _ _ j _ _ _ (heap_alloc_new w7 _)]
            simpa using hu
          have HBW7 := Lib.hid (HB7.out.trans (b7.mono HB7.out.size))
          have BW7 := Lib.hid (B7.out.trans (b7.mono (by omega)))
          have HX7 := Lib.hid (hrd7.below b7 (Nat.le_refl _) b7.size)
          have HT7 := Lib.hid (TB.out (by trivial) W7 [.int .i64 k2, .int .i64 n2, .string s2, .slice E l2 d5, .slice E2 m2 d6] HX7.out)
          have HFY := Lib.hid fy
          have HW7 := Lib.hid hW7
          rw [HW7.out] at HT7
          clear fy hrd7 b7 hW7
          go_wp2_with fail
          refine HT7.out.mono ?_
          rw [← HW7.out]
          rintro e w8 ⟨rfl, hb8⟩
          have HB8 := Lib.hid (HBW7.out.trans (hb8.mono HBW7.out.size))
          have hxx : ∀ (j : Nat) u, ([.int .i64 k2, .int .i64 n2, .string s2, .slice D l2 d3, .slice D2 m2 d4] : List Value)[j]? = some u → w8.cell? ⟨w5.heap.size, j, none⟩ = some u := fun j u hu => ((BW7.out.trans (hb8.mono (by omega))).cell (p := ⟨w5.heap.size, j, none⟩) (by show w5.heap.size < _; omega)).trans (HFX.out j u hu)
          have hyy : ∀ (j : Nat) u, ([.int .i64 k2, .int .i64 n2, .string s2, .slice E l2 d5, .slice E2 m2 d6] : List Value)[j]? = some u → w8.cell? ⟨w7.heap.size, j, none⟩ = some u := fun j u hu => (hb8.cell (p := ⟨w7.heap.size, j, none⟩) (by show w7.heap.size < _; omega)).trans (HFY.out j u hu)
          have HS8 := Lib.hid (HSB.out w8 [.int .i64 k2, .int .i64 n2, .string s2, .slice D l2 d3, .slice D2 m2 d4] [.int .i64 k2, .int .i64 n2, .string s2, .slice E l2 d5, .slice E2 m2 d6] (HX5.out.below (BW7.out.trans (hb8.mono (by omega))) (Nat.le_refl _) (by have := hb8.size; omega)) (HX7.out.below hb8 (Nat.le_refl _) hb8.size))
          have g0 := hxx 0 _ rfl
          have g1 := hxx 1 _ rfl
          have g2 := hxx 2 _ rfl
          have g3 := hxx 3 _ rfl
          have g4 := hxx 4 _ rfl
          have f0 := hyy 0 _ rfl
          have f1 := hyy 1 _ rfl
          have f2 := hyy 2 _ rfl
          have f3 := hyy 3 _ rfl
          have f4 := hyy 4 _ rfl
          clear hxx hyy hb8
          go_wp2_with fail
          refine HS8.out.mono ?_
          rintro e w9 ⟨⟨q, rfl, hq⟩, hb9⟩
          obtain rfl : q = true := hq.2 (by trivial)
          have HB9 := Lib.hid (HB8.out.trans (hb9.mono HB8.out.size))
          clear hq hb9
          go_wp2_with fail
          go_ret
          exact ⟨rfl, HB9.out⟩
        · have t3 : decide ((65536 : Int) < (T.size : Int)) = true := decide_eq_true (by omega)
          have t3b : decide (65536 < T.size) = true := decide_eq_true (by omega)
          go_wp2_with fail
          go_ret
          exact ⟨rfl, HB6.out⟩
      · have t3 : (yb != 0) = true := by rw [bne_iff_ne]; exact hy
        clear hy
        go_wp2_with fail
        go_ret
        rw [← HW5.out]
        exact ⟨rfl, HBW5.out⟩
end Go.Proofs.Ytcbiaflbncfliaa.Em
