import Derived.Test.YtcbiaflbncfliaaEmG
import Derived.Test.YtcbiaflbncfliaaEmPl3
import Derived.Test.YtcbiaflbncfliaaRaA
/- The walk of EmitUnlike. -/
namespace Go.Proofs.Ytcbiaflbncfliaa.Em
open Go.RowKit
open Go.Proofs.Ytcbiaflbncfliaa.Utf
open Go.Proofs.Ytcbiaflbncfliaa.Sc
open Go.Proofs.Ytcbiaflbncfliaa.Re

theorem szA_arg {v : V} (h : wfV v) (hz : szU v ≤ 1048576) : szA 4611686018427387904 v := szA_of _ v h (by omega)

set_option maxRecDepth 100000 in
set_option maxHeartbeats 8000000 in
theorem unlike_walk (a : V) (ca : List Value) (b : V) (cb : List Value) (w : World) (ha : RdA w 0 w.heap.size a ca) (za : szU a ≤ 1048576) (wa : wfV a) (hb : RdA w 0 w.heap.size b cb) (zb : szU b ≤ 1048576) (wb : wfV b) :
    Calls Try.prog 6 #[.agg ca.toArray, .agg cb.toArray] w fun e w' => e = .returned (.bool true) ∧ Below w.heap.size w w' := by
  have la := len_of_RdA a ca ha
  have lb := len_of_RdA b cb hb
  have ta := fun w1 (h : Below w.heap.size w w1) => Text_any a ca 0 w1 la (by omega) (szA_arg wa za) (ha.below h (Nat.le_refl _) h.size)
  have tb := fun w1 (h : Below w.heap.size w w1) => Text_any b cb 0 w1 lb (by omega) (szA_arg wb zb) (hb.below h (Nat.le_refl _) h.size)
  have hs := fun w1 (h : Below w.heap.size w w1) => SameA_any (ht a) a b ca cb w1 (Nat.le_refl _) (szA_arg wa za) (ha.below h (Nat.le_refl _) h.size) (hb.below h (Nat.le_refl _) h.size)
  have hinj := fun h1 h2 (h : (strOf (txtR a)).toList = (strOf (txtR b)).toList) => em_inj (v := a) (u := b) h1 la h2 lb (by
    rw [strOf_list, strOf_list] at h
    unfold txtR at h
    rw [if_pos h1, if_pos h2] at h
    exact h)
  have hsame : a = b → (strOf (txtR a)).toList = (strOf (txtR b)).toList := fun h => by rw [h]
  obtain ⟨A, c, A2, c2, ea, _⟩ := ha.cells
  obtain ⟨B, d, B2, d2, eb, _⟩ := hb.cells
  rw [ea] at ta hs ⊢
  rw [eb] at tb hs ⊢
  unfold GivesT at ta tb
  clear ha hb la lb ea eb
  generalize strOf (txtR a) = S at *
  generalize strOf (txtR b) = T at *
  generalize (a = b) = Q at *
  generalize chk a = x at *
  generalize chk b = y at *
  generalize a.k = k1 at *
  generalize a.n = n1 at *
  generalize strOf a.s = s1 at *
  generalize a.l.length = l1 at *
  generalize a.ms.length = m1 at *
  generalize b.k = k2 at *
  generalize b.n = n2 at *
  generalize strOf b.s = s2 at *
  generalize b.l.length = l2 at *
  generalize b.ms.length = m2 at *
  have TA := Lib.hid ta; clear ta
  have TB := Lib.hid tb; clear tb
  have HS := Lib.hid hs; clear hs
  have HI := Lib.hid hinj; clear hinj
  have HQ := Lib.hid hsame; clear hsame
  obtain ⟨w0, hw0⟩ : ∃ w0, w0 = (w.alloc (.cells #[.int .i64 k1, .int .i64 n1, .string s1, .slice A l1 c, .slice A2 m1 c2] 25)).alloc (.cells #[.int .i64 k2, .int .i64 n2, .string s2, .slice B l2 d, .slice B2 m2 d2] 25) := ⟨_, rfl⟩
  have FA : ∀ (j : Nat) u, ([.int .i64 k1, .int .i64 n1, .string s1, .slice A l1 c, .slice A2 m1 c2] : List Value)[j]? = some u → w0.cell? ⟨w.heap.size, j, none⟩ = some u := fun j u hu => by
    have h1 := (heap_alloc_old (w.alloc (.cells #[.int .i64 k1, .int .i64 n1, .string s1, .slice A l1 c, .slice A2 m1 c2] 25)) (.cells #[.int .i64 k2, .int .i64 n2, .string s2, .slice B l2 d, .slice B2 m2 d2] 25) (by simp)).trans (heap_alloc_new w _)
    rw [hw0, cell_of_row _ _ j _ _ _ h1]
    simpa using hu
  have FB : ∀ (j : Nat) u, ([.int .i64 k2, .int .i64 n2, .string s2, .slice B l2 d, .slice B2 m2 d2] : List Value)[j]? = some u → w0.cell? ⟨w.heap.size + 1, j, none⟩ = some u := fun j u hu => by
    have h1 := heap_alloc_new (w.alloc (.cells #[.int .i64 k1, .int .i64 n1, .string s1, .slice A l1 c, .slice A2 m1 c2] 25)) (.cells #[.int .i64 k2, .int .i64 n2, .string s2, .slice B l2 d, .slice B2 m2 d2] 25)
    rw [szAlloc'] at h1
    rw [hw0, cell_of_row _ _ j _ _ _ h1]
    simpa using hu
  have hsz : w0.heap.size = w.heap.size + 2 := by rw [hw0, szAlloc', szAlloc']
  have hb0 : Below w.heap.size w w0 := by rw [hw0]; exact ((Below.refl _ _).alloc (Nat.le_refl _) _).alloc (by rw [szAlloc']; omega) _
  have HW0 := Lib.hid hw0
  have HFA := Lib.hid FA; clear FA
  have HFB := Lib.hid FB; clear FB
  have HB0 := Lib.hid hb0; clear hb0
  clear hw0
  go_enter Try.func6, Try.ntmps6
  go_wp2_with fail
  rw [← HW0.out]
  refine (TA.out w0 HB0.out).mono ?_
  rintro e w1 ⟨rfl, hb1⟩
  have HB1 := Lib.hid (HB0.out.trans (hb1.mono HB0.out.size))
  rw [hsz] at hb1
  have B1 := Lib.hid hb1; clear hb1
  have hcB : ∀ (j : Nat) u, ([.int .i64 k2, .int .i64 n2, .string s2, .slice B l2 d, .slice B2 m2 d2] : List Value)[j]? = some u → w1.cell? ⟨w.heap.size + 1, j, none⟩ = some u := fun j u hu => (B1.out.cell (p := ⟨w.heap.size + 1, j, none⟩) (by show w.heap.size + 1 < _; omega)).trans (HFB.out j u hu)
  have b0 := hcB 0 _ rfl
  have b1 := hcB 1 _ rfl
  have b2 := hcB 2 _ rfl
  have b3 := hcB 3 _ rfl
  have b4 := hcB 4 _ rfl
  clear hcB
  go_wp2_with fail
  refine (TB.out w1 HB1.out).mono ?_
  rintro e w2 ⟨rfl, hb2⟩
  have hz2 := HB1.out.size
  have B2x := Lib.hid (B1.out.trans (hb2.mono (by have := B1.out.size; omega)))
  have HB2 := Lib.hid (HB1.out.trans (hb2.mono HB1.out.size)); clear hb2
  clear b0 b1 b2 b3 b4
  go_wp2_with fail
  refine (awake_any6 _).mono ?_
  rintro e w3 ⟨rfl, hb3⟩
  have B3x := Lib.hid (B2x.out.trans (hb3.mono (by have := B2x.out.size; omega)))
  have HB3 := Lib.hid (HB2.out.trans (hb3.mono HB2.out.size)); clear hb3
  by_cases hx : x = 0
  · by_cases hy : y = 0
    · subst hx hy
      have hcA : ∀ (j : Nat) u, ([.int .i64 k1, .int .i64 n1, .string s1, .slice A l1 c, .slice A2 m1 c2] : List Value)[j]? = some u → w3.cell? ⟨w.heap.size, j, none⟩ = some u := fun j u hu => (B3x.out.cell (p := ⟨w.heap.size, j, none⟩) (by show w.heap.size < _; omega)).trans (HFA.out j u hu)
      have hcB : ∀ (j : Nat) u, ([.int .i64 k2, .int .i64 n2, .string s2, .slice B l2 d, .slice B2 m2 d2] : List Value)[j]? = some u → w3.cell? ⟨w.heap.size + 1, j, none⟩ = some u := fun j u hu => (B3x.out.cell (p := ⟨w.heap.size + 1, j, none⟩) (by show w.heap.size + 1 < _; omega)).trans (HFB.out j u hu)
      have a0 := hcA 0 _ rfl
      have a1 := hcA 1 _ rfl
      have a2 := hcA 2 _ rfl
      have a3 := hcA 3 _ rfl
      have a4 := hcA 4 _ rfl
      have b0 := hcB 0 _ rfl
      have b1 := hcB 1 _ rfl
      have b2 := hcB 2 _ rfl
      have b3 := hcB 3 _ rfl
      have b4 := hcB 4 _ rfl
      clear hcA hcB
      have hst : (S.toList = T.toList) ↔ Q := ⟨HI.out rfl rfl, HQ.out⟩
      have HST := Lib.hid hst; clear hst
      by_cases hq : S.toList = T.toList
      · have t1 : (S.toList == T.toList) = true := by rw [beq_iff_eq]; exact hq
        have HQ2 := Lib.hid (HST.out.1 hq); clear hq
        go_wp2_with fail
        refine (HS.out w3 HB3.out).mono ?_
        rintro e w4 ⟨⟨x, rfl, hx⟩, hb4⟩
        have hxt : x = true := hx.2 HQ2.out
        subst hxt
        clear hx
        have HB4 := Lib.hid (HB3.out.trans (hb4.mono HB3.out.size)); clear hb4
        go_wp2_with fail
        go_ret
        exact ⟨rfl, HB4.out⟩
      · have t1 : (S.toList == T.toList) = false := by rw [beq_eq_false_iff_ne]; exact hq
        have HQ2 := Lib.hid (fun h => hq (HST.out.2 h)); clear hq
        go_wp2_with fail
        refine (HS.out w3 HB3.out).mono ?_
        rintro e w4 ⟨⟨x, rfl, hx⟩, hb4⟩
        have hxt : x = false := by
          rcases x with _ | _
          · rfl
          · exact absurd (hx.1 rfl) HQ2.out
        subst hxt
        clear hx
        have HB4 := Lib.hid (HB3.out.trans (hb4.mono HB3.out.size)); clear hb4
        go_wp2_with fail
        go_ret
        exact ⟨rfl, HB4.out⟩
    · have t1 : (y != 0) = true := by rw [bne_iff_ne]; exact hy
      subst hx
      clear hy
      go_wp2_with fail
      refine (awake_any6 _).mono ?_
      rintro e w4 ⟨rfl, hb4⟩
      have HB4 := Lib.hid (HB3.out.trans (hb4.mono HB3.out.size)); clear hb4
      go_wp2_with fail
      go_ret
      exact ⟨rfl, HB4.out⟩
  · have t1 : (x != 0) = true := by rw [bne_iff_ne]; exact hx
    clear hx
    go_wp2_with fail
    refine (awake_any6 _).mono ?_
    rintro e w4 ⟨rfl, hb4⟩
    have HB4 := Lib.hid (HB3.out.trans (hb4.mono HB3.out.size)); clear hb4
    go_wp2_with fail
    go_ret
    exact ⟨rfl, HB4.out⟩
end Go.Proofs.Ytcbiaflbncfliaa.Em
