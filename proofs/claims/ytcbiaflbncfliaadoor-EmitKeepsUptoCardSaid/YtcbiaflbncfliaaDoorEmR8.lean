import Derived.Test.YtcbiaflbncfliaaDoorEmR7
import Derived.Test.YtcbiaflbncfliaaDoorEmG
import Derived.Test.YtcbiaflbncfliaaDoorChTab
/- The walk of EmitKeeps. -/
namespace Go.Proofs.YtcbiaflbncfliaaDoor.Em
open Go.RowKit
open Go.Proofs.YtcbiaflbncfliaaDoor.Utf
open Go.Proofs.YtcbiaflbncfliaaDoor.Sc
open Go.Proofs.YtcbiaflbncfliaaDoor.Re
open Go.Proofs.YtcbiaflbncfliaaDoor.Ch (Tab)

theorem Tab.pos {w : World} (h : Tab w) : 0 < w.heap.size := Nat.lt_of_le_of_lt (Nat.zero_le _) h.1

set_option maxRecDepth 100000 in
set_option maxHeartbeats 8000000 in
theorem keeps_walk (a : V) (ca : List Value) (w : World) (ha : RdA w 0 w.heap.size a ca) (za : szU a ≤ 1048576) (wa : wfV a) (hT : Tab w) :
    Calls Tryd.prog 4 #[.agg ca.toArray] w fun e w' => e = .returned (.bool true) ∧ Below w.heap.size w w' := by
  have la := len_of_RdA a ca ha
  have zb : szA 4611686018427387904 a := szA_of _ a wa (by omega)
  have h0 := Tab.pos hT
  have ca1 := fun w1 (h : Below w.heap.size w w1) => Check_any a ca 0 w1 zb (ha.below h (Nat.le_refl _) h.size)
  have ta := fun w1 (h : Below w.heap.size w w1) => Text_any a ca 0 w1 la (by omega) zb (ha.below h (Nat.le_refl _) h.size)
  have ra := fun w1 (h : Below w.heap.size w w1) => rText_any a ca w1 la (by omega) (mx_of_sz _ a za) zb (ha.below h (Nat.le_refl _) h.size) (hT.below h h0 h.size) (by have := h.size; omega)
  obtain ⟨A, c, A2, c2, ea, _⟩ := ha.cells
  rw [ea] at ca1 ta ra ⊢
  unfold GivesT at ta
  unfold GivesTr at ra
  clear ha la zb h0 ea
  generalize strOf (txtR a) = S at *
  generalize strOf (if chk a = 0 then emV a else []) = R at *
  generalize chk a = x at *
  generalize a.k = k1 at *
  generalize a.n = n1 at *
  generalize strOf a.s = s1 at *
  generalize a.l.length = l1 at *
  generalize a.ms.length = m1 at *
  have CA := Lib.hid ca1; clear ca1
  have TA := Lib.hid ta; clear ta
  have RA := Lib.hid ra; clear ra
  obtain ⟨w0, hw0⟩ : ∃ w0, w0 = w.alloc (.cells #[.int .i64 k1, .int .i64 n1, .string s1, .slice A l1 c, .slice A2 m1 c2] 25) := ⟨_, rfl⟩
  have FA : ∀ (j : Nat) u, ([.int .i64 k1, .int .i64 n1, .string s1, .slice A l1 c, .slice A2 m1 c2] : List Value)[j]? = some u → w0.cell? ⟨w.heap.size, j, none⟩ = some u := fun j u hu => by
    rw [hw0, cell_of_row _ _ j _ _ _ (heap_alloc_new w _)]
    simpa using hu
  have hsz : w0.heap.size = w.heap.size + 1 := by rw [hw0, szAlloc']
  have hb0 : Below w.heap.size w w0 := by rw [hw0]; exact (Below.refl _ _).alloc (Nat.le_refl _) _
  have hc : ∀ u, Below w0.heap.size w0 u → ∀ (j : Nat) x, ([.int .i64 k1, .int .i64 n1, .string s1, .slice A l1 c, .slice A2 m1 c2] : List Value)[j]? = some x → u.cell? ⟨w.heap.size, j, none⟩ = some x := fun u hb j x hx => (hb.cell (p := ⟨w.heap.size, j, none⟩) (by show w.heap.size < _; omega)).trans (FA j x hx)
  have HW0 := Lib.hid hw0
  have HC := Lib.hid hc; clear hc FA
  have HB0 := Lib.hid hb0; clear hb0
  clear hw0
  go_enter Tryd.func4, Tryd.ntmps4
  go_wp2_with fail
  rw [← HW0.out]
  refine (awake_any6 _).mono ?_
  rintro e w1 ⟨rfl, hb1⟩
  have HB1 := Lib.hid (HB0.out.trans (hb1.mono HB0.out.size))
  have B1 := Lib.hid hb1
  have f0 := HC.out w1 hb1 0 _ rfl
  have f1 := HC.out w1 hb1 1 _ rfl
  have f2 := HC.out w1 hb1 2 _ rfl
  have f3 := HC.out w1 hb1 3 _ rfl
  have f4 := HC.out w1 hb1 4 _ rfl
  clear hb1
  go_wp2_with fail
  refine (CA.out w1 HB1.out).mono ?_
  rintro e w2 ⟨rfl, hb2⟩
  have HB2 := Lib.hid (HB1.out.trans (hb2.mono HB1.out.size))
  have hB2 := B1.out.trans (hb2.mono B1.out.size)
  have B2 := Lib.hid hB2
  clear f0 f1 f2 f3 f4 hb2
  by_cases hx : x = 0
  · subst hx
    have f0 := HC.out w2 hB2 0 _ rfl
    have f1 := HC.out w2 hB2 1 _ rfl
    have f2 := HC.out w2 hB2 2 _ rfl
    have f3 := HC.out w2 hB2 3 _ rfl
    have f4 := HC.out w2 hB2 4 _ rfl
    clear hB2
    go_wp2_with fail
    refine (RA.out w2 HB2.out).mono ?_
    rintro e w3 ⟨rfl, hb3⟩
    have HB3 := Lib.hid (HB2.out.trans (hb3.mono HB2.out.size))
    have hB3 := B2.out.trans (hb3.mono B2.out.size)
    have B3 := Lib.hid hB3
    clear f0 f1 f2 f3 f4 hb3
    have f0 := HC.out w3 hB3 0 _ rfl
    have f1 := HC.out w3 hB3 1 _ rfl
    have f2 := HC.out w3 hB3 2 _ rfl
    have f3 := HC.out w3 hB3 3 _ rfl
    have f4 := HC.out w3 hB3 4 _ rfl
    clear hB3
    go_wp2_with fail
    refine (TA.out w3 HB3.out).mono ?_
    rintro e w4 ⟨rfl, hb4⟩
    have HB4 := Lib.hid (HB3.out.trans (hb4.mono HB3.out.size))
    have hB4 := B3.out.trans (hb4.mono B3.out.size)
    clear f0 f1 f2 f3 f4 hb4
    have f0 := HC.out w4 hB4 0 _ rfl
    have f1 := HC.out w4 hB4 1 _ rfl
    have f2 := HC.out w4 hB4 2 _ rfl
    have f3 := HC.out w4 hB4 3 _ rfl
    have f4 := HC.out w4 hB4 4 _ rfl
    clear hB4
    go_wp2_with fail
    refine (RA.out w4 HB4.out).mono ?_
    rintro e w5 ⟨rfl, hb5⟩
    have HB5 := Lib.hid (HB4.out.trans (hb5.mono HB4.out.size)); clear hb5
    clear f0 f1 f2 f3 f4
    have tt : (R.toList == R.toList) = true := by rw [beq_iff_eq]
    go_wp2_with fail
    go_ret
    exact ⟨rfl, HB5.out⟩
  · have t0 : (x != 0) = true := by rw [bne_iff_ne]; exact hx
    clear hB2
    go_wp2_with fail
    refine (awake_any6 _).mono ?_
    rintro e w3 ⟨rfl, hb3⟩
    have HB3 := Lib.hid (HB2.out.trans (hb3.mono HB2.out.size)); clear hb3
    go_wp2_with fail
    go_ret
    exact ⟨rfl, HB3.out⟩
end Go.Proofs.YtcbiaflbncfliaaDoor.Em
