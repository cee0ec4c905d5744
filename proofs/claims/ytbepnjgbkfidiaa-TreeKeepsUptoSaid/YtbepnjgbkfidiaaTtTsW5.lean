import Derived.Test.YtbepnjgbkfidiaaTtTsQ
import Derived.Test.YtbepnjgbkfidiaaTtD
import Derived.Test.YtbepnjgbkfidiaaTtTsB
import Derived.Test.YtbepnjgbkfidiaaEmF
import Derived.Test.YtbepnjgbkfidiaaEmPl3
import Derived.Deep.RegionHeld3
/- The walk of TreeKeeps. Written by tools/genTsW5.py. -/
namespace Go.Proofs.Ytbepnjgbkfidiaa.Tr
open Go.Proofs Go.RowKit Go.Lib
open Go.Proofs.Ytbepnjgbkfidiaa.Utf
open Go.Proofs.Ytbepnjgbkfidiaa.Sc
open Go.Proofs.Ytbepnjgbkfidiaa.Re
open Go.Proofs.Ytbepnjgbkfidiaa.Em (Check_any Text_any chk chk_ok len_of_RdA szU wfV szA_of txtR)

def GivesSp (w : World) (e : Ending) (w' : World) : Prop :=
  (∃ (k n : Int) (S : ByteArray) (A : Option Addr) (l c : Nat) (B : Option Addr) (m d : Nat), e = .returned (.agg #[.int .i64 k, .int .i64 n, .string S, .slice A l c, .slice B m d]) ∧ SpR [.int .i64 k, .int .i64 n, .string S, .slice A l c, .slice B m d] true w.heap.size w'.heap.size w') ∧ Below w.heap.size w w'
def GivesSm (w : World) (e : Ending) (w' : World) : Prop :=
  (∃ (A : Option Addr) (n c : Nat), e = .returned (.agg #[.int .i64 6, .int .i64 0, .string ⟨#[]⟩, .slice none 0 0, .slice A n c]) ∧ SpR [.int .i64 6, .int .i64 0, .string ⟨#[]⟩, .slice none 0 0, .slice A n c] false w.heap.size w'.heap.size w') ∧ Below w.heap.size w w'
theorem sp_sort (v : V) (cv : List Value) (w : World) (ho : oV v) (hl : Em.lenV v) (zv : szU v ≤ 1048576) (fv : wfV v) (hv : RdA w 0 w.heap.size v cv) : Calls Try.prog 18 #[.agg cv.toArray] w (GivesSp w) := by
  refine (Sort_any v cv w ho (szA_of _ v fv (by omega)) hv).mono ?_
  rintro e w' ⟨⟨a, cs, F, rfl, hs, hr, hn, hF⟩, hb⟩
  obtain ⟨-, -, m3, m4, -⟩ := Srt_more a v hs hl
  have za : szA 140737488355328 a := szA_of _ a (m4 fv) (by omega)
  have hsp := spR_of za hr hn hF
  obtain ⟨A, c, B, d, -, -, rfl, -⟩ := hr.cells
  exact ⟨⟨_, _, _, _, _, _, _, _, _, rfl, hsp⟩, hb⟩
theorem sp_copy (v : V) (cv : List Value) (w : World) (sv : szA 140737488355328 v) (hv : RdA w 0 w.heap.size v cv) : Calls Try.prog 22 #[.agg cv.toArray] w (GivesSp w) := by
  refine (Copy_any (ht v) v (Nat.le_refl _) sv cv w hv).mono ?_
  rintro e w' ⟨⟨cs, F, rfl, hr, hn, hF⟩, hb⟩
  have hsp := spR_of sv hr hn hF
  obtain ⟨A, c, B, d, -, -, rfl, -⟩ := hr.cells
  exact ⟨⟨_, _, _, _, _, _, _, _, _, rfl, hsp⟩, hb⟩
theorem sp_gm {ns : List (List UInt8)} {ms : List V} {w : World} {e : Ending} {w' : World} (hz : ms.length < 1466015503701) (h : GivesM ns ms w e w') : GivesSm w e w' := by
  obtain ⟨⟨A, c, e1, hn, hk⟩, hb⟩ := h
  exact ⟨⟨A, _, c, e1, spR_gm rfl hz hn hk⟩, hb⟩
theorem sp_with (v : V) (cv : List Value) (nm : List UInt8) (w : World) (hz : (inM v).length < 1000000000000) (hv : RdA w 0 w.heap.size v cv) : Calls Try.prog 13 #[.agg cv.toArray, .string (strOf nm), .agg cv.toArray] w (GivesSm w) :=
  (With_any v v cv cv nm w hv hv (by omega)).mono fun _ _ h => sp_gm (by
    unfold withM
    split
    · rw [List.length_set]; omega
    · rw [List.length_append]; simp; omega) h
theorem sp_wo (v : V) (cv : List Value) (nm : List UInt8) (w : World) (hz : (inM v).length < 1000000000000) (hv : RdA w 0 w.heap.size v cv) : Calls Try.prog 15 #[.agg cv.toArray, .string (strOf nm)] w (GivesSm w) :=
  (Without_any v cv nm w hv (by omega)).mono fun _ _ h => sp_gm (by
    unfold woM
    rw [List.length_map]
    have h1 := List.length_filter_le (fun p : List UInt8 × V => decide (p.1 ≠ nm)) ((inN v).zip (inM v))
    have h2 : ((inN v).zip (inM v)).length ≤ (inM v).length := by rw [List.length_zip]; omega
    omega) h
theorem text_ok (v : V) (cv : List Value) (w : World) (hl : Em.lenV v) (zv : szU v ≤ 1048576) (fv : wfV v) (hc : chk v = 0) (hv : RdA w 0 w.heap.size v cv) : Calls Try.prog 19 #[.agg cv.toArray] w fun e w' => e = .returned (.tuple #[.string (strOf (txtR v)), .int .i64 0]) ∧ Below w.heap.size w w' := by
  refine (Text_any v cv 0 w hl (by omega) (szA_of _ v fv (by omega)) hv).mono ?_
  rintro e w' ⟨e1, e2⟩
  rw [hc] at e1
  exact ⟨e1, e2⟩

set_option maxRecDepth 100000 in
set_option maxHeartbeats 1000000 in
theorem keeps_walk (v : V) (cv : List Value) (X : ByteArray) (w : World) (hv : RdA w 0 w.heap.size v cv) (zv : szU v ≤ 1048576) (fv : wfV v) (_ : X.size ≤ 1048576) :
    Calls Try.prog 7 #[.agg cv.toArray, .string X] w fun e w' => e = .returned (.bool true) ∧ Below w.heap.size w w' := by
  have sv : szA 140737488355328 v := szA_of _ v fv (by omega)
  have sv2 : szA 4611686018427387904 v := szA_of _ v fv (by omega)
  have sv3 : szA 1099511627776 v := szA_of _ v fv (by omega)
  have hml : (inM v).length < 1000000000000 := by have h1 := ((szA_eq _ v).1 sv3).2.2.2.2.1; have h2 := inM_le v; omega
  have lv := len_of_RdA v cv hv
  obtain ⟨nm, rfl⟩ : ∃ l : List UInt8, X = strOf l := ⟨X.data.toList, rfl⟩
  have HCV := Lib.hid (fun (W : World) (hW : Below w.heap.size w W) => Check_any v cv 0 W sv2 (hv.below hW (Nat.le_refl _) hW.size))
  obtain ⟨A1, c1, A2, c2, ev, -⟩ := hv.cells
  by_cases hc : chk v = 0
  · have ov := oV_of_all v (chk_ok hc).2.2
    rw [hc] at HCV
    have HTV := Lib.hid (fun (W : World) (hW : Below w.heap.size w W) => text_ok v cv W lv zv fv hc (hv.below hW (Nat.le_refl _) hW.size))
    have HSO := Lib.hid (fun (W : World) (hW : Below w.heap.size w W) => sp_sort v cv W ov lv zv fv (hv.below hW (Nat.le_refl _) hW.size))
    have HCO := Lib.hid (fun (W : World) (hW : Below w.heap.size w W) => sp_copy v cv W sv (hv.below hW (Nat.le_refl _) hW.size))
    have HWI := Lib.hid (fun (W : World) (hW : Below w.heap.size w W) => sp_with v cv nm W hml (hv.below hW (Nat.le_refl _) hW.size))
    have HWO := Lib.hid (fun (W : World) (hW : Below w.heap.size w W) => sp_wo v cv nm W hml (hv.below hW (Nat.le_refl _) hW.size))
    subst ev
    clear hv zv fv sv sv2 sv3 lv hc ov hml
    generalize strOf nm = X at *
    generalize strOf (txtR v) = T at *
    have htt : (T.toList == T.toList) = true := beq_self_eq_true _
    generalize v.k = k at *
    generalize v.n = n at *
    generalize strOf v.s = S at *
    generalize v.l.length = l1 at *
    generalize v.ms.length = m1 at *
    obtain ⟨W0, hW0⟩ : ∃ W0, W0 = (w.alloc (.cells #[.int .i64 k, .int .i64 n, .string S, .slice A1 l1 c1, .slice A2 m1 c2] 25)) := ⟨_, rfl⟩
    have HBW0 := Lib.hid (show Below w.heap.size w W0 by rw [hW0]; exact (Below.refl _ _).alloc (Nat.le_refl _) _)
    have hs0 : W0.heap.size = w.heap.size + 1 := by rw [hW0, szAl]
    have RW0_0 := Lib.hid (show W0.heap[w.heap.size]? = some (.cells #[.int .i64 k, .int .i64 n, .string S, .slice A1 l1 c1, .slice A2 m1 c2] 25 (0, 0)) by rw [hW0]; exact (show (w.alloc (.cells #[.int .i64 k, .int .i64 n, .string S, .slice A1 l1 c1, .slice A2 m1 c2] 25)).heap[w.heap.size]? = some (.cells #[.int .i64 k, .int .i64 n, .string S, .slice A1 l1 c1, .slice A2 m1 c2] 25 (0, 0)) from by rw [show w.heap.size = w.heap.size by simp]; exact heapNew _ _))
    have LW0_0 := Lib.hid (show w.heap.size < W0.heap.size by omega)
    have HW0 := Lib.hid hW0
    clear hW0 hs0
    go_enter Try.func7, Try.ntmps7
    go_wp2_with fail
    rw [← HW0.out]
    refine (awake_any7 _).mono ?_
    rintro e w1 ⟨rfl, hb⟩
    have Rw1_0 := Lib.hid (show w1.heap[w.heap.size]? = some (.cells #[.int .i64 k, .int .i64 n, .string S, .slice A1 l1 c1, .slice A2 m1 c2] 25 (0, 0)) from (hb.block _ LW0_0.out).trans RW0_0.out)
    have Lw1_0 := Lib.hid (show w.heap.size < w1.heap.size from Nat.lt_of_lt_of_le LW0_0.out hb.size)
    have HBw1 := Lib.hid (HBW0.out.trans (hb.mono HBW0.out.size))
    clear hb
    obtain ⟨⟨p0_0, p0_1, p0_2, p0_3, p0_4⟩, -⟩ := row5 Rw1_0.out
    go_wp2_with fail
    clear p0_0 p0_1 p0_2 p0_3 p0_4
    refine (HCV.out _ HBw1.out).mono ?_
    rintro e w2 ⟨rfl, hb⟩
    have Rw2_0 := Lib.hid (show w2.heap[w.heap.size]? = some (.cells #[.int .i64 k, .int .i64 n, .string S, .slice A1 l1 c1, .slice A2 m1 c2] 25 (0, 0)) from (hb.block _ Lw1_0.out).trans Rw1_0.out)
    have Lw2_0 := Lib.hid (show w.heap.size < w2.heap.size from Nat.lt_of_lt_of_le Lw1_0.out hb.size)
    have HBw2 := Lib.hid (HBw1.out.trans (hb.mono HBw1.out.size))
    clear hb
    obtain ⟨⟨p0_0, p0_1, p0_2, p0_3, p0_4⟩, -⟩ := row5 Rw2_0.out
    go_wp2_with fail
    clear p0_0 p0_1 p0_2 p0_3 p0_4
    refine (HTV.out _ HBw2.out).mono ?_
    rintro e w3 ⟨rfl, hb⟩
    have Rw3_0 := Lib.hid (show w3.heap[w.heap.size]? = some (.cells #[.int .i64 k, .int .i64 n, .string S, .slice A1 l1 c1, .slice A2 m1 c2] 25 (0, 0)) from (hb.block _ Lw2_0.out).trans Rw2_0.out)
    have Lw3_0 := Lib.hid (show w.heap.size < w3.heap.size from Nat.lt_of_lt_of_le Lw2_0.out hb.size)
    have HBw3 := Lib.hid (HBw2.out.trans (hb.mono HBw2.out.size))
    clear hb
    obtain ⟨⟨p0_0, p0_1, p0_2, p0_3, p0_4⟩, -⟩ := row5 Rw3_0.out
    have HZu0 := Lib.hid (show Below w3.heap.size w3 w3.drew from (Below.refl w3.heap.size w3).drew)
    go_wp2_with fail
    clear p0_0 p0_1 p0_2 p0_3 p0_4
    refine wp_region_held_drew (S := fun w' => w'.heap[w.heap.size]? = some (.cells #[.int .i64 k, .int .i64 n, .string S, .slice A1 l1 c1, .slice A2 m1 c2] 25 (0, 0))) (by kernel_rfl) (Rw3_0.out) (fun hHeld => ?_)
    refine wpAnyH_take (i := 0) (oi := { dst := some 24, op := Op.load 25 (Operand.tmp 2), type := 25, pos := "law.go:93", after := #[], guard := none }) (v := ?_) rfl (by kernel_rfl) (by kernel_rfl) (by kernel_rfl) (fun _ _ _ h => h) (Or.inl ⟨by rfl, ?_⟩) hHeld ?_
    rotate_left
    · intro w hSw; (try dsimp only at hSw); have q0 := (row5 hSw).1; obtain ⟨q00, q01, q02, q03, q04⟩ := q0; clear hSw; go_simp; with_reducible rfl
    try simp only [Act.put, List.setIfInBounds_toArray, List.set_cons_zero, List.set_cons_succ]
    refine wpAnyH_take (i := 2) (oi := { dst := some 26, op := Op.load 25 (Operand.tmp 2), type := 25, pos := "law.go:93", after := #[], guard := none }) (v := ?_) rfl (by kernel_rfl) (by kernel_rfl) (by kernel_rfl) (fun _ _ _ h => h) (Or.inl ⟨by rfl, ?_⟩) hHeld ?_
    rotate_left
    · intro w hSw; (try dsimp only at hSw); have q0 := (row5 hSw).1; obtain ⟨q00, q01, q02, q03, q04⟩ := q0; clear hSw; go_simp; with_reducible rfl
    try simp only [Act.put, List.setIfInBounds_toArray, List.set_cons_zero, List.set_cons_succ]
    refine wpAnyH_take (i := 4) (oi := { dst := some 28, op := Op.load 25 (Operand.tmp 2), type := 25, pos := "law.go:93", after := #[], guard := none }) (v := ?_) rfl (by kernel_rfl) (by kernel_rfl) (by kernel_rfl) (fun _ _ _ h => h) (Or.inl ⟨by rfl, ?_⟩) hHeld ?_
    rotate_left
    · intro w hSw; (try dsimp only at hSw); have q0 := (row5 hSw).1; obtain ⟨q00, q01, q02, q03, q04⟩ := q0; clear hSw; go_simp; with_reducible rfl
    try simp only [Act.put, List.setIfInBounds_toArray, List.set_cons_zero, List.set_cons_succ]
    refine wpAnyH_take (i := 5) (oi := { dst := some 29, op := Op.move (Operand.tmp 1), type := 9, pos := "law.go:93", after := #[], guard := none }) (v := ?_) rfl (by kernel_rfl) (by kernel_rfl) (by kernel_rfl) (fun _ _ _ h => h) (Or.inl ⟨by rfl, ?_⟩) hHeld ?_
    rotate_left
    · intro w hSw; (try dsimp only at hSw); go_simp; with_reducible rfl
    try simp only [Act.put, List.setIfInBounds_toArray, List.set_cons_zero, List.set_cons_succ]
    refine wpAnyH_take (i := 6) (oi := { dst := some 30, op := Op.load 25 (Operand.tmp 2), type := 25, pos := "law.go:93", after := #[], guard := none }) (v := ?_) rfl (by kernel_rfl) (by kernel_rfl) (by kernel_rfl) (fun _ _ _ h => h) (Or.inl ⟨by rfl, ?_⟩) hHeld ?_
    rotate_left
    · intro w hSw; (try dsimp only at hSw); have q0 := (row5 hSw).1; obtain ⟨q00, q01, q02, q03, q04⟩ := q0; clear hSw; go_simp; with_reducible rfl
    try simp only [Act.put, List.setIfInBounds_toArray, List.set_cons_zero, List.set_cons_succ]
    refine wpAnyH_take (i := 8) (oi := { dst := some 32, op := Op.load 25 (Operand.tmp 2), type := 25, pos := "law.go:93", after := #[], guard := none }) (v := ?_) rfl (by kernel_rfl) (by kernel_rfl) (by kernel_rfl) (fun _ _ _ h => h) (Or.inl ⟨by rfl, ?_⟩) hHeld ?_
    rotate_left
    · intro w hSw; (try dsimp only at hSw); have q0 := (row5 hSw).1; obtain ⟨q00, q01, q02, q03, q04⟩ := q0; clear hSw; go_simp; with_reducible rfl
    try simp only [Act.put, List.setIfInBounds_toArray, List.set_cons_zero, List.set_cons_succ]
    refine wpAnyH_take (i := 9) (oi := { dst := some 33, op := Op.move (Operand.tmp 1), type := 9, pos := "law.go:93", after := #[], guard := none }) (v := ?_) rfl (by kernel_rfl) (by kernel_rfl) (by kernel_rfl) (fun _ _ _ h => h) (Or.inl ⟨by rfl, ?_⟩) hHeld ?_
    rotate_left
    · intro w hSw; (try dsimp only at hSw); go_simp; with_reducible rfl
    try simp only [Act.put, List.setIfInBounds_toArray, List.set_cons_zero, List.set_cons_succ]
    refine wpAnyH_ready (rs := [1]) (by kernel_rfl) (by simp) ?_
    refine AllReadyH.cons (o := { dst := some 25, op := Op.call { callee := Callee.value (Operand.func 18), args := #[Operand.tmp 24], argTypes := #[25] }, type := 25, pos := "law.go:93", after := #[{ on := 0, ground := Ground.data }], guard := none }) rfl (fun K hK => ?_) AllReadyH.nil
    go_simp
    go_at_call 18
    refine (HSO.out _ (HBw3.out.trans (HZu0.out.mono HBw3.out.size))).mono ?_
    rintro e u1 ⟨⟨ak, an, aS, aA, al, ac, aB, am, ad, rfl, hsp⟩, hb⟩
    have HPa := Lib.hid (show SpR [.int .i64 ak, .int .i64 an, .string aS, .slice aA al ac, .slice aB am ad] true w3.drew.heap.size u1.heap.size u1 from hsp)
    have HQa := Lib.hid (show Below w3.drew.heap.size w3.drew u1 from hb)
    have HZu1 := Lib.hid (HZu0.out.trans (hb.mono HZu0.out.size))
    have HRu1 := Lib.hid (show u1.heap[w.heap.size]? = some (.cells #[.int .i64 k, .int .i64 n, .string S, .slice A1 l1 c1, .slice A2 m1 c2] 25 (0, 0)) from (hb.block _ (Nat.lt_of_lt_of_le Lw3_0.out HZu0.out.size)).trans hHeld)
    clear hb hsp
    refine hK.out _ _ (HRu1.out) (fun hHeld => ?_)
    clear hK K
    try simp only [Act.put, List.setIfInBounds_toArray, List.set_cons_zero, List.set_cons_succ]
    refine wpAnyH_ready (rs := [3]) (by kernel_rfl) (by simp) ?_
    refine AllReadyH.cons (o := { dst := some 27, op := Op.call { callee := Callee.value (Operand.func 22), args := #[Operand.tmp 26], argTypes := #[25] }, type := 25, pos := "law.go:93", after := #[{ on := 2, ground := Ground.data }, { on := 1, ground := Ground.chain }], guard := none }) rfl (fun K hK => ?_) AllReadyH.nil
    go_simp
    go_at_call 22
    refine (HCO.out _ (HBw3.out.trans (HZu1.out.mono HBw3.out.size))).mono ?_
    rintro e u2 ⟨⟨bk, bn, bS, bA, bl, bc, bB, bm, bd, rfl, hsp⟩, hb⟩
    have HPb := Lib.hid (show SpR [.int .i64 bk, .int .i64 bn, .string bS, .slice bA bl bc, .slice bB bm bd] true u1.heap.size u2.heap.size u2 from hsp)
    have HQb := Lib.hid (show Below u1.heap.size u1 u2 from hb)
    have HZu2 := Lib.hid (HZu1.out.trans (hb.mono HZu1.out.size))
    have HRu2 := Lib.hid (show u2.heap[w.heap.size]? = some (.cells #[.int .i64 k, .int .i64 n, .string S, .slice A1 l1 c1, .slice A2 m1 c2] 25 (0, 0)) from (hb.block _ (Nat.lt_of_lt_of_le Lw3_0.out HZu1.out.size)).trans hHeld)
    clear hb hsp
    refine hK.out _ _ (HRu2.out) (fun hHeld => ?_)
    clear hK K
    try simp only [Act.put, List.setIfInBounds_toArray, List.set_cons_zero, List.set_cons_succ]
    refine wpAnyH_ready (rs := [7]) (by kernel_rfl) (by simp) ?_
    refine AllReadyH.cons (o := { dst := some 31, op := Op.call { callee := Callee.value (Operand.func 13), args := #[Operand.tmp 28, Operand.tmp 29, Operand.tmp 30], argTypes := #[25, 9, 25] }, type := 25, pos := "law.go:93", after := #[{ on := 4, ground := Ground.data }, { on := 5, ground := Ground.data }, { on := 6, ground := Ground.data }, { on := 3, ground := Ground.chain }], guard := none }) rfl (fun K hK => ?_) AllReadyH.nil
    go_simp
    go_at_call 13
    refine (HWI.out _ (HBw3.out.trans (HZu2.out.mono HBw3.out.size))).mono ?_
    rintro e u3 ⟨⟨dA, dn, dc, rfl, hsp⟩, hb⟩
    have HPd := Lib.hid (show SpR [.int .i64 6, .int .i64 0, .string ⟨#[]⟩, .slice none 0 0, .slice dA dn dc] false u2.heap.size u3.heap.size u3 from hsp)
    have HQd := Lib.hid (show Below u2.heap.size u2 u3 from hb)
    have HZu3 := Lib.hid (HZu2.out.trans (hb.mono HZu2.out.size))
    have HRu3 := Lib.hid (show u3.heap[w.heap.size]? = some (.cells #[.int .i64 k, .int .i64 n, .string S, .slice A1 l1 c1, .slice A2 m1 c2] 25 (0, 0)) from (hb.block _ (Nat.lt_of_lt_of_le Lw3_0.out HZu2.out.size)).trans hHeld)
    clear hb hsp
    refine hK.out _ _ (HRu3.out) (fun hHeld => ?_)
    clear hK K
    try simp only [Act.put, List.setIfInBounds_toArray, List.set_cons_zero, List.set_cons_succ]
    refine wpAnyH_ready (rs := [10]) (by kernel_rfl) (by simp) ?_
    refine AllReadyH.cons (o := { dst := some 34, op := Op.call { callee := Callee.value (Operand.func 15), args := #[Operand.tmp 32, Operand.tmp 33], argTypes := #[25, 9] }, type := 25, pos := "law.go:93", after := #[{ on := 8, ground := Ground.data }, { on := 9, ground := Ground.data }, { on := 7, ground := Ground.chain }], guard := none }) rfl (fun K hK => ?_) AllReadyH.nil
    go_simp
    go_at_call 15
    refine (HWO.out _ (HBw3.out.trans (HZu3.out.mono HBw3.out.size))).mono ?_
    rintro e u4 ⟨⟨eA, en, ec, rfl, hsp⟩, hb⟩
    have HPe := Lib.hid (show SpR [.int .i64 6, .int .i64 0, .string ⟨#[]⟩, .slice none 0 0, .slice eA en ec] false u3.heap.size u4.heap.size u4 from hsp)
    have HQe := Lib.hid (show Below u3.heap.size u3 u4 from hb)
    have HZu4 := Lib.hid (HZu3.out.trans (hb.mono HZu3.out.size))
    have HRu4 := Lib.hid (show u4.heap[w.heap.size]? = some (.cells #[.int .i64 k, .int .i64 n, .string S, .slice A1 l1 c1, .slice A2 m1 c2] 25 (0, 0)) from (hb.block _ (Nat.lt_of_lt_of_le Lw3_0.out HZu3.out.size)).trans hHeld)
    clear hb hsp
    refine hK.out _ _ (HRu4.out) (fun hHeld => ?_)
    clear hK K
    try simp only [Act.put, List.setIfInBounds_toArray, List.set_cons_zero, List.set_cons_succ]
    refine wpAnyH_ready (rs := [11]) (by kernel_rfl) (by simp) ?_
    refine AllReadyH.cons (o := { dst := some 35, op := Op.buildSlice 22 4 #[(0, Operand.tmp 25), (1, Operand.tmp 27), (2, Operand.tmp 31), (3, Operand.tmp 34)], type := 22, pos := "law.go:93", after := #[{ on := 1, ground := Ground.data }, { on := 3, ground := Ground.data }, { on := 7, ground := Ground.data }, { on := 10, ground := Ground.data }], guard := none }) rfl (fun K hK => ?_) AllReadyH.nil
    go_simp
    refine hK.out _ _ (show (u4.alloc (.cells #[.int .i64 ak, .int .i64 an, .string aS, .slice aA al ac, .slice aB am ad, .int .i64 bk, .int .i64 bn, .string bS, .slice bA bl bc, .slice bB bm bd, .int .i64 6, .int .i64 0, .string ⟨#[]⟩, .slice none 0 0, .slice dA dn dc, .int .i64 6, .int .i64 0, .string ⟨#[]⟩, .slice none 0 0, .slice eA en ec] 25)).heap[w.heap.size]? = some (.cells #[.int .i64 k, .int .i64 n, .string S, .slice A1 l1 c1, .slice A2 m1 c2] 25 (0, 0)) from heapOld HRu4.out _) (fun hHeld => ?_)
    clear hK K
    try simp only [Act.put, List.setIfInBounds_toArray, List.set_cons_zero, List.set_cons_succ]
    refine wpAnyH_take (i := 12) (oi := { dst := some 7, op := Op.assign (Operand.tmp 35), type := 22, pos := "law.go:93", after := #[{ on := 11, ground := Ground.data }, { on := 10, ground := Ground.chain }, { on := 0, ground := Ground.phase }, { on := 1, ground := Ground.phase }, { on := 2, ground := Ground.phase }, { on := 3, ground := Ground.phase }, { on := 4, ground := Ground.phase }, { on := 5, ground := Ground.phase }, { on := 6, ground := Ground.phase }, { on := 7, ground := Ground.phase }, { on := 8, ground := Ground.phase }, { on := 9, ground := Ground.phase }, { on := 10, ground := Ground.phase }, { on := 11, ground := Ground.phase }], guard := none }) (v := ?_) rfl (by kernel_rfl) (by kernel_rfl) (by kernel_rfl) (fun _ _ _ h => h) (Or.inl ⟨by rfl, ?_⟩) hHeld ?_
    rotate_left
    · intro w hSw; (try dsimp only at hSw); go_simp; with_reducible rfl
    try simp only [Act.put, List.setIfInBounds_toArray, List.set_cons_zero, List.set_cons_succ]
    refine wpAnyH_done (by kernel_rfl) ?_ _
    obtain ⟨u5, hu5⟩ : ∃ u5, u5 = u4.alloc (.cells #[.int .i64 ak, .int .i64 an, .string aS, .slice aA al ac, .slice aB am ad, .int .i64 bk, .int .i64 bn, .string bS, .slice bA bl bc, .slice bB bm bd, .int .i64 6, .int .i64 0, .string ⟨#[]⟩, .slice none 0 0, .slice dA dn dc, .int .i64 6, .int .i64 0, .string ⟨#[]⟩, .slice none 0 0, .slice eA en ec] 25) := ⟨_, rfl⟩
    have hb5 : Below u4.heap.size u4 u5 := by rw [hu5]; exact (Below.refl _ _).alloc (Nat.le_refl _) _
    have HZ5 := Lib.hid (HZu4.out.trans (hb5.mono HZu4.out.size))
    have HB5 := Lib.hid (HBw3.out.trans (HZ5.out.mono HBw3.out.size))
    have HG5 := Lib.hid (show u5.heap[u4.heap.size]? = some (.cells #[.int .i64 ak, .int .i64 an, .string aS, .slice aA al ac, .slice aB am ad, .int .i64 bk, .int .i64 bn, .string bS, .slice bA bl bc, .slice bB bm bd, .int .i64 6, .int .i64 0, .string ⟨#[]⟩, .slice none 0 0, .slice dA dn dc, .int .i64 6, .int .i64 0, .string ⟨#[]⟩, .slice none 0 0, .slice eA en ec] 25 (0, 0)) by rw [hu5]; exact heapNew _ _)
    have HR5 := Lib.hid (show u5.heap[w.heap.size]? = some (.cells #[.int .i64 k, .int .i64 n, .string S, .slice A1 l1 c1, .slice A2 m1 c2] 25 (0, 0)) by rw [hu5]; exact heapOld HRu4.out _)
    have h54 : u4.heap.size + 1 = u5.heap.size := by rw [hu5, szAl]
    have h34 : u3.heap.size ≤ u4.heap.size := HQe.out.size
    have h23 : u2.heap.size ≤ u3.heap.size := HQd.out.size
    have h12 : u1.heap.size ≤ u2.heap.size := HQb.out.size
    have h01 : w3.drew.heap.size ≤ u1.heap.size := HQa.out.size
    have h0 : w.heap.size < w3.drew.heap.size := Lw3_0.out
    have HSA := Lib.hid (SpR.below HPa.out (HQb.out.trans ((HQd.out.mono h12).trans ((HQe.out.mono (Nat.le_trans h12 h23)).trans (hb5.mono (by omega))))) (Nat.le_refl _))
    have HSB := Lib.hid (SpR.below HPb.out (HQd.out.trans ((HQe.out.mono h23).trans (hb5.mono (by omega)))) (Nat.le_refl _))
    have HSD := Lib.hid (SpR.below HPd.out (HQe.out.trans (hb5.mono h34)) (Nat.le_refl _))
    have HSE := Lib.hid (SpR.below HPe.out hb5 (Nat.le_refl _))
    have HU5 := Lib.hid hu5
    clear hu5 hb5 HPa HPb HPd HPe HQa HQb HQd HQe HRu1 HRu2 HRu3 HRu4
    generalize w3.drew.heap.size = s0 at *
    generalize u1.heap.size = s1 at *
    generalize u2.heap.size = s2 at *
    generalize u3.heap.size = s3 at *
    generalize u4.heap.size = s4 at *
    go_wp2_with fail
    rw [← HU5.out]
    go_loopw [8] (fun i wr => ∃ t : Nat, ((i = .int .i64 0 ∧ t = s0) ∨ (i = .int .i64 1 ∧ t = s1) ∨ (i = .int .i64 2 ∧ t = s2) ∨ (i = .int .i64 3 ∧ t = s3) ∨ (i = .int .i64 4 ∧ t = s4)) ∧ Aside (ChgR s0 t u5 wr)) (fun i _ => 4 - (intOf i).toNat)
    case atStart => exact ⟨s0, Or.inl ⟨rfl, rfl⟩, (show ChgR _ _ _ _ from ChgR.refl _ _ _)⟩
    case round =>
      obtain ⟨t, hi, hch⟩ := hrel
      have hts : t ≤ s4 ∧ s0 ≤ t := by rcases hi with ⟨-, rfl⟩ | ⟨-, rfl⟩ | ⟨-, rfl⟩ | ⟨-, rfl⟩ | ⟨-, rfl⟩ <;> omega
      have HROW := Lib.hid ((hch.out.block s4 (by omega) (by omega)).trans HG5.out)
      have HV5 := Lib.hid ((hch.out.block w.heap.size (by omega) (by omega)).trans HR5.out)
      have HBR := Lib.hid (HB5.out.trans (hch.out.below (B := w.heap.size) (by omega) (by omega)))
      have hrs : u5.heap.size ≤ wr.heap.size := hch.out.size
      rcases hi with ⟨rfl, rfl⟩ | ⟨rfl, rfl⟩ | ⟨rfl, rfl⟩ | ⟨rfl, rfl⟩ | ⟨rfl, rfl⟩
      · have c0 := (cell_of_row _ _ 0 _ _ _ HROW.out).trans rfl
        have c1 := (cell_of_row _ _ 1 _ _ _ HROW.out).trans rfl
        have c2 := (cell_of_row _ _ 2 _ _ _ HROW.out).trans rfl
        have c3 := (cell_of_row _ _ 3 _ _ _ HROW.out).trans rfl
        have c4 := (cell_of_row _ _ 4 _ _ _ HROW.out).trans rfl
        have HCL := Lib.hid (HSA.out wr (by omega) (fun q q1 q2 => hch.out.block q (by omega) (by omega)))
        go_wp2_with fail
        refine HCL.out.mono ?_
        rintro e w5 ⟨rfl, hc5⟩
        have HC5 := Lib.hid hc5
        clear hc5 HCL c0 c1 c2 c3 c4
        go_wp2
        go_roundw
        case rel => exact ⟨s1, Or.inr (Or.inl ⟨by first | rfl | go_num, rfl⟩), (show ChgR _ _ _ _ from hch.out.next HC5.out (by omega) (by omega))⟩
        case measure => simp [intOf]
      · have c5 := (cell_of_row _ _ 5 _ _ _ HROW.out).trans rfl
        have c6 := (cell_of_row _ _ 6 _ _ _ HROW.out).trans rfl
        have c7 := (cell_of_row _ _ 7 _ _ _ HROW.out).trans rfl
        have c8 := (cell_of_row _ _ 8 _ _ _ HROW.out).trans rfl
        have c9 := (cell_of_row _ _ 9 _ _ _ HROW.out).trans rfl
        have HCL := Lib.hid (HSB.out wr (by omega) (fun q q1 q2 => hch.out.block q (by omega) (by omega)))
        go_wp2_with fail
        refine HCL.out.mono ?_
        rintro e w5 ⟨rfl, hc5⟩
        have HC5 := Lib.hid hc5
        clear hc5 HCL c5 c6 c7 c8 c9
        go_wp2
        go_roundw
        case rel => exact ⟨s2, Or.inr (Or.inr (Or.inl ⟨by first | rfl | go_num, rfl⟩)), (show ChgR _ _ _ _ from hch.out.next HC5.out (by omega) (by omega))⟩
        case measure => simp [intOf]
      · have c10 := (cell_of_row _ _ 10 _ _ _ HROW.out).trans rfl
        have c11 := (cell_of_row _ _ 11 _ _ _ HROW.out).trans rfl
        have c12 := (cell_of_row _ _ 12 _ _ _ HROW.out).trans rfl
        have c13 := (cell_of_row _ _ 13 _ _ _ HROW.out).trans rfl
        have c14 := (cell_of_row _ _ 14 _ _ _ HROW.out).trans rfl
        have HCL := Lib.hid (HSD.out wr (by omega) (fun q q1 q2 => hch.out.block q (by omega) (by omega)))
        go_wp2_with fail
        refine HCL.out.mono ?_
        rintro e w5 ⟨rfl, hc5⟩
        have HC5 := Lib.hid hc5
        clear hc5 HCL c10 c11 c12 c13 c14
        go_wp2
        go_roundw
        case rel => exact ⟨s3, Or.inr (Or.inr (Or.inr (Or.inl ⟨by first | rfl | go_num, rfl⟩))), (show ChgR _ _ _ _ from hch.out.next HC5.out (by omega) (by omega))⟩
        case measure => simp [intOf]
      · have c15 := (cell_of_row _ _ 15 _ _ _ HROW.out).trans rfl
        have c16 := (cell_of_row _ _ 16 _ _ _ HROW.out).trans rfl
        have c17 := (cell_of_row _ _ 17 _ _ _ HROW.out).trans rfl
        have c18 := (cell_of_row _ _ 18 _ _ _ HROW.out).trans rfl
        have c19 := (cell_of_row _ _ 19 _ _ _ HROW.out).trans rfl
        have HCL := Lib.hid (HSE.out wr (by omega) (fun q q1 q2 => hch.out.block q (by omega) (by omega)))
        go_wp2_with fail
        refine HCL.out.mono ?_
        rintro e w5 ⟨rfl, hc5⟩
        have HC5 := Lib.hid hc5
        clear hc5 HCL c15 c16 c17 c18 c19
        go_wp2
        go_roundw
        case rel => exact ⟨s4, Or.inr (Or.inr (Or.inr (Or.inr (⟨by first | rfl | go_num, rfl⟩)))), (show ChgR _ _ _ _ from hch.out.next HC5.out (by omega) (by omega))⟩
        case measure => simp [intOf]
      · obtain ⟨⟨p0, p1, p2, p3, p4⟩, -⟩ := row5 HV5.out
        go_wp2_with fail
        refine (HTV.out _ HBR.out).mono ?_
        rintro e w6 ⟨rfl, hb6⟩
        have HB6 := Lib.hid (HBR.out.trans (hb6.mono HBR.out.size))
        clear hb6 p0 p1 p2 p3 p4
        go_wp2
        go_ret
        exact ⟨rfl, HB6.out⟩
  · subst ev
    clear hv zv fv sv sv2 sv3 lv hml
    generalize hx : chk v = x at *
    have t1 : decide ((x : Int) = 0) = false := decide_eq_false (by omega)
    clear hx
    generalize strOf nm = X at *
    generalize v.k = k at *
    generalize v.n = n at *
    generalize strOf v.s = S at *
    generalize v.l.length = l1 at *
    generalize v.ms.length = m1 at *
    obtain ⟨W0, hW0⟩ : ∃ W0, W0 = (w.alloc (.cells #[.int .i64 k, .int .i64 n, .string S, .slice A1 l1 c1, .slice A2 m1 c2] 25)) := ⟨_, rfl⟩
    have HBW0 := Lib.hid (show Below w.heap.size w W0 by rw [hW0]; exact (Below.refl _ _).alloc (Nat.le_refl _) _)
    have hs0 : W0.heap.size = w.heap.size + 1 := by rw [hW0, szAl]
    have RW0_0 := Lib.hid (show W0.heap[w.heap.size]? = some (.cells #[.int .i64 k, .int .i64 n, .string S, .slice A1 l1 c1, .slice A2 m1 c2] 25 (0, 0)) by rw [hW0]; exact (show (w.alloc (.cells #[.int .i64 k, .int .i64 n, .string S, .slice A1 l1 c1, .slice A2 m1 c2] 25)).heap[w.heap.size]? = some (.cells #[.int .i64 k, .int .i64 n, .string S, .slice A1 l1 c1, .slice A2 m1 c2] 25 (0, 0)) from by rw [show w.heap.size = w.heap.size by simp]; exact heapNew _ _))
    have LW0_0 := Lib.hid (show w.heap.size < W0.heap.size by omega)
    have HW0 := Lib.hid hW0
    clear hW0 hs0
    go_enter Try.func7, Try.ntmps7
    go_wp2_with fail
    rw [← HW0.out]
    refine (awake_any7 _).mono ?_
    rintro e w1 ⟨rfl, hb⟩
    have Rw1_0 := Lib.hid (show w1.heap[w.heap.size]? = some (.cells #[.int .i64 k, .int .i64 n, .string S, .slice A1 l1 c1, .slice A2 m1 c2] 25 (0, 0)) from (hb.block _ LW0_0.out).trans RW0_0.out)
    have Lw1_0 := Lib.hid (show w.heap.size < w1.heap.size from Nat.lt_of_lt_of_le LW0_0.out hb.size)
    have HBw1 := Lib.hid (HBW0.out.trans (hb.mono HBW0.out.size))
    clear hb
    obtain ⟨⟨p0_0, p0_1, p0_2, p0_3, p0_4⟩, -⟩ := row5 Rw1_0.out
    go_wp2_with fail
    clear p0_0 p0_1 p0_2 p0_3 p0_4
    refine (HCV.out _ HBw1.out).mono ?_
    rintro e w2 ⟨rfl, hb⟩
    have Rw2_0 := Lib.hid (show w2.heap[w.heap.size]? = some (.cells #[.int .i64 k, .int .i64 n, .string S, .slice A1 l1 c1, .slice A2 m1 c2] 25 (0, 0)) from (hb.block _ Lw1_0.out).trans Rw1_0.out)
    have Lw2_0 := Lib.hid (show w.heap.size < w2.heap.size from Nat.lt_of_lt_of_le Lw1_0.out hb.size)
    have HBw2 := Lib.hid (HBw1.out.trans (hb.mono HBw1.out.size))
    clear hb
    obtain ⟨⟨p0_0, p0_1, p0_2, p0_3, p0_4⟩, -⟩ := row5 Rw2_0.out
    go_wp2_with fail
    clear p0_0 p0_1 p0_2 p0_3 p0_4
    refine (awake_any7 _).mono ?_
    rintro e w3 ⟨rfl, hb⟩
    have Rw3_0 := Lib.hid (show w3.heap[w.heap.size]? = some (.cells #[.int .i64 k, .int .i64 n, .string S, .slice A1 l1 c1, .slice A2 m1 c2] 25 (0, 0)) from (hb.block _ Lw2_0.out).trans Rw2_0.out)
    have Lw3_0 := Lib.hid (show w.heap.size < w3.heap.size from Nat.lt_of_lt_of_le Lw2_0.out hb.size)
    have HBw3 := Lib.hid (HBw2.out.trans (hb.mono HBw2.out.size))
    clear hb
    go_wp2
    go_ret
    exact ⟨rfl, HBw3.out⟩
end Go.Proofs.Ytbepnjgbkfidiaa.Tr
