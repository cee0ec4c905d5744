/- Merged: TlC. -/
import Derived.Test.YtfdibmcjjclgkaaTt5
import Derived.Deep.AppendLies
import Derived.Deep.CutBlock
namespace Go.Proofs.Ytfdibmcjjclgkaa.Tl
open Go.Proofs Go.RowKit
open Go.Proofs.Ytfdibmcjjclgkaa.Utf
open Go.Proofs.Ytfdibmcjjclgkaa.Ro

theorem infoEn : (Try.prog.info? 26).map (fun i => (i.zero, i.size, i.bytes)) = some (some (.agg #[.int .i64 0, .string ByteArray.empty, .int .i64 0]), 3, 32) := by kernel_rfl
def outI (l : List En) (e : En) (keep : Int) (i : Nat) : List En := ((l ++ [e]).take i).drop (cutS l keep)
def flrI (l : List En) (e : En) (keep f : Int) (i : Nat) : Int := if min i (cutS l keep) = 0 then f else ((l ++ [e]).getD (min i (cutS l keep) - 1) e).1
section
variable {l : List En} {e : En} {keep f : Int} {i : Nat}
theorem cut_le (l : List En) (keep : Int) : cutS l keep ≤ l.length + 1 := by unfold cutS; omega
theorem out_zero : outI l e keep 0 = [] := by unfold outI; rw [List.take_zero, List.drop_nil]
theorem flr_zero : flrI l e keep f 0 = f := by unfold flrI; rw [if_pos (by omega)]
theorem out_stay (h : i < cutS l keep) : outI l e keep (i + 1) = outI l e keep i := by
  unfold outI
  rw [List.drop_eq_nil_of_le (by rw [List.length_take]; omega), List.drop_eq_nil_of_le (by rw [List.length_take]; omega)]
theorem out_add (h : cutS l keep ≤ i) (hi : i < l.length + 1) : outI l e keep (i + 1) = outI l e keep i ++ [(l ++ [e]).getD i e] := by
  have hl : i < (l ++ [e]).length := by rw [List.length_append]; exact hi
  unfold outI
  rw [List.take_succ_eq_append_getElem hl, List.drop_append_of_le_length (by rw [List.length_take]; omega), List.getD_eq_getElem?_getD, List.getElem?_eq_getElem hl]
  rfl
theorem flr_stay (h : cutS l keep ≤ i) : flrI l e keep f (i + 1) = flrI l e keep f i := by unfold flrI; rw [show min (i + 1) (cutS l keep) = min i (cutS l keep) by omega]
theorem flr_go (h : i < cutS l keep) : flrI l e keep f (i + 1) = ((l ++ [e]).getD i e).1 := by unfold flrI; rw [show min (i + 1) (cutS l keep) = i + 1 by omega, if_neg (by omega)]; rfl
theorem out_end (l : List En) (e : En) (keep : Int) : outI l e keep (l.length + 1) = outS l keep e := by unfold outI outS; rw [List.take_of_length_le (by simp)]
theorem flr_end (l : List En) (e : En) (keep f : Int) : flrI l e keep f (l.length + 1) = flrS l f keep e := by
  unfold flrI flrS
  rw [show min (l.length + 1) (cutS l keep) = cutS l keep by have := cut_le l keep; omega]
end
theorem row3 {w : World} {b : Nat} {t : TypeId} {v0 v1 v2 : Value} (h : w.heap[b]? = some (.cells #[v0, v1, v2] t (0, 0))) : w.cell? ⟨b, 0, none⟩ = some v0 ∧ w.cell? ⟨b, 1, none⟩ = some v1 ∧ w.cell? ⟨b, 2, none⟩ = some v2 :=
  ⟨(cell_of_row w b 0 _ _ _ h).trans rfl, (cell_of_row w b 1 _ _ _ h).trans rfl, (cell_of_row w b 2 _ _ _ h).trans rfl⟩
theorem frz3 {w : World} {b : Nat} {t : TypeId} {v0 v1 v2 : Value} (h : w.heap[b]? = some (.cells #[v0, v1, v2] t (0, 0))) : w.frozen? ⟨b, 0, none⟩ = false ∧ w.frozen? ⟨b, 1, none⟩ = false ∧ w.frozen? ⟨b, 2, none⟩ = false :=
  ⟨frozen_of_row w b 0 _ _ h, frozen_of_row w b 1 _ _ h, frozen_of_row w b 2 _ _ h⟩
theorem rowSet {w : World} {b k : Nat} {cs cs' : Array Value} {t : TypeId} {u : Value} (hk : cs.setIfInBounds k u = cs') (h : w.heap[b]? = some (.cells cs t (0, 0))) : (w.setCell ⟨b, k, none⟩ u).heap[b]? = some (.cells cs' t (0, 0)) := by
  subst hk
  show (w.heap.modify b _)[b]? = _
  rw [Array.getElem?_modify, if_pos rfl, h]
  rfl
theorem own_keep {w w' : World} {B E s n : Nat} {v : Value} {xs : List Value} (h : w.ownsRow B E s v n xs) (hk : ∀ g, v.ownBlock = some g → w'.heap[g]? = w.heap[g]?) : w'.ownsRow B E s v n xs := by
  obtain ⟨h0, h1⟩ := h
  refine ⟨h0, ?_⟩
  rcases h1 with h1 | ⟨g, cap, cur, rfl, h2, h3, h4⟩
  · exact .inl h1
  · exact .inr ⟨g, cap, cur, rfl, h2, (hk g rfl).trans h3, h4⟩
theorem own_dn3 {w : World} {B B' E s n : Nat} {v : Value} {xs : List Value} (h : w.ownsRow B E s v n xs) (hb : B' ≤ B) : w.ownsRow B' E s v n xs :=
  ⟨h.1, h.2.imp id fun ⟨g, cap, cur, h1, h2, h3⟩ => ⟨g, cap, cur, h1, Nat.le_trans hb h2, h3⟩⟩
def GivesAd (l : List En) (f keep : Int) (e : En) (w : World) (en : Ending) (w' : World) : Prop :=
  ∃ v, en = .returned (.tuple #[v, .int .i64 (flrS l f keep e)]) ∧ w'.ownsRow w.heap.size 26 3 v (outS l keep e).length (enC (outS l keep e)).flatten ∧ Below w.heap.size w w'
set_option maxRecDepth 100000 in
set_option maxHeartbeats 2000000 in
theorem rAdd_any (v : Value) (l : List En) (f keep : Int) (e : En) (w : World) (hl : RdE w w.heap.size v l) (hn : l.length ≤ 4398046510976) (hkw : -9223372036854775808 ≤ keep ∧ keep ≤ 9223372036854775807) :
    Calls Try.prog 13 #[v, .int .i64 f, .int .i64 keep, .agg (enR e).toArray] w (GivesAd l f keep e w) := by
  obtain ⟨i0, hi0, hz0, hz1, hz2⟩ := info_parts infoEn
  obtain ⟨A, c, rfl⟩ := RdE.form hl
  have HL := Lib.hid hl
  clear hl
  obtain ⟨n, hn'⟩ : ∃ n, l.length = n := ⟨_, rfl⟩
  have HN := Lib.hid hn'
  rw [hn'] at hn HL ⊢
  clear hn'
  obtain ⟨eq, heq⟩ : ∃ z, e.1 = z := ⟨_, rfl⟩
  obtain ⟨XE, hXE⟩ : ∃ z, strOf e.2.1 = z := ⟨_, rfl⟩
  obtain ⟨ea, hea⟩ : ∃ z, e.2.2 = z := ⟨_, rfl⟩
  have HXE := Lib.hid (show ([.int .i64 e.1, .string (strOf e.2.1), .int .i64 e.2.2] : List Value) = [.int .i64 eq, .string XE, .int .i64 ea] by rw [heq, hXE, hea])
  have HQE := Lib.hid heq
  unfold enR
  rw [HXE.out]
  clear heq hXE hea
  obtain ⟨W0, hW0⟩ : ∃ W0, W0 = w.alloc (.cells #[.int .i64 eq, .string XE, .int .i64 ea] 26) := ⟨_, rfl⟩
  have HB0 := Lib.hid (show Below w.heap.size w W0 by rw [hW0]; exact (Below.refl _ _).alloc (Nat.le_refl _) _)
  have HS0 := Lib.hid (show W0.heap.size = w.heap.size + 1 by rw [hW0]; simp)
  have HR0 := Lib.hid (show W0.heap[w.heap.size]? = some (.cells #[.int .i64 eq, .string XE, .int .i64 ea] 26 (0, 0)) by rw [hW0]; exact heap_alloc_new _ _)
  have HW0 := Lib.hid hW0
  clear hW0
  by_cases hk : keep < 0
  · have p1 : decide ((keep : Int) < 0) = true := decide_eq_true hk
    go_enter Try.func13, Try.ntmps13
    go_wp2_with fail
    rw [← HW0.out]
    go_loopw [1, 10, 11] (fun fl v ii wr => ∃ i : Nat, ii = .int .i64 (i : Int) ∧ i ≤ n + 1 ∧ fl = .int .i64 (flrI l e keep f i) ∧ Aside (wr.ownsRow (w.heap.size + 1) 26 3 v (outI l e keep i).length (enC (outI l e keep i)).flatten) ∧ Aside (Below (w.heap.size + 1) W0 wr)) (fun _ _ ii _ => n + 1 - (intOf ii).toNat)
    case atStart => exact ⟨0, rfl, by omega, by rw [flr_zero], (show World.ownsRow _ _ _ _ _ _ _ by rw [out_zero]; exact World.ownsRow_nil _ _ _ _), (show Below _ _ _ from Below.refl _ _)⟩
    case round =>
      obtain ⟨i, rfl, hin, rfl, hrow, hbel⟩ := hrel
      have HRR := Lib.hid hrow.out
      have HBE := Lib.hid hbel.out
      clear hrow hbel
      obtain ⟨fi, hfi⟩ : ∃ z, flrI l e keep f i = z := ⟨_, rfl⟩
      have HFI := Lib.hid hfi
      rw [hfi]
      clear hfi
      by_cases hlt : i < n + 1
      · have t1 : decide ((i : Int) ≤ (n : Int)) = true := decide_eq_true (by omega)
        have t2 : decide (i ≤ n) = true := decide_eq_true (by omega)
        have hb0 := (HBE.out.block w.heap.size (Nat.lt_succ_self _)).trans HR0.out
        obtain ⟨y0, y1, y2⟩ := row3 hb0
        obtain ⟨W6, hW6⟩ : ∃ W6, W6 = wr.alloc (.cells #[.int .i64 eq, .string XE, .int .i64 ea] 26) := ⟨_, rfl⟩
        have hbs := HBE.out.size
        have hs0 := HS0.out
        have HB6 := Lib.hid (show Below (w.heap.size + 1) W0 W6 by rw [hW6]; exact HBE.out.alloc (by omega) _)
        have HR6 := Lib.hid (show W6.ownsRow (w.heap.size + 1) 26 3 u10 (outI l e keep i).length (enC (outI l e keep i)).flatten by rw [hW6]; exact HRR.out.alloc _)
        have HX6 := Lib.hid (show W6.heap[wr.heap.size]? = some (.cells #[.int .i64 eq, .string XE, .int .i64 ea] 26 (0, 0)) by rw [hW6]; exact heap_alloc_new _ _)
        have HFB := Lib.hid (fun g cap (h : u10 = .slice (some ⟨g, 0, none⟩) (outI l e keep i).length cap) => HRR.out.lt g (by rw [h]; rfl))
        have HW6 := Lib.hid hW6
        clear hW6 hb0
        by_cases hin2 : i < n
        · have tia : decide ((i : Int) < (n : Int)) = true := decide_eq_true (by omega)
          have t3 : decide (i < n) = true := decide_eq_true hin2
          have k0 : (0 : Int) ≤ (i : Int) := by omega
          have k1 : (i : Int) < (n : Int) := by omega
          have k2 : ((i : Int)).toNat = i := by omega
          have hil : i < l.length := by rw [HN.out]; exact hin2
          obtain ⟨g, o, c, e1, hgl, a0, a1, a2⟩ := RdE.at_ HL.out (show Below w.heap.size w W6 from HB0.out.trans (HB6.out.mono (Nat.le_succ _))) hil
          injection e1 with e1 z1 z2
          subst e1
          clear z1 z2
          rcases hx : l[i] with ⟨yq, yid, ya⟩
          rw [hx] at a0 a1 a2
          have HXI := Lib.hid (show (l ++ [e]).getD i e = (yq, yid, ya) by rw [List.getD_eq_getElem?_getD, List.getElem?_append_left hil, List.getElem?_eq_getElem hil, hx]; rfl)
          simp only at a0 a1 a2
          clear hx
          obtain ⟨YY, hYY⟩ : ∃ z, strOf yid = z := ⟨_, rfl⟩
          have HXE2 := Lib.hid hYY
          rw [hYY] at a1
          obtain ⟨x0, x1, x2⟩ := row3 HX6.out
          obtain ⟨f0, f1, f2⟩ := frz3 HX6.out
          obtain ⟨W7, hW7⟩ : ∃ W7, W7 = ((W6.setCell ⟨wr.heap.size, 0, none⟩ (.int .i64 yq)).setCell ⟨wr.heap.size, 1, none⟩ (.string YY)).setCell ⟨wr.heap.size, 2, none⟩ (.int .i64 ya) := ⟨_, rfl⟩
          have HBW := Lib.hid (show Below (w.heap.size + 1) W0 W7 by rw [hW7]; exact ((HB6.out.setCell (p := ⟨wr.heap.size, 0, none⟩) (by show _ ≤ wr.heap.size; omega) _).setCell (p := ⟨wr.heap.size, 1, none⟩) (by show _ ≤ wr.heap.size; omega) _).setCell (p := ⟨wr.heap.size, 2, none⟩) (by show _ ≤ wr.heap.size; omega) _)
          have HXR := Lib.hid (show W7.heap[wr.heap.size]? = some (.cells #[.int .i64 yq, .string YY, .int .i64 ya] 26 (0, 0)) by
            rw [hW7]
            exact rowSet rfl (rowSet rfl (rowSet rfl HX6.out)))
          have HRW := Lib.hid (show W7.ownsRow (w.heap.size + 1) 26 3 u10 (outI l e keep i).length (enC (outI l e keep i)).flatten by
            rw [hW7]
            refine own_keep HR6.out fun g hg => ?_
            have hne : g ≠ wr.heap.size := fun e => by have := (HRR.out.lt g hg).2; omega
            rw [Below.heap_setCell _ _ _ _ (by show g ≠ _; exact hne), Below.heap_setCell _ _ _ _ (by show g ≠ _; exact hne), Below.heap_setCell _ _ _ _ (by show g ≠ _; exact hne)])
          clear hYY hin2 hbs hs0
          go_upto_region 10 with (rw [← HW6.out])
          rw [← hW7]
          clear hW7 x0 x1 x2 f0 f1 f2 a0 a1 a2 y0 y1 y2
          by_cases hc : (n : Int) - (i : Int) < 0
          · exact absurd hc (by omega)
          · have tca : decide (((n : Int) - (i : Int) : Int) < (0 : Int)) = false := decide_eq_false (by omega)
            have HOUT := Lib.hid (out_stay (l := l) (e := e) (keep := keep) (i := i) (by unfold cutS; rw [HN.out]; omega))
            have HFL := Lib.hid (flr_go (l := l) (e := e) (keep := keep) (f := f) (i := i) (by unfold cutS; rw [HN.out]; omega))
            rw [HXI.out] at HFL
            have HO8 := Lib.hid (show W7.ownsRow (w.heap.size + 1) 26 3 u10 (outI l e keep (i + 1)).length (enC (outI l e keep (i + 1))).flatten by rw [HOUT.out]; exact HRW.out)
            clear hc
            obtain ⟨x0, x1, x2⟩ := row3 HXR.out
            go_wp2_with fail
            go_roundw
            case rel => exact ⟨i + 1, by go_num, by omega, by rw [HFL.out], HO8.out, HBW.out⟩
            case measure => (simp [intOf]; try omega)
        · have tia : decide ((i : Int) < (n : Int)) = false := decide_eq_false (by omega)
          have t3 : decide (i < n) = false := decide_eq_false hin2
          obtain rfl : n = i := by omega
          have HXI := Lib.hid (show (l ++ [e]).getD n e = e by rw [List.getD_eq_getElem?_getD, List.getElem?_append_right (by rw [HN.out]; exact Nat.le_refl _), HN.out, Nat.sub_self]; rfl)
          have HBW := HB6
          have HRW := HR6
          have HXR := HX6
          clear hin2 hbs hs0
          go_upto_region 10 with (rw [← HW6.out])
          clear y0 y1 y2
          by_cases hc : (n : Int) - (n : Int) < 0
          · exact absurd hc (by omega)
          · have tca : decide (((n : Int) - (n : Int) : Int) < (0 : Int)) = false := decide_eq_false (by omega)
            have HOUT := Lib.hid (out_stay (l := l) (e := e) (keep := keep) (i := n) (by unfold cutS; rw [HN.out]; omega))
            have HFL := Lib.hid (flr_go (l := l) (e := e) (keep := keep) (f := f) (i := n) (by unfold cutS; rw [HN.out]; omega))
            rw [HXI.out] at HFL
            have HO8 := Lib.hid (show W6.ownsRow (w.heap.size + 1) 26 3 u10 (outI l e keep (n + 1)).length (enC (outI l e keep (n + 1))).flatten by rw [HOUT.out]; exact HRW.out)
            clear hc
            obtain ⟨x0, x1, x2⟩ := row3 HXR.out
            go_wp2_with fail
            go_roundw
            case rel => exact ⟨n + 1, by go_num, by omega, by rw [HFL.out, HQE.out], HO8.out, HBW.out⟩
            case measure => (simp [intOf]; try omega)
      · have t1 : decide ((i : Int) ≤ (n : Int)) = false := decide_eq_false (by omega)
        have t2 : decide (i ≤ n) = false := decide_eq_false (by omega)
        obtain rfl : i = n + 1 := by omega
        have HO := Lib.hid (own_dn3 HRR.out (Nat.le_succ w.heap.size))
        have HE1 := Lib.hid (out_end l e keep)
        have HE2 := Lib.hid (flr_end l e keep f)
        have HBF := Lib.hid (HB0.out.trans (HBE.out.mono (Nat.le_succ _)))
        rw [HN.out] at HE1 HE2
        go_wp2_with fail
        go_ret2
        exact ⟨_, by rw [show fi = flrS l f keep e from HFI.out.symm.trans HE2.out]; rfl, by rw [← HE1.out]; exact HO.out, HBF.out⟩
  · have p1 : decide ((keep : Int) < 0) = false := decide_eq_false hk
    go_enter Try.func13, Try.ntmps13
    go_wp2_with fail
    rw [← HW0.out]
    go_loopw [1, 10, 11] (fun fl v ii wr => ∃ i : Nat, ii = .int .i64 (i : Int) ∧ i ≤ n + 1 ∧ fl = .int .i64 (flrI l e keep f i) ∧ Aside (wr.ownsRow (w.heap.size + 1) 26 3 v (outI l e keep i).length (enC (outI l e keep i)).flatten) ∧ Aside (Below (w.heap.size + 1) W0 wr)) (fun _ _ ii _ => n + 1 - (intOf ii).toNat)
    case atStart => exact ⟨0, rfl, by omega, by rw [flr_zero], (show World.ownsRow _ _ _ _ _ _ _ by rw [out_zero]; exact World.ownsRow_nil _ _ _ _), (show Below _ _ _ from Below.refl _ _)⟩
    case round =>
      obtain ⟨i, rfl, hin, rfl, hrow, hbel⟩ := hrel
      have HRR := Lib.hid hrow.out
      have HBE := Lib.hid hbel.out
      clear hrow hbel
      obtain ⟨fi, hfi⟩ : ∃ z, flrI l e keep f i = z := ⟨_, rfl⟩
      have HFI := Lib.hid hfi
      rw [hfi]
      clear hfi
      by_cases hlt : i < n + 1
      · have t1 : decide ((i : Int) ≤ (n : Int)) = true := decide_eq_true (by omega)
        have t2 : decide (i ≤ n) = true := decide_eq_true (by omega)
        have hb0 := (HBE.out.block w.heap.size (Nat.lt_succ_self _)).trans HR0.out
        obtain ⟨y0, y1, y2⟩ := row3 hb0
        obtain ⟨W6, hW6⟩ : ∃ W6, W6 = wr.alloc (.cells #[.int .i64 eq, .string XE, .int .i64 ea] 26) := ⟨_, rfl⟩
        have hbs := HBE.out.size
        have hs0 := HS0.out
        have HB6 := Lib.hid (show Below (w.heap.size + 1) W0 W6 by rw [hW6]; exact HBE.out.alloc (by omega) _)
        have HR6 := Lib.hid (show W6.ownsRow (w.heap.size + 1) 26 3 u10 (outI l e keep i).length (enC (outI l e keep i)).flatten by rw [hW6]; exact HRR.out.alloc _)
        have HX6 := Lib.hid (show W6.heap[wr.heap.size]? = some (.cells #[.int .i64 eq, .string XE, .int .i64 ea] 26 (0, 0)) by rw [hW6]; exact heap_alloc_new _ _)
        have HFB := Lib.hid (fun g cap (h : u10 = .slice (some ⟨g, 0, none⟩) (outI l e keep i).length cap) => HRR.out.lt g (by rw [h]; rfl))
        have HW6 := Lib.hid hW6
        clear hW6 hb0
        by_cases hin2 : i < n
        · have tia : decide ((i : Int) < (n : Int)) = true := decide_eq_true (by omega)
          have t3 : decide (i < n) = true := decide_eq_true hin2
          have k0 : (0 : Int) ≤ (i : Int) := by omega
          have k1 : (i : Int) < (n : Int) := by omega
          have k2 : ((i : Int)).toNat = i := by omega
          have hil : i < l.length := by rw [HN.out]; exact hin2
          obtain ⟨g, o, c, e1, hgl, a0, a1, a2⟩ := RdE.at_ HL.out (show Below w.heap.size w W6 from HB0.out.trans (HB6.out.mono (Nat.le_succ _))) hil
          injection e1 with e1 z1 z2
          subst e1
          clear z1 z2
          rcases hx : l[i] with ⟨yq, yid, ya⟩
          rw [hx] at a0 a1 a2
          have HXI := Lib.hid (show (l ++ [e]).getD i e = (yq, yid, ya) by rw [List.getD_eq_getElem?_getD, List.getElem?_append_left hil, List.getElem?_eq_getElem hil, hx]; rfl)
          simp only at a0 a1 a2
          clear hx
          obtain ⟨YY, hYY⟩ : ∃ z, strOf yid = z := ⟨_, rfl⟩
          have HXE2 := Lib.hid hYY
          rw [hYY] at a1
          obtain ⟨x0, x1, x2⟩ := row3 HX6.out
          obtain ⟨f0, f1, f2⟩ := frz3 HX6.out
          obtain ⟨W7, hW7⟩ : ∃ W7, W7 = ((W6.setCell ⟨wr.heap.size, 0, none⟩ (.int .i64 yq)).setCell ⟨wr.heap.size, 1, none⟩ (.string YY)).setCell ⟨wr.heap.size, 2, none⟩ (.int .i64 ya) := ⟨_, rfl⟩
          have HBW := Lib.hid (show Below (w.heap.size + 1) W0 W7 by rw [hW7]; exact ((HB6.out.setCell (p := ⟨wr.heap.size, 0, none⟩) (by show _ ≤ wr.heap.size; omega) _).setCell (p := ⟨wr.heap.size, 1, none⟩) (by show _ ≤ wr.heap.size; omega) _).setCell (p := ⟨wr.heap.size, 2, none⟩) (by show _ ≤ wr.heap.size; omega) _)
          have HXR := Lib.hid (show W7.heap[wr.heap.size]? = some (.cells #[.int .i64 yq, .string YY, .int .i64 ya] 26 (0, 0)) by
            rw [hW7]
            exact rowSet rfl (rowSet rfl (rowSet rfl HX6.out)))
          have HRW := Lib.hid (show W7.ownsRow (w.heap.size + 1) 26 3 u10 (outI l e keep i).length (enC (outI l e keep i)).flatten by
            rw [hW7]
            refine own_keep HR6.out fun g hg => ?_
            have hne : g ≠ wr.heap.size := fun e => by have := (HRR.out.lt g hg).2; omega
            rw [Below.heap_setCell _ _ _ _ (by show g ≠ _; exact hne), Below.heap_setCell _ _ _ _ (by show g ≠ _; exact hne), Below.heap_setCell _ _ _ _ (by show g ≠ _; exact hne)])
          clear hYY hin2 hbs hs0
          go_upto_region 10 with (rw [← HW6.out])
          rw [← hW7]
          clear hW7 x0 x1 x2 f0 f1 f2 a0 a1 a2 y0 y1 y2
          by_cases hc : (n : Int) - (i : Int) < keep
          · have tca : decide (((n : Int) - (i : Int) : Int) < (keep : Int)) = true := decide_eq_true (by omega)
            have HOUT := Lib.hid (out_add (l := l) (e := e) (keep := keep) (i := i) (by unfold cutS; rw [HN.out]; omega) (by rw [HN.out]; omega))
            have HFL := Lib.hid (flr_stay (l := l) (e := e) (keep := keep) (f := f) (i := i) (by unfold cutS; rw [HN.out]; omega))
            rw [HXI.out] at HOUT
            have HLE := Lib.hid (show (outI l e keep i).length ≤ i by unfold outI; rw [List.length_drop, List.length_take]; omega)
            obtain ⟨O, hO⟩ : ∃ O, outI l e keep i = O := ⟨_, rfl⟩
            rw [hO] at HOUT HRW HLE
            clear hO hc
            have hown := HRW.out
            have hbs := HBW.out.size
            have hs0 := HS0.out
            have hle := HLE.out
            obtain ⟨x0, x1, x2⟩ := row3 HXR.out
            go_wp2_with (at_builtin; go_loud (refine wpList_append_lies _ rfl _ _ 22 rfl (w.heap.size + 1) 26 i0 _ 3 32 Try.underlying22 hi0 hz0 hz1 hz2 (by rfl) (by decide) u10 O.length (enC O).flatten rfl (hown.alloc _) ⟨W7.heap.size, 0, none⟩ 1 1 [.int .i64 yq, .string YY, .int .i64 ya] rfl rfl (cells_new _ _ _) ?_ ?_ ?_ ?_ ?_ _ rfl ?_; (intro u hu; simp at hu; rcases hu with rfl | rfl | rfl <;> rfl); omega; (unfold maxLen; omega); omega; (simp; omega); intro g cap w8 hown8 hg8 hat hgl))
            have HO8 := Lib.hid (show w8.ownsRow (w.heap.size + 1) 26 3 (.slice (some ⟨g, 0, none⟩) (O.length + 1) cap) (outI l e keep (i + 1)).length (enC (outI l e keep (i + 1))).flatten by
              rw [HOUT.out, List.length_append]
              unfold enC at hown8 ⊢
              rw [List.map_append, List.flatten_append]
              have e9 : (List.map enR [(yq, yid, ya)]).flatten = [.int .i64 yq, .string YY, .int .i64 ya] := by rw [List.map_cons, List.map_nil, List.flatten_singleton, enR, HXE2.out]
              rw [e9]
              exact hown8)
            have HB8 := Lib.hid (show Below (w.heap.size + 1) W0 w8 from (HBW.out.alloc (by omega) _).grown hg8 (by simp; omega) (fun k hk => (hown.lt k hk).1))
            clear hown hown8 hg8 hat hbs hs0 hle x0 x1 x2
            go_wp2_with fail
            go_roundw
            case rel => exact ⟨i + 1, by go_num, by omega, by rw [HFL.out, HFI.out], HO8.out, HB8.out⟩
            case measure => (simp [intOf]; try omega)
          · have tca : decide (((n : Int) - (i : Int) : Int) < (keep : Int)) = false := decide_eq_false (by omega)
            have HOUT := Lib.hid (out_stay (l := l) (e := e) (keep := keep) (i := i) (by unfold cutS; rw [HN.out]; omega))
            have HFL := Lib.hid (flr_go (l := l) (e := e) (keep := keep) (f := f) (i := i) (by unfold cutS; rw [HN.out]; omega))
            rw [HXI.out] at HFL
            have HO8 := Lib.hid (show W7.ownsRow (w.heap.size + 1) 26 3 u10 (outI l e keep (i + 1)).length (enC (outI l e keep (i + 1))).flatten by rw [HOUT.out]; exact HRW.out)
            clear hc
            obtain ⟨x0, x1, x2⟩ := row3 HXR.out
            go_wp2_with fail
            go_roundw
            case rel => exact ⟨i + 1, by go_num, by omega, by rw [HFL.out], HO8.out, HBW.out⟩
            case measure => (simp [intOf]; try omega)
        · have tia : decide ((i : Int) < (n : Int)) = false := decide_eq_false (by omega)
          have t3 : decide (i < n) = false := decide_eq_false hin2
          obtain rfl : n = i := by omega
          have HXI := Lib.hid (show (l ++ [e]).getD n e = e by rw [List.getD_eq_getElem?_getD, List.getElem?_append_right (by rw [HN.out]; exact Nat.le_refl _), HN.out, Nat.sub_self]; rfl)
          have HBW := HB6
          have HRW := HR6
          have HXR := HX6
          clear hin2 hbs hs0
          go_upto_region 10 with (rw [← HW6.out])
          clear y0 y1 y2
          by_cases hc : (n : Int) - (n : Int) < keep
          · have tca : decide (((n : Int) - (n : Int) : Int) < (keep : Int)) = true := decide_eq_true (by omega)
            have tda : decide ((0 : Int) < (keep : Int)) = true := decide_eq_true (by omega)
            have HOUT := Lib.hid (out_add (l := l) (e := e) (keep := keep) (i := n) (by unfold cutS; rw [HN.out]; omega) (by rw [HN.out]; omega))
            have HFL := Lib.hid (flr_stay (l := l) (e := e) (keep := keep) (f := f) (i := n) (by unfold cutS; rw [HN.out]; omega))
            rw [HXI.out] at HOUT
            have HLE := Lib.hid (show (outI l e keep n).length ≤ n by unfold outI; rw [List.length_drop, List.length_take]; omega)
            obtain ⟨O, hO⟩ : ∃ O, outI l e keep n = O := ⟨_, rfl⟩
            rw [hO] at HOUT HRW HLE
            clear hO hc
            have hown := HRW.out
            have hbs := HBW.out.size
            have hs0 := HS0.out
            have hle := HLE.out
            obtain ⟨x0, x1, x2⟩ := row3 HXR.out
            go_wp2_with (at_builtin; go_loud (refine wpList_append_lies _ rfl _ _ 22 rfl (w.heap.size + 1) 26 i0 _ 3 32 Try.underlying22 hi0 hz0 hz1 hz2 (by rfl) (by decide) u10 O.length (enC O).flatten rfl (hown.alloc _) ⟨W6.heap.size, 0, none⟩ 1 1 [.int .i64 eq, .string XE, .int .i64 ea] rfl rfl (cells_new _ _ _) ?_ ?_ ?_ ?_ ?_ _ rfl ?_; (intro u hu; simp at hu; rcases hu with rfl | rfl | rfl <;> rfl); omega; (unfold maxLen; omega); omega; (simp; omega); intro g cap w8 hown8 hg8 hat hgl))
            have HO8 := Lib.hid (show w8.ownsRow (w.heap.size + 1) 26 3 (.slice (some ⟨g, 0, none⟩) (O.length + 1) cap) (outI l e keep (n + 1)).length (enC (outI l e keep (n + 1))).flatten by
              rw [HOUT.out, List.length_append]
              unfold enC at hown8 ⊢
              rw [List.map_append, List.flatten_append]
              have e9 : (List.map enR [e]).flatten = [.int .i64 eq, .string XE, .int .i64 ea] := by rw [List.map_cons, List.map_nil, List.flatten_singleton, enR, HXE.out]
              rw [e9]
              exact hown8)
            have HB8 := Lib.hid (show Below (w.heap.size + 1) W0 w8 from (HBW.out.alloc (by omega) _).grown hg8 (by simp; omega) (fun k hk => (hown.lt k hk).1))
            clear hown hown8 hg8 hat hbs hs0 hle x0 x1 x2
            go_wp2_with fail
            go_roundw
            case rel => exact ⟨n + 1, by go_num, by omega, by rw [HFL.out, HFI.out], HO8.out, HB8.out⟩
            case measure => (simp [intOf]; try omega)
          · have tca : decide (((n : Int) - (n : Int) : Int) < (keep : Int)) = false := decide_eq_false (by omega)
            have tda : decide ((0 : Int) < (keep : Int)) = false := decide_eq_false (by omega)
            have HOUT := Lib.hid (out_stay (l := l) (e := e) (keep := keep) (i := n) (by unfold cutS; rw [HN.out]; omega))
            have HFL := Lib.hid (flr_go (l := l) (e := e) (keep := keep) (f := f) (i := n) (by unfold cutS; rw [HN.out]; omega))
            rw [HXI.out] at HFL
            have HO8 := Lib.hid (show W6.ownsRow (w.heap.size + 1) 26 3 u10 (outI l e keep (n + 1)).length (enC (outI l e keep (n + 1))).flatten by rw [HOUT.out]; exact HRW.out)
            clear hc
            obtain ⟨x0, x1, x2⟩ := row3 HXR.out
            go_wp2_with fail
            go_roundw
            case rel => exact ⟨n + 1, by go_num, by omega, by rw [HFL.out, HQE.out], HO8.out, HBW.out⟩
            case measure => (simp [intOf]; try omega)
      · have t1 : decide ((i : Int) ≤ (n : Int)) = false := decide_eq_false (by omega)
        have t2 : decide (i ≤ n) = false := decide_eq_false (by omega)
        obtain rfl : i = n + 1 := by omega
        have HO := Lib.hid (own_dn3 HRR.out (Nat.le_succ w.heap.size))
        have HE1 := Lib.hid (out_end l e keep)
        have HE2 := Lib.hid (flr_end l e keep f)
        have HBF := Lib.hid (HB0.out.trans (HBE.out.mono (Nat.le_succ _)))
        rw [HN.out] at HE1 HE2
        go_wp2_with fail
        go_ret2
        exact ⟨_, by rw [show fi = flrS l f keep e from HFI.out.symm.trans HE2.out]; rfl, by rw [← HE1.out]; exact HO.out, HBF.out⟩
end Go.Proofs.Ytfdibmcjjclgkaa.Tl
