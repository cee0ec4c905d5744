/- Merged: PoW5. -/
import Derived.Test.YtmfpaoincgfjmaaTt35
import Derived.Test.YtmfpaoincgfjmaaTt34
import Derived.Test.YtmfpaoincgfjmaaTt33
import Derived.Test.YtmfpaoincgfjmaaTt28
import Derived.Test.YtmfpaoincgfjmaaTt7
set_option linter.unusedSimpArgs false
namespace Go.Proofs.Ytmfpaoincgfjmaa.Po
open Go.Proofs Go.RowKit
open Go.Proofs.Ytmfpaoincgfjmaa.Utf
open Go.Proofs.Ytmfpaoincgfjmaa.Sc
open Go.Proofs.Ytmfpaoincgfjmaa.Re
open Go.Proofs.Ytmfpaoincgfjmaa.Tr
open Go.Proofs.Ytmfpaoincgfjmaa.Nu
open Go.Proofs.Ytmfpaoincgfjmaa.Em

theorem strOf_app8 (a b : List UInt8) : strOf a ++ strOf b = strOf (a ++ b) := ByteArray.mk_append_mk a b
def TailV (t : List UInt8) : Prop := t = [] ∨ ∃ u, t = 47 :: u
def GoodV (h t : List UInt8) (e0 xk : Int) : Prop := e0 = 0 ∧ xk = 5 ∧ TailV t ∧ 42 ∉ h ∧ 42 ∉ t
def LoopV (f : V → Option V) (l : List V) (kk : Nat) (wr : World) (b : Nat) : Prop :=
  ∃ s acc rows, wr.heap[b]? = some (.cells #[.int .i64 5, .int .i64 0, .string ⟨#[]⟩, s, .slice none 0 0] 36 (0, 0)) ∧ NxI wr (b + 1) s acc rows ∧ Gs f l [] acc kk
def QV (wr : World) (y : V) (E : Nat) (wx : World) : Prop :=
  wr.heap.size ≤ E ∧ Below wr.heap.size wr wx ∧ ∃ lo hi, wr.heap.size ≤ lo ∧ hi ≤ wx.heap.size ∧ (E < lo ∨ hi ≤ E) ∧ ∃ cy : Array Value, wx.heap[E]? = some (.cells cy 36 (0, 0)) ∧ RdA wx lo hi y cy.toList
theorem tail_facts (t : List UInt8) : (((strOf t).toList == []) = true ∧ ((strOf t).toList != []) = false ∧ t = []) ∨ ∃ h0 : 0 < (strOf t).size, ((strOf t).toList == []) = false ∧ ((strOf t).toList != []) = true ∧ ((((strOf t)[0]'h0).toNat : Int) = 47 → TailV t) := by
  cases t with
  | nil => exact .inl ⟨by rw [strOf_list]; rfl, by rw [strOf_list]; rfl, rfl⟩
  | cons c r =>
    refine .inr ⟨by rw [strOf_size]; simp, by rw [strOf_list]; rfl, by rw [strOf_list]; rfl, fun h => .inr ⟨r, ?_⟩⟩
    have h1 : (c.toNat : Int) = 47 := h
    have h2 : c = 47 := UInt8.toNat_inj.1 (by show c.toNat = 47; omega)
    rw [h2]
theorem head_facts (t : List UInt8) (h : TailV t) : (((strOf t).toList == []) = true ∧ ((strOf t).toList != []) = false) ∨ ∃ h0 : 0 < (strOf t).size, ((strOf t).toList == []) = false ∧ ((strOf t).toList != []) = true ∧ (((strOf t)[0]'h0).toNat : Int) = 47 := by
  rcases h with rfl | ⟨u, rfl⟩
  · exact .inl ⟨by rw [strOf_list]; rfl, by rw [strOf_list]; rfl⟩
  · exact .inr ⟨by rw [strOf_size]; simp, by rw [strOf_list]; rfl, by rw [strOf_list]; rfl, rfl⟩

set_option maxRecDepth 100000 in
set_option maxHeartbeats 1000000 in
theorem stars_walk (v : V) (cv : List Value) (X Y : ByteArray) (w : World) (hv : RdA w 0 w.heap.size v cv) (zv : szA reachBytes v) (_hX : X.size ≤ reachBytes) (_hY : Y.size ≤ reachBytes) :
    Calls Try.prog 6 #[.agg cv.toArray, .string X, .string Y] w fun e w' => e = .returned (.bool true) ∧ Below w.heap.size w w' := by
  have mixed : Try.prog.follows .mixedOrders = true := by kernel_rfl
  have sv : szA 140737488355328 v := Em.szA_more (by decide) _ zv
  have sv2 : szA 4611686018427387904 v := Em.szA_more (by decide) _ zv
  have HNM := Lib.hid (nm_of v cv hv)
  clear _hX _hY
  obtain ⟨h, hh⟩ : ∃ l : List UInt8, X = strOf l := ⟨X.data.toList, rfl⟩
  obtain ⟨t, ht⟩ : ∃ l : List UInt8, Y = strOf l := ⟨Y.data.toList, rfl⟩
  have HXE := Lib.hid hh
  have HYE := Lib.hid ht
  have HFE := Lib.hid (fun (W : World) (hW : Below w.heap.size w W) => Few_is v cv 500 (by decide) W sv2 (hv.below hW (Nat.le_refl _) hW.size))
  by_cases hl : X.size ≤ 50
  · have d1 : decide ((50 : Int) < (X.size : Int)) = false := decide_eq_false (by omega)
    have d1b : decide (50 < X.size) = false := decide_eq_false (by omega)
    by_cases hl2 : Y.size ≤ 50
    · have d2 : decide ((50 : Int) < (Y.size : Int)) = false := decide_eq_false (by omega)
      have d2b : decide (50 < Y.size) = false := decide_eq_false (by omega)
      have HXS := Lib.hid hl
      have HYS := Lib.hid hl2
      have HSX := Lib.hid (fun (W : World) => hasStar_any X W (by omega))
      have HSY := Lib.hid (fun (W : World) => hasStar_any Y W (by omega))
      rw [show X.data.toList = h by rw [hh]; rfl] at HSX
      rw [show Y.data.toList = t by rw [ht]; rfl] at HSY
      have HFI := Lib.hid (fun (W : World) (hW : Below w.heap.size w W) => Find_any v cv h W (hv.below hW (Nat.le_refl _) hW.size) sv (by rw [hh, strOf_size] at hl; omega))
      rw [← hh] at HFI
      have HEA := Lib.hid (fun (hc : (cnt v : Int) ≤ 500) (p : List UInt8) (W : World) (hW : Below w.heap.size w W) (hp : p.length ≤ 200) => Each_any v cv p W (hv.below hW (Nat.le_refl _) hW.size) sv (by omega) (by omega))
      have HSZL := Lib.hid (fun (hc : (cnt v : Int) ≤ 500) (p : List UInt8) => leads_sz (B := 4611686018427387904) (p := p) HNM.out sv2 (by omega))
      have HTF := Lib.hid (tail_facts t)
      rw [← ht] at HTF
      obtain ⟨A1, c1, A2, c2, ev, -⟩ := hv.cells
      subst ev
      clear hv zv sv sv2 hl hl2 hh ht
      generalize v.k = k at *
      generalize v.n = n at *
      generalize strOf v.s = S at *
      generalize v.l.length = l1 at *
      generalize v.ms.length = m1 at *
      obtain ⟨W0, hW0⟩ : ∃ W0, W0 = (w.alloc (.cells #[.int .i64 k, .int .i64 n, .string S, .slice A1 l1 c1, .slice A2 m1 c2] 36)) := ⟨_, rfl⟩
      have HBW0 := Lib.hid (show Below w.heap.size w W0 by rw [hW0]; exact (Below.refl _ _).alloc (Nat.le_refl _) _)
      have hs0 : W0.heap.size = w.heap.size + 1 := by rw [hW0, szAl]
      have RW0_0 := Lib.hid (show W0.heap[w.heap.size]? = some (.cells #[.int .i64 k, .int .i64 n, .string S, .slice A1 l1 c1, .slice A2 m1 c2] 36 (0, 0)) by rw [hW0]; exact (show (w.alloc (.cells #[.int .i64 k, .int .i64 n, .string S, .slice A1 l1 c1, .slice A2 m1 c2] 36)).heap[w.heap.size]? = some (.cells #[.int .i64 k, .int .i64 n, .string S, .slice A1 l1 c1, .slice A2 m1 c2] 36 (0, 0)) from by rw [show w.heap.size = w.heap.size by simp]; exact heapNew _ _))
      have LW0_0 := Lib.hid (show w.heap.size < W0.heap.size by omega)
      have HW0 := Lib.hid hW0
      clear hW0 hs0
      go_enter Try.func6, Try.ntmps6
      go_wp2_with fail
      rw [← HW0.out]
      refine (awake_any8 _).mono ?_
      rintro e w1 ⟨rfl, hb⟩
      have Rw1_0 := Lib.hid (show w1.heap[w.heap.size]? = some (.cells #[.int .i64 k, .int .i64 n, .string S, .slice A1 l1 c1, .slice A2 m1 c2] 36 (0, 0)) from (hb.block _ LW0_0.out).trans RW0_0.out)
      have Lw1_0 := Lib.hid (show w.heap.size < w1.heap.size from Nat.lt_of_lt_of_le LW0_0.out hb.size)
      have HBw1 := Lib.hid (HBW0.out.trans (hb.mono HBW0.out.size))
      clear hb
      obtain ⟨⟨p0_0, p0_1, p0_2, p0_3, p0_4⟩, -⟩ := row5 Rw1_0.out
      go_wp2_with fail
      clear p0_0 p0_1 p0_2 p0_3 p0_4
      refine (HFE.out _ HBw1.out).mono ?_
      rintro e w2 ⟨⟨b, rfl, hcnt⟩, hb⟩
      have Rw2_0 := Lib.hid (show w2.heap[w.heap.size]? = some (.cells #[.int .i64 k, .int .i64 n, .string S, .slice A1 l1 c1, .slice A2 m1 c2] 36 (0, 0)) from (hb.block _ Lw1_0.out).trans Rw1_0.out)
      have Lw2_0 := Lib.hid (show w.heap.size < w2.heap.size from Nat.lt_of_lt_of_le Lw1_0.out hb.size)
      have HBw2 := Lib.hid (HBw1.out.trans (hb.mono HBw1.out.size))
      have HCNT := Lib.hid hcnt
      clear hcnt
      clear hb
      cases b with
      | false =>
        obtain ⟨⟨p0_0, p0_1, p0_2, p0_3, p0_4⟩, -⟩ := row5 Rw2_0.out
        go_wp2_with fail
        clear p0_0 p0_1 p0_2 p0_3 p0_4
        refine (awake_any8 _).mono ?_
        rintro e w3 ⟨rfl, hb⟩
        have Rw3_0 := Lib.hid (show w3.heap[w.heap.size]? = some (.cells #[.int .i64 k, .int .i64 n, .string S, .slice A1 l1 c1, .slice A2 m1 c2] 36 (0, 0)) from (hb.block _ Lw2_0.out).trans Rw2_0.out)
        have Lw3_0 := Lib.hid (show w.heap.size < w3.heap.size from Nat.lt_of_lt_of_le Lw2_0.out hb.size)
        have HBw3 := Lib.hid (HBw2.out.trans (hb.mono HBw2.out.size))
        clear hb
        go_wp2
        go_ret
        exact ⟨rfl, HBw3.out⟩
      | true =>
        have HCN := Lib.hid (HCNT.out rfl)
        clear HCNT
        obtain ⟨⟨p0_0, p0_1, p0_2, p0_3, p0_4⟩, -⟩ := row5 Rw2_0.out
        go_wp2_with fail
        clear p0_0 p0_1 p0_2 p0_3 p0_4
        refine (HFI.out _ HBw2.out).mono ?_
        rintro e w3 ⟨⟨xcs, rfl, hrx⟩, hb⟩
        have Rw3_0 := Lib.hid (show w3.heap[w.heap.size]? = some (.cells #[.int .i64 k, .int .i64 n, .string S, .slice A1 l1 c1, .slice A2 m1 c2] 36 (0, 0)) from (hb.block _ Lw2_0.out).trans Rw2_0.out)
        have Lw3_0 := Lib.hid (show w.heap.size < w3.heap.size from Nat.lt_of_lt_of_le Lw2_0.out hb.size)
        have HBw3 := Lib.hid (HBw2.out.trans (hb.mono HBw2.out.size))
        obtain ⟨r1, hr1⟩ : ∃ r, leadsV leadV h v = r := ⟨_, rfl⟩
        rw [hr1] at hrx ⊢
        obtain ⟨x, e0⟩ := r1
        have HR1 := Lib.hid hr1
        simp only at hrx ⊢
        obtain ⟨xA, xc, xB, xd, ex, -⟩ := hrx.cells
        subst ex
        clear hrx hr1
        obtain ⟨m, hm⟩ : ∃ m, x.l.length = m := ⟨_, rfl⟩
        obtain ⟨xk, hxk⟩ : ∃ xk, x.k = xk := ⟨_, rfl⟩
        rw [hm, hxk]
        have HM := Lib.hid hm
        have HXK := Lib.hid hxk
        clear hm hxk
        generalize x.n = xn at *
        generalize strOf x.s = xS at *
        generalize x.ms.length = xm at *
        clear hb
        obtain ⟨W3, hW3⟩ : ∃ W3, W3 = w3.alloc (.cells #[.int .i64 xk, .int .i64 xn, .string xS, .slice xA m xc, .slice xB xm xd] 36) := ⟨_, rfl⟩
        have hb : Below w3.heap.size w3 W3 := by rw [hW3]; exact (Below.refl _ _).alloc (Nat.le_refl _) _
        have RW3_0 := Lib.hid (show W3.heap[w.heap.size]? = some (.cells #[.int .i64 k, .int .i64 n, .string S, .slice A1 l1 c1, .slice A2 m1 c2] 36 (0, 0)) from (hb.block _ Lw3_0.out).trans Rw3_0.out)
        have LW3_0 := Lib.hid (show w.heap.size < W3.heap.size from Nat.lt_of_lt_of_le Lw3_0.out hb.size)
        have HBW3 := Lib.hid (HBw3.out.trans (hb.mono HBw3.out.size))
        have RW3_1 := Lib.hid (show W3.heap[w3.heap.size]? = some (.cells #[.int .i64 xk, .int .i64 xn, .string xS, .slice xA m xc, .slice xB xm xd] 36 (0, 0)) by rw [hW3]; exact heapNew _ _)
        have LW3_1 := Lib.hid (show w3.heap.size < W3.heap.size by rw [hW3, szAl]; exact Nat.lt_succ_self _)
        have HW3 := Lib.hid hW3
        clear hW3 hb
        have q0 := RW3_0.out
        rw [HW3.out] at q0
        obtain ⟨⟨p0_0, p0_1, p0_2, p0_3, p0_4⟩, -⟩ := row5 q0
        clear q0
        have q1 := RW3_1.out
        rw [HW3.out] at q1
        obtain ⟨⟨p1_0, p1_1, p1_2, p1_3, p1_4⟩, -⟩ := row5 q1
        clear q1
        go_upto_region 4 with fail
        rw [← HW3.out]
        clear p0_0 p0_1 p0_2 p0_3 p0_4 p1_0 p1_1 p1_2 p1_3 p1_4
        go_cut [71] (fun c wx => ∃ b : Bool, c = .bool b ∧ wx = W3 ∧ Aside (b = false → GoodV h t e0 xk))
        case first =>
          obtain ⟨⟨p0, p1, p2, p3, p4⟩, -⟩ := row5 RW3_1.out
          by_cases q1 : e0 = 0
          · obtain rfl := q1
            by_cases q2 : xk = 5
            · obtain rfl := q2
              have x9 := head_facts h (leads_head HR1.out)
              rw [← HXE.out] at x9
              rcases x9 with ⟨x1, x2⟩ | ⟨x0, x1, x2, x3⟩
              · rcases HTF.out with ⟨y1, y2, y3⟩ | ⟨y0, y1, y2, y3⟩
                · have HQ4 := Lib.hid (show TailV t from .inl y3)
                  clear y3
                  by_cases q5 : 42 ∈ h
                  · rw [decide_eq_true q5] at HSX
                    go_wp2_with fail
                    refine (HSX.out _).mono ?_
                    rintro e w4 ⟨rfl, rfl⟩
                    go_wp2_with fail
                    go_meet
                    exact ⟨_, rfl, rfl, (show _ → _ from fun hf => by cases hf)⟩
                  · rw [decide_eq_false q5] at HSX
                    by_cases q6 : 42 ∈ t
                    · rw [decide_eq_true q6] at HSY
                      go_wp2_with fail
                      refine (HSX.out _).mono ?_
                      rintro e w4 ⟨rfl, rfl⟩
                      go_wp2_with fail
                      refine (HSY.out _).mono ?_
                      rintro e w4 ⟨rfl, rfl⟩
                      go_wp2_with fail
                      go_meet
                      exact ⟨_, rfl, rfl, (show _ → _ from fun hf => by cases hf)⟩
                    · rw [decide_eq_false q6] at HSY
                      have HG := Lib.hid (show GoodV h t 0 5 from ⟨rfl, rfl, HQ4.out, q5, q6⟩)
                      clear q5 q6
                      go_wp2_with fail
                      refine (HSX.out _).mono ?_
                      rintro e w4 ⟨rfl, rfl⟩
                      go_wp2_with fail
                      refine (HSY.out _).mono ?_
                      rintro e w4 ⟨rfl, rfl⟩
                      go_wp2_with fail
                      go_meet
                      exact ⟨_, rfl, rfl, (show _ → _ from fun _ => HG.out)⟩
                · by_cases q4 : (Y[0].toNat : Int) = 47
                  · have HQ4 := Lib.hid (y3 q4)
                    have b4 : ((Y[0].toNat : Int) != 47) = false := by rw [q4]; rfl
                    clear y3 q4
                    by_cases q5 : 42 ∈ h
                    · rw [decide_eq_true q5] at HSX
                      go_wp2_with fail
                      refine (HSX.out _).mono ?_
                      rintro e w4 ⟨rfl, rfl⟩
                      go_wp2_with fail
                      go_meet
                      exact ⟨_, rfl, rfl, (show _ → _ from fun hf => by cases hf)⟩
                    · rw [decide_eq_false q5] at HSX
                      by_cases q6 : 42 ∈ t
                      · rw [decide_eq_true q6] at HSY
                        go_wp2_with fail
                        refine (HSX.out _).mono ?_
                        rintro e w4 ⟨rfl, rfl⟩
                        go_wp2_with fail
                        refine (HSY.out _).mono ?_
                        rintro e w4 ⟨rfl, rfl⟩
                        go_wp2_with fail
                        go_meet
                        exact ⟨_, rfl, rfl, (show _ → _ from fun hf => by cases hf)⟩
                      · rw [decide_eq_false q6] at HSY
                        have HG := Lib.hid (show GoodV h t 0 5 from ⟨rfl, rfl, HQ4.out, q5, q6⟩)
                        clear q5 q6
                        go_wp2_with fail
                        refine (HSX.out _).mono ?_
                        rintro e w4 ⟨rfl, rfl⟩
                        go_wp2_with fail
                        refine (HSY.out _).mono ?_
                        rintro e w4 ⟨rfl, rfl⟩
                        go_wp2_with fail
                        go_meet
                        exact ⟨_, rfl, rfl, (show _ → _ from fun _ => HG.out)⟩
                  · have b4 : ((Y[0].toNat : Int) != 47) = true := by rw [bne_iff_ne]; exact q4
                    clear y3 q4
                    go_wp2_with fail
                    go_meet
                    exact ⟨_, rfl, rfl, (show _ → _ from fun hf => by cases hf)⟩
              · have b3 : ((X[0].toNat : Int) != 47) = false := by rw [x3]; rfl
                clear x3
                rcases HTF.out with ⟨y1, y2, y3⟩ | ⟨y0, y1, y2, y3⟩
                · have HQ4 := Lib.hid (show TailV t from .inl y3)
                  clear y3
                  by_cases q5 : 42 ∈ h
                  · rw [decide_eq_true q5] at HSX
                    go_wp2_with fail
                    refine (HSX.out _).mono ?_
                    rintro e w4 ⟨rfl, rfl⟩
                    go_wp2_with fail
                    go_meet
                    exact ⟨_, rfl, rfl, (show _ → _ from fun hf => by cases hf)⟩
                  · rw [decide_eq_false q5] at HSX
                    by_cases q6 : 42 ∈ t
                    · rw [decide_eq_true q6] at HSY
                      go_wp2_with fail
                      refine (HSX.out _).mono ?_
                      rintro e w4 ⟨rfl, rfl⟩
                      go_wp2_with fail
                      refine (HSY.out _).mono ?_
                      rintro e w4 ⟨rfl, rfl⟩
                      go_wp2_with fail
                      go_meet
                      exact ⟨_, rfl, rfl, (show _ → _ from fun hf => by cases hf)⟩
                    · rw [decide_eq_false q6] at HSY
                      have HG := Lib.hid (show GoodV h t 0 5 from ⟨rfl, rfl, HQ4.out, q5, q6⟩)
                      clear q5 q6
                      go_wp2_with fail
                      refine (HSX.out _).mono ?_
                      rintro e w4 ⟨rfl, rfl⟩
                      go_wp2_with fail
                      refine (HSY.out _).mono ?_
                      rintro e w4 ⟨rfl, rfl⟩
                      go_wp2_with fail
                      go_meet
                      exact ⟨_, rfl, rfl, (show _ → _ from fun _ => HG.out)⟩
                · by_cases q4 : (Y[0].toNat : Int) = 47
                  · have HQ4 := Lib.hid (y3 q4)
                    have b4 : ((Y[0].toNat : Int) != 47) = false := by rw [q4]; rfl
                    clear y3 q4
                    by_cases q5 : 42 ∈ h
                    · rw [decide_eq_true q5] at HSX
                      go_wp2_with fail
                      refine (HSX.out _).mono ?_
                      rintro e w4 ⟨rfl, rfl⟩
                      go_wp2_with fail
                      go_meet
                      exact ⟨_, rfl, rfl, (show _ → _ from fun hf => by cases hf)⟩
                    · rw [decide_eq_false q5] at HSX
                      by_cases q6 : 42 ∈ t
                      · rw [decide_eq_true q6] at HSY
                        go_wp2_with fail
                        refine (HSX.out _).mono ?_
                        rintro e w4 ⟨rfl, rfl⟩
                        go_wp2_with fail
                        refine (HSY.out _).mono ?_
                        rintro e w4 ⟨rfl, rfl⟩
                        go_wp2_with fail
                        go_meet
                        exact ⟨_, rfl, rfl, (show _ → _ from fun hf => by cases hf)⟩
                      · rw [decide_eq_false q6] at HSY
                        have HG := Lib.hid (show GoodV h t 0 5 from ⟨rfl, rfl, HQ4.out, q5, q6⟩)
                        clear q5 q6
                        go_wp2_with fail
                        refine (HSX.out _).mono ?_
                        rintro e w4 ⟨rfl, rfl⟩
                        go_wp2_with fail
                        refine (HSY.out _).mono ?_
                        rintro e w4 ⟨rfl, rfl⟩
                        go_wp2_with fail
                        go_meet
                        exact ⟨_, rfl, rfl, (show _ → _ from fun _ => HG.out)⟩
                  · have b4 : ((Y[0].toNat : Int) != 47) = true := by rw [bne_iff_ne]; exact q4
                    clear y3 q4
                    go_wp2_with fail
                    go_meet
                    exact ⟨_, rfl, rfl, (show _ → _ from fun hf => by cases hf)⟩
            · have b2 : (xk != 5) = true := by rw [bne_iff_ne]; exact q2
              clear q2
              go_wp2_with fail
              go_meet
              exact ⟨_, rfl, rfl, (show _ → _ from fun hf => by cases hf)⟩
          · have b1 : (e0 != 0) = true := by rw [bne_iff_ne]; exact q1
            clear q1
            go_wp2_with fail
            go_meet
            exact ⟨_, rfl, rfl, (show _ → _ from fun hf => by cases hf)⟩
        case rest =>
          obtain ⟨b, rfl, rfl, hgood⟩ := hcut
          have HGOOD := Lib.hid hgood.out
          clear hgood
          cases b with
          | true =>
            go_wp2_with fail
            go_ret
            exact ⟨rfl, HBW3.out⟩
          | false =>
            obtain ⟨z1, z2, ht4, hh4, ht5⟩ := HGOOD.out rfl
            obtain rfl := z1
            obtain rfl := z2
            obtain ⟨f, c, hst⟩ := stars_plain (h := h) (t := t) HNM.out HR1.out HXK.out hh4 ht4 (by have h1 := leads_cnt HNM.out HR1.out; have h2 := HCN.out; have h3 := len_cntL x.l; have h4 := cnt_eq x; omega)
            have HST := Lib.hid hst
            have HCX := Lib.hid (leads_cnt HNM.out HR1.out)
            have HEA := Lib.hid (HEA.out HCN.out)
            have hmb : m ≤ 500 := by rw [← HM.out]; have h1 := HCX.out; have h2 := HCN.out; have h3 := len_cntL x.l; have h4 := cnt_eq x; omega
            clear hst ht4 hh4 ht5 HGOOD
            obtain ⟨T1, hT1⟩ : ∃ T1, T1 = X ++ ⟨#[47, 42]⟩ := ⟨_, rfl⟩
            obtain ⟨T2, hT2⟩ : ∃ T2, T2 = T1 ++ Y := ⟨_, rfl⟩
            have a1 : ∀ w : World, (Op.stringOp .add X ⟨#[47, 42]⟩).run Try.prog w = .ok (.string T1) w := fun w => by rw [hT1]; exact run_string_add_sum w _ _ (by have := HXS.out; show X.size + 2 ≤ 9223372036854775807; omega)
            have a2 : ∀ w : World, (Op.stringOp .add T1 Y).run Try.prog w = .ok (.string T2) w := fun w => by rw [hT2]; exact run_string_add_sum w _ _ (by rw [hT1]; have := HXS.out; have := HYS.out; rw [ByteArray.size_append]; show X.size + 2 + Y.size ≤ 9223372036854775807; omega)
            have HT2 := Lib.hid (show T2 = strOf (h ++ 47 :: 42 :: t) by rw [hT2, hT1, HXE.out, HYE.out, show (ByteArray.mk #[47, 42]) = strOf [47, 42] from rfl, strOf_app8, strOf_app8]; simp)
            clear hT1 hT2
            have HES := Lib.hid (fun (W : World) (hW : Below w.heap.size w W) => HEA.out (h ++ 47 :: 42 :: t) W hW (by have h1 := HXS.out; have h2 := HYS.out; rw [HXE.out, strOf_size] at h1; rw [HYE.out, strOf_size] at h2; simp only [List.length_append, List.length_cons]; omega))
            rw [← HT2.out] at HES
            obtain ⟨r2, hr2⟩ : ∃ r, leadsV eachV (h ++ 47 :: 42 :: t) v = r := ⟨_, rfl⟩
            rw [hr2] at HES
            have HR2 := Lib.hid hr2
            obtain ⟨sx, se⟩ := r2
            clear hr2
            obtain ⟨⟨p0_0, p0_1, p0_2, p0_3, p0_4⟩, -⟩ := row5 RW3_0.out
            obtain ⟨⟨p1_0, p1_1, p1_2, p1_3, p1_4⟩, -⟩ := row5 RW3_1.out
            go_wp2_with fail
            clear p0_0 p0_1 p0_2 p0_3 p0_4 p1_0 p1_1 p1_2 p1_3 p1_4
            refine (HES.out _ HBW3.out).mono ?_
            rintro e w4 ⟨⟨scs, rfl, hrs⟩, hb⟩
            have Rw4_0 := Lib.hid (show w4.heap[w.heap.size]? = some (.cells #[.int .i64 k, .int .i64 n, .string S, .slice A1 l1 c1, .slice A2 m1 c2] 36 (0, 0)) from (hb.block _ LW3_0.out).trans RW3_0.out)
            have Lw4_0 := Lib.hid (show w.heap.size < w4.heap.size from Nat.lt_of_lt_of_le LW3_0.out hb.size)
            have Rw4_1 := Lib.hid (show w4.heap[w3.heap.size]? = some (.cells #[.int .i64 5, .int .i64 xn, .string xS, .slice xA m xc, .slice xB xm xd] 36 (0, 0)) from (hb.block _ LW3_1.out).trans RW3_1.out)
            have Lw4_1 := Lib.hid (show w3.heap.size < w4.heap.size from Nat.lt_of_lt_of_le LW3_1.out hb.size)
            have HBw4 := Lib.hid (HBW3.out.trans (hb.mono HBW3.out.size))
            simp only at hrs ⊢
            have HRS := Lib.hid hrs.wide
            obtain ⟨sA, sc, sB, sd, es, -⟩ := hrs.cells
            subst es
            clear hrs a1 a2
            generalize sx.k = sk at *
            generalize sx.n = sn at *
            generalize strOf sx.s = sS at *
            generalize sx.l.length = sl at *
            generalize sx.ms.length = sm at *
            clear hb
            have Fw4_s := Lib.hid (Below.refl w4.heap.size w4)
            obtain ⟨W4, hW4⟩ : ∃ W4, W4 = w4.alloc (.cells #[.int .i64 sk, .int .i64 sn, .string sS, .slice sA sl sc, .slice sB sm sd] 36) := ⟨_, rfl⟩
            have hb : Below w4.heap.size w4 W4 := by rw [hW4]; exact (Below.refl _ _).alloc (Nat.le_refl _) _
            have RW4_0 := Lib.hid (show W4.heap[w.heap.size]? = some (.cells #[.int .i64 k, .int .i64 n, .string S, .slice A1 l1 c1, .slice A2 m1 c2] 36 (0, 0)) from (hb.block _ Lw4_0.out).trans Rw4_0.out)
            have LW4_0 := Lib.hid (show w.heap.size < W4.heap.size from Nat.lt_of_lt_of_le Lw4_0.out hb.size)
            have RW4_1 := Lib.hid (show W4.heap[w3.heap.size]? = some (.cells #[.int .i64 5, .int .i64 xn, .string xS, .slice xA m xc, .slice xB xm xd] 36 (0, 0)) from (hb.block _ Lw4_1.out).trans Rw4_1.out)
            have LW4_1 := Lib.hid (show w3.heap.size < W4.heap.size from Nat.lt_of_lt_of_le Lw4_1.out hb.size)
            have FW4_s := Lib.hid (Fw4_s.out.trans (hb.mono Fw4_s.out.size))
            have HBW4 := Lib.hid (HBw4.out.trans (hb.mono HBw4.out.size))
            have RW4_2 := Lib.hid (show W4.heap[w4.heap.size]? = some (.cells #[.int .i64 sk, .int .i64 sn, .string sS, .slice sA sl sc, .slice sB sm sd] 36 (0, 0)) by rw [hW4]; exact heapNew _ _)
            have LW4_2 := Lib.hid (show w4.heap.size < W4.heap.size by rw [hW4, szAl]; exact Nat.lt_succ_self _)
            have HW4 := Lib.hid hW4
            clear hW4 hb
            obtain ⟨W5, hW5⟩ : ∃ W5, W5 = W4.alloc (.cells #[.int .i64 5, .int .i64 0, .string ⟨#[]⟩, .slice none 0 0, .slice none 0 0] 36) := ⟨_, rfl⟩
            have hb : Below W4.heap.size W4 W5 := by rw [hW5]; exact (Below.refl _ _).alloc (Nat.le_refl _) _
            have RW5_0 := Lib.hid (show W5.heap[w.heap.size]? = some (.cells #[.int .i64 k, .int .i64 n, .string S, .slice A1 l1 c1, .slice A2 m1 c2] 36 (0, 0)) from (hb.block _ LW4_0.out).trans RW4_0.out)
            have LW5_0 := Lib.hid (show w.heap.size < W5.heap.size from Nat.lt_of_lt_of_le LW4_0.out hb.size)
            have RW5_1 := Lib.hid (show W5.heap[w3.heap.size]? = some (.cells #[.int .i64 5, .int .i64 xn, .string xS, .slice xA m xc, .slice xB xm xd] 36 (0, 0)) from (hb.block _ LW4_1.out).trans RW4_1.out)
            have LW5_1 := Lib.hid (show w3.heap.size < W5.heap.size from Nat.lt_of_lt_of_le LW4_1.out hb.size)
            have RW5_2 := Lib.hid (show W5.heap[w4.heap.size]? = some (.cells #[.int .i64 sk, .int .i64 sn, .string sS, .slice sA sl sc, .slice sB sm sd] 36 (0, 0)) from (hb.block _ LW4_2.out).trans RW4_2.out)
            have LW5_2 := Lib.hid (show w4.heap.size < W5.heap.size from Nat.lt_of_lt_of_le LW4_2.out hb.size)
            have FW5_s := Lib.hid (FW4_s.out.trans (hb.mono FW4_s.out.size))
            have HBW5 := Lib.hid (HBW4.out.trans (hb.mono HBW4.out.size))
            have RW5_3 := Lib.hid (show W5.heap[W4.heap.size]? = some (.cells #[.int .i64 5, .int .i64 0, .string ⟨#[]⟩, .slice none 0 0, .slice none 0 0] 36 (0, 0)) by rw [hW5]; exact heapNew _ _)
            have LW5_3 := Lib.hid (show W4.heap.size < W5.heap.size by rw [hW5, szAl]; exact Nat.lt_succ_self _)
            have HW5 := Lib.hid hW5
            clear hW5 hb
            have q0 := RW5_0.out
            rw [HW5.out] at q0
            obtain ⟨⟨p0_0, p0_1, p0_2, p0_3, p0_4⟩, -⟩ := row5 q0
            clear q0
            have q1 := RW5_1.out
            rw [HW5.out] at q1
            obtain ⟨⟨p1_0, p1_1, p1_2, p1_3, p1_4⟩, -⟩ := row5 q1
            clear q1
            have q2 := RW5_2.out
            rw [HW5.out] at q2
            obtain ⟨⟨p2_0, p2_1, p2_2, p2_3, p2_4⟩, -⟩ := row5 q2
            clear q2
            have q3 := RW5_3.out
            rw [HW5.out] at q3
            obtain ⟨⟨p3_0, p3_1, p3_2, p3_3, p3_4⟩, -⟩ := row5 q3
            clear q3
            go_wp2_with fail
            try rw [← HW4.out]
            try rw [← HW5.out]
            clear p0_0 p0_1 p0_2 p0_3 p0_4 p1_0 p1_1 p1_2 p1_3 p1_4 p2_0 p2_1 p2_2 p2_3 p2_4 p3_0 p3_1 p3_2 p3_3 p3_4
            have hsz4 : W4.heap.size = w4.heap.size + 1 := by rw [HW4.out, szAl]
            have HLT0 := Lib.hid (show w.heap.size < (w4.heap.size + 1) by rw [← hsz4]; exact LW4_0.out)
            have HLT1 := Lib.hid (show w3.heap.size < (w4.heap.size + 1) by rw [← hsz4]; exact LW4_1.out)
            have HLT2 := Lib.hid (show w4.heap.size < (w4.heap.size + 1) by rw [← hsz4]; exact LW4_2.out)
            have HW5S := Lib.hid (show W5.heap.size = (w4.heap.size + 1) + 1 by rw [HW5.out, szAl, hsz4])
            have RX3 := Lib.hid (show W5.heap[(w4.heap.size + 1)]? = some (.cells #[.int .i64 5, .int .i64 0, .string ⟨#[]⟩, .slice none 0 0, .slice none 0 0] 36 (0, 0)) by rw [← hsz4]; exact RW5_3.out)
            clear hsz4
            obtain ⟨i0, hin, hz0, hz1, hz2⟩ := info_parts Tr.infoVal
            have I0 := Lib.hid hin
            have I1 := Lib.hid hz0
            have I2 := Lib.hid hz1
            have I3 := Lib.hid hz2
            clear hin hz0 hz1 hz2
            go_loopw [12] (fun i wr => ∃ kk : Nat, i = .int .i64 kk ∧ kk ≤ m ∧ Aside (LoopV f x.l kk wr (w4.heap.size + 1)) ∧ Aside (Below (w4.heap.size + 1) W5 wr)) (fun i _ => m - (intOf i).toNat)
            case atStart => exact ⟨0, rfl, by omega, (show LoopV f x.l 0 W5 (w4.heap.size + 1) from ⟨.slice none 0 0, [], [], RX3.out, NxI.nil _ _, Gs.start (by have h1 := HCX.out; have h2 := HCN.out; have h4 := cnt_eq x; simp; omega)⟩), (show Below _ _ _ from Below.refl _ _)⟩
            case round =>
              obtain ⟨kk, rfl, hk, hlp, hbel⟩ := hrel
              have HBEL := Lib.hid hbel.out
              have HBW := Lib.hid (HBW5.out.trans (hbel.out.mono (Nat.le_of_lt HLT0.out)))
              have Rr_0 := Lib.hid (show wr.heap[w.heap.size]? = some (.cells #[.int .i64 k, .int .i64 n, .string S, .slice A1 l1 c1, .slice A2 m1 c2] 36 (0, 0)) from (hbel.out.block _ HLT0.out).trans RW5_0.out)
              have Rr_1 := Lib.hid (show wr.heap[w3.heap.size]? = some (.cells #[.int .i64 5, .int .i64 xn, .string xS, .slice xA m xc, .slice xB xm xd] 36 (0, 0)) from (hbel.out.block _ HLT1.out).trans RW5_1.out)
              have Rr_2 := Lib.hid (show wr.heap[w4.heap.size]? = some (.cells #[.int .i64 sk, .int .i64 sn, .string sS, .slice sA sl sc, .slice sB sm sd] 36 (0, 0)) from (hbel.out.block _ HLT2.out).trans RW5_2.out)
              have HWS := Lib.hid (show (w4.heap.size + 1) + 1 ≤ wr.heap.size by rw [← HW5S.out]; exact hbel.out.size)
              obtain ⟨s0, acc, rows, hrow, hnx, hgs⟩ := hlp.out
              have HROW := Lib.hid hrow
              have HNX := Lib.hid hnx
              have HGS := Lib.hid hgs
              clear hbel hlp hrow hnx hgs
              obtain ⟨⟨p0, p1, p2, p3, p4⟩, -⟩ := row5 Rr_1.out
              by_cases hlt : kk < m
              · have t1 : decide ((kk : Int) < (m : Int)) = true := decide_eq_true (by omega)
                have t2 : decide (kk < m) = true := decide_eq_true hlt
                have k0 : (0 : Int) ≤ (kk : Int) := by omega
                have k1 : (kk : Int) < (m : Int) := by omega
                have k2 : ((kk : Int)).toNat = kk := by omega
                have hkl : kk < x.l.length := by rw [HM.out]; exact hlt
                have HKL := Lib.hid hkl
                obtain ⟨P, hP⟩ : ∃ P, P = strOf (putL (kk : Int)) := ⟨_, rfl⟩
                have hPs : P.size ≤ 21 := by rw [hP, strOf_size]; exact putL_len8 kk
                obtain ⟨U1, hU1⟩ : ∃ U, U = X ++ ⟨#[47]⟩ := ⟨_, rfl⟩
                obtain ⟨U2, hU2⟩ : ∃ U, U = U1 ++ P := ⟨_, rfl⟩
                obtain ⟨U3, hU3⟩ : ∃ U, U = U2 ++ Y := ⟨_, rfl⟩
                have s1 : U1.size ≤ 51 := by rw [hU1, ByteArray.size_append]; have := HXS.out; show X.size + 1 ≤ 51; omega
                have s2 : U2.size ≤ 72 := by rw [hU2, ByteArray.size_append]; omega
                have a1 : ∀ w : World, (Op.stringOp .add X ⟨#[47]⟩).run Try.prog w = .ok (.string U1) w := fun w => by rw [hU1]; exact run_string_add_sum w _ _ (by have := HXS.out; show X.size + 1 ≤ 9223372036854775807; omega)
                have a2 : ∀ w : World, (Op.stringOp .add U1 P).run Try.prog w = .ok (.string U2) w := fun w => by rw [hU2]; exact run_string_add_sum w _ _ (by omega)
                have a3 : ∀ w : World, (Op.stringOp .add U2 Y).run Try.prog w = .ok (.string U3) w := fun w => by rw [hU3]; exact run_string_add_sum w _ _ (by have := HYS.out; omega)
                have hU : U3 = strOf (h ++ 47 :: (putL kk ++ t)) := by rw [hU3, hU2, hU1, hP, HXE.out, HYE.out, show (ByteArray.mk #[47]) = strOf [47] from rfl, strOf_app8, strOf_app8, strOf_app8]; simp
                have HEK := Lib.hid (fun (W : World) (hW : Below w.heap.size w W) => HEA.out (h ++ 47 :: (putL kk ++ t)) W hW (by have h1 := HXS.out; have h2 := HYS.out; have h3 := putL_len8 kk; rw [HXE.out, strOf_size] at h1; rw [HYE.out, strOf_size] at h2; simp only [List.length_append, List.length_cons]; omega))
                rw [← hU, HST.out.item kk hkl] at HEK
                have HPU := Lib.hid (fun (W : World) => show Calls Try.prog 20 #[.int .i64 kk] W (Gives (.string P) W) by rw [hP]; exact rPut_any 20 (kk : Int) W (by rw [Int.natAbs_natCast]; omega) (by omega) (by omega) (by omega) (by omega))
                obtain ⟨o, ho⟩ : ∃ o, f (x.l[kk]'hkl) = o := ⟨_, rfl⟩
                rw [ho] at HEK
                have HO := Lib.hid ho
                obtain ⟨ri, hri⟩ : ∃ r, itemV o c = r := ⟨_, rfl⟩
                rw [hri] at HEK
                have HRI := Lib.hid hri
                obtain ⟨y, ge⟩ := ri
                clear hP hPs hU1 hU2 hU3 s1 s2 hU ho hri
                go_wp2_with fail
                go_upto_region 11 with fail
                clear p0 p1 p2 p3 p4
                go_cut [13, 14] (fun p13 g14 wx => ∃ E, p13 = .pointer (some ⟨E, 0, none⟩) ∧ g14 = .int .i64 ge ∧ Aside (QV wr y E wx))
                case first =>
                  refine wp_region_held_drew (S := fun W' => W'.heap[w.heap.size]? = some (.cells #[.int .i64 k, .int .i64 n, .string S, .slice A1 l1 c1, .slice A2 m1 c2] 36 (0, 0))) (by kernel_rfl) (Rr_0.out) (fun hHeld => ?_)
                  refine wpAnyH_take (i := 0) (oi := { dst := some 90, op := Op.load 36 (Operand.tmp 3), type := 36, pos := "law.go:95", after := #[], guard := none }) (v := ?_) rfl (by kernel_rfl) (by kernel_rfl) (by kernel_rfl) (fun _ _ _ h => h) (Or.inl ⟨by rfl, ?_⟩) hHeld ?_
                  rotate_left
                  · intro w hSw; (try dsimp only at hSw); obtain ⟨⟨p0, p1, p2, p3, p4⟩, -⟩ := row5 hSw; go_simp; with_reducible rfl
                  try simp only [Act.put, List.setIfInBounds_toArray, List.set_cons_zero, List.set_cons_succ]
                  refine wpAnyH_take (i := 1) (oi := { dst := some 91, op := Op.move (Operand.tmp 1), type := 9, pos := "law.go:95", after := #[], guard := none }) (v := ?_) rfl (by kernel_rfl) (by kernel_rfl) (by kernel_rfl) (fun _ _ _ h => h) (Or.inl ⟨by rfl, ?_⟩) hHeld ?_
                  rotate_left
                  · intro w hSw; (try dsimp only at hSw); go_simp; with_reducible rfl
                  try simp only [Act.put, List.setIfInBounds_toArray, List.set_cons_zero, List.set_cons_succ]
                  refine wpAnyH_take (i := 2) (oi := { dst := some 92, op := Op.binOp BinOp.add 9 (Operand.tmp 91) (Operand.const (Value.string { data := #[47] })) 9, type := 9, pos := "law.go:95", after := #[{ on := 1, ground := Ground.data }], guard := none }) (v := ?_) rfl (by kernel_rfl) (by kernel_rfl) (by kernel_rfl) (fun _ _ _ h => h) (Or.inl ⟨by rfl, ?_⟩) hHeld ?_
                  rotate_left
                  · intro w hSw; (try dsimp only at hSw); go_simp; with_reducible rfl
                  try simp only [Act.put, List.setIfInBounds_toArray, List.set_cons_zero, List.set_cons_succ]
                  refine wpAnyH_take (i := 3) (oi := { dst := some 93, op := Op.move (Operand.tmp 12), type := 3, pos := "law.go:95", after := #[], guard := none }) (v := ?_) rfl (by kernel_rfl) (by kernel_rfl) (by kernel_rfl) (fun _ _ _ h => h) (Or.inl ⟨by rfl, ?_⟩) hHeld ?_
                  rotate_left
                  · intro w hSw; (try dsimp only at hSw); go_simp; with_reducible rfl
                  try simp only [Act.put, List.setIfInBounds_toArray, List.set_cons_zero, List.set_cons_succ]
                  refine wpAnyH_take (i := 6) (oi := { dst := some 96, op := Op.move (Operand.tmp 2), type := 9, pos := "law.go:95", after := #[], guard := none }) (v := ?_) rfl (by kernel_rfl) (by kernel_rfl) (by kernel_rfl) (fun _ _ _ h => h) (Or.inl ⟨by rfl, ?_⟩) hHeld ?_
                  rotate_left
                  · intro w hSw; (try dsimp only at hSw); go_simp; with_reducible rfl
                  try simp only [Act.put, List.setIfInBounds_toArray, List.set_cons_zero, List.set_cons_succ]
                  refine wpAnyH_ready (rs := [4, 12]) (by kernel_rfl) (by simp) ?_
                  refine AllReadyH.cons (o := { dst := some 94, op := Op.call { callee := Callee.value (Operand.func 20), args := #[Operand.tmp 93], argTypes := #[2] }, type := 9, pos := "law.go:95", after := #[{ on := 3, ground := Ground.data }], guard := none }) rfl (fun K hK => ?_) (AllReadyH.cons (o := { dst := some 13, op := Op.alloc 36, type := 0, pos := "law.go:95", after := #[], guard := none }) rfl (fun K hK => ?_) AllReadyH.nil)
                  · go_simp
                    go_at_call 20
                    refine (HPU.out _).mono ?_
                    rintro e u1 ⟨rfl, hb1⟩
                    have HU1 := Lib.hid (show Below wr.heap.size wr u1 from (Below.drew (Below.refl wr.heap.size wr)).trans (hb1.mono (Below.drew (Below.refl wr.heap.size wr)).size))
                    refine hK.out _ _ ((HU1.out.block w.heap.size (Nat.lt_trans HLT0.out HWS.out)).trans Rr_0.out) (fun hHeld => ?_)
                    clear hK K
                    try simp only [Act.put, List.setIfInBounds_toArray, List.set_cons_zero, List.set_cons_succ]
                    clear hb1
                    refine wpAnyH_take (i := 5) (oi := { dst := some 95, op := Op.binOp BinOp.add 9 (Operand.tmp 92) (Operand.tmp 94) 9, type := 9, pos := "law.go:95", after := #[{ on := 2, ground := Ground.data }, { on := 4, ground := Ground.data }], guard := none }) (v := ?_) rfl (by kernel_rfl) (by kernel_rfl) (by kernel_rfl) (fun _ _ _ h => h) (Or.inl ⟨by rfl, ?_⟩) hHeld ?_
                    rotate_left
                    · intro w hSw; (try dsimp only at hSw); go_simp; with_reducible rfl
                    try simp only [Act.put, List.setIfInBounds_toArray, List.set_cons_zero, List.set_cons_succ]
                    refine wpAnyH_take (i := 7) (oi := { dst := some 97, op := Op.binOp BinOp.add 9 (Operand.tmp 95) (Operand.tmp 96) 9, type := 9, pos := "law.go:95", after := #[{ on := 5, ground := Ground.data }, { on := 6, ground := Ground.data }], guard := none }) (v := ?_) rfl (by kernel_rfl) (by kernel_rfl) (by kernel_rfl) (fun _ _ _ h => h) (Or.inl ⟨by rfl, ?_⟩) hHeld ?_
                    rotate_left
                    · intro w hSw; (try dsimp only at hSw); go_simp; with_reducible rfl
                    try simp only [Act.put, List.setIfInBounds_toArray, List.set_cons_zero, List.set_cons_succ]
                    refine wpAnyH_ready (rs := [8, 12]) (by kernel_rfl) (by simp) ?_
                    refine AllReadyH.cons (o := { dst := some 98, op := Op.call { callee := Callee.value (Operand.func 19), args := #[Operand.tmp 90, Operand.tmp 97], argTypes := #[36, 9] }, type := 41, pos := "law.go:95", after := #[{ on := 0, ground := Ground.data }, { on := 7, ground := Ground.data }, { on := 4, ground := Ground.chain }], guard := none }) rfl (fun K hK => ?_) (AllReadyH.cons (o := { dst := some 13, op := Op.alloc 36, type := 0, pos := "law.go:95", after := #[], guard := none }) rfl (fun K hK => ?_) AllReadyH.nil)
                    · go_simp
                      go_at_call 19
                      refine (HEK.out _ (HBW.out.trans ((HU1.out).mono HBW.out.size))).mono ?_
                      rintro e u2 ⟨⟨cy, rfl, hcy⟩, hb2⟩
                      have HU2 := Lib.hid (show Below wr.heap.size wr u2 from (HU1.out).trans (hb2.mono (HU1.out).size))
                      obtain ⟨yA, yc, yB, yd, rfl, -⟩ := hcy.cells
                      have HCY := Lib.hid hcy
                      have HS12 := Lib.hid hb2.size
                      clear hcy hb2
                      refine hK.out _ _ ((HU2.out.block w.heap.size (Nat.lt_trans HLT0.out HWS.out)).trans Rr_0.out) (fun hHeld => ?_)
                      clear hK K
                      try simp only [Act.put, List.setIfInBounds_toArray, List.set_cons_zero, List.set_cons_succ]
                      refine wpAnyH_take (i := 9) (oi := { dst := some 89, op := Op.move (Operand.tmp 98), type := 41, pos := "law.go:95", after := #[{ on := 8, ground := Ground.data }], guard := none }) (v := ?_) rfl (by kernel_rfl) (by kernel_rfl) (by kernel_rfl) (fun _ _ _ h => h) (Or.inl ⟨by rfl, ?_⟩) hHeld ?_
                      rotate_left
                      · intro w hSw; (try dsimp only at hSw); go_simp; with_reducible rfl
                      try simp only [Act.put, List.setIfInBounds_toArray, List.set_cons_zero, List.set_cons_succ]
                      refine wpAnyH_take (i := 10) (oi := { dst := some 99, op := Op.extract (Operand.tmp 89) 0, type := 36, pos := "law.go:95", after := #[{ on := 9, ground := Ground.data }], guard := none }) (v := ?_) rfl (by kernel_rfl) (by kernel_rfl) (by kernel_rfl) (fun _ _ _ h => h) (Or.inl ⟨by rfl, ?_⟩) hHeld ?_
                      rotate_left
                      · intro w hSw; (try dsimp only at hSw); go_simp; with_reducible rfl
                      try simp only [Act.put, List.setIfInBounds_toArray, List.set_cons_zero, List.set_cons_succ]
                      refine wpAnyH_take (i := 11) (oi := { dst := some 100, op := Op.extract (Operand.tmp 89) 1, type := 23, pos := "law.go:95", after := #[{ on := 9, ground := Ground.data }, { on := 13, ground := Ground.gcOnly Departure.lateStores }], guard := none }) (v := ?_) rfl (by kernel_rfl) (by kernel_rfl) (by kernel_rfl) (fun _ _ _ h => h) (Or.inl ⟨by rfl, ?_⟩) hHeld ?_
                      rotate_left
                      · intro w hSw; (try dsimp only at hSw); go_simp; with_reducible rfl
                      try simp only [Act.put, List.setIfInBounds_toArray, List.set_cons_zero, List.set_cons_succ]
                      refine wpAnyH_ready (rs := [12]) (by kernel_rfl) (by simp) ?_
                      refine AllReadyH.cons (o := { dst := some 13, op := Op.alloc 36, type := 0, pos := "law.go:95", after := #[], guard := none }) rfl (fun K hK => ?_) AllReadyH.nil
                      have HZ := Lib.hid (heapNew u2 (.cells #[.int .i64 0, .int .i64 0, .string ⟨#[]⟩, .slice none 0 0, .slice none 0 0] 36))
                      go_simp
                      refine hK.out _ _ (heapOld hHeld _) (fun hHeld => ?_)
                      clear hK K
                      try simp only [Act.put, List.setIfInBounds_toArray, List.set_cons_zero, List.set_cons_succ]
                      refine wpAnyH_ready (rs := [13]) (by kernel_rfl) (by simp) ?_
                      refine AllReadyH.cons (o := { dst := none, op := Op.store 36 (Operand.tmp 13) (Operand.tmp 99), type := 0, pos := "law.go:95", after := #[{ on := 12, ground := Ground.data }, { on := 10, ground := Ground.data }, { on := 8, ground := Ground.chain }, { on := 0, ground := Ground.phase }, { on := 1, ground := Ground.phase }, { on := 2, ground := Ground.phase }, { on := 3, ground := Ground.phase }, { on := 4, ground := Ground.phase }, { on := 5, ground := Ground.phase }, { on := 6, ground := Ground.phase }, { on := 7, ground := Ground.phase }, { on := 8, ground := Ground.phase }, { on := 9, ground := Ground.phase }, { on := 10, ground := Ground.phase }, { on := 11, ground := Ground.textOnly Departure.lateStores }, { on := 12, ground := Ground.phase }], guard := none }) rfl (fun K hK => ?_) AllReadyH.nil
                      obtain ⟨⟨z0, z1, z2, z3, z4⟩, ⟨y0, y1, y2, y3, y4⟩⟩ := row5 HZ.out
                      go_simp
                      clear z0 z1 z2 z3 z4 y0 y1 y2 y3 y4
                      obtain ⟨W6, hW6⟩ : ∃ W6, W6 = u2.alloc (.cells #[.int .i64 y.k, .int .i64 y.n, .string (strOf y.s), .slice yA y.l.length yc, .slice yB y.ms.length yd] 36) := ⟨_, rfl⟩
                      obtain ⟨E, hE⟩ : ∃ E, E = u2.heap.size := ⟨_, rfl⟩
                      have HB6 := Lib.hid (show Below wr.heap.size wr W6 by rw [hW6]; exact HU2.out.alloc HU2.out.size _)
                      have HQ := Lib.hid (show QV wr y E W6 from ⟨by rw [hE]; exact HU2.out.size, HB6.out, u1.heap.size, u2.heap.size, HU1.out.size, by rw [hW6, szAl]; omega, .inr (by rw [hE]; exact Nat.le_refl _), #[.int .i64 y.k, .int .i64 y.n, .string (strOf y.s), .slice yA y.l.length yc, .slice yB y.ms.length yd], by rw [hW6, hE]; exact heapNew _ _, by rw [hW6]; exact HCY.out.below ((Below.refl _ _).alloc (Nat.le_refl _) _) (Nat.le_refl _) (Nat.le_refl _)⟩)
                      rw [← hW6, ← hE]
                      clear hW6 hE HZ
                      refine hK.out _ _ ((HB6.out.block w.heap.size (Nat.lt_trans HLT0.out HWS.out)).trans Rr_0.out) (fun hHeld => ?_)
                      clear hK K
                      try simp only [Act.put, List.setIfInBounds_toArray, List.set_cons_zero, List.set_cons_succ]
                      refine wpAnyH_take (i := 14) (oi := { dst := some 14, op := Op.assign (Operand.tmp 100), type := 23, pos := "law.go:95", after := #[{ on := 11, ground := Ground.data }, { on := 13, ground := Ground.chain }, { on := 0, ground := Ground.phase }, { on := 1, ground := Ground.phase }, { on := 2, ground := Ground.phase }, { on := 3, ground := Ground.phase }, { on := 4, ground := Ground.phase }, { on := 5, ground := Ground.phase }, { on := 6, ground := Ground.phase }, { on := 7, ground := Ground.phase }, { on := 8, ground := Ground.phase }, { on := 9, ground := Ground.phase }, { on := 10, ground := Ground.phase }, { on := 11, ground := Ground.phase }, { on := 12, ground := Ground.phase }, { on := 13, ground := Ground.phase }], guard := none }) (v := ?_) rfl (by kernel_rfl) (by kernel_rfl) (by kernel_rfl) (fun _ _ _ h => h) (Or.inl ⟨by rfl, ?_⟩) hHeld ?_
                      rotate_left
                      · intro w hSw; (try dsimp only at hSw); go_simp; with_reducible rfl
                      try simp only [Act.put, List.setIfInBounds_toArray, List.set_cons_zero, List.set_cons_succ]
                      refine wpAnyH_done (by kernel_rfl) ?_ _
                      clear hHeld
                      go_wp2_with fail
                      go_meet
                      exact ⟨E, rfl, rfl, HQ.out⟩
                    · have hzz := heapNew u1 (.cells #[.int .i64 0, .int .i64 0, .string ⟨#[]⟩, .slice none 0 0, .slice none 0 0] 36)
                      go_simp
                      obtain ⟨UL, hUL⟩ : ∃ UL, UL = u1.alloc (.cells #[.int .i64 0, .int .i64 0, .string ⟨#[]⟩, .slice none 0 0, .slice none 0 0] 36) := ⟨_, rfl⟩
                      obtain ⟨EB, hEB⟩ : ∃ EB, EB = u1.heap.size := ⟨_, rfl⟩
                      have HA1 := Lib.hid (show Below wr.heap.size wr UL by rw [hUL]; exact HU1.out.alloc HU1.out.size _)
                      have HZE := Lib.hid (show UL.heap[EB]? = some (.cells #[.int .i64 0, .int .i64 0, .string ⟨#[]⟩, .slice none 0 0, .slice none 0 0] 36 (0, 0)) by rw [hUL, hEB]; exact hzz)
                      have HEB := Lib.hid (show wr.heap.size ≤ EB by rw [hEB]; exact HU1.out.size)
                      have HEL := Lib.hid (show EB < UL.heap.size by rw [hUL, hEB]; simp)
                      rw [← hUL, ← hEB]
                      clear hUL hEB hzz
                      refine hK.out _ _ ((HA1.out.block w.heap.size (Nat.lt_trans HLT0.out HWS.out)).trans Rr_0.out) (fun hHeld => ?_)
                      clear hK K
                      try simp only [Act.put, List.setIfInBounds_toArray, List.set_cons_zero, List.set_cons_succ]
                      refine wpAnyH_ready (rs := [8]) (by kernel_rfl) (by simp) ?_
                      refine AllReadyH.cons (o := { dst := some 98, op := Op.call { callee := Callee.value (Operand.func 19), args := #[Operand.tmp 90, Operand.tmp 97], argTypes := #[36, 9] }, type := 41, pos := "law.go:95", after := #[{ on := 0, ground := Ground.data }, { on := 7, ground := Ground.data }, { on := 4, ground := Ground.chain }], guard := none }) rfl (fun K hK => ?_) AllReadyH.nil
                      go_simp
                      go_at_call 19
                      refine (HEK.out _ (HBW.out.trans ((HA1.out).mono HBW.out.size))).mono ?_
                      rintro e u2 ⟨⟨cy, rfl, hcy⟩, hb2⟩
                      have HU2 := Lib.hid (show Below wr.heap.size wr u2 from (HA1.out).trans (hb2.mono (HA1.out).size))
                      obtain ⟨yA, yc, yB, yd, rfl, -⟩ := hcy.cells
                      have HZ2 := Lib.hid ((hb2.block EB HEL.out).trans HZE.out)
                      have HCY := Lib.hid (show RdA u2 UL.heap.size u2.heap.size y _ from hcy)
                      have HS12 := Lib.hid (show UL.heap.size ≤ u2.heap.size from hb2.size)
                      clear hcy hb2
                      refine hK.out _ _ ((HU2.out.block w.heap.size (Nat.lt_trans HLT0.out HWS.out)).trans Rr_0.out) (fun hHeld => ?_)
                      clear hK K
                      try simp only [Act.put, List.setIfInBounds_toArray, List.set_cons_zero, List.set_cons_succ]
                      refine wpAnyH_take (i := 9) (oi := { dst := some 89, op := Op.move (Operand.tmp 98), type := 41, pos := "law.go:95", after := #[{ on := 8, ground := Ground.data }], guard := none }) (v := ?_) rfl (by kernel_rfl) (by kernel_rfl) (by kernel_rfl) (fun _ _ _ h => h) (Or.inl ⟨by rfl, ?_⟩) hHeld ?_
                      rotate_left
                      · intro w hSw; (try dsimp only at hSw); go_simp; with_reducible rfl
                      try simp only [Act.put, List.setIfInBounds_toArray, List.set_cons_zero, List.set_cons_succ]
                      refine wpAnyH_take (i := 10) (oi := { dst := some 99, op := Op.extract (Operand.tmp 89) 0, type := 36, pos := "law.go:95", after := #[{ on := 9, ground := Ground.data }], guard := none }) (v := ?_) rfl (by kernel_rfl) (by kernel_rfl) (by kernel_rfl) (fun _ _ _ h => h) (Or.inl ⟨by rfl, ?_⟩) hHeld ?_
                      rotate_left
                      · intro w hSw; (try dsimp only at hSw); go_simp; with_reducible rfl
                      try simp only [Act.put, List.setIfInBounds_toArray, List.set_cons_zero, List.set_cons_succ]
                      refine wpAnyH_take (i := 11) (oi := { dst := some 100, op := Op.extract (Operand.tmp 89) 1, type := 23, pos := "law.go:95", after := #[{ on := 9, ground := Ground.data }, { on := 13, ground := Ground.gcOnly Departure.lateStores }], guard := none }) (v := ?_) rfl (by kernel_rfl) (by kernel_rfl) (by kernel_rfl) (fun _ _ _ h => h) (Or.inl ⟨by rfl, ?_⟩) hHeld ?_
                      rotate_left
                      · intro w hSw; (try dsimp only at hSw); go_simp; with_reducible rfl
                      try simp only [Act.put, List.setIfInBounds_toArray, List.set_cons_zero, List.set_cons_succ]
                      refine wpAnyH_ready (rs := [13]) (by kernel_rfl) (by simp) ?_
                      refine AllReadyH.cons (o := { dst := none, op := Op.store 36 (Operand.tmp 13) (Operand.tmp 99), type := 0, pos := "law.go:95", after := #[{ on := 12, ground := Ground.data }, { on := 10, ground := Ground.data }, { on := 8, ground := Ground.chain }, { on := 0, ground := Ground.phase }, { on := 1, ground := Ground.phase }, { on := 2, ground := Ground.phase }, { on := 3, ground := Ground.phase }, { on := 4, ground := Ground.phase }, { on := 5, ground := Ground.phase }, { on := 6, ground := Ground.phase }, { on := 7, ground := Ground.phase }, { on := 8, ground := Ground.phase }, { on := 9, ground := Ground.phase }, { on := 10, ground := Ground.phase }, { on := 11, ground := Ground.textOnly Departure.lateStores }, { on := 12, ground := Ground.phase }], guard := none }) rfl (fun K hK => ?_) AllReadyH.nil
                      obtain ⟨⟨z0, z1, z2, z3, z4⟩, ⟨y0, y1, y2, y3, y4⟩⟩ := row5 HZ2.out
                      go_simp
                      clear z0 z1 z2 z3 z4 y0 y1 y2 y3 y4
                      obtain ⟨W6, hW6⟩ : ∃ W6, W6 = (((((u2.setCell ⟨EB, 0, none⟩ (.int .i64 y.k)).setCell ⟨EB, 1, none⟩ (.int .i64 y.n)).setCell ⟨EB, 2, none⟩ (.string (strOf y.s))).setCell ⟨EB, 3, none⟩ (.slice yA y.l.length yc)).setCell ⟨EB, 4, none⟩ (.slice yB y.ms.length yd)) := ⟨_, rfl⟩
                      obtain ⟨E, hE⟩ : ∃ E, E = EB := ⟨_, rfl⟩
                      have HB6 := Lib.hid (show Below wr.heap.size wr W6 by rw [hW6]; exact st5_below HU2.out HEB.out _ _ _ _ _)
                      have HQ := Lib.hid (show QV wr y E W6 from ⟨by rw [hE]; exact HEB.out, HB6.out, UL.heap.size, u2.heap.size, HA1.out.size, by rw [hW6]; exact Nat.le_of_eq (st5_size (w := u2) (b := EB) _ _ _ _ _).symm, .inl (by rw [hE]; exact HEL.out), #[.int .i64 y.k, .int .i64 y.n, .string (strOf y.s), .slice yA y.l.length yc, .slice yB y.ms.length yd], by rw [hW6, hE]; exact st5_row HZ2.out _ _ _ _ _, by
                        rw [hW6]
                        exact RdA.keep (fun p h1 _ => cell_of_blk (st5_other (by have := HEL.out; omega) _ _ _ _ _)) (Nat.le_refl _) (Nat.le_refl _) _ _ HCY.out⟩)
                      rw [← hW6, ← hE]
                      clear hW6 hE HZ2
                      refine hK.out _ _ ((HB6.out.block w.heap.size (Nat.lt_trans HLT0.out HWS.out)).trans Rr_0.out) (fun hHeld => ?_)
                      clear hK K
                      try simp only [Act.put, List.setIfInBounds_toArray, List.set_cons_zero, List.set_cons_succ]
                      refine wpAnyH_take (i := 14) (oi := { dst := some 14, op := Op.assign (Operand.tmp 100), type := 23, pos := "law.go:95", after := #[{ on := 11, ground := Ground.data }, { on := 13, ground := Ground.chain }, { on := 0, ground := Ground.phase }, { on := 1, ground := Ground.phase }, { on := 2, ground := Ground.phase }, { on := 3, ground := Ground.phase }, { on := 4, ground := Ground.phase }, { on := 5, ground := Ground.phase }, { on := 6, ground := Ground.phase }, { on := 7, ground := Ground.phase }, { on := 8, ground := Ground.phase }, { on := 9, ground := Ground.phase }, { on := 10, ground := Ground.phase }, { on := 11, ground := Ground.phase }, { on := 12, ground := Ground.phase }, { on := 13, ground := Ground.phase }], guard := none }) (v := ?_) rfl (by kernel_rfl) (by kernel_rfl) (by kernel_rfl) (fun _ _ _ h => h) (Or.inl ⟨by rfl, ?_⟩) hHeld ?_
                      rotate_left
                      · intro w hSw; (try dsimp only at hSw); go_simp; with_reducible rfl
                      try simp only [Act.put, List.setIfInBounds_toArray, List.set_cons_zero, List.set_cons_succ]
                      refine wpAnyH_done (by kernel_rfl) ?_ _
                      clear hHeld
                      go_wp2_with fail
                      go_meet
                      exact ⟨E, rfl, rfl, HQ.out⟩
                  · have hzz := heapNew wr (.cells #[.int .i64 0, .int .i64 0, .string ⟨#[]⟩, .slice none 0 0, .slice none 0 0] 36)
                    go_simp
                    obtain ⟨UZ, hUZ⟩ : ∃ UZ, UZ = (wr.alloc (.cells #[.int .i64 0, .int .i64 0, .string ⟨#[]⟩, .slice none 0 0, .slice none 0 0] 36)).drew := ⟨_, rfl⟩
                    obtain ⟨EB, hEB⟩ : ∃ EB, EB = wr.heap.size := ⟨_, rfl⟩
                    have HA0 := Lib.hid (show Below wr.heap.size wr UZ by rw [hUZ]; exact ((Below.refl _ _).alloc (Nat.le_refl _) _).drew)
                    have HZ0 := Lib.hid (show UZ.heap[EB]? = some (.cells #[.int .i64 0, .int .i64 0, .string ⟨#[]⟩, .slice none 0 0, .slice none 0 0] 36 (0, 0)) by rw [hUZ, hEB]; exact hzz)
                    have HEB := Lib.hid (show wr.heap.size ≤ EB by rw [hEB]; exact Nat.le_refl _)
                    have HEL0 := Lib.hid (show EB < UZ.heap.size by rw [hUZ, hEB]; show wr.heap.size < (wr.alloc _).heap.size; simp)
                    rw [← hUZ, ← hEB]
                    clear hUZ hEB hzz
                    refine hK.out _ _ ((HA0.out.block w.heap.size (Nat.lt_trans HLT0.out HWS.out)).trans Rr_0.out) (fun hHeld => ?_)
                    clear hK K
                    try simp only [Act.put, List.setIfInBounds_toArray, List.set_cons_zero, List.set_cons_succ]
                    refine wpAnyH_ready (rs := [4]) (by kernel_rfl) (by simp) ?_
                    refine AllReadyH.cons (o := { dst := some 94, op := Op.call { callee := Callee.value (Operand.func 20), args := #[Operand.tmp 93], argTypes := #[2] }, type := 9, pos := "law.go:95", after := #[{ on := 3, ground := Ground.data }], guard := none }) rfl (fun K hK => ?_) AllReadyH.nil
                    go_simp
                    go_at_call 20
                    refine (HPU.out _).mono ?_
                    rintro e u1 ⟨rfl, hb1⟩
                    have HU1 := Lib.hid (show Below wr.heap.size wr u1 from (HA0.out).trans (hb1.mono (HA0.out).size))
                    have HZE := Lib.hid ((hb1.block EB HEL0.out).trans HZ0.out)
                    have HEL := Lib.hid (Nat.lt_of_lt_of_le HEL0.out hb1.size)
                    refine hK.out _ _ ((HU1.out.block w.heap.size (Nat.lt_trans HLT0.out HWS.out)).trans Rr_0.out) (fun hHeld => ?_)
                    clear hK K
                    try simp only [Act.put, List.setIfInBounds_toArray, List.set_cons_zero, List.set_cons_succ]
                    clear hb1
                    have HA1 := Lib.hid HU1.out
                    obtain ⟨UL, hUL⟩ : ∃ UL, UL = u1 := ⟨_, rfl⟩
                    rw [← hUL] at HZE HEL HA1 HU1 hHeld ⊢
                    clear hUL
                    refine wpAnyH_take (i := 5) (oi := { dst := some 95, op := Op.binOp BinOp.add 9 (Operand.tmp 92) (Operand.tmp 94) 9, type := 9, pos := "law.go:95", after := #[{ on := 2, ground := Ground.data }, { on := 4, ground := Ground.data }], guard := none }) (v := ?_) rfl (by kernel_rfl) (by kernel_rfl) (by kernel_rfl) (fun _ _ _ h => h) (Or.inl ⟨by rfl, ?_⟩) hHeld ?_
                    rotate_left
                    · intro w hSw; (try dsimp only at hSw); go_simp; with_reducible rfl
                    try simp only [Act.put, List.setIfInBounds_toArray, List.set_cons_zero, List.set_cons_succ]
                    refine wpAnyH_take (i := 7) (oi := { dst := some 97, op := Op.binOp BinOp.add 9 (Operand.tmp 95) (Operand.tmp 96) 9, type := 9, pos := "law.go:95", after := #[{ on := 5, ground := Ground.data }, { on := 6, ground := Ground.data }], guard := none }) (v := ?_) rfl (by kernel_rfl) (by kernel_rfl) (by kernel_rfl) (fun _ _ _ h => h) (Or.inl ⟨by rfl, ?_⟩) hHeld ?_
                    rotate_left
                    · intro w hSw; (try dsimp only at hSw); go_simp; with_reducible rfl
                    try simp only [Act.put, List.setIfInBounds_toArray, List.set_cons_zero, List.set_cons_succ]
                    refine wpAnyH_ready (rs := [8]) (by kernel_rfl) (by simp) ?_
                    refine AllReadyH.cons (o := { dst := some 98, op := Op.call { callee := Callee.value (Operand.func 19), args := #[Operand.tmp 90, Operand.tmp 97], argTypes := #[36, 9] }, type := 41, pos := "law.go:95", after := #[{ on := 0, ground := Ground.data }, { on := 7, ground := Ground.data }, { on := 4, ground := Ground.chain }], guard := none }) rfl (fun K hK => ?_) AllReadyH.nil
                    go_simp
                    go_at_call 19
                    refine (HEK.out _ (HBW.out.trans ((HA1.out).mono HBW.out.size))).mono ?_
                    rintro e u2 ⟨⟨cy, rfl, hcy⟩, hb2⟩
                    have HU2 := Lib.hid (show Below wr.heap.size wr u2 from (HA1.out).trans (hb2.mono (HA1.out).size))
                    obtain ⟨yA, yc, yB, yd, rfl, -⟩ := hcy.cells
                    have HZ2 := Lib.hid ((hb2.block EB HEL.out).trans HZE.out)
                    have HCY := Lib.hid (show RdA u2 UL.heap.size u2.heap.size y _ from hcy)
                    have HS12 := Lib.hid (show UL.heap.size ≤ u2.heap.size from hb2.size)
                    clear hcy hb2
                    refine hK.out _ _ ((HU2.out.block w.heap.size (Nat.lt_trans HLT0.out HWS.out)).trans Rr_0.out) (fun hHeld => ?_)
                    clear hK K
                    try simp only [Act.put, List.setIfInBounds_toArray, List.set_cons_zero, List.set_cons_succ]
                    refine wpAnyH_take (i := 9) (oi := { dst := some 89, op := Op.move (Operand.tmp 98), type := 41, pos := "law.go:95", after := #[{ on := 8, ground := Ground.data }], guard := none }) (v := ?_) rfl (by kernel_rfl) (by kernel_rfl) (by kernel_rfl) (fun _ _ _ h => h) (Or.inl ⟨by rfl, ?_⟩) hHeld ?_
                    rotate_left
                    · intro w hSw; (try dsimp only at hSw); go_simp; with_reducible rfl
                    try simp only [Act.put, List.setIfInBounds_toArray, List.set_cons_zero, List.set_cons_succ]
                    refine wpAnyH_take (i := 10) (oi := { dst := some 99, op := Op.extract (Operand.tmp 89) 0, type := 36, pos := "law.go:95", after := #[{ on := 9, ground := Ground.data }], guard := none }) (v := ?_) rfl (by kernel_rfl) (by kernel_rfl) (by kernel_rfl) (fun _ _ _ h => h) (Or.inl ⟨by rfl, ?_⟩) hHeld ?_
                    rotate_left
                    · intro w hSw; (try dsimp only at hSw); go_simp; with_reducible rfl
                    try simp only [Act.put, List.setIfInBounds_toArray, List.set_cons_zero, List.set_cons_succ]
                    refine wpAnyH_take (i := 11) (oi := { dst := some 100, op := Op.extract (Operand.tmp 89) 1, type := 23, pos := "law.go:95", after := #[{ on := 9, ground := Ground.data }, { on := 13, ground := Ground.gcOnly Departure.lateStores }], guard := none }) (v := ?_) rfl (by kernel_rfl) (by kernel_rfl) (by kernel_rfl) (fun _ _ _ h => h) (Or.inl ⟨by rfl, ?_⟩) hHeld ?_
                    rotate_left
                    · intro w hSw; (try dsimp only at hSw); go_simp; with_reducible rfl
                    try simp only [Act.put, List.setIfInBounds_toArray, List.set_cons_zero, List.set_cons_succ]
                    refine wpAnyH_ready (rs := [13]) (by kernel_rfl) (by simp) ?_
                    refine AllReadyH.cons (o := { dst := none, op := Op.store 36 (Operand.tmp 13) (Operand.tmp 99), type := 0, pos := "law.go:95", after := #[{ on := 12, ground := Ground.data }, { on := 10, ground := Ground.data }, { on := 8, ground := Ground.chain }, { on := 0, ground := Ground.phase }, { on := 1, ground := Ground.phase }, { on := 2, ground := Ground.phase }, { on := 3, ground := Ground.phase }, { on := 4, ground := Ground.phase }, { on := 5, ground := Ground.phase }, { on := 6, ground := Ground.phase }, { on := 7, ground := Ground.phase }, { on := 8, ground := Ground.phase }, { on := 9, ground := Ground.phase }, { on := 10, ground := Ground.phase }, { on := 11, ground := Ground.textOnly Departure.lateStores }, { on := 12, ground := Ground.phase }], guard := none }) rfl (fun K hK => ?_) AllReadyH.nil
                    obtain ⟨⟨z0, z1, z2, z3, z4⟩, ⟨y0, y1, y2, y3, y4⟩⟩ := row5 HZ2.out
                    go_simp
                    clear z0 z1 z2 z3 z4 y0 y1 y2 y3 y4
                    obtain ⟨W6, hW6⟩ : ∃ W6, W6 = (((((u2.setCell ⟨EB, 0, none⟩ (.int .i64 y.k)).setCell ⟨EB, 1, none⟩ (.int .i64 y.n)).setCell ⟨EB, 2, none⟩ (.string (strOf y.s))).setCell ⟨EB, 3, none⟩ (.slice yA y.l.length yc)).setCell ⟨EB, 4, none⟩ (.slice yB y.ms.length yd)) := ⟨_, rfl⟩
                    obtain ⟨E, hE⟩ : ∃ E, E = EB := ⟨_, rfl⟩
                    have HB6 := Lib.hid (show Below wr.heap.size wr W6 by rw [hW6]; exact st5_below HU2.out HEB.out _ _ _ _ _)
                    have HQ := Lib.hid (show QV wr y E W6 from ⟨by rw [hE]; exact HEB.out, HB6.out, UL.heap.size, u2.heap.size, HA1.out.size, by rw [hW6]; exact Nat.le_of_eq (st5_size (w := u2) (b := EB) _ _ _ _ _).symm, .inl (by rw [hE]; exact HEL.out), #[.int .i64 y.k, .int .i64 y.n, .string (strOf y.s), .slice yA y.l.length yc, .slice yB y.ms.length yd], by rw [hW6, hE]; exact st5_row HZ2.out _ _ _ _ _, by
                      rw [hW6]
                      exact RdA.keep (fun p h1 _ => cell_of_blk (st5_other (by have := HEL.out; omega) _ _ _ _ _)) (Nat.le_refl _) (Nat.le_refl _) _ _ HCY.out⟩)
                    rw [← hW6, ← hE]
                    clear hW6 hE HZ2
                    refine hK.out _ _ ((HB6.out.block w.heap.size (Nat.lt_trans HLT0.out HWS.out)).trans Rr_0.out) (fun hHeld => ?_)
                    clear hK K
                    try simp only [Act.put, List.setIfInBounds_toArray, List.set_cons_zero, List.set_cons_succ]
                    refine wpAnyH_take (i := 14) (oi := { dst := some 14, op := Op.assign (Operand.tmp 100), type := 23, pos := "law.go:95", after := #[{ on := 11, ground := Ground.data }, { on := 13, ground := Ground.chain }, { on := 0, ground := Ground.phase }, { on := 1, ground := Ground.phase }, { on := 2, ground := Ground.phase }, { on := 3, ground := Ground.phase }, { on := 4, ground := Ground.phase }, { on := 5, ground := Ground.phase }, { on := 6, ground := Ground.phase }, { on := 7, ground := Ground.phase }, { on := 8, ground := Ground.phase }, { on := 9, ground := Ground.phase }, { on := 10, ground := Ground.phase }, { on := 11, ground := Ground.phase }, { on := 12, ground := Ground.phase }, { on := 13, ground := Ground.phase }], guard := none }) (v := ?_) rfl (by kernel_rfl) (by kernel_rfl) (by kernel_rfl) (fun _ _ _ h => h) (Or.inl ⟨by rfl, ?_⟩) hHeld ?_
                    rotate_left
                    · intro w hSw; (try dsimp only at hSw); go_simp; with_reducible rfl
                    try simp only [Act.put, List.setIfInBounds_toArray, List.set_cons_zero, List.set_cons_succ]
                    refine wpAnyH_done (by kernel_rfl) ?_ _
                    clear hHeld
                    go_wp2_with fail
                    go_meet
                    exact ⟨E, rfl, rfl, HQ.out⟩
                case rest =>
                  obtain ⟨E, rfl, rfl, hq⟩ := hcut
                  obtain ⟨hE, hbx, lo, hi, hlo, hhi, hap, ⟨cyl⟩, hy, hcy⟩ := hq.out
                  obtain ⟨yA, yc, yB, yd, ecy, -, hyl, -⟩ := hcy.cells
                  have ecy' : cyl = _ := ecy
                  subst ecy'
                  have HBX := Lib.hid hbx
                  have HE := Lib.hid hE
                  have HLO := Lib.hid hlo
                  have HHI := Lib.hid hhi
                  have HAP := Lib.hid hap
                  have HY := Lib.hid hy
                  have HCY := Lib.hid (show RdA wc lo hi y [.int .i64 y.k, .int .i64 y.n, .string (strOf y.s), .slice yA y.l.length yc, .slice yB y.ms.length yd] from hcy)
                  have HYL := Lib.hid hyl
                  have hrwc := (hbx.block (w4.heap.size + 1) HWS.out).trans HROW.out
                  have HRWC := Lib.hid hrwc
                  have HNXC := Lib.hid (HNX.out.keep hbx)
                  have HBELC := Lib.hid (show Below (w4.heap.size + 1) W5 wc from HBEL.out.trans (hbx.mono (Nat.le_of_lt HWS.out)))
                  obtain ⟨⟨q0, q1, q2, q3, q4⟩, -⟩ := row5 hrwc
                  obtain ⟨⟨p0, p1, p2, p3, p4⟩, -⟩ := row5 hy
                  clear hq hE hbx hlo hhi hap hy hcy hyl hrwc ecy
                  have HBWX := Lib.hid (show Below w.heap.size w wc from HBW.out.trans (HBX.out.mono HBW.out.size))
                  rcases o with _ | y'
                  · have hri2 := HRI.out
                    unfold itemV at hri2
                    injection hri2 with h1 h2
                    obtain rfl := h2
                    have hse : se = c := by have h3 := HST.out.none (Nat.lt_of_le_of_lt (Nat.zero_le _) HKL.out) (HGS.out.none HKL.out HO.out); rw [HR2.out] at h3; exact h3
                    have b1 : (c != 0) = true := by rw [bne_iff_ne]; exact HST.out.c0
                    have b2 : (se == c) = true := by rw [hse]; exact beq_self_eq_true c
                    clear hse h1
                    go_wp2_with fail
                    go_ret
                    exact ⟨rfl, HBWX.out⟩
                  · have hri2 := HRI.out
                    unfold itemV at hri2
                    injection hri2 with h1 h2
                    obtain rfl := h2
                    obtain rfl := h1
                    have HGS2 := Lib.hid (HGS.out.step HKL.out HO.out (HST.out.le kk HKL.out y' HO.out))
                    have hacc := HGS.out.sz
                    have hdc := drop_cnt HKL.out
                    have hpos := cnt_pos x.l[kk]
                    have hle := HST.out.le kk HKL.out y' HO.out
                    have HACC := Lib.hid (show acc.length + 1 ≤ 1000000000000 by omega)
                    have HACC2 := Lib.hid (show acc.length + (flatV y').length ≤ 1000000000000 by omega)
                    clear hacc hdc hpos hle
                    by_cases h5 : y'.k = 5
                    · have HFL := Lib.hid (show flatV y' = y'.l from if_pos h5)
                      rw [HFL.out] at HGS2 HACC2
                      obtain ⟨rows2, r1, r2, r3, r4, r5, r6⟩ := sub_rowsI HYL.out
                      have HX5 := Lib.hid (And.intro r1 (And.intro r2 (And.intro r3 (And.intro r4 (And.intro r5 r6)))))
                      have b5 : (y'.k == 5) = true := by rw [h5]; rfl
                      clear r1 r2 r3 r4 r5 r6 h5
                      go_wp2_with (at_builtin; refine wpList_append_lay rfl _ _ 33 rfl ((w4.heap.size + 1) + 1) 36 i0 _ 5 80 Try.underlying33 I0.out I1.out I2.out I3.out rfl (by decide) s0 acc.length rows.flatten rfl HNXC.out.own yA y'.l.length yc rows2.flatten rfl ?qc1 (fun e => HX5.out.2.2.2.2.1 e) HX5.out.2.2.2.1 HX5.out.2.2.1 ?qc2 ?qc3 ?qb ?_)
                      case qc1 => rw [flat_len 5 rows2 HX5.out.2.1, HX5.out.1]
                      case qc2 => have := HACC2.out; unfold maxLen; omega
                      case qc3 => have := HACC2.out; omega
                      case qb => have h1 := HBX.out.size; have h2 := HWS.out; omega
                      intro s1 w7 hown1 hgrow1 hat1
                      have HN7 := Lib.hid (HNX.out.app HBX.out HX5.out.1 HX5.out.2.1 HLO.out HHI.out HX5.out.2.2.2.2.2 HWS.out hown1 hgrow1 hat1)
                      have hr7 := (hgrow1.block (w4.heap.size + 1) (by have h1 := HBX.out.size; have h2 := HWS.out; omega) (fun e => by have := (HNXC.out.own.lt _ e.symm).1; omega)).trans HRWC.out
                      have HR7 := Lib.hid hr7
                      have HB7 := Lib.hid (show Below (w4.heap.size + 1) W5 w7 from HBELC.out.grown hgrow1 (by have h1 := HBX.out.size; have h2 := HWS.out; omega) (fun g hg => by have := (HNXC.out.own.lt g hg).1; omega))
                      obtain ⟨⟨z0, z1, z2, z3, z4⟩, ⟨v0, v1, v2, v3, v4⟩⟩ := row5 hr7
                      clear hr7 hown1 hgrow1 hat1 HX5 q0 q1 q2 q3 q4 p0 p1 p2 p3 p4
                      obtain ⟨A7, N7, c7, e7⟩ : ∃ A N c, s1 = .slice A N c := by
                        obtain ⟨A, c, e⟩ := HN7.out.slice
                        exact ⟨A, _, c, e⟩
                      subst e7
                      go_wp2_with fail
                      go_roundw
                      case rel => exact ⟨kk + 1, by go_num, by omega, (show LoopV f x.l (kk + 1) _ (w4.heap.size + 1) from ⟨.slice A7 N7 c7, _, _, rowSet w7 (w4.heap.size + 1) 3 _ _ (.slice A7 N7 c7) HR7.out, HN7.out.set _ (Nat.lt_succ_self _) _, HGS2.out⟩), (show Below _ _ _ from HB7.out.setCell (p := ⟨(w4.heap.size + 1), 3, none⟩) (Nat.le_refl _) _)⟩
                      case measure => simp [intOf]; omega
                    · have HFL := Lib.hid (show flatV y' = [y'] from if_neg h5)
                      rw [HFL.out] at HGS2
                      have b5 : (y'.k == 5) = false := beq_eq_false_iff_ne.2 h5
                      obtain ⟨UW, hUW⟩ : ∃ UW, UW = wc.alloc (.cells #[.int .i64 y'.k, .int .i64 y'.n, .string (strOf y'.s), .slice yA y'.l.length yc, .slice yB y'.ms.length yd] 36) := ⟨_, rfl⟩
                      have HUB := Lib.hid (show Below wr.heap.size wr UW by rw [hUW]; exact HBX.out.alloc HBX.out.size _)
                      have HUC := Lib.hid (show Below wc.heap.size wc UW by rw [hUW]; exact (Below.refl _ _).alloc (Nat.le_refl _) _)
                      have HNEW := Lib.hid (show ∀ j u, [Value.int .i64 y'.k, .int .i64 y'.n, .string (strOf y'.s), .slice yA y'.l.length yc, .slice yB y'.ms.length yd][j]? = some u → UW.cell? ((⟨wc.heap.size, 0, none⟩ : Addr).add j) = some u from fun j u hu => by rw [hUW]; exact cells_new wc _ #[Value.int .i64 y'.k, .int .i64 y'.n, .string (strOf y'.s), .slice yA y'.l.length yc, .slice yB y'.ms.length yd] j u hu)
                      have HUW := Lib.hid hUW
                      clear hUW h5
                      go_wp2_with (at_builtin; rw [← HUW.out]; refine wpList_append_lay rfl _ _ 33 rfl ((w4.heap.size + 1) + 1) 36 i0 _ 5 80 Try.underlying33 I0.out I1.out I2.out I3.out rfl (by decide) s0 acc.length rows.flatten rfl (HNXC.out.keep HUC.out).own (some ⟨wc.heap.size, 0, none⟩) 1 1 [Value.int .i64 y'.k, .int .i64 y'.n, .string (strOf y'.s), .slice yA y'.l.length yc, .slice yB y'.ms.length yd] rfl rfl (fun e => by cases e) (fun ad e j u hu => by injection e with e; subst e; exact HNEW.out j u hu) ?qd3 ?qc2 ?qc3 ?qb ?_)
                      case qd3 => simp [Value.oneCell']
                      case qc2 => have := HACC.out; unfold maxLen; omega
                      case qc3 => have := HACC.out; omega
                      case qb => have h1 := HUB.out.size; have h2 := HWS.out; omega
                      intro s1 w7 hown1 hgrow1 hat1
                      have HN7 := Lib.hid (HNX.out.app (ls := [y']) (rows2 := [[Value.int .i64 y'.k, .int .i64 y'.n, .string (strOf y'.s), .slice yA y'.l.length yc, .slice yB y'.ms.length yd]]) HUB.out rfl (by simp) HLO.out (Nat.le_trans HHI.out HUC.out.size) (fun q h1 h2 => by
                        have hq0 : q = 0 := by simp at h1; exact h1
                        subst hq0
                        exact HCY.out.below HUC.out HHI.out (Nat.le_refl _)) HWS.out (by simpa using hown1) hgrow1 hat1)
                      have hr7 := (hgrow1.block (w4.heap.size + 1) (by have h1 := HUB.out.size; have h2 := HWS.out; omega) (fun e => by have := ((HNXC.out.keep HUC.out).own.lt _ e.symm).1; omega)).trans ((HUC.out.block (w4.heap.size + 1) (by have h1 := HBX.out.size; have h2 := HWS.out; omega)).trans HRWC.out)
                      have HR7 := Lib.hid hr7
                      have HB7 := Lib.hid (show Below (w4.heap.size + 1) W5 w7 from (HBELC.out.trans (HUC.out.mono (by have h1 := HBX.out.size; have h2 := HWS.out; omega))).grown hgrow1 (by have h1 := HUB.out.size; have h2 := HWS.out; omega) (fun g hg => by have := ((HNXC.out.keep HUC.out).own.lt g hg).1; omega))
                      obtain ⟨⟨z0, z1, z2, z3, z4⟩, ⟨v0, v1, v2, v3, v4⟩⟩ := row5 hr7
                      clear hr7 hown1 hgrow1 hat1 q0 q1 q2 q3 q4 p0 p1 p2 p3 p4
                      obtain ⟨A7, N7, c7, e7⟩ : ∃ A N c, s1 = .slice A N c := by
                        obtain ⟨A, c, e⟩ := HN7.out.slice
                        exact ⟨A, _, c, e⟩
                      subst e7
                      go_wp2_with fail
                      go_roundw
                      case rel => exact ⟨kk + 1, by go_num, by omega, (show LoopV f x.l (kk + 1) _ (w4.heap.size + 1) from ⟨.slice A7 N7 c7, _, _, rowSet w7 (w4.heap.size + 1) 3 _ _ (.slice A7 N7 c7) HR7.out, HN7.out.set _ (Nat.lt_succ_self _) _, HGS2.out⟩), (show Below _ _ _ from HB7.out.setCell (p := ⟨(w4.heap.size + 1), 3, none⟩) (Nat.le_refl _) _)⟩
                      case measure => simp [intOf]; omega
              · have t1 : decide ((kk : Int) < (m : Int)) = false := decide_eq_false (by omega)
                have t2 : decide (kk < m) = false := decide_eq_false hlt
                obtain ⟨g, hg1, hg2⟩ := HGS.out.end_ (by rw [HM.out]; omega)
                rw [List.nil_append] at hg2
                obtain rfl := hg2
                obtain ⟨gA, gc, rfl⟩ := HNX.out.slice
                have hsm := HST.out.some acc hg1
                rw [HR2.out, HM.out] at hsm
                have HSM := Lib.hid hsm
                clear hg1 hsm
                by_cases hz : m = 0 ∧ se = 80
                · obtain ⟨rfl, rfl⟩ := hz
                  go_wp2_with fail
                  go_ret
                  exact ⟨rfl, HBW.out⟩
                · have hse : (sx, se) = (lsV acc, (0 : Int)) := by
                    rcases HSM.out with h | h
                    · exact h
                    · exact absurd h hz
                  injection hse with h1 h2
                  obtain rfl := h2
                  have HSX := Lib.hid h1
                  have HSZ2 := Lib.hid (show szA 4611686018427387904 (lsV acc) by rw [← h1]; have h3 := HSZL.out HCN.out (h ++ 47 :: 42 :: t); rw [HR2.out] at h3; exact h3)
                  have HFS := Lib.hid (FW5_s.out.trans (HBEL.out.mono (Nat.le_of_lt HLT2.out)))
                  have HC := Lib.hid (same_self (lsV acc) [.int .i64 sk, .int .i64 sn, .string sS, .slice sA sl sc, .slice sB sm sd] [.int .i64 5, .int .i64 0, .string ⟨#[]⟩, .slice gA acc.length gc, .slice none 0 0] wr HSZ2.out (by rw [← h1]; exact HRS.out.below HFS.out (Nat.le_refl _) HFS.out.size) HNX.out.rd)
                  clear h1 hz
                  obtain ⟨⟨q0, q1, q2, q3, q4⟩, -⟩ := row5 Rr_2.out
                  obtain ⟨⟨z0, z1, z2, z3, z4⟩, -⟩ := row5 HROW.out
                  by_cases hm0 : m = 0
                  · obtain rfl := hm0
                    go_wp2_with fail
                    clear p0 p1 p2 p3 p4 q0 q1 q2 q3 q4 z0 z1 z2 z3 z4
                    refine HC.out.mono ?_
                    rintro e w9 ⟨rfl, hb9⟩
                    have HB9 := Lib.hid (HBW.out.trans (hb9.mono HBW.out.size))
                    clear hb9
                    go_wp2_with fail
                    go_ret
                    exact ⟨rfl, HB9.out⟩
                  · have b0 : ((m : Int) == 0) = false := beq_eq_false_iff_ne.2 (by omega)
                    have b0' : (m == 0) = false := beq_eq_false_iff_ne.2 hm0
                    go_wp2_with fail
                    clear p0 p1 p2 p3 p4 q0 q1 q2 q3 q4 z0 z1 z2 z3 z4
                    refine HC.out.mono ?_
                    rintro e w9 ⟨rfl, hb9⟩
                    have HB9 := Lib.hid (HBW.out.trans (hb9.mono HBW.out.size))
                    clear hb9
                    go_wp2_with fail
                    go_ret
                    exact ⟨rfl, HB9.out⟩
    · have d2 : decide ((50 : Int) < (Y.size : Int)) = true := decide_eq_true (by omega)
      have d2b : decide (50 < Y.size) = true := decide_eq_true (by omega)
      obtain ⟨A1, c1, A2, c2, ev, -⟩ := hv.cells
      subst ev
      clear hv zv sv sv2 hl hl2 hh ht HXE HYE HNM
      generalize v.k = k at *
      generalize v.n = n at *
      generalize strOf v.s = S at *
      generalize v.l.length = l1 at *
      generalize v.ms.length = m1 at *
      obtain ⟨W0, hW0⟩ : ∃ W0, W0 = (w.alloc (.cells #[.int .i64 k, .int .i64 n, .string S, .slice A1 l1 c1, .slice A2 m1 c2] 36)) := ⟨_, rfl⟩
      have HBW0 := Lib.hid (show Below w.heap.size w W0 by rw [hW0]; exact (Below.refl _ _).alloc (Nat.le_refl _) _)
      have hs0 : W0.heap.size = w.heap.size + 1 := by rw [hW0, szAl]
      have RW0_0 := Lib.hid (show W0.heap[w.heap.size]? = some (.cells #[.int .i64 k, .int .i64 n, .string S, .slice A1 l1 c1, .slice A2 m1 c2] 36 (0, 0)) by rw [hW0]; exact (show (w.alloc (.cells #[.int .i64 k, .int .i64 n, .string S, .slice A1 l1 c1, .slice A2 m1 c2] 36)).heap[w.heap.size]? = some (.cells #[.int .i64 k, .int .i64 n, .string S, .slice A1 l1 c1, .slice A2 m1 c2] 36 (0, 0)) from by rw [show w.heap.size = w.heap.size by simp]; exact heapNew _ _))
      have LW0_0 := Lib.hid (show w.heap.size < W0.heap.size by omega)
      have HW0 := Lib.hid hW0
      clear hW0 hs0
      go_enter Try.func6, Try.ntmps6
      go_wp2_with fail
      rw [← HW0.out]
      refine (awake_any8 _).mono ?_
      rintro e w1 ⟨rfl, hb⟩
      have Rw1_0 := Lib.hid (show w1.heap[w.heap.size]? = some (.cells #[.int .i64 k, .int .i64 n, .string S, .slice A1 l1 c1, .slice A2 m1 c2] 36 (0, 0)) from (hb.block _ LW0_0.out).trans RW0_0.out)
      have Lw1_0 := Lib.hid (show w.heap.size < w1.heap.size from Nat.lt_of_lt_of_le LW0_0.out hb.size)
      have HBw1 := Lib.hid (HBW0.out.trans (hb.mono HBW0.out.size))
      clear hb
      obtain ⟨⟨p0_0, p0_1, p0_2, p0_3, p0_4⟩, -⟩ := row5 Rw1_0.out
      go_wp2_with fail
      clear p0_0 p0_1 p0_2 p0_3 p0_4
      refine (HFE.out _ HBw1.out).mono ?_
      rintro e w2 ⟨⟨b, rfl, hcnt⟩, hb⟩
      have Rw2_0 := Lib.hid (show w2.heap[w.heap.size]? = some (.cells #[.int .i64 k, .int .i64 n, .string S, .slice A1 l1 c1, .slice A2 m1 c2] 36 (0, 0)) from (hb.block _ Lw1_0.out).trans Rw1_0.out)
      have Lw2_0 := Lib.hid (show w.heap.size < w2.heap.size from Nat.lt_of_lt_of_le Lw1_0.out hb.size)
      have HBw2 := Lib.hid (HBw1.out.trans (hb.mono HBw1.out.size))
      have HCNT := Lib.hid hcnt
      clear hcnt
      clear hb
      cases b with
      | false =>
        obtain ⟨⟨p0_0, p0_1, p0_2, p0_3, p0_4⟩, -⟩ := row5 Rw2_0.out
        go_wp2_with fail
        clear p0_0 p0_1 p0_2 p0_3 p0_4
        refine (awake_any8 _).mono ?_
        rintro e w3 ⟨rfl, hb⟩
        have Rw3_0 := Lib.hid (show w3.heap[w.heap.size]? = some (.cells #[.int .i64 k, .int .i64 n, .string S, .slice A1 l1 c1, .slice A2 m1 c2] 36 (0, 0)) from (hb.block _ Lw2_0.out).trans Rw2_0.out)
        have Lw3_0 := Lib.hid (show w.heap.size < w3.heap.size from Nat.lt_of_lt_of_le Lw2_0.out hb.size)
        have HBw3 := Lib.hid (HBw2.out.trans (hb.mono HBw2.out.size))
        clear hb
        go_wp2
        go_ret
        exact ⟨rfl, HBw3.out⟩
      | true =>
        obtain ⟨⟨p0_0, p0_1, p0_2, p0_3, p0_4⟩, -⟩ := row5 Rw2_0.out
        go_wp2_with fail
        clear p0_0 p0_1 p0_2 p0_3 p0_4
        refine (awake_any8 _).mono ?_
        rintro e w3 ⟨rfl, hb⟩
        have Rw3_0 := Lib.hid (show w3.heap[w.heap.size]? = some (.cells #[.int .i64 k, .int .i64 n, .string S, .slice A1 l1 c1, .slice A2 m1 c2] 36 (0, 0)) from (hb.block _ Lw2_0.out).trans Rw2_0.out)
        have Lw3_0 := Lib.hid (show w.heap.size < w3.heap.size from Nat.lt_of_lt_of_le Lw2_0.out hb.size)
        have HBw3 := Lib.hid (HBw2.out.trans (hb.mono HBw2.out.size))
        clear hb
        go_wp2
        go_ret
        exact ⟨rfl, HBw3.out⟩
  · have d1 : decide ((50 : Int) < (X.size : Int)) = true := decide_eq_true (by omega)
    have d1b : decide (50 < X.size) = true := decide_eq_true (by omega)
    obtain ⟨A1, c1, A2, c2, ev, -⟩ := hv.cells
    subst ev
    clear hv zv sv sv2 hl hh ht HXE HYE HNM
    generalize v.k = k at *
    generalize v.n = n at *
    generalize strOf v.s = S at *
    generalize v.l.length = l1 at *
    generalize v.ms.length = m1 at *
    obtain ⟨W0, hW0⟩ : ∃ W0, W0 = (w.alloc (.cells #[.int .i64 k, .int .i64 n, .string S, .slice A1 l1 c1, .slice A2 m1 c2] 36)) := ⟨_, rfl⟩
    have HBW0 := Lib.hid (show Below w.heap.size w W0 by rw [hW0]; exact (Below.refl _ _).alloc (Nat.le_refl _) _)
    have hs0 : W0.heap.size = w.heap.size + 1 := by rw [hW0, szAl]
    have RW0_0 := Lib.hid (show W0.heap[w.heap.size]? = some (.cells #[.int .i64 k, .int .i64 n, .string S, .slice A1 l1 c1, .slice A2 m1 c2] 36 (0, 0)) by rw [hW0]; exact (show (w.alloc (.cells #[.int .i64 k, .int .i64 n, .string S, .slice A1 l1 c1, .slice A2 m1 c2] 36)).heap[w.heap.size]? = some (.cells #[.int .i64 k, .int .i64 n, .string S, .slice A1 l1 c1, .slice A2 m1 c2] 36 (0, 0)) from by rw [show w.heap.size = w.heap.size by simp]; exact heapNew _ _))
    have LW0_0 := Lib.hid (show w.heap.size < W0.heap.size by omega)
    have HW0 := Lib.hid hW0
    clear hW0 hs0
    go_enter Try.func6, Try.ntmps6
    go_wp2_with fail
    rw [← HW0.out]
    refine (awake_any8 _).mono ?_
    rintro e w1 ⟨rfl, hb⟩
    have Rw1_0 := Lib.hid (show w1.heap[w.heap.size]? = some (.cells #[.int .i64 k, .int .i64 n, .string S, .slice A1 l1 c1, .slice A2 m1 c2] 36 (0, 0)) from (hb.block _ LW0_0.out).trans RW0_0.out)
    have Lw1_0 := Lib.hid (show w.heap.size < w1.heap.size from Nat.lt_of_lt_of_le LW0_0.out hb.size)
    have HBw1 := Lib.hid (HBW0.out.trans (hb.mono HBW0.out.size))
    clear hb
    obtain ⟨⟨p0_0, p0_1, p0_2, p0_3, p0_4⟩, -⟩ := row5 Rw1_0.out
    go_wp2_with fail
    clear p0_0 p0_1 p0_2 p0_3 p0_4
    refine (HFE.out _ HBw1.out).mono ?_
    rintro e w2 ⟨⟨b, rfl, hcnt⟩, hb⟩
    have Rw2_0 := Lib.hid (show w2.heap[w.heap.size]? = some (.cells #[.int .i64 k, .int .i64 n, .string S, .slice A1 l1 c1, .slice A2 m1 c2] 36 (0, 0)) from (hb.block _ Lw1_0.out).trans Rw1_0.out)
    have Lw2_0 := Lib.hid (show w.heap.size < w2.heap.size from Nat.lt_of_lt_of_le Lw1_0.out hb.size)
    have HBw2 := Lib.hid (HBw1.out.trans (hb.mono HBw1.out.size))
    have HCNT := Lib.hid hcnt
    clear hcnt
    clear hb
    cases b with
    | false =>
      obtain ⟨⟨p0_0, p0_1, p0_2, p0_3, p0_4⟩, -⟩ := row5 Rw2_0.out
      go_wp2_with fail
      clear p0_0 p0_1 p0_2 p0_3 p0_4
      refine (awake_any8 _).mono ?_
      rintro e w3 ⟨rfl, hb⟩
      have Rw3_0 := Lib.hid (show w3.heap[w.heap.size]? = some (.cells #[.int .i64 k, .int .i64 n, .string S, .slice A1 l1 c1, .slice A2 m1 c2] 36 (0, 0)) from (hb.block _ Lw2_0.out).trans Rw2_0.out)
      have Lw3_0 := Lib.hid (show w.heap.size < w3.heap.size from Nat.lt_of_lt_of_le Lw2_0.out hb.size)
      have HBw3 := Lib.hid (HBw2.out.trans (hb.mono HBw2.out.size))
      clear hb
      go_wp2
      go_ret
      exact ⟨rfl, HBw3.out⟩
    | true =>
      obtain ⟨⟨p0_0, p0_1, p0_2, p0_3, p0_4⟩, -⟩ := row5 Rw2_0.out
      go_wp2_with fail
      clear p0_0 p0_1 p0_2 p0_3 p0_4
      refine (awake_any8 _).mono ?_
      rintro e w3 ⟨rfl, hb⟩
      have Rw3_0 := Lib.hid (show w3.heap[w.heap.size]? = some (.cells #[.int .i64 k, .int .i64 n, .string S, .slice A1 l1 c1, .slice A2 m1 c2] 36 (0, 0)) from (hb.block _ Lw2_0.out).trans Rw2_0.out)
      have Lw3_0 := Lib.hid (show w.heap.size < w3.heap.size from Nat.lt_of_lt_of_le Lw2_0.out hb.size)
      have HBw3 := Lib.hid (HBw2.out.trans (hb.mono HBw2.out.size))
      clear hb
      go_wp2
      go_ret
      exact ⟨rfl, HBw3.out⟩
end Go.Proofs.Ytmfpaoincgfjmaa.Po
