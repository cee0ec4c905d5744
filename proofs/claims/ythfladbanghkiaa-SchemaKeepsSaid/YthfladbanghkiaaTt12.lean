/- Merged: SmW1 SmW4. -/
import Derived.Test.YthfladbanghkiaaTt11
import Derived.ArgAppend
import Derived.Deep.RegionHeld3
namespace Go.Proofs.Ythfladbanghkiaa.Sm
open Go.Proofs Go.RowKit
open Go.Proofs.Ythfladbanghkiaa.Utf
open Go.Proofs.Ythfladbanghkiaa.Nu
open Go.Proofs.Ythfladbanghkiaa.Wo

theorem props_few (l : List UInt8) : (propsS l).length ≤ 701 := by
  unfold propsS
  split
  · simp
  · rw [lineP, List.length_map]
    have := spl_cnt 59 (tabS l)
    have := tab_len l
    omega
end Go.Proofs.Ythfladbanghkiaa.Sm
namespace Go.Proofs.Ythfladbanghkiaa.Sm
open Go.Proofs Go.RowKit
open Go.Proofs.Ythfladbanghkiaa.Utf
open Go.Proofs.Ythfladbanghkiaa.Nu
open Go.Proofs.Ythfladbanghkiaa.Wo

theorem own_row {w : World} {B E s n : Nat} {v : Value} {xs : List Value} (h : w.ownsRow B E s v n xs) (h0 : 0 < n) :
    ∃ g c cur, v = .slice (some ⟨g, 0, none⟩) n c ∧ B ≤ g ∧ g < w.heap.size ∧ w.heap[g]? = some (.cells cur E (0, 0)) ∧ n * s ≤ cur.size ∧ cur.toList.take (n * s) = xs := by
  have hlt := h.lt
  rcases h.2 with ⟨_, e⟩ | ⟨g, cap, cur, rfl, h1, h2, h3, h4, h5, h6⟩
  · omega
  · exact ⟨g, cap, cur, rfl, h1, (hlt g rfl).2, h2, by rw [h5]; exact Nat.mul_le_mul_right _ h3, h6⟩
theorem cell_in {w : World} {g i : Nat} {cur : Array Value} {E : TypeId} (h : w.heap[g]? = some (.cells cur E (0, 0))) (hi : i < cur.size) : w.cell? ⟨g, i, none⟩ = some cur[i] ∧ w.frozen? ⟨g, i, none⟩ = false := by
  refine ⟨?_, ?_⟩
  · simp [World.cell?, h, hi]
  · simp [World.frozen?, h]
theorem typ_get (n : Int) (_h0 : 0 ≤ n) (_h1 : n ≤ 255) : ∃ q : Nat, n % 20 = q ∧ q < 20 := ⟨(n % 20).toNat, by omega, by omega⟩

set_option maxRecDepth 100000 in
set_option maxHeartbeats 4000000 in
theorem keeps_walk (n : Int) (w : World) (hn : (Lit.int .u8 n).wf = true) :
    Calls Try.prog 6 #[.int .u8 n] w fun e w' => e = .returned (.bool true) ∧ Below w.heap.size w w' := by
  have hn2 : 0 ≤ n ∧ n ≤ 255 := by
    have h1 : IntKind.u8.min ≤ n ∧ n ≤ IntKind.u8.max := by simpa [Lit.wf] using hn
    rwa [show IntKind.u8.min = 0 from rfl, show IntKind.u8.max = 255 from rfl] at h1
  obtain ⟨q, hq, hq20⟩ := typ_get n hn2.1 hn2.2
  have hqi : (q : Int) < 20 := by omega
  have hq0 : (0 : Int) ≤ (q : Int) := by omega
  have hqn : ((q : Int)).toNat = q := by omega
  have hql : q < typS.length := by rw [typS_len]; exact hq20
  have C1 := Lib.hid (fun wx => pTypes_any wx)
  have C3 := Lib.hid (fun wx => awake_any13 wx)
  have C4 := Lib.hid (fun wx => pProps_any (strOf typS[q]) wx)
  have C5 := Lib.hid (fun wx => rProps_any (strOf typS[q]) wx)
  have C6 := Lib.hid (fun (p : Pr) wx => same_any (strOf p.nm) (strOf p.ar) (strOf p.df) p.fm p.mu wx)
  have HAT := Lib.hid (strK_at typS q hql)
  rw [strOf_data] at C4 C5
  have HFEW := Lib.hid (props_few typS[q])
  generalize propsS typS[q] = L at *
  generalize strOf typS[q] = Z at *
  clear hql
  go_enter Try.func6, Try.ntmps6
  go_wp2_with fail
  refine (C1.out _).mono ?_
  rintro e x1 ⟨v, rfl, hown, hb1⟩
  obtain ⟨gt, ct, cur, rfl, hgt0, hgt, hblk, hcs, htk⟩ := own_row hown (by rw [typS_len]; omega)
  have HB1 := Lib.hid hb1
  rw [typS_len] at hcs htk ⊢
  have HTK := Lib.hid htk
  clear hown hb1 htk
  go_wp2_with fail
  refine (C3.out _).mono ?_
  rintro e x2 ⟨rfl, hb2⟩
  have HBK := Lib.hid ((hb2.block gt hgt).trans hblk)
  have HB2 := Lib.hid (HB1.out.trans (hb2.mono HB1.out.size))
  have hgt2 : gt < x2.heap.size := Nat.lt_of_lt_of_le hgt hb2.size
  clear hb2 hblk
  have hqc : q < cur.size := by omega
  obtain ⟨pq, -⟩ := cell_in HBK.out hqc
  have hz : cur[q] = .string Z := by
    have h := HTK.out
    have h2 : (cur.toList.take (20 * 1))[q]? = some (.string Z) := by rw [h]; exact HAT.out
    rw [List.getElem?_take, if_pos (by omega), Array.getElem?_toList, Array.getElem?_eq_getElem hqc] at h2
    exact Option.some.inj h2
  rw [hz] at pq
  clear hz
  go_wp2_with fail
  refine (C4.out _).mono ?_
  rintro e x3 ⟨vl, rfl, hown, hb3⟩
  obtain ⟨A, cl, rfl, -⟩ := RdP.of_own hown
  obtain ⟨N, hN⟩ : ∃ N, L.length = N := ⟨_, rfl⟩
  have HN := Lib.hid hN
  rw [hN] at hown ⊢
  have hN2 : N ≤ 701 := by have := HFEW.out; omega
  have HROW := Lib.hid (show 0 < N → ∃ gl cur', A = some ⟨gl, 0, none⟩ ∧ x2.heap.size ≤ gl ∧ x3.heap[gl]? = some (.cells cur' 31 (0, 0)) ∧ N * 5 ≤ cur'.size from fun h0 => by
    obtain ⟨gl, c2, cu, e, h1, h2, h3, h4, h5⟩ := own_row hown h0
    injection e with e1 _ _
    exact ⟨gl, cu, e1, h1, h3, h4⟩)
  have HB3 := Lib.hid hb3
  clear hown hb3 hN pq
  go_wp2_with fail
  go_loopw [6] (fun i wr => ∃ k : Nat, i = .int .i64 (k : Int) ∧ k ≤ N ∧ Aside (Below x2.heap.size x2 wr) ∧ Aside (0 < N → ∃ gl cur', A = some ⟨gl, 0, none⟩ ∧ x2.heap.size ≤ gl ∧ wr.heap[gl]? = some (.cells cur' 31 (0, 0)) ∧ N * 5 ≤ cur'.size)) (fun i _ => N - (intOf i).toNat)
  case atStart => exact ⟨0, rfl, by omega, HB3.out, HROW.out⟩
  case round =>
    obtain ⟨k, rfl, hk, hbel, hrow⟩ := hrel
    have HBE := Lib.hid hbel.out
    have HRW := Lib.hid hrow.out
    clear hbel hrow
    by_cases hlt : k < N
    · have t1 : decide ((k : Int) < (N : Int)) = true := decide_eq_true (by omega)
      have t2 : decide (k < N) = true := decide_eq_true hlt
      have k0 : (0 : Int) ≤ (k : Int) := by omega
      have k1 : (k : Int) < (N : Int) := by omega
      have k2 : ((k : Int)).toNat = k := by omega
      obtain ⟨gl, cu, rfl, hgl, hbl, hsz⟩ := HRW.out (by omega)
      obtain ⟨pc, pf⟩ := cell_in hbl (i := k * 5) (by omega)
      have HBE2 := Lib.hid (HBE.out.setCell (p := ⟨gl, k * 5, none⟩) hgl (.string ⟨#[115, 112, 111, 105, 108, 116]⟩))
      have HRW2 := Lib.hid (show 0 < N → ∃ gl' cur', some (⟨gl, 0, none⟩ : Addr) = some ⟨gl', 0, none⟩ ∧ x2.heap.size ≤ gl' ∧ (wr.setCell ⟨gl, k * 5, none⟩ (.string ⟨#[115, 112, 111, 105, 108, 116]⟩)).heap[gl']? = some (.cells cur' 31 (0, 0)) ∧ N * 5 ≤ cur'.size from fun _ =>
        ⟨gl, _, rfl, hgl, rowSt wr gl (k * 5) _ _ (.string ⟨#[115, 112, 111, 105, 108, 116]⟩) hbl, by simpa using hsz⟩)
      generalize cu[k * 5] = old at *
      clear hbl hsz
      go_wp2_with fail
      go_roundw
      case rel => exact ⟨k + 1, by go_num, by omega, HBE2.out, HRW2.out⟩
      case measure => simp [intOf]; omega
    · have t1 : decide ((k : Int) < (N : Int)) = false := decide_eq_false (by omega)
      have t2 : decide (k < N) = false := decide_eq_false hlt
      have hbt := (HBE.out.block gt hgt2).trans HBK.out
      obtain ⟨pt, pf⟩ := cell_in hbt (i := 0) (by omega)
      have HB5 := Lib.hid (show Below w.heap.size w (wr.setCell ⟨gt, 0, none⟩ (.string ⟨#[115, 112, 111, 105, 108, 116]⟩)) from (HB2.out.trans (HBE.out.mono HB2.out.size)).setCell (p := ⟨gt, 0, none⟩) hgt0 _)
      generalize cur[0] = old at *
      clear hbt
      go_wp2_with fail
      generalize wr.setCell ⟨gt, 0, none⟩ (.string ⟨#[115, 112, 111, 105, 108, 116]⟩) = W5 at *
      refine (C4.out _).mono ?_
      rintro e y4 ⟨v4, rfl, hown, hb⟩
      have HY4 := Lib.hid (HB5.out.trans (hb.mono HB5.out.size))
      have HR4a := Lib.hid (RdP.of_own hown)
      obtain ⟨A4, c4, rfl, -⟩ := RdP.of_own hown
      rw [HN.out]
      clear hown hb pt pf
      go_wp2_with fail
      refine (C5.out _).mono ?_
      rintro e y5 ⟨v5, rfl, hown, hb⟩
      have HY5 := Lib.hid (HY4.out.trans (hb.mono HY4.out.size))
      have HR4b := Lib.hid ((HR4a.out.below hb (Nat.le_refl _)).more hb.size)
      have HR5a := Lib.hid (RdP.of_own hown)
      obtain ⟨A5, c5, rfl, -⟩ := RdP.of_own hown
      rw [HN.out]
      clear hown hb
      go_wp2_with fail
      refine (C1.out _).mono ?_
      rintro e y6 ⟨v6, rfl, hown, hb⟩
      have HY6 := Lib.hid (HY5.out.trans (hb.mono HY5.out.size))
      have HR4 := Lib.hid ((HR4b.out.below hb (Nat.le_refl _)).more hb.size)
      have HR5 := Lib.hid ((HR5a.out.below hb (Nat.le_refl _)).more hb.size)
      obtain ⟨g6, c6, rfl, hg6, h6c⟩ := own_blk' hown (by rw [strK_len, typS_len]; omega)
      have p6 := h6c 0 _ (strK_at typS 0 (by rw [typS_len]; omega))
      rw [strK_len, typS_len]
      have e6 : ((strOf typS[0]).toList != [67, 97, 114, 100]) = false := by rw [strOf_list]; rfl
      have e6' : (strOf typS[0]).toList = [67, 97, 114, 100] := by rw [strOf_list]; rfl
      generalize strOf typS[0] = K6 at *
      clear hown hb h6c
      go_wp2_with fail
      go_loopw [9] (fun i wq => ∃ j : Nat, i = .int .i64 (j : Int) ∧ j ≤ N ∧ Aside (Below y6.heap.size y6 wq)) (fun i _ => N - (intOf i).toNat)
      case atStart => exact ⟨0, rfl, by omega, (show Below _ _ _ from Below.refl _ _)⟩
      case round =>
        obtain ⟨j, rfl, hj, hbq⟩ := hrel
        have HBQ := Lib.hid hbq.out
        clear hbq
        by_cases hjt : j < N
        · have t3 : decide ((j : Int) < (N : Int)) = true := decide_eq_true (by omega)
          have t4 : decide (j < N) = true := decide_eq_true hjt
          have j0 : (0 : Int) ≤ (j : Int) := by omega
          have j1 : (j : Int) < (N : Int) := by omega
          have j2 : ((j : Int)).toNat = j := by omega
          have hjL : j < L.length := by rw [HN.out]; exact hjt
          obtain ⟨g1, cc1, hA1, hg1, hp1⟩ := HR4.out.at_ j hjL
          obtain ⟨g2, cc2, hA2, hg2, hp2⟩ := HR5.out.at_ j hjL
          injection hA1 with hA1 n1 m1
          injection hA2 with hA2 n2 m2
          clear n1 m1 n2 m2
          subst hA1 hA2
          have CS := Lib.hid (fun wx => C6.out L[j] wx)
          have q0 := (HBQ.out.cell (p := ⟨g1, j * 5, none⟩) hg1).trans hp1.1
          have q1 := (HBQ.out.cell (p := ⟨g1, j * 5 + 1, none⟩) hg1).trans hp1.2.1
          have q2 := (HBQ.out.cell (p := ⟨g1, j * 5 + 2, none⟩) hg1).trans hp1.2.2.1
          have q3 := (HBQ.out.cell (p := ⟨g1, j * 5 + 3, none⟩) hg1).trans hp1.2.2.2.1
          have q4 := (HBQ.out.cell (p := ⟨g1, j * 5 + 4, none⟩) hg1).trans hp1.2.2.2.2
          have r0 := (HBQ.out.cell (p := ⟨g2, j * 5, none⟩) hg2).trans hp2.1
          have r1 := (HBQ.out.cell (p := ⟨g2, j * 5 + 1, none⟩) hg2).trans hp2.2.1
          have r2 := (HBQ.out.cell (p := ⟨g2, j * 5 + 2, none⟩) hg2).trans hp2.2.2.1
          have r3 := (HBQ.out.cell (p := ⟨g2, j * 5 + 3, none⟩) hg2).trans hp2.2.2.2.1
          have r4 := (HBQ.out.cell (p := ⟨g2, j * 5 + 4, none⟩) hg2).trans hp2.2.2.2.2
          clear hp1 hp2
          generalize strOf L[j].nm = p0 at *
          generalize L[j].fm = p1 at *
          generalize strOf L[j].ar = p2 at *
          generalize L[j].mu = p3 at *
          generalize strOf L[j].df = p4 at *
          have gq1 : g1 < wr.heap.size := Nat.lt_of_lt_of_le hg1 HBQ.out.size
          have gq2 : g2 < wr.heap.size := Nat.lt_of_lt_of_le hg2 HBQ.out.size
          go_wp2_with fail
          go_region_held3 (fun w' => w'.cell? ⟨g1, j * 5, none⟩ = some (.string p0) ∧ w'.cell? ⟨g1, j * 5 + 1, none⟩ = some (.int .i64 p1) ∧ w'.cell? ⟨g1, j * 5 + 2, none⟩ = some (.string p2) ∧ w'.cell? ⟨g1, j * 5 + 3, none⟩ = some (.bool p3) ∧ w'.cell? ⟨g1, j * 5 + 4, none⟩ = some (.string p4) ∧ w'.cell? ⟨g2, j * 5, none⟩ = some (.string p0) ∧ w'.cell? ⟨g2, j * 5 + 1, none⟩ = some (.int .i64 p1) ∧ w'.cell? ⟨g2, j * 5 + 2, none⟩ = some (.string p2) ∧ w'.cell? ⟨g2, j * 5 + 3, none⟩ = some (.bool p3) ∧ w'.cell? ⟨g2, j * 5 + 4, none⟩ = some (.string p4))
            (first | go_keep | exact ⟨(hb5.cell (p := ⟨g1, j * 5, none⟩) (by simpa using gq1)).trans q0, (hb5.cell (p := ⟨g1, j * 5 + 1, none⟩) (by simpa using gq1)).trans q1, (hb5.cell (p := ⟨g1, j * 5 + 2, none⟩) (by simpa using gq1)).trans q2, (hb5.cell (p := ⟨g1, j * 5 + 3, none⟩) (by simpa using gq1)).trans q3, (hb5.cell (p := ⟨g1, j * 5 + 4, none⟩) (by simpa using gq1)).trans q4, (hb5.cell (p := ⟨g2, j * 5, none⟩) (by simpa using gq2)).trans r0, (hb5.cell (p := ⟨g2, j * 5 + 1, none⟩) (by simpa using gq2)).trans r1, (hb5.cell (p := ⟨g2, j * 5 + 2, none⟩) (by simpa using gq2)).trans r2, (hb5.cell (p := ⟨g2, j * 5 + 3, none⟩) (by simpa using gq2)).trans r3, (hb5.cell (p := ⟨g2, j * 5 + 4, none⟩) (by simpa using gq2)).trans r4⟩)
            ((go_at_call 12; refine (CS.out _).mono ?_; rintro e w5 ⟨rfl, hb5⟩))
          have HB5 := Lib.hid (HBQ.out.drew.trans (hb5.mono (by have := HBQ.out.size; simpa using this)))
          clear hb5
          go_wp2_with fail
          go_roundw
          case rel => exact ⟨j + 1, by go_num, by omega, HB5.out⟩
          case measure => simp [intOf]; omega
        · have t3 : decide ((j : Int) < (N : Int)) = false := decide_eq_false (by omega)
          have t4 : decide (j < N) = false := decide_eq_false hjt
          go_wp2_with fail
          go_ret
          exact ⟨rfl, HY6.out.trans (HBQ.out.mono HY6.out.size)⟩
end Go.Proofs.Ythfladbanghkiaa.Sm
