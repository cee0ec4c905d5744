import Derived.Test.YtcbiaflbncfliaaDoorEmR4
import Derived.Test.YtcbiaflbncfliaaDoorEmR3
/- Contracts of the document's answer: write, of maps and of all values. Written by tools/genEmR4.py. -/
namespace Go.Proofs.YtcbiaflbncfliaaDoor.Em
open Go.RowKit
open Go.Proofs.YtcbiaflbncfliaaDoor.Utf
open Go.Proofs.YtcbiaflbncfliaaDoor.Sc
open Go.Proofs.YtcbiaflbncfliaaDoor.Re
open Go.Proofs.YtcbiaflbncfliaaDoor.Ch (Tab)
open Go.Proofs.YtcbiaflbncfliaaDoor.Nu (putL)

set_option maxRecDepth 100000 in
set_option maxHeartbeats 16000000 in
theorem write_map (lo hi B : Nat) (hB0 : 0 < B) (hhi : hi ≤ B) (v : V) (hk : v.k = 6) (hbnd : v.ms.length ≤ 4611686018427387904) (hnm : ∀ x ∈ v.ns, okS x ∧ x.length ≤ 1048576) (IH : ∀ v' ∈ v.ms, WO lo hi B v') : WO lo hi B v := by
  intro cs F o X w hR hO hT hB hr
  obtain ⟨i0, hi1, hz0, hz1, hz2⟩ := info_parts infoU8
  obtain ⟨A, c, A2, c2, rfl, hn, _, hL⟩ := hR.cells
  obtain ⟨k, n, s, l, ns, ms⟩ := v
  simp only [V.k, V.n, V.s, V.l, V.ns, V.ms] at *
  subst hk
  have hE : emV (.mk 6 n s l ns ms) = 123 :: ((emM ns ms).drop 1 ++ [125]) := by rw [emV, if_neg (by decide), if_neg (by decide), if_neg (by decide), if_neg (by decide), if_neg (by decide)]
  rw [hE] at hr ⊢
  simp only [List.length_cons, List.length_append, List.length_nil] at hr
  have HR := Lib.hid hr
  have hrX : X.length + 1 ≤ 100000000000000 := by omega
  obtain ⟨nl, hnl⟩ : ∃ z, ms.length = z := ⟨_, rfl⟩
  rw [hnl] at hbnd ⊢
  have HN := Lib.hid hnl
  have HL := Lib.hid (fun h => hL (by rw [hnl]; exact h))
  have HNN := Lib.hid hn
  have HNM := Lib.hid hnm
  clear hL hnl hE hr hR hn hnm
  generalize strOf s = S at *
  generalize l.length = ll at *
  have HW := Lib.hid IH; clear IH
  have HT := Lib.hid hT; clear hT
  obtain ⟨W1, hW1⟩ : ∃ z, z = w.alloc (.cells #[.int .i64 6, .int .i64 n, .string S, .slice A ll c, .slice A2 nl c2] 25) := ⟨_, rfl⟩
  have hb1 : Below w.heap.size w W1 := by rw [hW1]; exact (Below.refl _ _).alloc (Nat.le_refl _) _
  have hs1 : W1.heap.size = w.heap.size + 1 := by rw [hW1, szAlloc']
  have hbx : W1.heap[w.heap.size]? = some (.cells #[.int .i64 6, .int .i64 n, .string S, .slice A ll c, .slice A2 nl c2] 25 (0, 0)) := by rw [hW1]; exact heap_alloc_new w _
  have hOm : Own B (fun q => F q ∨ q = w.heap.size) o X W1 := by rw [hW1]; exact hO.more _
  have hkW := hO.kp hb1 hB
  have hbA : Below W1.heap.size W1 (W1.alloc (.cells #[.int .u8 123] 5)) := (Below.refl _ _).alloc (Nat.le_refl _) _
  have hO9 := hOm.keep hbA
  have hkA := hOm.kp hbA (by omega)
  have hnews : ∀ j u, ([.int .u8 123] : List Value)[j]? = some u → (W1.alloc (.cells #[.int .u8 123] 5)).cell? ((⟨w.heap.size + 1, 0, none⟩ : Addr).add j) = some u := fun j u hu => by
    have := cells_new W1 5 #[.int .u8 123] j u (by simpa using hu)
    rwa [hs1] at this
  have hs2 : B ≤ (W1.alloc (.cells #[.int .u8 123] 5)).heap.size := by rw [szAlloc']; omega
  have HKW := Lib.hid hkW; clear hkW
  have HKA := Lib.hid hkA; clear hkA
  have HBX := Lib.hid hbx; clear hbx
  have HB1 := Lib.hid hb1; clear hb1
  have HO9 := Lib.hid hO9; clear hOm hbA
  rw [hW1] at hnews hs2 hO9
  have hinf := hi1; clear hi1
  go_enter Tryd.func15, Tryd.ntmps15
  go_wp2_with (at_builtin; refine wpList_append_lies _ rfl _ _ 41 rfl B 5 i0 (.int .u8 0) 1 1 Tryd.underlying41 hinf hz0 hz1 hz2 (by rfl) (by decide) _ _ _ rfl hO9.1 ⟨w.heap.size + 1, 0, none⟩ 1 1 [.int .u8 123] rfl rfl hnews ?_ ?_ ?_ ?_ ?_ _ rfl ?_; (intro u hu; simp at hu; subst hu; rfl); omega; (unfold maxLen; omega); omega; (first | omega | (rw [szAlloc']; omega)); intro g3 cap3 w3 hown3 hg3 hat3 hlt3)
  rw [← hW1] at hg3 hat3
  obtain ⟨hO3, hk3⟩ := Own.byte (c := 123) rfl HO9.out hown3 hg3 hat3 (by rw [szAlloc']; omega)
  have hk13 := HKA.out.trans hk3
  have HK13 := Lib.hid hk13
  have HO3 := Lib.hid hO3
  clear hown3 hg3 hat3 hlt3 hk13 hk3 hO3 hnews hs2 hO9 hW1
  go_loopw [0, 8] (fun o' i wr => ∃ kk : Nat, i = .int .i64 kk ∧ kk ≤ nl ∧ Own B (fun q => F q ∨ q = w.heap.size) o' (X ++ 123 :: (emM (ns.take kk) (ms.take kk)).drop 1) wr ∧ Kp B (fun q => F q ∨ q = w.heap.size) W1 wr) (fun _ i _ => nl - (intOf i).toNat)
  case atStart => exact ⟨0, rfl, by omega, by simpa [emM] using HO3.out, HK13.out⟩
  case round =>
    obtain ⟨kk, rfl, hkk, hown, hkp⟩ := hrel
    have hbel : Below B w wr := (HB1.out.mono hB).trans hkp.1
    have hsz := hbel.size
    have hsz2 := hkp.1.size
    have hboxF : ∀ u, Kp B (fun q => F q ∨ q = w.heap.size) wr u → u.cell? ⟨w.heap.size, 4, none⟩ = some (.slice A2 nl c2) := fun u hu => (cell_of_row _ _ 4 _ _ _ ((hu.2 _ (.inr rfl)).trans ((hkp.2 _ (.inr rfl)).trans HBX.out))).trans rfl
    have hT2 : ∀ u, Below B wr u → Tab u := fun u hu => HT.out.below (hbel.trans hu) hB0 (hbel.trans hu).size
    obtain ⟨X1, hX1⟩ : ∃ z, z = X ++ 123 :: (emM (ns.take kk) (ms.take kk)).drop 1 := ⟨_, rfl⟩
    rw [← hX1] at hown
    obtain ⟨A9, c9, rfl⟩ := ownNum hown
    have f0 := hboxF wr (Kp.refl (by omega))
    by_cases hlt0 : kk < nl
    · have hlt : kk < ms.length := by rw [HN.out]; exact hlt0
      have hlt2 : kk < ns.length := by rw [HNN.out]; exact hlt
      have hlb : decide ((kk : Int) < (nl : Int)) = true := decide_eq_true (by omega)
      have hlb2 : decide (kk < nl) = true := decide_eq_true hlt0
      have k0 : (0 : Int) ≤ (kk : Int) := by omega
      have k1 : (kk : Int) < (nl : Int) := by omega
      obtain ⟨g, o1, e1, _, hg, hRR⟩ := HL.out (by omega)
      subst e1
      obtain ⟨hnm0, xa, hxa, hva⟩ := RdAM.at_ _ _ o1 hRR kk hlt hlt2
      obtain ⟨p1, p2, p3, p4, ea, hj⟩ := hva.cells
      clear hj
      have hva2 : ∀ u, Below B w u → RdA u lo hi ms[kk] xa := fun u hb => hva.below hb hhi (Nat.le_refl _)
      have hcell : ∀ u, Below B w u → ∀ j x, xa[j]? = some x → u.cell? ⟨g, o1 + kk * 6 + 1 + j, none⟩ = some x := fun u hb j x hx => (hb.cell (p := ⟨g, o1 + kk * 6 + 1 + j, none⟩) (by show g < B; omega)).trans (hxa j x hx)
      have hmem := List.getElem_mem hlt
      have hcall := HW.out _ hmem xa (fun q => F q ∨ q = w.heap.size)
      clear hmem
      obtain ⟨X2, hX2⟩ : ∃ z, z = X1 ++ (if 0 < kk then [44] else []) := ⟨_, rfl⟩
      obtain ⟨X3, hX3⟩ : ∃ z, z = X2 ++ qt ns[kk] := ⟨_, rfl⟩
      obtain ⟨X4, hX4⟩ : ∃ z, z = X3 ++ [58] := ⟨_, rfl⟩
      have hst := emM_step ns ms kk hlt hlt2 HNN.out
      have hpre := emM_pre ns ms (kk + 1) HNN.out
      have hX5 : X ++ 123 :: (emM (ns.take (kk + 1)) (ms.take (kk + 1))).drop 1 = X4 ++ emV ms[kk] := by rw [hst, hX4, hX3, hX2, hX1]; simp
      have hlen : X4.length + (emV ms[kk]).length ≤ 100000000000000 := by
        have := congrArg List.length hX5
        simp only [List.length_append, List.length_drop, List.length_cons] at this
        have := HR.out
        rw [List.length_drop] at this
        omega
      have hlen4 := congrArg List.length hX4
      have hlen3 := congrArg List.length hX3
      have hlen2 := congrArg List.length hX2
      simp only [List.length_append, List.length_cons, List.length_nil] at hlen4 hlen3 hlen2
      have hlen1 : X1.length + 1 ≤ 100000000000100 := by omega
      have HST := Lib.hid hX5; clear hX5 hst hX1 hpre
      have hnmk := HNM.out _ (List.getElem_mem hlt2)
      have hnc : ∀ u, Below B w u → u.cell? ⟨g, o1 + kk * 6, none⟩ = some (.string (strOf ns[kk])) := fun u hb => (hb.cell (p := ⟨g, o1 + kk * 6, none⟩) (by show g < B; omega)).trans hnm0
      have hqc := fun u hT => Ch.rQuote_any (strOf ns[kk]) u (by rw [strOf_size]; exact hnmk.2) hT
      rw [strOf_data, Ch.quoteR_yes (l := ns[kk]) (by have := hnmk.1; unfold okS at this; omega)] at hqc
      have hqd : (strOf (qt ns[kk])).data.toList = qt ns[kk] := rfl
      have hqs : (strOf (qt ns[kk])).size = (qt ns[kk]).length := rfl
      have hqq : Ch.GivesQuote (34 :: (Ch.qbL ns[kk] ++ [34]), true) = fun w e w' => e = .returned (.tuple #[.string (strOf (qt ns[kk])), .bool true]) ∧ Below w.heap.size w w' := rfl
      rw [hqq] at hqc
      clear hqq hnm0 hnmk
      generalize qt ns[kk] = QT at *
      generalize strOf QT = Y at *
      generalize strOf ns[kk] = NMS at *
      have hbd2 : X2.length + Y.size ≤ 100000000000000 := by omega
      have hbd3 : X3.length + 1 ≤ 100000000000000 := by omega
      have HQC := Lib.hid hqc; clear hqc
      have HNC := Lib.hid hnc; clear hnc
      have HX3 := Lib.hid hX3; clear hX3
      have HX4 := Lib.hid hX4; clear hX4
      have HQD := Lib.hid hqd; clear hqd
      clear hlen4 hlen3 hlen2 hqs
      rw [ea] at hcell hcall hva2
      generalize ms[kk] = v' at *
      generalize v'.k = y1 at *
      generalize v'.n = y2 at *
      generalize strOf v'.s = y3 at *
      generalize v'.l.length = y4 at *
      generalize v'.ms.length = y5 at *
      have HVA := Lib.hid hva2; clear hva2
      have HCELL := Lib.hid hcell; clear hcell
      have HCALL := Lib.hid hcall; clear hcall
      have HBQ := Lib.hid hboxF; clear hboxF
      have HT2 := Lib.hid hT2; clear hT2
      clear hxa hva ea hRR
      by_cases hpos : 0 < kk
      · rw [if_pos hpos] at hX2
        have HX2 := Lib.hid hX2; clear hX2
        have hpb : decide ((0 : Int) < (kk : Int)) = true := decide_eq_true (by omega)
        have hpb2 : decide (0 < kk) = true := decide_eq_true hpos
        have hbC : Below wr.heap.size wr (wr.alloc (.cells #[.int .u8 44] 5)) := (Below.refl _ _).alloc (Nat.le_refl _) _
        have hOC := hown.keep hbC
        have hkC := hown.kp hbC (by omega)
        go_wp2_with (at_builtin; refine wpList_append_lies _ rfl _ _ 41 rfl B 5 i0 (.int .u8 0) 1 1 Tryd.underlying41 hinf hz0 hz1 hz2 (by rfl) (by decide) _ _ _ rfl hOC.1 ⟨wr.heap.size, 0, none⟩ 1 1 [.int .u8 44] rfl rfl (cells_new _ _ _) ?_ ?_ ?_ ?_ ?_ _ rfl ?_; (intro u hu; simp at hu; subst hu; rfl); omega; (unfold maxLen; omega); omega; (first | omega | (rw [szAlloc']; omega)); intro g3 cap3 w3 hown3 hg3 hat3 hlt3; have hqq := Own.byte (c := 44) (z := 44) rfl hOC hown3 hg3 hat3 (by rw [szAlloc']; omega); have hku := hkC.trans hqq.2; have hou := hqq.1; have hbu := hbel.trans hku.1; have fb := HBQ.out w3 hku; have fn := HNC.out w3 hbu)
        rw [← HX2.out] at hou
        refine (HQC.out _ (HT2.out _ hku.1)).mono ?_
        rintro e w4 ⟨rfl, hb4⟩
        have hO4 := hou.keep hb4
        have hk4 := hku.trans (hou.kp hb4 (by have := hku.1.size; omega))
        have hs4 := hk4.1.size
        clear hb4
        have hflag : True := trivial
        go_wp2_with (first | (at_builtin; clear hflag; refine wpList_append_str_at _ rfl _ _ 41 9 rfl B 5 i0 Tryd.underlying41 Tryd.underlying9 hinf hz0 hz1 hz2 _ _ _ rfl hO4.1 Y rfl ?_ ?_ ?_ ?_; (unfold maxLen; omega); omega; omega; intro o5 w5 hown5 hg5 hat5; have hq5 := Own.str hO4 hown5 hg5 hat5 (by omega); have hO5 := hq5.1; rw [HQD.out, ← HX3.out] at hO5; have hk5 := hk4.trans hq5.2; have hs5 := hq5.2.1.size; have hbD : Below w5.heap.size w5 (w5.alloc (.cells #[.int .u8 58] 5)) := (Below.refl _ _).alloc (Nat.le_refl _) _; have hOD := hO5.keep hbD; have hkD := hk5.trans (hO5.kp hbD (by omega))) | (at_builtin; refine wpList_append_lies _ rfl _ _ 41 rfl B 5 i0 (.int .u8 0) 1 1 Tryd.underlying41 hinf hz0 hz1 hz2 (by rfl) (by decide) _ _ _ rfl hOD.1 ⟨w5.heap.size, 0, none⟩ 1 1 [.int .u8 58] rfl rfl (cells_new _ _ _) ?_ ?_ ?_ ?_ ?_ _ rfl ?_; (intro u hu; simp at hu; subst hu; rfl); omega; (unfold maxLen; omega); omega; (first | omega | (rw [szAlloc']; omega)); intro g6 cap6 w6 hown6 hg6 hat6 hlt6; have hq6 := Own.byte (c := 58) (z := 58) rfl hOD hown6 hg6 hat6 (by rw [szAlloc']; omega); have hO6 := hq6.1; rw [← HX4.out] at hO6; have hk6 := hkD.trans hq6.2; have hb6 := hbel.trans hk6.1; have fb6 := HBQ.out w6 hk6; have a0 : w6.cell? ⟨g, o1 + kk * 6 + 1, none⟩ = _ := HCELL.out w6 hb6 0 _ rfl; have a1 : w6.cell? ⟨g, o1 + kk * 6 + 2, none⟩ = _ := HCELL.out w6 hb6 1 _ rfl; have a2 : w6.cell? ⟨g, o1 + kk * 6 + 3, none⟩ = _ := HCELL.out w6 hb6 2 _ rfl; have a3 : w6.cell? ⟨g, o1 + kk * 6 + 4, none⟩ = _ := HCELL.out w6 hb6 3 _ rfl; have a4 : w6.cell? ⟨g, o1 + kk * 6 + 5, none⟩ = _ := HCELL.out w6 hb6 4 _ rfl))
        have hcl := HCALL.out _ X4 w6 (HVA.out w6 hb6) hO6 (HT2.out w6 hk6.1) (by have := hk6.1.size; omega) hlen
        have HCL := Lib.hid hcl
        clear hcl
        refine HCL.out.mono ?_
        rintro e w7 ⟨o7, rfl, hO7, hk7⟩
        have HO7 := Lib.hid hO7
        have HK7 := Lib.hid (hkp.trans (hk6.trans hk7))
        clear hO7 hk7
        go_wp2_with fail
        go_roundw
        case rel => exact ⟨kk + 1, by go_num, by omega, by rw [HST.out]; exact HO7.out, HK7.out⟩
        case measure => simp [intOf]; omega
      · rw [if_neg hpos, List.append_nil] at hX2
        have hpb : decide ((0 : Int) < (kk : Int)) = false := decide_eq_false (by omega)
        have hpb2 : decide (0 < kk) = false := decide_eq_false hpos
        subst hX2
        have hku : Kp B (fun q => F q ∨ q = w.heap.size) wr wr := Kp.refl (by omega)
        have hou := hown
        have fn := HNC.out wr hbel
        go_wp2_with fail
        refine (HQC.out _ (HT2.out _ hku.1)).mono ?_
        rintro e w4 ⟨rfl, hb4⟩
        have hO4 := hou.keep hb4
        have hk4 := hku.trans (hou.kp hb4 (by have := hku.1.size; omega))
        have hs4 := hk4.1.size
        clear hb4
        have hflag : True := trivial
        go_wp2_with (first | (at_builtin; clear hflag; refine wpList_append_str_at _ rfl _ _ 41 9 rfl B 5 i0 Tryd.underlying41 Tryd.underlying9 hinf hz0 hz1 hz2 _ _ _ rfl hO4.1 Y rfl ?_ ?_ ?_ ?_; (unfold maxLen; omega); omega; omega; intro o5 w5 hown5 hg5 hat5; have hq5 := Own.str hO4 hown5 hg5 hat5 (by omega); have hO5 := hq5.1; rw [HQD.out, ← HX3.out] at hO5; have hk5 := hk4.trans hq5.2; have hs5 := hq5.2.1.size; have hbD : Below w5.heap.size w5 (w5.alloc (.cells #[.int .u8 58] 5)) := (Below.refl _ _).alloc (Nat.le_refl _) _; have hOD := hO5.keep hbD; have hkD := hk5.trans (hO5.kp hbD (by omega))) | (at_builtin; refine wpList_append_lies _ rfl _ _ 41 rfl B 5 i0 (.int .u8 0) 1 1 Tryd.underlying41 hinf hz0 hz1 hz2 (by rfl) (by decide) _ _ _ rfl hOD.1 ⟨w5.heap.size, 0, none⟩ 1 1 [.int .u8 58] rfl rfl (cells_new _ _ _) ?_ ?_ ?_ ?_ ?_ _ rfl ?_; (intro u hu; simp at hu; subst hu; rfl); omega; (unfold maxLen; omega); omega; (first | omega | (rw [szAlloc']; omega)); intro g6 cap6 w6 hown6 hg6 hat6 hlt6; have hq6 := Own.byte (c := 58) (z := 58) rfl hOD hown6 hg6 hat6 (by rw [szAlloc']; omega); have hO6 := hq6.1; rw [← HX4.out] at hO6; have hk6 := hkD.trans hq6.2; have hb6 := hbel.trans hk6.1; have fb6 := HBQ.out w6 hk6; have a0 : w6.cell? ⟨g, o1 + kk * 6 + 1, none⟩ = _ := HCELL.out w6 hb6 0 _ rfl; have a1 : w6.cell? ⟨g, o1 + kk * 6 + 2, none⟩ = _ := HCELL.out w6 hb6 1 _ rfl; have a2 : w6.cell? ⟨g, o1 + kk * 6 + 3, none⟩ = _ := HCELL.out w6 hb6 2 _ rfl; have a3 : w6.cell? ⟨g, o1 + kk * 6 + 4, none⟩ = _ := HCELL.out w6 hb6 3 _ rfl; have a4 : w6.cell? ⟨g, o1 + kk * 6 + 5, none⟩ = _ := HCELL.out w6 hb6 4 _ rfl))
        have hcl := HCALL.out _ X4 w6 (HVA.out w6 hb6) hO6 (HT2.out w6 hk6.1) (by have := hk6.1.size; omega) hlen
        have HCL := Lib.hid hcl
        clear hcl
        refine HCL.out.mono ?_
        rintro e w7 ⟨o7, rfl, hO7, hk7⟩
        have HO7 := Lib.hid hO7
        have HK7 := Lib.hid (hkp.trans (hk6.trans hk7))
        clear hO7 hk7
        go_wp2_with fail
        go_roundw
        case rel => exact ⟨kk + 1, by go_num, by omega, by rw [HST.out]; exact HO7.out, HK7.out⟩
        case measure => simp [intOf]; omega
    · have hlb : decide ((kk : Int) < (nl : Int)) = false := decide_eq_false (by omega)
      have hlb2 : decide (kk < nl) = false := decide_eq_false hlt0
      obtain rfl : nl = kk := by omega
      have hft : ms.take nl = ms := List.take_of_length_le (by rw [HN.out]; exact Nat.le_refl _)
      have hfn : ns.take nl = ns := List.take_of_length_le (by rw [HNN.out, HN.out]; exact Nat.le_refl _)
      have HX1 := Lib.hid hX1
      have hbE : Below wr.heap.size wr (wr.alloc (.cells #[.int .u8 125] 5)) := (Below.refl _ _).alloc (Nat.le_refl _) _
      have hOE := hown.keep hbE
      have hkE := hown.kp hbE (by omega)
      have hlenE : X1.length + 1 ≤ 100000000000000 := by
        have := HR.out
        rw [hX1, hft, hfn]
        simp only [List.length_append, List.length_cons]
        omega
      clear hX1
      go_wp2_with (at_builtin; refine wpList_append_lies _ rfl _ _ 41 rfl B 5 i0 (.int .u8 0) 1 1 Tryd.underlying41 hinf hz0 hz1 hz2 (by rfl) (by decide) _ _ _ rfl hOE.1 ⟨wr.heap.size, 0, none⟩ 1 1 [.int .u8 125] rfl rfl (cells_new _ _ _) ?_ ?_ ?_ ?_ ?_ _ rfl ?_; (intro u hu; simp at hu; subst hu; rfl); omega; (unfold maxLen; omega); omega; (first | omega | (rw [szAlloc']; omega)); intro g3 cap3 w3 hown3 hg3 hat3 hlt3)
      go_ret
      obtain ⟨hOF, hkF⟩ := Own.byte (c := 125) rfl hOE hown3 hg3 hat3 (by rw [szAlloc']; omega)
      have hfin : X ++ 123 :: ((emM ns ms).drop 1 ++ [125]) = X1 ++ [125] := by rw [HX1.out, hft, hfn]; simp
      rw [hfin]
      exact ⟨_, rfl, hOF.less (fun _ h => .inl h), HKW.out.trans ((hkp.trans (hkE.trans hkF)).less (fun _ h => .inl h))⟩

/-- what the document's write does with a right value -/
theorem write_any (lo hi B : Nat) (hB0 : 0 < B) (hhi : hi ≤ B) (h : Nat) : ∀ v : V, ht v ≤ h → okW v → mx 1048576 v → szA 4611686018427387904 v → WO lo hi B v := by
  induction h with
  | zero => intro v hh; rw [ht_eq] at hh; omega
  | succ h ih =>
    intro v hh hw hm hz
    have hht := ht_eq v
    obtain ⟨_, _, hz3, hz4, hz5, hz6, hz7, hz8⟩ := (szA_eq _ v).1 hz
    obtain ⟨hm1, hm2, hm3, hm4⟩ := (mx_eq _ v).1 hm
    have ho : own v.k v.n v.s v.l.length v.ns v.ms.length ∧ (∀ x ∈ v.ns, okS x) ∧ okWL v.l ∧ okWL v.ms := by cases v; rw [okW] at hw; exact hw
    by_cases h5 : v.k = 5
    · exact write_list lo hi B hB0 hhi v h5 (by omega) (fun v' hv => ih v' (by have := htL_mem hv; omega) (okWL_mem ho.2.2.1 hv) (mxL_mem hm3 hv) (szAL_mem hz7 hv))
    · by_cases h6 : v.k = 6
      · exact write_map lo hi B hB0 hhi v h6 (by omega) (fun x hx => ⟨ho.2.1 x hx, hm2 x hx⟩) (fun v' hv => ih v' (by have := htL_mem hv; omega) (okWL_mem ho.2.2.2 hv) (mxL_mem hm4 hv) (szAL_mem hz8 hv))
      · exact write_leaf lo hi B v h5 h6 ho.1 hm1
end Go.Proofs.YtcbiaflbncfliaaDoor.Em
