/- Merged: SmF SmG. -/
import Derived.Test.YthfladbanghkiaaTt10
import Derived.Shelf.SlSortCmp.NoneTotal
namespace Go.Proofs.Ythfladbanghkiaa.Sm
open Go.Proofs Go.RowKit Go.Sort Go.Shelf Go.Lib
open Go.Proofs.Ythfladbanghkiaa.Utf
open Go.Proofs.Ythfladbanghkiaa.Nu
open Go.Proofs.Ythfladbanghkiaa.Wo

set_option maxRecDepth 100000 in
set_option maxHeartbeats 1000000 in
theorem pTypes_any (w : World) : Calls Try.prog 7 #[] w (GivesPs typS w) := by
  go_enter Try.func7, Try.ntmps7
  go_wp2
  go_ret
  exact gives_new (xs := strK typS) (by kernel_rfl) rfl (by rw [strK_len]; decide)

theorem both_perm (l : List UInt8) : (progS l).Perm (propsS l) ∧ Rise (propsS l) ∧ (progS l).length ≤ 30 ∧ (progS l = [] ∨ 0 < (progS l).length) := by
  rcases names_cases l with h | ⟨h0, h1, h2, h3, h4, h5, h6, h7, h8, h9, h10, h11, h12, h13, h14, h15, h16, h17, h18, h19⟩
  · have a := List.all_eq_true.1 prog_perm l h
    have b := List.all_eq_true.1 prog_rise l h
    have c := List.all_eq_true.1 prog_few l h
    rw [Bool.and_eq_true] at c
    exact ⟨List.isPerm_iff.1 a, of_decide_eq_true b, of_decide_eq_true c.1, .inr (of_decide_eq_true c.2)⟩
  · have e1 := prog_no h0 h1 h2 h3 h4 h5 h6 h7 h8 h9 h10 h11 h12 h13 h14 h15 h16 h17 h18 h19
    have e2 : propsS l = [] := by
      unfold propsS
      rw [if_pos (tab_no h0 h1 h2 h3 h4 h5 h6 h7 h8 h9 h10 h11 h12 h13 h14 h15 h16 h17 h18 h19)]
    rw [e1, e2]
    exact ⟨List.Perm.refl _, List.Pairwise.nil, by decide, .inl rfl⟩
theorem find_perm {L S : List Pr} (h : L.Perm S) (hr : Rise S) (n : List UInt8) : findP L n = findP S n := by
  have key : ∀ T : List Pr, T.Perm S → ∀ p, findP T n = some p ↔ p ∈ S ∧ p.nm = n := fun T hT p => by
    unfold findP
    constructor
    · intro hf
      have h1 := List.mem_of_find?_eq_some hf
      have h2 := List.find?_some hf
      exact ⟨hT.mem_iff.1 h1, by simpa using h2⟩
    · rintro ⟨h1, h2⟩
      cases hc : T.find? (fun p => decide (p.nm = n)) with
      | none =>
        have := List.find?_eq_none.1 hc p (hT.mem_iff.2 h1)
        exact absurd (decide_eq_true h2) this
      | some q =>
        have q1 := hT.mem_iff.1 (List.mem_of_find?_eq_some hc)
        have q2 : q.nm = n := by simpa using List.find?_some hc
        rw [rise_inj hr q1 h1 (q2.trans h2.symm)]
  cases hs : findP S n with
  | some p => exact (key L h p).2 ((key S (List.Perm.refl _) p).1 hs)
  | none =>
    cases hl : findP L n with
    | none => rfl
    | some p => exact absurd ((key S (List.Perm.refl _) p).2 ((key L h p).1 hl)) (by rw [hs]; simp)
theorem sort_none (p : Option Addr) (cap : Nat) (fv : Value) (w : World) : Calls Try.prog 17 #[.slice p 0 cap, fv] w fun e w' => e = .returned (.tuple #[]) ∧ w' = w :=
  AnyF.slices_SortFunc_none srtLays p cap fv w

set_option maxRecDepth 100000 in
set_option maxHeartbeats 2000000 in
theorem pProps_any (X : ByteArray) (w : World) : Calls Try.prog 10 #[.string X] w (GivesPr 31 (propsS X.data.toList) w) := by
  have HT := Lib.hid (fun W => ptable_any X W)
  obtain ⟨hp, hr, hfew, h0⟩ := both_perm X.data.toList
  unfold GivesTab at HT
  generalize progS X.data.toList = L at *
  generalize propsS X.data.toList = S at *
  have HP := Lib.hid hp
  have HR := Lib.hid hr
  have HF := Lib.hid hfew
  clear hp hr hfew
  rcases h0 with h0 | h0
  · have HL := Lib.hid h0
    clear h0
    go_enter Try.func10, Try.ntmps10
    go_wp2_with fail
    refine (HT.out _).mono ?_
    rintro e w1 ⟨-, hz⟩
    obtain ⟨rfl, rfl⟩ := hz HL.out
    go_wp2_with fail
    refine (sort_none _ _ _ _).mono ?_
    rintro e w2 ⟨rfl, rfl⟩
    go_wp2_with fail
    go_ret
    have e1 : S = [] := by
      have := HP.out
      rw [HL.out] at this
      exact List.Perm.eq_nil this.symm
    rw [e1]
    exact ⟨_, rfl, World.ownsRow_nil _ _ _ _, Below.refl _ _⟩
  · have H0 := Lib.hid h0
    clear h0
    go_enter Try.func10, Try.ntmps10
    go_wp2_with fail
    refine (HT.out _).mono ?_
    rintro e w1 ⟨⟨v, rfl, hown, hb⟩, -⟩
    obtain ⟨g, cap, rfl, hg, hlt⟩ := hown.form H0.out
    have HS := Lib.hid (sortFunc_any g 0 cap L.toArray w1 (holds_own hown) hlt (by have := HF.out; simp; omega))
    have HO := Lib.hid hown
    have HB := Lib.hid hb
    have HG := Lib.hid hg
    rw [show L.toArray.size = L.length by simp] at HS
    clear hown hb hg hlt
    go_wp2_with fail
    refine HS.out.mono ?_
    rintro e w2 ⟨rfl, d', n, os, hp, hs, rfl⟩
    obtain rfl := sort_one hp hs HP.out HR.out
    have hfin := own_sorted (n := n) (os := os) (S := S) HB.out.size HO.out HP.out.symm.length_eq HG.out w HB.out
    have HFI := Lib.hid hfin
    generalize sortWorldK prC 5 w1 g 0 n S.toArray os = w3 at *
    have HLL := Lib.hid HP.out.length_eq
    clear hfin hp hs
    go_wp2_with fail
    go_ret
    refine ⟨_, rfl, ?_, HFI.out.2⟩
    rw [← HLL.out]
    exact HFI.out.1
section
variable {fn : Func} {s b z : Nat} {tmps : Array Value} {w : World} {fr : Nat × Nat} {v0 v1 v2 v3 v4 : Value}
theorem resQb {x : Value} (hf : fn.results = #[.cell s 31, .tmp z]) (ht : tmps.getD s undef = .pointer (some ⟨b, 0, none⟩)) (hx : tmps.getD z undef = x)
    (h : w.heap[b]? = some (.cells #[v0, v1, v2, v3, v4] 31 fr)) : (results fn tmps).run Try.prog w = .ok (.tuple #[.agg #[v0, v1, v2, v3, v4], x]) w := by
  have c0 : w.cell? ⟨b, 0, none⟩ = some v0 := by simp [World.cell?, h]
  have c1 : w.cell? ⟨b, 1, none⟩ = some v1 := by simp [World.cell?, h]
  have c2 : w.cell? ⟨b, 2, none⟩ = some v2 := by simp [World.cell?, h]
  have c3 : w.cell? ⟨b, 3, none⟩ = some v3 := by simp [World.cell?, h]
  have c4 : w.cell? ⟨b, 4, none⟩ = some v4 := by simp [World.cell?, h]
  rw [Array.getD_eq_getD_getElem?] at ht hx
  simp [results, hf, ht, hx, c0, c1, c2, c3, c4, go_sem]
end

set_option maxRecDepth 100000 in
set_option maxHeartbeats 1000000 in
theorem pFind_any (X N : ByteArray) (w : World) : Calls Try.prog 13 #[.string X, .string N] w (fun e w' => e = .returned (fndV (findP (propsS X.data.toList) N.data.toList)) ∧ Below w.heap.size w w') := by
  obtain ⟨W0, hW0⟩ : ∃ W0, W0 = w.alloc (.cells #[.string ⟨#[]⟩, .int .i64 0, .string ⟨#[]⟩, .bool false, .string ⟨#[]⟩] 31) := ⟨_, rfl⟩
  have HB0 := Lib.hid (show Below w.heap.size w W0 by rw [hW0]; exact (Below.refl _ _).alloc (Nat.le_refl _) _)
  have HS0 := Lib.hid (show W0.heap.size = w.heap.size + 1 by rw [hW0, szAlc])
  have HR0 := Lib.hid (show W0.heap[w.heap.size]? = some (.cells #[.string ⟨#[]⟩, .int .i64 0, .string ⟨#[]⟩, .bool false, .string ⟨#[]⟩] 31 (0, 0)) by rw [hW0]; exact heap_alloc_new _ _)
  have HW0 := Lib.hid hW0
  clear hW0
  obtain ⟨hp, hr, hfew, -⟩ := both_perm X.data.toList
  rw [← find_perm hp hr]
  have HP := Lib.hid (fun W => ptable_any X W)
  unfold GivesTab at HP
  clear hp hr
  generalize progS X.data.toList = L at *
  obtain ⟨nm, hnm⟩ : ∃ nm, N.data.toList = nm := ⟨_, rfl⟩
  have HNM := Lib.hid (show N.toList = nm by rw [ByteArray.toList_eq]; exact hnm)
  rw [hnm]
  clear hnm
  obtain ⟨n, hn⟩ : ∃ n, L.length = n := ⟨_, rfl⟩
  have HN := Lib.hid hn
  have hn2 : n ≤ 30 := by omega
  clear hn hfew
  go_enter Try.func13, Try.ntmps13
  go_wp2_with fail
  rw [← HW0.out]
  refine (HP.out _).mono ?_
  rintro e W1 ⟨⟨v, rfl, hown, hb⟩, -⟩
  have HB1 := Lib.hid hb
  have HRD := Lib.hid (RdP.of_own hown)
  obtain ⟨A, cp, rfl, -⟩ := RdP.of_own hown
  rw [HN.out]
  have HWB := Lib.hid (show Below w.heap.size w W1 from HB0.out.trans (hb.mono HB0.out.size))
  have hlt1 : w.heap.size < W1.heap.size := by have := HS0.out; have := hb.size; omega
  have hrr : W1.heap[w.heap.size]? = some (.cells #[.string ⟨#[]⟩, .int .i64 0, .string ⟨#[]⟩, .bool false, .string ⟨#[]⟩] 31 (0, 0)) :=
    (hb.block w.heap.size (by have := HS0.out; omega)).trans HR0.out
  have HRR := Lib.hid hrr
  have HL1 := Lib.hid hlt1
  clear hown hb hrr hlt1
  go_wp2_with fail
  go_loopw [11] (fun i wr => ∃ k : Nat, i = .int .i64 (k : Int) ∧ k ≤ n ∧ Aside (∀ j (h : j < L.length), j < k → L[j].nm ≠ nm) ∧ Aside (Below W1.heap.size W1 wr)) (fun i _ => n - (RowKit.intOf i).toNat)
  case atStart => exact ⟨0, rfl, by omega, (show ∀ _ _ _, _ from fun j h hj => by omega), (show Below _ _ _ from Below.refl _ _)⟩
  case round =>
    obtain ⟨k, rfl, hk, hno, hw⟩ := hrel
    have HNO := Lib.hid hno.out
    have HE := Lib.hid hw.out
    clear hno hw
    have hrow : wr.heap[w.heap.size]? = some (.cells #[.string ⟨#[]⟩, .int .i64 0, .string ⟨#[]⟩, .bool false, .string ⟨#[]⟩] 31 (0, 0)) := (HE.out.block _ HL1.out).trans HRR.out
    have HRW := Lib.hid hrow
    by_cases hlt : k < n
    · have t1 : decide ((k : Int) < (n : Int)) = true := decide_eq_true (by omega)
      have t2 : decide (k < n) = true := decide_eq_true hlt
      have k0 : (0 : Int) ≤ (k : Int) := by omega
      have k1 : (k : Int) < (n : Int) := by omega
      have k2 : ((k : Int)).toNat = k := by omega
      have hkL : k < L.length := by rw [HN.out]; exact hlt
      obtain ⟨g, c, hA, hg, hp5⟩ := (HRD.out.below HE.out (Nat.le_refl _)).at_ k hkL
      injection hA with hA1 _ _
      subst hA1
      obtain ⟨p0, p1, p2, p3, p4⟩ := hp5
      by_cases hx : L[k].nm = nm
      · have u1 : ((strOf L[k].nm).toList == N.toList) = true := by rw [strOf_list, HNM.out, hx]; exact beq_self_eq_true _
        have u2 : (strOf L[k].nm).toList = N.toList := by rw [strOf_list, HNM.out, hx]
        have HF := Lib.hid (find_hit hkL hx (fun j hj hjk => HNO.out j hj hjk))
        have HV := Lib.hid (show fndV (some L[k]) = .tuple #[.agg #[.string (strOf L[k].nm), .int .i64 L[k].fm, .string (strOf L[k].ar), .bool L[k].mu, .string (strOf L[k].df)], .bool true] from rfl)
        generalize strOf L[k].nm = q0 at *
        generalize L[k].fm = q1 at *
        generalize strOf L[k].ar = q2 at *
        generalize L[k].mu = q3 at *
        generalize strOf L[k].df = q4 at *
        obtain ⟨⟨y0, y1, y2, y3, y4⟩, -⟩ := rowP (heap_alloc_new wr (.cells #[.string q0, .int .i64 q1, .string q2, .bool q3, .string q4] 31))
        have hr2 := (heap_alloc_old wr (.cells #[.string q0, .int .i64 q1, .string q2, .bool q3, .string q4] 31) (show w.heap.size < wr.heap.size by have := HL1.out; have := HE.out.size; omega)).trans HRW.out
        have HR2 := Lib.hid hr2
        obtain ⟨⟨r0, r1, r2, r3, r4⟩, ⟨e0, e1, e2, e3, e4⟩⟩ := rowP hr2
        clear hx hrow hr2
        have HWE := Lib.hid (show Below w.heap.size w (wr.alloc (.cells #[.string q0, .int .i64 q1, .string q2, .bool q3, .string q4] 31)) from (HWB.out.trans (HE.out.mono HWB.out.size)).alloc (by have := HL1.out; have := HE.out.size; omega) _)
        go_wp2
        refine bodyPost_ret (resQb rfl rfl rfl (sP_row HR2.out (.string q0) (.int .i64 q1) (.string q2) (.bool q3) (.string q4))) rfl ?_
        exact ⟨by rw [HF.out, HV.out]; rfl, sP_below HWE.out (Nat.le_refl _) _ _ _ _ _⟩
      · have u1 : ((strOf L[k].nm).toList == N.toList) = false := by rw [strOf_list, HNM.out]; exact beq_eq_false_iff_ne.2 hx
        have u2 : ¬ (strOf L[k].nm).toList = N.toList := by rw [strOf_list, HNM.out]; exact hx
        have HNX := Lib.hid (show ∀ j (h : j < L.length), j < k + 1 → L[j].nm ≠ nm from fun j h hj => by
          by_cases e : j = k
          · subst e; exact hx
          · exact HNO.out j h (by omega))
        generalize strOf L[k].nm = q0 at *
        generalize L[k].fm = q1 at *
        generalize strOf L[k].ar = q2 at *
        generalize L[k].mu = q3 at *
        generalize strOf L[k].df = q4 at *
        obtain ⟨⟨y0, y1, y2, y3, y4⟩, -⟩ := rowP (heap_alloc_new wr (.cells #[.string q0, .int .i64 q1, .string q2, .bool q3, .string q4] 31))
        have HE2 := Lib.hid (show Below W1.heap.size W1 (wr.alloc (.cells #[.string q0, .int .i64 q1, .string q2, .bool q3, .string q4] 31)) from HE.out.alloc HE.out.size _)
        clear hx hrow
        go_wp2_with fail
        go_roundw
        case rel => exact ⟨k + 1, by go_num, by omega, HNX.out, HE2.out⟩
        case measure => simp [RowKit.intOf]; omega
    · have t1 : decide ((k : Int) < (n : Int)) = false := decide_eq_false (by omega)
      have t2 : decide (k < n) = false := decide_eq_false hlt
      have HF := Lib.hid (find_miss (L := L) (n := nm) (fun j hj => HNO.out j hj (by rw [HN.out] at hj; omega)))
      obtain ⟨⟨r0, r1, r2, r3, r4⟩, ⟨e0, e1, e2, e3, e4⟩⟩ := rowP hrow
      clear hrow
      have HWE := Lib.hid (show Below w.heap.size w wr from HWB.out.trans (HE.out.mono HWB.out.size))
      go_wp2
      refine bodyPost_ret (resQb rfl rfl rfl (sP_row HRW.out (.string ⟨#[]⟩) (.int .i64 0) (.string ⟨#[]⟩) (.bool false) (.string ⟨#[]⟩))) rfl ?_
      exact ⟨by rw [HF.out]; rfl, sP_below HWE.out (Nat.le_refl _) _ _ _ _ _⟩
end Go.Proofs.Ythfladbanghkiaa.Sm
namespace Go.Proofs.Ythfladbanghkiaa.Sm
open Go.Proofs Go.RowKit
open Go.Proofs.Ythfladbanghkiaa.Utf
open Go.Proofs.Ythfladbanghkiaa.Nu
open Go.Proofs.Ythfladbanghkiaa.Wo

def awK : Pr := ⟨[107, 105, 110, 100], 11, [114, 111, 108, 101, 32, 116, 105, 116, 108, 101], false, [116, 105, 116, 108, 101]⟩
theorem aw_1 : findP (propsS [84, 105, 116, 108, 101]) [107, 105, 110, 100] = some awK := by decide +kernel
theorem aw_2 : findP (propsS [67, 97, 114, 100]) [99, 111, 108, 111, 114] = none := by decide +kernel
theorem aw_3 : (propsS [84, 105, 109, 101, 115, 116, 97, 109, 112]).length = 1 := by decide +kernel
theorem typS_len : typS.length = 20 := rfl

set_option maxRecDepth 100000 in
set_option maxHeartbeats 2000000 in
theorem awake_any13 (w : World) : Calls Try.prog 9 #[] w (fun e w' => e = .returned (.bool true) ∧ Below w.heap.size w w') := by
  have C1 := Lib.hid (fun wx => pFind_any (strOf [84, 105, 116, 108, 101]) (strOf [107, 105, 110, 100]) wx)
  rw [strOf_data, strOf_data, aw_1] at C1
  have C2 := Lib.hid (fun wx => pFind_any (strOf [67, 97, 114, 100]) (strOf [99, 111, 108, 111, 114]) wx)
  rw [strOf_data, strOf_data, aw_2] at C2
  have C3 := Lib.hid (fun wx => pTypes_any wx)
  have C4 := Lib.hid (fun wx => pProps_any (strOf [84, 105, 109, 101, 115, 116, 97, 109, 112]) wx)
  rw [strOf_data] at C4
  have H3 := Lib.hid aw_3
  generalize propsS [84, 105, 109, 101, 115, 116, 97, 109, 112] = L at *
  go_enter Try.func9, Try.ntmps9
  go_wp2_with fail
  refine (C1.out _).mono ?_
  rintro e x1 ⟨rfl, hb1⟩
  have HB1 := Lib.hid hb1
  clear hb1
  unfold fndV prV awK
  simp only
  go_wp2_with fail
  refine (C2.out _).mono ?_
  rintro e x2 ⟨rfl, hb2⟩
  have hx2 : x2.heap[x1.heap.size]? = some (.cells #[.string (strOf [107, 105, 110, 100]), .int .i64 11, .string (strOf [114, 111, 108, 101, 32, 116, 105, 116, 108, 101]), .bool false, .string (strOf [116, 105, 116, 108, 101])] 31 (0, 0)) :=
    (hb2.block x1.heap.size (by simp)).trans (heap_alloc_new _ _)
  have HB2 := Lib.hid (show Below w.heap.size w x2 from (HB1.out.alloc HB1.out.size _).trans (hb2.mono (by have := HB1.out.size; simp; omega)))
  have hx3 : (x2.alloc (.cells #[.string ⟨#[]⟩, .int .i64 0, .string ⟨#[]⟩, .bool false, .string ⟨#[]⟩] 31)).heap[x1.heap.size]? = some (.cells #[.string (strOf [107, 105, 110, 100]), .int .i64 11, .string (strOf [114, 111, 108, 101, 32, 116, 105, 116, 108, 101]), .bool false, .string (strOf [116, 105, 116, 108, 101])] 31 (0, 0)) :=
    (heap_alloc_old _ _ (by have := hb2.size; simp at this; omega)).trans hx2
  obtain ⟨⟨z0, z1, z2, z3, z4⟩, -⟩ := rowP hx3
  have HB3 := Lib.hid (show Below w.heap.size w (x2.alloc (.cells #[.string ⟨#[]⟩, .int .i64 0, .string ⟨#[]⟩, .bool false, .string ⟨#[]⟩] 31)) from HB2.out.alloc HB2.out.size _)
  have HN := Lib.hid (show strOf [] = (⟨#[]⟩ : ByteArray) from rfl)
  unfold fndV prV Pr.zero
  simp only
  rw [HN.out]
  clear hb2 hx2 hx3
  have u1 : (strOf [107, 105, 110, 100]).toList = [107, 105, 110, 100] := strOf_list _
  have u2 : (strOf [114, 111, 108, 101, 32, 116, 105, 116, 108, 101]).toList = [114, 111, 108, 101, 32, 116, 105, 116, 108, 101] := strOf_list _
  have u3 : (strOf [116, 105, 116, 108, 101]).toList = [116, 105, 116, 108, 101] := strOf_list _
  go_wp2_with fail
  refine (C3.out _).mono ?_
  rintro e x3 ⟨v, rfl, hown, hb⟩
  have HB4 := Lib.hid (HB3.out.trans (hb.mono HB3.out.size))
  obtain ⟨A, c, rfl, -⟩ := Rd.of_own hown
  rw [strK_len, typS_len]
  clear hown hb
  go_wp2_with fail
  refine (C4.out _).mono ?_
  rintro e x4 ⟨v, rfl, hown, hb⟩
  have HB5 := Lib.hid (HB4.out.trans (hb.mono HB4.out.size))
  obtain ⟨A2, c2, rfl, -⟩ := RdP.of_own hown
  rw [H3.out]
  clear hown hb
  go_wp2_with fail
  go_ret
  exact ⟨rfl, HB5.out⟩
end Go.Proofs.Ythfladbanghkiaa.Sm
