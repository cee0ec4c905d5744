import Derived.Test.YtbepnjgbkfidiaaEmE
import Derived.Test.YtbepnjgbkfidiaaEmC
import Derived.Test.YtbepnjgbkfidiaaEmPl2
/- Contracts of package emit: the writer's members, value; Long, Text. -/
namespace Go.Proofs.Ytbepnjgbkfidiaa.Em
open Go.RowKit
open Go.Proofs.Ytbepnjgbkfidiaa.Utf
open Go.Proofs.Ytbepnjgbkfidiaa.Sc
open Go.Proofs.Ytbepnjgbkfidiaa.Re
open Go.Proofs.Ytbepnjgbkfidiaa.Nu (putL)

set_option maxRecDepth 100000 in
set_option maxHeartbeats 8000000 in
theorem wmembers_any (lo hi B b : Nat) (ns : List (List UInt8)) (ms : List V) (A : Option Addr) (c : Nat) (F : Nat → Prop) (X : List UInt8) (w : World) (hW : ∀ v ∈ ms, WV lo hi B b v) (hnn : ns.length = ms.length) (hhi : hi ≤ B)
    (hL : 0 < ms.length → ∃ g o, A = some ⟨g, o, none⟩ ∧ lo ≤ g ∧ g < hi ∧ RdAM w lo hi g o ns ms) (hs : ∀ x ∈ ns, x.length ≤ 1099511627776)
    (h : Wtr B b F X w) (hB : B ≤ w.heap.size) (hl : ms.length ≤ 1099511627776) (hr : X.length + (123 :: ((emM ns ms).drop 1 ++ [125])).length ≤ 100000000000000) :
    Calls Try.prog 55 #[.pointer (some ⟨b, 0, none⟩), .slice A ms.length c] w (WroteB B b F (X ++ 123 :: ((emM ns ms).drop 1 ++ [125])) ((∀ x ∈ ns, okS x) ∧ okWL ms) w) := by
  have h1 := put_any B b F X ⟨#[123]⟩ w h (by show X.length + 1 ≤ _; omega)
  rw [lit_data] at h1
  obtain ⟨n, hn⟩ : ∃ z, ms.length = z := ⟨_, rfl⟩
  rw [hn] at hl ⊢
  have HN := Lib.hid hn
  have HNN := Lib.hid hnn
  have HS := Lib.hid hs; clear hs
  have HL := Lib.hid (fun h => hL (by rw [hn]; exact h)); clear hL
  have HW := Lib.hid hW; clear hW
  have H1 := Lib.hid h1; clear h1
  simp only [List.length_cons, List.length_append, List.length_nil] at hr
  have HR := Lib.hid hr; clear hr hn
  clear h
  generalize hQ : ((∀ x ∈ ns, okS x) ∧ okWL ms) = Q
  have HQ := Lib.hid hQ; clear hQ
  generalize hY : X ++ 123 :: ((emM ns ms).drop 1 ++ [125]) = Y
  have HY := Lib.hid hY; clear hY hnn
  go_enter Try.func55, Try.ntmps55
  go_wp2_with fail
  refine H1.out.mono ?_
  rintro e w1 ⟨rfl, hw1, hb1⟩
  have HW1 := Lib.hid hw1; clear hw1
  have HB1 := Lib.hid hb1; clear hb1
  go_wp2_with fail
  go_loopw [11] (fun i wr => ∃ k : Nat, i = .int .i64 k ∧ k ≤ n ∧ Wtr B b F (X ++ 123 :: (emM (ns.take k) (ms.take k)).drop 1) wr ∧ (Q ↔ ((∀ x ∈ ns.drop k, okS x) ∧ okWL (ms.drop k))) ∧ Kp B F w wr) (fun i _ => n - (intOf i).toNat)
  case atStart => exact ⟨0, rfl, by omega, HW1.out, by rw [List.drop_zero, List.drop_zero, HQ.out], HB1.out⟩
  case round =>
    obtain ⟨k, rfl, hk, hwr, hq, hkp⟩ := hrel
    have hbel := hkp.1
    have hsz := hbel.size
    by_cases hlt0 : k < n
    · have hlt : k < ms.length := by rw [HN.out]; exact hlt0
      have hltn : k < ns.length := by rw [HNN.out]; exact hlt
      have hlb : decide ((k : Int) < (n : Int)) = true := decide_eq_true (by omega)
      have hlb2 : decide (k < n) = true := decide_eq_true hlt0
      have k0 : (0 : Int) ≤ (k : Int) := by omega
      have k1 : (k : Int) < (n : Int) := by omega
      obtain ⟨g, o, e1, _, hg, hRR⟩ := HL.out (by omega)
      subst e1
      obtain ⟨hnm, xa, hxa, hva⟩ := RdAM.at_ _ _ o hRR k hlt hltn
      obtain ⟨p1, p2, p3, p4, ea, hj⟩ := hva.cells
      clear hj
      have b0 : wr.cell? ⟨g, o + k * 6, none⟩ = some (.string (strOf ns[k])) := (hbel.cell (p := ⟨g, o + k * 6, none⟩) (by show g < B; omega)).trans hnm
      have hcell : ∀ j u, xa[j]? = some u → wr.cell? ⟨g, o + k * 6 + 1 + j, none⟩ = some u := fun j u hu => (hbel.cell (p := ⟨g, o + k * 6 + 1 + j, none⟩) (by show g < B; omega)).trans (hxa j u hu)
      have hmem := List.getElem_mem hlt
      have hmemn := List.getElem_mem hltn
      have hcall := HW.out _ hmem xa (fun k => F k ∨ k = wr.heap.size)
      have hst := emM_step ns ms k hlt hltn HNN.out
      have hpre := emM_pre ns ms (k + 1) HNN.out
      have hdr := okWL_drop hlt
      have hdrn := allS_drop hltn
      have hsl := HS.out _ hmemn
      have hql := qt_len ns[k]
      clear hmem hmemn
      rw [ea] at hcell hcall
      have hva2 : ∀ w2, Below B w w2 → RdA w2 lo hi ms[k] xa := fun w2 hb => hva.below hb hhi (Nat.le_refl _)
      rw [ea] at hva2
      obtain ⟨X1, hX1⟩ : ∃ z, z = X ++ 123 :: (emM (ns.take k) (ms.take k)).drop 1 := ⟨_, rfl⟩
      obtain ⟨X2, hX2⟩ : ∃ z, z = X1 ++ (if 0 < k then [44] else []) := ⟨_, rfl⟩
      obtain ⟨X3, hX3⟩ : ∃ z, z = X2 ++ qt ns[k] := ⟨_, rfl⟩
      obtain ⟨X4, hX4⟩ : ∃ z, z = X3 ++ [58] := ⟨_, rfl⟩
      have hX5 : X ++ 123 :: (emM (ns.take (k + 1)) (ms.take (k + 1))).drop 1 = X4 ++ emV ms[k] := by rw [hst, hX4, hX3, hX2, hX1]; simp
      have hlen : X4.length + (emV ms[k]).length ≤ 100000000000000 := by
        have := congrArg List.length hX5
        simp only [List.length_append, List.length_drop, List.length_cons] at this
        have := HR.out
        rw [List.length_drop] at this
        omega
      have hlen4 := congrArg List.length hX4
      have hlen3 := congrArg List.length hX3
      have hlen2 := congrArg List.length hX2
      simp only [List.length_append, List.length_cons, List.length_nil] at hlen4 hlen3 hlen2
      rw [← hX1] at hwr
      clear hst hX1 hnm
      generalize ns[k] = nm at *
      generalize ms[k] = v' at *
      generalize hXX : strOf nm = XX at *
      have hxd : XX.data.toList = nm := by rw [← hXX]; rfl
      have hxs : XX.size = nm.length := by rw [← hXX]; rfl
      clear hXX
      generalize v'.k = y1 at *
      generalize v'.n = y2 at *
      generalize strOf v'.s = y3 at *
      generalize v'.l.length = y4 at *
      generalize v'.ms.length = y5 at *
      have a0 : wr.cell? ⟨g, o + k * 6 + 1, none⟩ = _ := hcell 0 _ rfl
      have a1 : wr.cell? ⟨g, o + k * 6 + 2, none⟩ = _ := hcell 1 _ rfl
      have a2 : wr.cell? ⟨g, o + k * 6 + 3, none⟩ = _ := hcell 2 _ rfl
      have a3 : wr.cell? ⟨g, o + k * 6 + 4, none⟩ = _ := hcell 3 _ rfl
      have a4 : wr.cell? ⟨g, o + k * 6 + 5, none⟩ = _ := hcell 4 _ rfl
      clear hcell hxa hva ea hRR
      have hbA : Below wr.heap.size wr (wr.alloc (.cells #[.string XX, .int .i64 y1, .int .i64 y2, .string y3, .slice p1 y4 p2, .slice p3 y5 p4] 50)) := (Below.refl _ _).alloc (Nat.le_refl _) _
      have hcm := comma_any B b (fun k => F k ∨ k = wr.heap.size) X1 k _ (hwr.more (.cells #[.string XX, .int .i64 y1, .int .i64 y2, .string y3, .slice p1 y4 p2, .slice p3 y5 p4] 50)) (by have := hbA.size; omega) (by omega)
      rw [← hX2] at hcm
      clear hX2
      have HCM := Lib.hid hcm; clear hcm
      have hqc := fun w2 h2 h3 => quote_any B b (fun k => F k ∨ k = wr.heap.size) X2 XX w2 h2 h3 (by omega) (by omega)
      rw [hxd, ← hX3] at hqc
      clear hX3
      have HQC := Lib.hid hqc; clear hqc
      have hpc := fun w2 h2 => put_any B b (fun k => F k ∨ k = wr.heap.size) X3 ⟨#[58]⟩ w2 h2 (by show X3.length + 1 ≤ _; omega)
      rw [lit_data, ← hX4] at hpc
      clear hX4
      have HPC := Lib.hid hpc; clear hpc
      have HCALL := Lib.hid (fun w2 hb h2 h3 => hcall X4 w2 (hva2 w2 hb) h2 h3 (by omega)); clear hcall hva2
      have HDR := Lib.hid (And.intro hq (And.intro hdrn hdr)); clear hq hdr hdrn
      have HST := Lib.hid hX5; clear hX5
      have hkA := hwr.kp hbA (by omega)
      have HKA := Lib.hid (hkp.trans hkA)
      clear hkA hkp hbA hlen hlen2 hlen3 hlen4 hql hpre
      have FE : ∀ (j : Nat) u, ([.string XX, .int .i64 y1, .int .i64 y2, .string y3, .slice p1 y4 p2, .slice p3 y5 p4] : List Value)[j]? = some u → (wr.alloc (.cells #[.string XX, .int .i64 y1, .int .i64 y2, .string y3, .slice p1 y4 p2, .slice p3 y5 p4] 50)).cell? ⟨wr.heap.size, j, none⟩ = some u := fun j u hu => by
        rw [cell_of_row _ _ j _ _ _ (heap_alloc_new wr _)]
        simpa using hu
      go_wp2_with fail
      refine HCM.out.mono ?_
      rintro e w2 ⟨rfl, hw2, hk2⟩
      have hs2 := hk2.1.size
      rw [szAlloc'] at hs2
      have hcell : ∀ (j : Nat) u, ([.string XX, .int .i64 y1, .int .i64 y2, .string y3, .slice p1 y4 p2, .slice p3 y5 p4] : List Value)[j]? = some u → w2.cell? ⟨wr.heap.size, j, none⟩ = some u := fun j u hu => (World.cell?_of_block (hk2.2 wr.heap.size (.inr rfl))).trans (FE j u hu)
      have d0 := hcell 0 _ rfl
      have hK2 := HKA.out.trans (hk2.less (fun _ h => .inl h))
      have hc2 := HQC.out w2 hw2 (by omega)
      have HK2 := Lib.hid hK2; clear hK2
      have HC2 := Lib.hid hc2; clear hc2
      have HFE := Lib.hid hcell; clear hcell
      clear FE hk2 hw2
      go_wp2_with fail
      refine HC2.out.mono ?_
      rintro e w3 ⟨hk3, ⟨hok, rfl, hw3⟩ | ⟨hok, rfl⟩⟩
      · have HO := Lib.hid hok; clear hok
        have hs3 := hk3.1.size
        have hcell : ∀ (j : Nat) u, ([.string XX, .int .i64 y1, .int .i64 y2, .string y3, .slice p1 y4 p2, .slice p3 y5 p4] : List Value)[j]? = some u → w3.cell? ⟨wr.heap.size, j, none⟩ = some u := fun j u hu => (World.cell?_of_block (hk3.2 wr.heap.size (.inr rfl))).trans (HFE.out j u hu)
        have HFE3 := Lib.hid hcell; clear hcell
        have HK3 := Lib.hid (HK2.out.trans (hk3.less (fun _ h => .inl h)))
        have HP3 := Lib.hid (HPC.out w3 hw3)
        clear hw3 hk3
        go_wp2_with fail
        refine HP3.out.mono ?_
        rintro e w4 ⟨rfl, hw4, hk4⟩
        have hs4 := hk4.1.size
        have hcell : ∀ (j : Nat) u, ([.string XX, .int .i64 y1, .int .i64 y2, .string y3, .slice p1 y4 p2, .slice p3 y5 p4] : List Value)[j]? = some u → w4.cell? ⟨wr.heap.size, j, none⟩ = some u := fun j u hu => (World.cell?_of_block (hk4.2 wr.heap.size (.inr rfl))).trans (HFE3.out j u hu)
        have b1 := hcell 1 _ rfl
        have b2 := hcell 2 _ rfl
        have b3 := hcell 3 _ rfl
        have b4 := hcell 4 _ rfl
        have b5 := hcell 5 _ rfl
        have hK4 := HK3.out.trans (hk4.less (fun _ h => .inl h))
        have hc4 := HCALL.out w4 hK4.1 hw4 (by omega)
        have HK4 := Lib.hid hK4; clear hK4
        have HC4 := Lib.hid hc4; clear hc4
        clear hcell hk4 hw4
        go_wp2_with fail
        refine HC4.out.mono ?_
        rintro e w5 ⟨hk5, ⟨hok, rfl, hw5⟩ | ⟨hok, rfl⟩⟩
        · have HO5 := Lib.hid hok; clear hok
          go_wp2_with fail
          go_roundw
          case rel => exact ⟨k + 1, by go_num, by omega, by rw [HST.out]; exact hw5.less (fun _ h => .inl h), by rw [HDR.out.1, HDR.out.2.1, HDR.out.2.2]; exact ⟨fun h => ⟨h.1.2, h.2.2⟩, fun h => ⟨⟨HO.out, h.1⟩, HO5.out, h.2⟩⟩, HK4.out.trans (hk5.less (fun _ h => .inl h))⟩
          case measure => simp [intOf]; omega
        · have HO5 := Lib.hid hok; clear hok
          go_wp2_with fail
          go_ret
          exact ⟨HK4.out.trans (hk5.less (fun _ h => .inl h)), .inr ⟨fun h => HO5.out (HDR.out.2.2.1 (HDR.out.1.1 h).2).1, rfl⟩⟩
      · have HO := Lib.hid hok; clear hok
        go_wp2_with fail
        go_ret
        exact ⟨HK2.out.trans (hk3.less (fun _ h => .inl h)), .inr ⟨fun h => HO.out (HDR.out.2.1.1 (HDR.out.1.1 h).1).1, rfl⟩⟩
    · have hlb : decide ((k : Int) < (n : Int)) = false := decide_eq_false (by omega)
      have hlb2 : decide (k < n) = false := decide_eq_false hlt0
      obtain rfl : n = k := by omega
      have hfin : ms.take n = ms := List.take_of_length_le (by rw [HN.out]; exact Nat.le_refl _)
      have hfinn : ns.take n = ns := List.take_of_length_le (by rw [HNN.out, HN.out]; exact Nat.le_refl _)
      rw [hfin, hfinn] at hwr
      have hq2 : Q := hq.2 (by rw [List.drop_of_length_le (l := ms) (by rw [HN.out]; exact Nat.le_refl _), List.drop_of_length_le (l := ns) (by rw [HNN.out, HN.out]; exact Nat.le_refl _), okWL]; simp)
      have HQ2 := Lib.hid hq2; clear hq2 hq
      have hp := put_any B b F _ ⟨#[125]⟩ wr hwr (by have := HR.out; simp only [List.length_append, List.length_cons]; show _ + 1 ≤ _; omega)
      rw [lit_data, show X ++ 123 :: (emM ns ms).drop 1 ++ [125] = X ++ 123 :: ((emM ns ms).drop 1 ++ [125]) by simp, HY.out] at hp
      have HP := Lib.hid hp; clear hp hwr
      have HKP := Lib.hid hkp; clear hkp hbel
      go_wp2_with fail
      refine HP.out.mono ?_
      rintro e w2 ⟨rfl, hw2, hk2⟩
      go_wp2_with fail
      go_ret
      exact ⟨HKP.out.trans hk2, .inl ⟨HQ2.out, rfl, hw2⟩⟩

theorem okW_mk (k n : Int) (s : List UInt8) (l : List V) (ns : List (List UInt8)) (ms : List V) (hn : ns.length = ms.length) :
    (¬ own k n s l.length ns ms.length → ¬ okW (.mk k n s l ns ms)) ∧ (own k n s l.length ns ms.length → (k ≠ 5 → k ≠ 6 → okW (.mk k n s l ns ms)) ∧ (k = 5 → (okW (.mk k n s l ns ms) ↔ okWL l)) ∧ (k = 6 → (okW (.mk k n s l ns ms) ↔ ((∀ x ∈ ns, okS x) ∧ okWL ms)))) := by
  rw [okW]
  refine ⟨fun h1 h2 => h1 h2.1, fun h => ⟨fun h5 h6 => ?_, fun h5 => ?_, fun h6 => ?_⟩⟩
  · have e1 := own_l h h5
    have e2 := own_m h h6
    subst e1 e2
    have e3 := List.eq_nil_of_length_eq_zero (by simpa using hn : ns.length = 0)
    subst e3
    exact ⟨h, (fun x hx => by cases hx), by rw [okWL]; trivial, by rw [okWL]; trivial⟩
  · have e2 := own_m h (by omega)
    subst e2
    have e3 := List.eq_nil_of_length_eq_zero (by simpa using hn : ns.length = 0)
    subst e3
    exact ⟨fun h => h.2.2.1, fun g => ⟨h, (fun x hx => by cases hx), g, by rw [okWL]; trivial⟩⟩
  · have e1 := own_l h (by omega)
    subst e1
    exact ⟨fun h => ⟨h.2.1, h.2.2.2⟩, fun g => ⟨h, g.1, by rw [okWL]; trivial, g.2⟩⟩

set_option maxRecDepth 100000 in
set_option maxHeartbeats 16000000 in
theorem wvalue_any (lo hi B b : Nat) (hhi : hi ≤ B) (h : Nat) : ∀ (v : V), ht v ≤ h → lenV v → szU v ≤ 1099511627776 → WV lo hi B b v := by
  induction h with
  | zero => intro v hh; rw [ht_eq] at hh; omega
  | succ h ih =>
    intro v hh hlen hsz cs F X w hR hWt hB hr
    have hht := ht_eq v
    obtain ⟨A, c, A2, c2, rfl, hn, hL, hM⟩ := hR.cells
    obtain ⟨k, n, s, l, ns, ms⟩ := v
    simp only [V.k, V.n, V.s, V.l, V.ns, V.ms] at *
    rw [lenV] at hlen
    rw [szU] at hsz
    have hul := szUL_len l
    have hum := szUL_len ms
    have hss : s.length ≤ 1099511627776 := by omega
    have hns : ∀ x ∈ ns, x.length ≤ 1099511627776 := fun x hx => by have := sum_mem hx; omega
    have iR := fun w1 (hb : Below w.heap.size w w1) => isRight_any (.mk k n s l ns ms) _ lo w1 (hR.below hb (by omega) (by have := hb.size; omega)) (by show s.length ≤ maxLen; unfold maxLen; omega) (fun x hx => by have := hns x hx; unfold maxLen; omega) (by show ms.length ≤ _; omega)
    simp only [V.k, V.n, V.s, V.l, V.ns, V.ms] at iR
    have il : ∀ v' ∈ l, WV lo hi B b v' := fun v' hv => ih v' (by have := htL_mem hv; clear hL hM; omega) (lenL_mem hlen.2.1 hv) (by have := szUL_mem hv; omega)
    have im : ∀ v' ∈ ms, WV lo hi B b v' := fun v' hv => ih v' (by have := htL_mem hv; clear hL hM; omega) (lenL_mem hlen.2.2 hv) (by have := szUL_mem hv; omega)
    have hE : emV (.mk k n s l ns ms) = if k = 1 then wNull else if k = 2 then (if n = 1 then wTrue else wFalse) else if k = 3 then putL n else if k = 4 then qt s else if k = 5 then 91 :: ((emT l).drop 1 ++ [93]) else 123 :: ((emM ns ms).drop 1 ++ [125]) := by rw [emV]
    have hOK := okW_mk k n s l ns ms hn
    have hq4 : own k n s l.length ns ms.length → k = 4 → okS s := fun h => h.2.2.2.1
    have hq3 : own k n s l.length ns ms.length → k = 3 → -9007199254740991 ≤ n ∧ n ≤ 9007199254740991 := fun h => h.2.2.1
    have hq1 : own k n s l.length ns ms.length → 1 ≤ k ∧ k ≤ 6 := fun h => h.1.1
    have cl := fun F w1 (hb : Below B w w1) h1 h2 h3 => wlist_any lo hi B b l A c F X w1 il hhi (fun h0 => by
      obtain ⟨g, o, e, g1, g2, g3⟩ := hL h0
      exact ⟨g, o, e, g1, g2, RdAL.keep (fun p _ hp => hb.cell (by omega)) (Nat.le_refl _) (Nat.le_refl _) _ _ _ g1 g2 g3⟩) h1 h2 (by omega) h3
    have cm := fun F w1 (hb : Below B w w1) h1 h2 h3 => wmembers_any lo hi B b ns ms A2 c2 F X w1 im hn hhi (fun h0 => by
      obtain ⟨g, o, e, g1, g2, g3⟩ := hM h0
      exact ⟨g, o, e, g1, g2, RdAM.keep (fun p _ hp => hb.cell (by omega)) (Nat.le_refl _) (Nat.le_refl _) _ _ _ _ g1 g2 g3⟩) hns h1 h2 (by omega) h3
    have hql := qt_len s
    clear ih hh hht hR hL hM hlen hsz hul hum hns il im hn
    generalize own k n s l.length ns ms.length = Q at *
    generalize okW (V.mk k n s l ns ms) = OK at *
    generalize emV (V.mk k n s l ns ms) = E at *
    generalize okWL l = OL at *
    generalize ((∀ x ∈ ns, okS x) ∧ okWL ms) = OM at *
    generalize (91 :: ((emT l).drop 1 ++ [93])) = EL at *
    generalize (123 :: ((emM ns ms).drop 1 ++ [125])) = EM at *
    generalize l.length = ll at *
    generalize ms.length = lm at *
    generalize hS : strOf s = S at *
    have hSd : S.data.toList = s := by rw [← hS]; rfl
    have hSs : S.size = s.length := by rw [← hS]; rfl
    clear hS
    have IR := Lib.hid iR; clear iR
    have CL := Lib.hid cl; clear cl
    have CM := Lib.hid cm; clear cm
    have HE := Lib.hid hE; clear hE
    have HOK := Lib.hid hOK; clear hOK
    have HQ := Lib.hid (And.intro hq1 (And.intro hq3 hq4)); clear hq1 hq3 hq4
    have HWT := Lib.hid hWt; clear hWt
    have hb0 : ∀ o, Below w.heap.size w (w.alloc o) := fun o => (Below.refl _ _).alloc (Nat.le_refl _) _
    have HB0 := Lib.hid hb0; clear hb0
    go_enter Try.func43, Try.ntmps43
    go_wp2_with fail
    refine (IR.out _ (HB0.out _)).mono ?_
    rintro e w1 ⟨⟨x, rfl, hx⟩, hb⟩
    have hbw : Below w.heap.size w w1 := (HB0.out _).trans (hb.mono (by simp))
    have hz1 := (hb.block w.heap.size (by simp)).trans (heap_alloc_new w _)
    have f0 := (cell_of_row _ _ 0 _ _ _ hz1).trans rfl
    have f1 := (cell_of_row _ _ 1 _ _ _ hz1).trans rfl
    have f2 := (cell_of_row _ _ 2 _ _ _ hz1).trans rfl
    have f3 := (cell_of_row _ _ 3 _ _ _ hz1).trans rfl
    have f4 := (cell_of_row _ _ 4 _ _ _ hz1).trans rfl
    have hsz1 := hbw.size
    have hw1 := HWT.out.keep hbw
    have hk1 := HWT.out.kp hbw hB
    clear hz1 hb
    have HW1 := Lib.hid hw1; clear hw1
    have HK1 := Lib.hid hk1; clear hk1
    have HX := Lib.hid hx; clear hx
    cases x with
    | false =>
      have hno : ¬ OK := HOK.out.1 (fun hq => by have := HX.out.2 hq; simp at this)
      have HNO := Lib.hid hno; clear hno
      go_wp2_with fail
      go_ret
      exact ⟨HK1.out, .inr ⟨HNO.out, rfl⟩⟩
    | true =>
      have hq : Q := HX.out.1 (by trivial)
      have hk := HQ.out.1 hq
      have hok := HOK.out.2 hq
      have hq3 := HQ.out.2.1 hq
      have hq4 := HQ.out.2.2 hq
      clear HQ HOK HX IR
      by_cases h1 : k = 1
      · have hEe : E = wNull := by rw [HE.out, if_pos h1]
        subst h1 hEe
        have hp := put_any B b F X ⟨#[110, 117, 108, 108]⟩ w1 HW1.out (by show X.length + 4 ≤ _; omega)
        have HP := Lib.hid hp; clear hp
        have HO := Lib.hid (hok.1 (by decide) (by decide)); clear hok hq3 hq4
        go_wp2_with fail
        refine HP.out.mono ?_
        rintro e w2 ⟨rfl, hw2, hk2⟩
        go_wp2_with fail
        go_ret
        exact ⟨HK1.out.trans hk2, .inl ⟨HO.out, rfl, hw2⟩⟩
      · have t1 : (k == 1) = false := by rw [beq_eq_false_iff_ne]; exact h1
        by_cases h2 : k = 2
        · have hEe : E = if n = 1 then wTrue else wFalse := by rw [HE.out, if_neg h1, if_pos h2]
          subst h2
          have hp := truth_any B b F X n w1 HW1.out (by omega)
          rw [← hEe] at hp
          clear hEe
          have HP := Lib.hid hp; clear hp
          have HO := Lib.hid (hok.1 (by decide) (by decide)); clear hok hq3 hq4
          go_wp2_with fail
          refine HP.out.mono ?_
          rintro e w2 ⟨rfl, hw2, hk2⟩
          go_wp2_with fail
          go_ret
          exact ⟨HK1.out.trans hk2, .inl ⟨HO.out, rfl, hw2⟩⟩
        · have t2 : (k == 2) = false := by rw [beq_eq_false_iff_ne]; exact h2
          by_cases h3 : k = 3
          · have hEe : E = putL n := by rw [HE.out, if_neg h1, if_neg h2, if_pos h3]
            subst h3 hEe
            have hn3 := hq3 rfl
            have hpl := Nu.putL_len n
            have hc := fun w => Nu.Put_any n w (by omega) (by omega)
            have hp := fun w2 h2 => put_any B b F X (strOf (putL n)) w2 h2 (by rw [strOf_size]; omega)
            rw [strOf_data] at hp
            have HP := Lib.hid hp; clear hp
            have HC := Lib.hid hc; clear hc
            have HO := Lib.hid (hok.1 (by decide) (by decide)); clear hok hq3 hq4 hpl
            generalize putL n = Y at *
            go_wp2_with fail
            refine (HC.out _).mono ?_
            rintro e w2 ⟨rfl, hb2⟩
            have hw2 := HW1.out.keep hb2
            have hk2 := HW1.out.kp hb2 (by omega)
            have HK2 := Lib.hid (HK1.out.trans hk2); clear hk2
            have HP2 := Lib.hid (HP.out w2 hw2); clear hw2 hb2
            go_wp2_with fail
            refine HP2.out.mono ?_
            rintro e w3 ⟨rfl, hw3, hk3⟩
            go_wp2_with fail
            go_ret
            exact ⟨HK2.out.trans hk3, .inl ⟨HO.out, rfl, hw3⟩⟩
          · have t3 : (k == 3) = false := by rw [beq_eq_false_iff_ne]; exact h3
            by_cases h4 : k = 4
            · have hEe : E = qt s := by rw [HE.out, if_neg h1, if_neg h2, if_neg h3, if_pos h4]
              subst h4 hEe
              have hp := quote_any B b F X S w1 HW1.out (by omega) (by omega) (by omega)
              rw [hSd] at hp
              have HP := Lib.hid hp; clear hp
              have HO := Lib.hid (hok.1 (by decide) (by decide))
              have HO4 := Lib.hid (hq4 rfl); clear hok hq3 hq4
              go_wp2_with fail
              refine HP.out.mono ?_
              rintro e w2 ⟨hk2, ⟨_, rfl, hw2⟩ | ⟨hno, rfl⟩⟩
              · go_wp2_with fail
                go_ret
                exact ⟨HK1.out.trans hk2, .inl ⟨HO.out, rfl, hw2⟩⟩
              · exact absurd HO4.out hno
            · have t4 : (k == 4) = false := by rw [beq_eq_false_iff_ne]; exact h4
              by_cases h5 : k = 5
              · have hEe : E = EL := by rw [HE.out, if_neg h1, if_neg h2, if_neg h3, if_neg h4, if_pos h5]
                subst h5 hEe
                have hp := CL.out F w1 HK1.out.1 HW1.out (by omega) (by omega)
                have HP := Lib.hid hp; clear hp
                have HO := Lib.hid (hok.2.1 rfl); clear hok hq3 hq4
                go_wp2_with fail
                refine HP.out.mono ?_
                rintro e w2 ⟨hk2, ⟨hy, rfl, hw2⟩ | ⟨hno, rfl⟩⟩
                · have HY := Lib.hid hy; clear hy
                  go_wp2_with fail
                  go_ret
                  exact ⟨HK1.out.trans hk2, .inl ⟨HO.out.2 HY.out, rfl, hw2⟩⟩
                · have HY := Lib.hid hno; clear hno
                  go_wp2_with fail
                  go_ret
                  exact ⟨HK1.out.trans hk2, .inr ⟨fun h => HY.out (HO.out.1 h), rfl⟩⟩
              · have t5 : (k == 5) = false := by rw [beq_eq_false_iff_ne]; exact h5
                have h6 : k = 6 := by omega
                have hEe : E = EM := by rw [HE.out, if_neg h1, if_neg h2, if_neg h3, if_neg h4, if_neg h5]
                subst h6 hEe
                have hp := CM.out F w1 HK1.out.1 HW1.out (by omega) (by omega)
                have HP := Lib.hid hp; clear hp
                have HO := Lib.hid (hok.2.2 rfl); clear hok hq3 hq4
                go_wp2_with fail
                refine HP.out.mono ?_
                rintro e w2 ⟨hk2, ⟨hy, rfl, hw2⟩ | ⟨hno, rfl⟩⟩
                · have HY := Lib.hid hy; clear hy
                  go_wp2_with fail
                  go_ret
                  exact ⟨HK1.out.trans hk2, .inl ⟨HO.out.2 HY.out, rfl, hw2⟩⟩
                · have HY := Lib.hid hno; clear hno
                  go_wp2_with fail
                  go_ret
                  exact ⟨HK1.out.trans hk2, .inr ⟨fun h => HY.out (HO.out.1 h), rfl⟩⟩

/-- a value's long text -/
def GivesL (v : V) (w : World) (e : Ending) (w' : World) : Prop := Below w.heap.size w w' ∧ ((okW v ∧ e = .returned (.string (strOf (emV v)))) ∨ (¬ okW v ∧ e = .returned (.string (strOf []))))

set_option maxRecDepth 100000 in
set_option maxHeartbeats 8000000 in
theorem Long_any (v : V) (cs : List Value) (lo : Nat) (w : World) (hl : lenV v) (hz : szU v ≤ 1099511627776) (hR : RdA w lo w.heap.size v cs) :
    Calls Try.prog 32 #[.agg cs.toArray] w (GivesL v w) := by
  obtain ⟨A, c, A2, c2, e, _, _, _⟩ := hR.cells
  have hel := emV_len v hl
  have hv := fun w1 (hb : Below w.heap.size w w1) h1 => wvalue_any lo w.heap.size w.heap.size (w.heap.size + 1) (Nat.le_refl _) (ht v) v (Nat.le_refl _) hl hz cs (fun _ => False) [] w1 (hR.below hb (Nat.le_refl _) (Nat.le_refl _)) h1 hb.size (by simp; omega)
  rw [e] at hv ⊢
  clear hR
  generalize v.k = y1 at *
  generalize v.n = y2 at *
  generalize strOf v.s = y3 at *
  generalize v.l.length = y4 at *
  generalize v.ms.length = y5 at *
  have HV := Lib.hid hv; clear hv
  have hbx := ((Below.refl w.heap.size w).alloc (Nat.le_refl _) (.cells #[.int .i64 y1, .int .i64 y2, .string y3, .slice A y4 c, .slice A2 y5 c2] 25)).alloc (by simp) (.cells #[.slice none 0 0] 69)
  have hwt : Wtr w.heap.size (w.heap.size + 1) (fun _ => False) [] ((w.alloc (.cells #[.int .i64 y1, .int .i64 y2, .string y3, .slice A y4 c, .slice A2 y5 c2] 25)).alloc (.cells #[.slice none 0 0] 69)) := by
    have := heap_alloc_new (w.alloc (.cells #[.int .i64 y1, .int .i64 y2, .string y3, .slice A y4 c, .slice A2 y5 c2] 25)) (.cells #[.slice none 0 0] 69)
    rw [szAlloc'] at this
    exact ⟨_, this, World.ownsRow_nil _ _ _ _, by omega, (fun h => h), (fun _ _ h => h), fun _ h => absurd h (fun h => h)⟩
  have hc := HV.out _ hbx hwt
  clear HV hwt hbx
  have HC := Lib.hid hc; clear hc
  go_enter Try.func32, Try.ntmps32
  go_wp2_with fail
  refine HC.out.mono ?_
  rintro e w1 ⟨hk, ⟨hok, rfl, hw⟩ | ⟨hno, rfl⟩⟩
  · have hbx := ((Below.refl w.heap.size w).alloc (Nat.le_refl _) (.cells #[.int .i64 y1, .int .i64 y2, .string y3, .slice A y4 c, .slice A2 y5 c2] 25)).alloc (by simp) (.cells #[.slice none 0 0] 69)
    have HB := Lib.hid (hbx.trans hk.1); clear hbx hk
    obtain ⟨vb, hb1, hown, _⟩ := hw
    have c0 := (cell_of_row _ _ 0 _ _ _ hb1).trans rfl
    have hcv := (Rd.of_own hown).conv (P := Try.prog) Try.underlying67 Try.underlying5 Try.underlying9
    have HO := Lib.hid hok; clear hok
    obtain ⟨A3, c3, rfl⟩ := own_shape hown
    rw [List.nil_append] at hcv c0
    clear hown hb1
    go_wp2_with fail
    go_ret
    exact ⟨HB.out, .inl ⟨HO.out, rfl⟩⟩
  · have hbx := ((Below.refl w.heap.size w).alloc (Nat.le_refl _) (.cells #[.int .i64 y1, .int .i64 y2, .string y3, .slice A y4 c, .slice A2 y5 c2] 25)).alloc (by simp) (.cells #[.slice none 0 0] 69)
    have HB := Lib.hid (hbx.trans hk.1); clear hbx hk
    have HO := Lib.hid hno; clear hno
    go_wp2_with fail
    go_ret
    exact ⟨HB.out, .inr ⟨HO.out, rfl⟩⟩

/-- what Text tells of a value -/
def txtR (v : V) : List UInt8 := if chk v = 0 then emV v else []
def GivesT (v : V) (w : World) (e : Ending) (w' : World) : Prop := e = .returned (.tuple #[.string (strOf (txtR v)), .int .i64 (chk v)]) ∧ Below w.heap.size w w'

set_option maxRecDepth 100000 in
set_option maxHeartbeats 8000000 in
theorem Text_any (v : V) (cs : List Value) (lo : Nat) (w : World) (hl : lenV v) (hz : szU v ≤ 1099511627776) (hsz : szA 4611686018427387904 v) (hR : RdA w lo w.heap.size v cs) :
    Calls Try.prog 19 #[.agg cs.toArray] w (GivesT v w) := by
  obtain ⟨A, c, A2, c2, e, _, _, _⟩ := hR.cells
  have hc := fun w1 (hb : Below w.heap.size w w1) => Check_any v cs lo w1 hsz (hR.below hb (Nat.le_refl _) hb.size)
  have hg := fun w1 (hb : Below w.heap.size w w1) => Long_any v cs lo w1 hl hz (hR.below hb (Nat.le_refl _) hb.size)
  have hok := fun h => chk_okW (v := v) h hl
  rw [e] at hc hg ⊢
  unfold GivesT txtR
  clear hR
  generalize chk v = y at *
  generalize v.k = y1 at *
  generalize v.n = y2 at *
  generalize strOf v.s = y3 at *
  generalize v.l.length = y4 at *
  generalize v.ms.length = y5 at *
  have HC := Lib.hid hc; clear hc
  have HG := Lib.hid hg; clear hg
  have hbx := (Below.refl w.heap.size w).alloc (Nat.le_refl _) (.cells #[.int .i64 y1, .int .i64 y2, .string y3, .slice A y4 c, .slice A2 y5 c2] 25)
  have HB := Lib.hid hbx; clear hbx
  have FE : ∀ (j : Nat) u, ([.int .i64 y1, .int .i64 y2, .string y3, .slice A y4 c, .slice A2 y5 c2] : List Value)[j]? = some u → (w.alloc (.cells #[.int .i64 y1, .int .i64 y2, .string y3, .slice A y4 c, .slice A2 y5 c2] 25)).cell? ⟨w.heap.size, j, none⟩ = some u := fun j u hu => by
    rw [cell_of_row _ _ j _ _ _ (heap_alloc_new w _)]
    simpa using hu
  by_cases hy : y = 0
  · subst hy
    have HO := Lib.hid (hok rfl); clear hok
    rw [if_pos rfl]
    go_enter Try.func19, Try.ntmps19
    go_wp2_with fail
    refine (HC.out _ HB.out).mono ?_
    rintro e w1 ⟨rfl, hb1⟩
    have hcell : ∀ (j : Nat) u, ([.int .i64 y1, .int .i64 y2, .string y3, .slice A y4 c, .slice A2 y5 c2] : List Value)[j]? = some u → w1.cell? ⟨w.heap.size, j, none⟩ = some u := fun j u hu => (hb1.cell (p := ⟨w.heap.size, j, none⟩) (by simp)).trans (FE j u hu)
    have d0 := hcell 0 _ rfl
    have d1 := hcell 1 _ rfl
    have d2 := hcell 2 _ rfl
    have d3 := hcell 3 _ rfl
    have d4 := hcell 4 _ rfl
    clear hcell FE
    have HB1 := Lib.hid (HB.out.trans (hb1.mono (by simp))); clear hb1
    go_wp2_with fail
    refine (HG.out _ HB1.out).mono ?_
    rintro e w2 ⟨hb2, ⟨_, rfl⟩ | ⟨hno, rfl⟩⟩
    · go_wp2_with fail
      go_ret2
      exact ⟨rfl, HB1.out.trans (hb2.mono HB1.out.size)⟩
    · exact absurd HO.out hno
  · have t1 : (y != 0) = true := by rw [bne_iff_ne]; exact hy
    rw [if_neg hy]
    clear hy hok
    go_enter Try.func19, Try.ntmps19
    go_wp2_with fail
    refine (HC.out _ HB.out).mono ?_
    rintro e w1 ⟨rfl, hb1⟩
    have HB1 := Lib.hid (HB.out.trans (hb1.mono (by simp))); clear hb1 FE
    go_wp2_with fail
    go_ret2
    exact ⟨rfl, HB1.out⟩
end Go.Proofs.Ytbepnjgbkfidiaa.Em
