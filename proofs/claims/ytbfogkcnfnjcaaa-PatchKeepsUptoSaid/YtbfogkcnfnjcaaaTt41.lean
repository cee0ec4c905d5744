/- Merged: PaKp PaW3. -/
import Derived.Test.YtbfogkcnfnjcaaaTt40
import Derived.Test.YtbfogkcnfnjcaaaTt31
import Derived.Deep.MidRow
namespace Go.Proofs.Ytbfogkcnfnjcaaa.Pa
open Go.Proofs Go.RowKit Go.Lib
open Go.Proofs.Ytbfogkcnfnjcaaa.Utf
open Go.Proofs.Ytbfogkcnfnjcaaa.Sc
open Go.Proofs.Ytbfogkcnfnjcaaa.Re
open Go.Proofs.Ytbfogkcnfnjcaaa.Tr
open Go.Proofs.Ytbfogkcnfnjcaaa.Po
open Go.Proofs.Ytbfogkcnfnjcaaa.Em (szU szUL)

theorem apply_T {v p : V} {w w' : World} {e : Ending} (h : GivesApply v p w e w') (hk : fitP v p → szU (aplV v (lst p)) ≤ 10000000) :
    ∃ (xk xn : Int) (xS : ByteArray) (xA : Option Addr) (xl xc : Nat) (xB : Option Addr) (T : List M3) (xd : Nat) (xe : Int) (FM : List Nat), e = .returned (.tuple #[.agg #[.int .i64 xk, .int .i64 xn, .string xS, .slice xA xl xc, .slice xB T.length xd], .int .i64 xe]) ∧
      MapT w' xB T FM ∧ FM.Nodup ∧ (∀ x ∈ FM, w.heap.size ≤ x ∧ x < w'.heap.size) ∧ T.length ≤ 10000000 ∧ (∀ t ∈ T, t.1.l ≤ 10000000 ∧ t.1.m ≤ 10000000) ∧ Below w.heap.size w w' := by
  obtain ⟨⟨cs, n, rfl, hx⟩, hb⟩ := h
  rcases hx with ⟨hf, -, F, hr, hn, hlt⟩ | ⟨-, -, rfl⟩
  · obtain ⟨A, c, A2, c2, FL, FM, T, rfl, rfl, -, t2, hm⟩ := mapT_of hr
    rw [List.nodup_append] at hn
    have hl : (aplV v (lst p)).ms.length = T.length := by rw [← t2, tV_len]
    refine ⟨_, _, _, A, _, c, A2, T, c2, n, FM, by rw [hl], hm, hn.2.1, fun x hx => hlt x (List.mem_append_right _ hx), by rw [← hl]; exact Nat.le_trans (ms_szU _) (hk hf), fun t ht => ?_, hb⟩
    have h1 : t.2.1 ∈ (aplV v (lst p)).ms := by rw [← t2]; exact List.mem_map.2 ⟨t, ht, rfl⟩
    have h2 := szUL_mem h1
    have h3 := szU_eq' (aplV v (lst p))
    have h4 := hk hf
    obtain ⟨_, _, _, _, _, _, e, -⟩ := (hm.rd t ht).cells
    unfold m6tail at e
    simp only [List.cons.injEq, Value.slice.injEq, and_true] at e
    obtain ⟨-, -, -, ⟨-, e1, -⟩, -, e2, -⟩ := e
    have h5 := ms_szU t.2.1
    have h6 := szU_eq' t.2.1
    have h7 := Em.szUL_len' t.2.1.l
    omega
  · exact ⟨0, 0, ⟨#[]⟩, none, 0, 0, none, [], 0, n, [], rfl, ⟨fun h => by simp at h, fun _ => rfl, fun t h => by cases h⟩, List.nodup_nil, (fun x h => by cases h), Nat.zero_le _, (fun t h => by cases h), hb⟩
theorem kids {w : World} {v : V} {cs : List Value} {F : List Nat} (h : RdF w v cs F) {k n : Int} {S : ByteArray} {A A2 : Option Addr} {l c m c2 : Nat} (e : cs = [.int .i64 k, .int .i64 n, .string S, .slice A l c, .slice A2 m c2]) :
    (∀ j, j < l → ∃ g, A = some ⟨g, 0, none⟩ ∧ g ∈ F ∧ w.there g (j * 5) 5) ∧ (∀ j, j < m → ∃ g, A2 = some ⟨g, 0, none⟩ ∧ g ∈ F ∧ w.there g (j * 6) 6) := by
  obtain ⟨A', c', A2', c2', FL, FM, e', hn, rfl, hL, hM⟩ := h.cells
  rw [e] at e'
  simp only [List.cons.injEq, Value.slice.injEq, and_true] at e'
  obtain ⟨-, -, -, ⟨rfl, rfl, rfl⟩, rfl, rfl, rfl⟩ := e'
  refine ⟨fun j hj => ?_, fun j hj => ?_⟩
  · rcases hL with ⟨h0, _⟩ | ⟨g, T, _, e1, rfl, hr⟩
    · omega
    · obtain ⟨Fs, f1, -, f3⟩ := RdFL.items v.l T 0 hr
      obtain ⟨cs', p1, p2⟩ := f3 j hj (by rw [f1]; exact hj)
      obtain ⟨_, _, _, _, _, _, rfl, -⟩ := p2.cells
      have := p1.there
      rw [Nat.zero_add] at this
      exact ⟨g, e1, by simp, this⟩
  · rcases hM with ⟨h0, _⟩ | ⟨g, T, _, e1, rfl, hr⟩
    · omega
    · obtain ⟨Fs, f1, -, f3⟩ := RdFM.items v.ms v.ns T 0 hr hn
      obtain ⟨cs', p1, p2⟩ := f3 j hj (by rw [f1]; exact hj) (by rw [hn]; exact hj)
      obtain ⟨_, _, _, _, _, _, rfl, -⟩ := p2.cells
      have := p1.there
      rw [Nat.zero_add] at this
      exact ⟨g, e1, by simp, this⟩
structure KpI (W5 : World) (FM : List Nat) (g : Nat) (T : List M3) (wr : World) : Prop where
  chg : ChgF FM W5 wr
  there : ∀ b o n, W5.there b o n → wr.there b o n
  vcs : ∀ j (h : j < T.length), wr.cell? ⟨g, j * 6 + 1 + 3, none⟩ = some (.slice T[j].1.A T[j].1.l T[j].1.c) ∧ wr.cell? ⟨g, j * 6 + 1 + 4, none⟩ = some (.slice T[j].1.A2 T[j].1.m T[j].1.c2)
theorem KpI.set {W5 wr : World} {FM : List Nat} {g : Nat} {T : List M3} (h : KpI W5 FM g T wr) {b o : Nat} {vs : List Value} (hb : b ∈ FM) (hc : b ≠ g ∨ ∃ i, o = i * 6 ∧ vs.length = 1) : KpI W5 FM g T (wr.setCells b o vs) := by
  refine ⟨h.chg.trans (setCells_chg b FM hb vs o wr), fun b' o' n hh => World.there_setCells (h.there b' o' n hh) b o vs, fun j hj => ?_⟩
  obtain ⟨h1, h2⟩ := h.vcs j hj
  rcases hc with hc | ⟨i, rfl, h3⟩
  · exact ⟨(World.cell?_setCells_out b vs o wr _ (fun e => absurd e.symm hc)).trans h1, (World.cell?_setCells_out b vs o wr _ (fun e => absurd e.symm hc)).trans h2⟩
  · exact ⟨(World.cell?_setCells_out b vs _ wr _ (fun _ _ => by show _ < _ ∨ _ ≤ _; rw [h3]; simp only; omega)).trans h1, (World.cell?_setCells_out b vs _ wr _ (fun _ _ => by show _ < _ ∨ _ ≤ _; rw [h3]; simp only; omega)).trans h2⟩
theorem KpI.start {W5 : World} {FM : List Nat} {A : Option Addr} {T : List M3} (h : MapT W5 A T FM) : ∃ g, (0 < T.length → A = some ⟨g, 0, none⟩ ∧ FM = g :: tF T ∧ ∀ j, j < T.length → W5.there g (j * 6) 6) ∧ KpI W5 FM g T W5 := by
  by_cases h0 : 0 < T.length
  · obtain ⟨g, e, e2, hc⟩ := h.at_ h0
    refine ⟨g, fun _ => ⟨e, e2, fun j hj => (hc j hj).there⟩, ChgF.refl _ _, fun _ _ _ h => h, fun j hj => ?_⟩
    have := hc j hj
    exact ⟨(this 4 _ rfl).1, (this 5 _ rfl).1⟩
  · exact ⟨0, fun h => absurd h h0, ChgF.refl _ _, fun _ _ _ h => h, fun j hj => by omega⟩
end Go.Proofs.Ytbfogkcnfnjcaaa.Pa
set_option linter.unusedSimpArgs false
namespace Go.Proofs.Ytbfogkcnfnjcaaa.Pa
open Go.Proofs Go.RowKit Go.Lib
open Go.Proofs.Ytbfogkcnfnjcaaa.Utf
open Go.Proofs.Ytbfogkcnfnjcaaa.Sc
open Go.Proofs.Ytbfogkcnfnjcaaa.Re
open Go.Proofs.Ytbfogkcnfnjcaaa.Tr
open Go.Proofs.Ytbfogkcnfnjcaaa.Po
open Go.Proofs.Ytbfogkcnfnjcaaa.Em (lenV szU wfV szA_of chk Check_any)

set_option maxRecDepth 100000 in
set_option maxHeartbeats 2000000 in
theorem keeps_walk (v : V) (cv : List Value) (p : V) (cp : List Value) (w : World) (hv : RdA w 0 w.heap.size v cv) (zv : szU v ≤ 1048576) (fv : wfV v) (hp : RdA w 0 w.heap.size p cp) (zp : szU p ≤ 1048576) (fp : wfV p) :
    Calls Try.prog 6 #[.agg cv.toArray, .agg cp.toArray] w fun e w' => e = .returned (.bool true) ∧ Below w.heap.size w w' := by
  have lv := Em.len_of_RdA v cv hv
  have lp := Em.len_of_RdA p cp hp
  have sv : szA 4611686018427387904 v := szA_of _ v fv (by omega)
  have sp : szA 4611686018427387904 p := szA_of _ p fp (by omega)
  have HFEW := Lib.hid (fun (W : World) (hW : Below w.heap.size w W) => few_any v p cv cp W (hv.below hW (Nat.le_refl _) hW.size) (hp.below hW (Nat.le_refl _) hW.size) sv sp)
  have HCV := Lib.hid (fun (W : World) (hW : Below w.heap.size w W) => Check_any v cv 0 W sv (hv.below hW (Nat.le_refl _) hW.size))
  have HCP := Lib.hid (fun (W : World) (hW : Below w.heap.size w W) => Check_any p cp 0 W sp (hp.below hW (Nat.le_refl _) hW.size))
  have HAP := Lib.hid (fun (W : World) (hW : Below w.heap.size w W) => Apply_any v p cv cp W (hv.below hW (Nat.le_refl _) hW.size) (hp.below hW (Nat.le_refl _) hW.size) fv fp (by omega) (by omega))
  have HOUT := Lib.hid (show fitP v p → lenV (aplV v (lst p)) ∧ wfV (aplV v (lst p)) ∧ szU (aplV v (lst p)) ≤ 2097152 from fun h => by
    have hf := fit_of h lp
    refine ⟨apl_len _ v hf lv, wfV_apl _ v hf lv fv (fun m hm => by
      obtain ⟨nm, _, h2, _⟩ := lst_mem hm
      exact wfV_ms fp _ h2), ?_⟩
    have h1 := szU_take hf lv (lst p).length
    rw [apl_all] at h1
    omega)
  have HINV := Lib.hid (show (Try.prog.info? 25).map (·.size) = some 5 by kernel_rfl)
  have HMS := Lib.hid (show fitP v p → szU (aplV v (lst p)) ≤ 10000000 from fun h => by
    have h1 := (HOUT.out h).2.2
    omega)
  obtain ⟨cV, hcV⟩ : ∃ c, chk v = c := ⟨_, rfl⟩
  obtain ⟨cP, hcP⟩ : ∃ c, chk p = c := ⟨_, rfl⟩
  have HTV0 := Lib.hid (fun (h : cV = 0) (W : World) (hW : Below w.heap.size w W) => text_ok8 v cv W lv zv fv (hcV.trans h) (hv.below hW (Nat.le_refl _) hW.size))
  have HTP0 := Lib.hid (fun (h : cP = 0) (W : World) (hW : Below w.heap.size w W) => text_ok8 p cp W lp zp fp (hcP.trans h) (hp.below hW (Nat.le_refl _) hW.size))
  rw [hcV] at HCV
  rw [hcP] at HCP
  obtain ⟨A1, c1, A2, c2, ev, -⟩ := hv.cells
  obtain ⟨B1, e1, B2, e2, ep, -⟩ := hp.cells
  subst ev ep
  clear hv hp zv zp fv fp lv lp sv sp hcV hcP
  generalize strOf (Em.txtR v) = X1 at *
  generalize strOf (Em.txtR p) = X2 at *
  have htt1 : (X1.toList == X1.toList) = true := beq_self_eq_true _
  have htt2 : (X2.toList == X2.toList) = true := beq_self_eq_true _
  generalize v.k = k at *
  generalize v.n = n at *
  generalize strOf v.s = S at *
  generalize v.l.length = l1 at *
  generalize v.ms.length = m1 at *
  generalize p.k = pk at *
  generalize p.n = pn at *
  generalize strOf p.s = PS at *
  generalize p.l.length = pl at *
  generalize p.ms.length = pm at *
  obtain ⟨W0, hW0⟩ : ∃ W0, W0 = ((w.alloc (.cells #[.int .i64 k, .int .i64 n, .string S, .slice A1 l1 c1, .slice A2 m1 c2] 25)).alloc (.cells #[.int .i64 pk, .int .i64 pn, .string PS, .slice B1 pl e1, .slice B2 pm e2] 25)) := ⟨_, rfl⟩
  have HBW0 := Lib.hid (show Below w.heap.size w W0 by rw [hW0]; exact ((Below.refl _ _).alloc (Nat.le_refl _) _).alloc (by simp) _)
  have hs0 : W0.heap.size = w.heap.size + 2 := by rw [hW0, szAl, szAl]
  have RW0_0 := Lib.hid (show W0.heap[w.heap.size]? = some (.cells #[.int .i64 k, .int .i64 n, .string S, .slice A1 l1 c1, .slice A2 m1 c2] 25 (0, 0)) by rw [hW0]; exact heapOld ((show (w.alloc (.cells #[.int .i64 k, .int .i64 n, .string S, .slice A1 l1 c1, .slice A2 m1 c2] 25)).heap[w.heap.size]? = some (.cells #[.int .i64 k, .int .i64 n, .string S, .slice A1 l1 c1, .slice A2 m1 c2] 25 (0, 0)) from by rw [show w.heap.size = w.heap.size by simp]; exact heapNew _ _)) _)
  have LW0_0 := Lib.hid (show w.heap.size < W0.heap.size by omega)
  have RW0_1 := Lib.hid (show W0.heap[w.heap.size + 1]? = some (.cells #[.int .i64 pk, .int .i64 pn, .string PS, .slice B1 pl e1, .slice B2 pm e2] 25 (0, 0)) by rw [hW0]; exact (show ((w.alloc (.cells #[.int .i64 k, .int .i64 n, .string S, .slice A1 l1 c1, .slice A2 m1 c2] 25)).alloc (.cells #[.int .i64 pk, .int .i64 pn, .string PS, .slice B1 pl e1, .slice B2 pm e2] 25)).heap[w.heap.size + 1]? = some (.cells #[.int .i64 pk, .int .i64 pn, .string PS, .slice B1 pl e1, .slice B2 pm e2] 25 (0, 0)) from by rw [show w.heap.size + 1 = (w.alloc (.cells #[.int .i64 k, .int .i64 n, .string S, .slice A1 l1 c1, .slice A2 m1 c2] 25)).heap.size by simp]; exact heapNew _ _))
  have LW0_1 := Lib.hid (show w.heap.size + 1 < W0.heap.size by omega)
  have HW0 := Lib.hid hW0
  clear hW0 hs0
  go_enter Try.func6, Try.ntmps6
  go_wp2_with fail
  rw [← HW0.out]
  refine (awake_any9 _).mono ?_
  rintro e w1 ⟨rfl, hb⟩
  have Rw1_0 := Lib.hid (show w1.heap[w.heap.size]? = some (.cells #[.int .i64 k, .int .i64 n, .string S, .slice A1 l1 c1, .slice A2 m1 c2] 25 (0, 0)) from (hb.block _ LW0_0.out).trans RW0_0.out)
  have Lw1_0 := Lib.hid (show w.heap.size < w1.heap.size from Nat.lt_of_lt_of_le LW0_0.out hb.size)
  have Rw1_1 := Lib.hid (show w1.heap[w.heap.size + 1]? = some (.cells #[.int .i64 pk, .int .i64 pn, .string PS, .slice B1 pl e1, .slice B2 pm e2] 25 (0, 0)) from (hb.block _ LW0_1.out).trans RW0_1.out)
  have Lw1_1 := Lib.hid (show w.heap.size + 1 < w1.heap.size from Nat.lt_of_lt_of_le LW0_1.out hb.size)
  have HBw1 := Lib.hid (HBW0.out.trans (hb.mono HBW0.out.size))
  clear hb
  obtain ⟨⟨p0_0, p0_1, p0_2, p0_3, p0_4⟩, -⟩ := row5 Rw1_0.out
  obtain ⟨⟨p1_0, p1_1, p1_2, p1_3, p1_4⟩, -⟩ := row5 Rw1_1.out
  go_wp2_with fail
  clear p0_0 p0_1 p0_2 p0_3 p0_4 p1_0 p1_1 p1_2 p1_3 p1_4
  refine (HFEW.out _ HBw1.out).mono ?_
  rintro e w2 ⟨⟨b, rfl⟩, hb⟩
  have Rw2_0 := Lib.hid (show w2.heap[w.heap.size]? = some (.cells #[.int .i64 k, .int .i64 n, .string S, .slice A1 l1 c1, .slice A2 m1 c2] 25 (0, 0)) from (hb.block _ Lw1_0.out).trans Rw1_0.out)
  have Lw2_0 := Lib.hid (show w.heap.size < w2.heap.size from Nat.lt_of_lt_of_le Lw1_0.out hb.size)
  have Rw2_1 := Lib.hid (show w2.heap[w.heap.size + 1]? = some (.cells #[.int .i64 pk, .int .i64 pn, .string PS, .slice B1 pl e1, .slice B2 pm e2] 25 (0, 0)) from (hb.block _ Lw1_1.out).trans Rw1_1.out)
  have Lw2_1 := Lib.hid (show w.heap.size + 1 < w2.heap.size from Nat.lt_of_lt_of_le Lw1_1.out hb.size)
  have HBw2 := Lib.hid (HBw1.out.trans (hb.mono HBw1.out.size))
  clear hb
  cases b
  · obtain ⟨⟨p0_0, p0_1, p0_2, p0_3, p0_4⟩, -⟩ := row5 Rw2_0.out
    obtain ⟨⟨p1_0, p1_1, p1_2, p1_3, p1_4⟩, -⟩ := row5 Rw2_1.out
    go_wp2_with fail
    clear p0_0 p0_1 p0_2 p0_3 p0_4 p1_0 p1_1 p1_2 p1_3 p1_4
    refine (awake_any9 _).mono ?_
    rintro e w3 ⟨rfl, hb⟩
    have Rw3_0 := Lib.hid (show w3.heap[w.heap.size]? = some (.cells #[.int .i64 k, .int .i64 n, .string S, .slice A1 l1 c1, .slice A2 m1 c2] 25 (0, 0)) from (hb.block _ Lw2_0.out).trans Rw2_0.out)
    have Lw3_0 := Lib.hid (show w.heap.size < w3.heap.size from Nat.lt_of_lt_of_le Lw2_0.out hb.size)
    have Rw3_1 := Lib.hid (show w3.heap[w.heap.size + 1]? = some (.cells #[.int .i64 pk, .int .i64 pn, .string PS, .slice B1 pl e1, .slice B2 pm e2] 25 (0, 0)) from (hb.block _ Lw2_1.out).trans Rw2_1.out)
    have Lw3_1 := Lib.hid (show w.heap.size + 1 < w3.heap.size from Nat.lt_of_lt_of_le Lw2_1.out hb.size)
    have HBw3 := Lib.hid (HBw2.out.trans (hb.mono HBw2.out.size))
    clear hb
    go_wp2
    go_ret
    exact ⟨rfl, HBw3.out⟩
  · obtain ⟨⟨p0_0, p0_1, p0_2, p0_3, p0_4⟩, -⟩ := row5 Rw2_0.out
    obtain ⟨⟨p1_0, p1_1, p1_2, p1_3, p1_4⟩, -⟩ := row5 Rw2_1.out
    go_wp2_with fail
    clear p0_0 p0_1 p0_2 p0_3 p0_4 p1_0 p1_1 p1_2 p1_3 p1_4
    refine (HCV.out _ HBw2.out).mono ?_
    rintro e w3 ⟨rfl, hb⟩
    have Rw3_0 := Lib.hid (show w3.heap[w.heap.size]? = some (.cells #[.int .i64 k, .int .i64 n, .string S, .slice A1 l1 c1, .slice A2 m1 c2] 25 (0, 0)) from (hb.block _ Lw2_0.out).trans Rw2_0.out)
    have Lw3_0 := Lib.hid (show w.heap.size < w3.heap.size from Nat.lt_of_lt_of_le Lw2_0.out hb.size)
    have Rw3_1 := Lib.hid (show w3.heap[w.heap.size + 1]? = some (.cells #[.int .i64 pk, .int .i64 pn, .string PS, .slice B1 pl e1, .slice B2 pm e2] 25 (0, 0)) from (hb.block _ Lw2_1.out).trans Rw2_1.out)
    have Lw3_1 := Lib.hid (show w.heap.size + 1 < w3.heap.size from Nat.lt_of_lt_of_le Lw2_1.out hb.size)
    have HBw3 := Lib.hid (HBw2.out.trans (hb.mono HBw2.out.size))
    clear hb
    by_cases hcV : cV = 0
    · have HcV := Lib.hid hcV
      subst hcV
      obtain ⟨⟨p0_0, p0_1, p0_2, p0_3, p0_4⟩, -⟩ := row5 Rw3_0.out
      obtain ⟨⟨p1_0, p1_1, p1_2, p1_3, p1_4⟩, -⟩ := row5 Rw3_1.out
      go_wp2_with fail
      clear p0_0 p0_1 p0_2 p0_3 p0_4 p1_0 p1_1 p1_2 p1_3 p1_4
      refine (HCP.out _ HBw3.out).mono ?_
      rintro e w4 ⟨rfl, hb⟩
      have Rw4_0 := Lib.hid (show w4.heap[w.heap.size]? = some (.cells #[.int .i64 k, .int .i64 n, .string S, .slice A1 l1 c1, .slice A2 m1 c2] 25 (0, 0)) from (hb.block _ Lw3_0.out).trans Rw3_0.out)
      have Lw4_0 := Lib.hid (show w.heap.size < w4.heap.size from Nat.lt_of_lt_of_le Lw3_0.out hb.size)
      have Rw4_1 := Lib.hid (show w4.heap[w.heap.size + 1]? = some (.cells #[.int .i64 pk, .int .i64 pn, .string PS, .slice B1 pl e1, .slice B2 pm e2] 25 (0, 0)) from (hb.block _ Lw3_1.out).trans Rw3_1.out)
      have Lw4_1 := Lib.hid (show w.heap.size + 1 < w4.heap.size from Nat.lt_of_lt_of_le Lw3_1.out hb.size)
      have HBw4 := Lib.hid (HBw3.out.trans (hb.mono HBw3.out.size))
      clear hb
      by_cases hcP : cP = 0
      · have HcP := Lib.hid hcP
        subst hcP
        have HTV := Lib.hid (HTV0.out (by trivial))
        have HTP := Lib.hid (HTP0.out (by trivial))
        obtain ⟨⟨p0_0, p0_1, p0_2, p0_3, p0_4⟩, -⟩ := row5 Rw4_0.out
        obtain ⟨⟨p1_0, p1_1, p1_2, p1_3, p1_4⟩, -⟩ := row5 Rw4_1.out
        go_wp2_with fail
        clear p0_0 p0_1 p0_2 p0_3 p0_4 p1_0 p1_1 p1_2 p1_3 p1_4
        refine (HTV.out _ HBw4.out).mono ?_
        rintro e w5 ⟨rfl, hb⟩
        have Rw5_0 := Lib.hid (show w5.heap[w.heap.size]? = some (.cells #[.int .i64 k, .int .i64 n, .string S, .slice A1 l1 c1, .slice A2 m1 c2] 25 (0, 0)) from (hb.block _ Lw4_0.out).trans Rw4_0.out)
        have Lw5_0 := Lib.hid (show w.heap.size < w5.heap.size from Nat.lt_of_lt_of_le Lw4_0.out hb.size)
        have Rw5_1 := Lib.hid (show w5.heap[w.heap.size + 1]? = some (.cells #[.int .i64 pk, .int .i64 pn, .string PS, .slice B1 pl e1, .slice B2 pm e2] 25 (0, 0)) from (hb.block _ Lw4_1.out).trans Rw4_1.out)
        have Lw5_1 := Lib.hid (show w.heap.size + 1 < w5.heap.size from Nat.lt_of_lt_of_le Lw4_1.out hb.size)
        have HBw5 := Lib.hid (HBw4.out.trans (hb.mono HBw4.out.size))
        clear hb
        obtain ⟨⟨p0_0, p0_1, p0_2, p0_3, p0_4⟩, -⟩ := row5 Rw5_0.out
        obtain ⟨⟨p1_0, p1_1, p1_2, p1_3, p1_4⟩, -⟩ := row5 Rw5_1.out
        go_wp2_with fail
        clear p0_0 p0_1 p0_2 p0_3 p0_4 p1_0 p1_1 p1_2 p1_3 p1_4
        refine (HTP.out _ HBw5.out).mono ?_
        rintro e w6 ⟨rfl, hb⟩
        have Rw6_0 := Lib.hid (show w6.heap[w.heap.size]? = some (.cells #[.int .i64 k, .int .i64 n, .string S, .slice A1 l1 c1, .slice A2 m1 c2] 25 (0, 0)) from (hb.block _ Lw5_0.out).trans Rw5_0.out)
        have Lw6_0 := Lib.hid (show w.heap.size < w6.heap.size from Nat.lt_of_lt_of_le Lw5_0.out hb.size)
        have Rw6_1 := Lib.hid (show w6.heap[w.heap.size + 1]? = some (.cells #[.int .i64 pk, .int .i64 pn, .string PS, .slice B1 pl e1, .slice B2 pm e2] 25 (0, 0)) from (hb.block _ Lw5_1.out).trans Rw5_1.out)
        have Lw6_1 := Lib.hid (show w.heap.size + 1 < w6.heap.size from Nat.lt_of_lt_of_le Lw5_1.out hb.size)
        have HBw6 := Lib.hid (HBw5.out.trans (hb.mono HBw5.out.size))
        clear hb
        obtain ⟨⟨p0_0, p0_1, p0_2, p0_3, p0_4⟩, -⟩ := row5 Rw6_0.out
        obtain ⟨⟨p1_0, p1_1, p1_2, p1_3, p1_4⟩, -⟩ := row5 Rw6_1.out
        go_wp2_with fail
        clear p0_0 p0_1 p0_2 p0_3 p0_4 p1_0 p1_1 p1_2 p1_3 p1_4
        refine (HAP.out _ HBw6.out).mono ?_
        intro e w7 hres
        obtain ⟨xk, xn, xS, xA, xl, xc, xB, T, xd, xe, FM, rfl, hmt, hnd, hfl, htl, hts, hb⟩ := apply_T hres HMS.out
        have HFL0 := Lib.hid (show ∀ x ∈ FM, w6.heap.size ≤ x ∧ x < w7.heap.size from hfl)
        obtain ⟨tm, htm⟩ : ∃ tm, T.length = tm := ⟨_, rfl⟩
        have HTM := Lib.hid htm
        have HTL := Lib.hid (show tm ≤ 10000000 by rw [← htm]; exact htl)
        have HND := Lib.hid hnd
        have HTS := Lib.hid hts
        have HMT0 := Lib.hid hmt
        rw [htm]
        clear hres hmt hnd hfl htm htl
        have Rw7_0 := Lib.hid (show w7.heap[w.heap.size]? = some (.cells #[.int .i64 k, .int .i64 n, .string S, .slice A1 l1 c1, .slice A2 m1 c2] 25 (0, 0)) from (hb.block _ Lw6_0.out).trans Rw6_0.out)
        have Lw7_0 := Lib.hid (show w.heap.size < w7.heap.size from Nat.lt_of_lt_of_le Lw6_0.out hb.size)
        have Rw7_1 := Lib.hid (show w7.heap[w.heap.size + 1]? = some (.cells #[.int .i64 pk, .int .i64 pn, .string PS, .slice B1 pl e1, .slice B2 pm e2] 25 (0, 0)) from (hb.block _ Lw6_1.out).trans Rw6_1.out)
        have Lw7_1 := Lib.hid (show w.heap.size + 1 < w7.heap.size from Nat.lt_of_lt_of_le Lw6_1.out hb.size)
        have HBw7 := Lib.hid (HBw6.out.trans (hb.mono HBw6.out.size))
        clear hb
        obtain ⟨W7, hW7⟩ : ∃ W7, W7 = w7.alloc (.cells #[.int .i64 xk, .int .i64 xn, .string xS, .slice xA xl xc, .slice xB tm xd] 25) := ⟨_, rfl⟩
        have hb : Below w7.heap.size w7 W7 := by rw [hW7]; exact (Below.refl _ _).alloc (Nat.le_refl _) _
        have RW7_0 := Lib.hid (show W7.heap[w.heap.size]? = some (.cells #[.int .i64 k, .int .i64 n, .string S, .slice A1 l1 c1, .slice A2 m1 c2] 25 (0, 0)) from (hb.block _ Lw7_0.out).trans Rw7_0.out)
        have LW7_0 := Lib.hid (show w.heap.size < W7.heap.size from Nat.lt_of_lt_of_le Lw7_0.out hb.size)
        have RW7_1 := Lib.hid (show W7.heap[w.heap.size + 1]? = some (.cells #[.int .i64 pk, .int .i64 pn, .string PS, .slice B1 pl e1, .slice B2 pm e2] 25 (0, 0)) from (hb.block _ Lw7_1.out).trans Rw7_1.out)
        have LW7_1 := Lib.hid (show w.heap.size + 1 < W7.heap.size from Nat.lt_of_lt_of_le Lw7_1.out hb.size)
        have HBW7 := Lib.hid (HBw7.out.trans (hb.mono HBw7.out.size))
        have RW7_2 := Lib.hid (show W7.heap[w7.heap.size]? = some (.cells #[.int .i64 xk, .int .i64 xn, .string xS, .slice xA xl xc, .slice xB tm xd] 25 (0, 0)) by rw [hW7]; exact heapNew _ _)
        have LW7_2 := Lib.hid (show w7.heap.size < W7.heap.size by rw [hW7, szAl]; exact Nat.lt_succ_self _)
        have HW7 := Lib.hid hW7
        clear hW7 hb
        have HMT := Lib.hid (HMT0.out.keep (w' := W7) (fun k hk => by rw [HW7.out]; exact Below.heap_alloc _ _ _ (HFL0.out k hk).2))
        obtain ⟨g, hg, hkp⟩ := KpI.start HMT.out
        have HG := Lib.hid hg
        have HKP := Lib.hid hkp
        have HSB := Lib.hid (show W7.heap.size = w7.heap.size + 1 by rw [HW7.out]; exact szAl _ _)
        have HN0 := Lib.hid (show w.heap.size + 1 < w6.heap.size from Lw6_1.out)
        clear hg hkp
        have q0 := RW7_0.out
        rw [HW7.out] at q0
        obtain ⟨⟨p0_0, p0_1, p0_2, p0_3, p0_4⟩, -⟩ := row5 q0
        clear q0
        have q1 := RW7_1.out
        rw [HW7.out] at q1
        obtain ⟨⟨p1_0, p1_1, p1_2, p1_3, p1_4⟩, -⟩ := row5 q1
        clear q1
        have q2 := RW7_2.out
        rw [HW7.out] at q2
        obtain ⟨⟨p2_0, p2_1, p2_2, p2_3, p2_4⟩, -⟩ := row5 q2
        clear q2
        go_wp2_with fail
        rw [← HW7.out]
        clear p0_0 p0_1 p0_2 p0_3 p0_4 p1_0 p1_1 p1_2 p1_3 p1_4 p2_0 p2_1 p2_2 p2_3 p2_4
        go_loopw [11] (fun si wr => ∃ ii : Nat, si = .int .i64 ii ∧ ii ≤ tm ∧ Aside (KpI W7 FM g T wr)) (fun si _ => tm - (intOf si).toNat)
        case atStart => exact ⟨0, rfl, by omega, HKP⟩
        case round =>
          obtain ⟨ii, rfl, hii, hkp⟩ := hrel
          obtain ⟨wo, hwo⟩ : ∃ wo, wo = wr := ⟨_, rfl⟩
          subst hwo
          have HKO := Lib.hid hkp.out
          clear hkp
          have Rwo_0 := Lib.hid (show wo.heap[w.heap.size]? = some (.cells #[.int .i64 k, .int .i64 n, .string S, .slice A1 l1 c1, .slice A2 m1 c2] 25 (0, 0)) from (HKO.out.chg.block _ LW7_0.out (fun hx => by have := HFL0.out _ hx; have := HN0.out; omega)).trans RW7_0.out)
          have Rwo_1 := Lib.hid (show wo.heap[w.heap.size + 1]? = some (.cells #[.int .i64 pk, .int .i64 pn, .string PS, .slice B1 pl e1, .slice B2 pm e2] 25 (0, 0)) from (HKO.out.chg.block _ LW7_1.out (fun hx => by have := HFL0.out _ hx; have := HN0.out; omega)).trans RW7_1.out)
          have Rwo_2 := Lib.hid (show wo.heap[w7.heap.size]? = some (.cells #[.int .i64 xk, .int .i64 xn, .string xS, .slice xA xl xc, .slice xB tm xd] 25 (0, 0)) from (HKO.out.chg.block _ LW7_2.out (fun hx => by have := HFL0.out _ hx; have := HN0.out; omega)).trans RW7_2.out)
          by_cases hlt : ii < tm
          · have t1 : decide ((ii : Int) < (tm : Int)) = true := decide_eq_true (by omega)
            have t2 : decide (ii < tm) = true := decide_eq_true hlt
            have k0 : (0 : Int) ≤ (ii : Int) := by omega
            have k1 : (ii : Int) < (tm : Int) := by omega
            have k2 : ((ii : Int)).toNat = ii := by omega
            have HLT := Lib.hid hlt
            have htl := HTL.out
            have hit : ii < T.length := by rw [HTM.out]; exact hlt
            obtain ⟨rfl, hfm, hthr⟩ := HG.out (by omega)
            have HTHR := Lib.hid (hthr ii hit)
            have hgn : g ∉ tF T := by have := HND.out; rw [hfm, List.nodup_cons] at this; exact this.1
            have HGIN := Lib.hid (show g ∈ FM by rw [hfm]; simp)
            have hti : T[ii] ∈ T := List.getElem_mem hit
            have HSUB := Lib.hid (show ∀ x ∈ (T[ii]).2.2, x ∈ FM ∧ x ≠ g from fun x hx => by
              have h1 := tF_mem hti hx
              exact ⟨by rw [hfm]; exact List.mem_cons_of_mem _ h1, fun e => hgn (e ▸ h1)⟩)
            have hkid := kids (HMT.out.rd _ hti) (m6tail.eq_def _)
            have HKL := Lib.hid hkid.1
            have HKM := Lib.hid hkid.2
            have HCEL := Lib.hid (show ∀ wr, KpI W7 FM g T wr → wr.cell? ⟨g, ii * 6 + 1 + 3, none⟩ = some (.slice T[ii].1.A T[ii].1.l T[ii].1.c) ∧ wr.cell? ⟨g, ii * 6 + 1 + 4, none⟩ = some (.slice T[ii].1.A2 T[ii].1.m T[ii].1.c2) from fun wr h => h.vcs ii hit)
            have hcap := HTS.out _ hti
            generalize (T[ii]).2.2 = Fi at *
            obtain ⟨mm6, hm6⟩ : ∃ m, (T[ii]).1 = m := ⟨_, rfl⟩
            rw [hm6] at HKL HKM HCEL hcap
            obtain ⟨tn, tk, tv, tS, tA, tl, tc, tB, tq, td⟩ := mm6
            simp only at HKL HKM HCEL hcap
            have HTLL := Lib.hid hcap.1
            have HTQ := Lib.hid hcap.2
            clear hit hfm hthr hgn hti hkid hm6 hlt hcap
            obtain ⟨⟨p0, p1, p2, p3, p4⟩, -⟩ := row5 Rwo_2.out
            obtain ⟨c3, c4⟩ := HCEL.out _ HKO.out
            go_wp2_with fail
            clear p0 p1 p2 p3 p4 c3 c4
            go_loopw [12] (fun sj wr => ∃ jj : Nat, sj = .int .i64 jj ∧ jj ≤ tq ∧ Aside (KpI W7 FM g T wr)) (fun sj _ => tq - (intOf sj).toNat)
            case atStart => exact ⟨0, rfl, by omega, HKO⟩
            case round =>
              obtain ⟨jj, rfl, hjj, hkp⟩ := hrel
              obtain ⟨wj, hwj⟩ : ∃ wj, wj = wr := ⟨_, rfl⟩
              subst hwj
              have HKJ := Lib.hid hkp.out
              clear hkp
              have Rwj_0 := Lib.hid (show wj.heap[w.heap.size]? = some (.cells #[.int .i64 k, .int .i64 n, .string S, .slice A1 l1 c1, .slice A2 m1 c2] 25 (0, 0)) from (HKJ.out.chg.block _ LW7_0.out (fun hx => by have := HFL0.out _ hx; have := HN0.out; omega)).trans RW7_0.out)
              have Rwj_1 := Lib.hid (show wj.heap[w.heap.size + 1]? = some (.cells #[.int .i64 pk, .int .i64 pn, .string PS, .slice B1 pl e1, .slice B2 pm e2] 25 (0, 0)) from (HKJ.out.chg.block _ LW7_1.out (fun hx => by have := HFL0.out _ hx; have := HN0.out; omega)).trans RW7_1.out)
              have Rwj_2 := Lib.hid (show wj.heap[w7.heap.size]? = some (.cells #[.int .i64 xk, .int .i64 xn, .string xS, .slice xA xl xc, .slice (some ⟨g, 0, none⟩) tm xd] 25 (0, 0)) from (HKJ.out.chg.block _ LW7_2.out (fun hx => by have := HFL0.out _ hx; have := HN0.out; omega)).trans RW7_2.out)
              by_cases hl2 : jj < tq
              · have s1 : decide ((jj : Int) < (tq : Int)) = true := decide_eq_true (by omega)
                have s2 : decide (jj < tq) = true := decide_eq_true hl2
                have j0 : (0 : Int) ≤ (jj : Int) := by omega
                have j1 : (jj : Int) < (tq : Int) := by omega
                have j2 : ((jj : Int)).toNat = jj := by omega
                have HL2 := Lib.hid hl2
                have hq9 := HTQ.out
                obtain ⟨g2, rfl, hg2, hth⟩ := HKM.out jj hl2
                obtain ⟨hs1, hs2⟩ := HKJ.out.there _ _ _ hth 0 (by omega)
                rw [Nat.add_zero] at hs1 hs2
                obtain ⟨u0, hu0⟩ := Option.isSome_iff_exists.1 hs1
                have HST := Lib.hid (HKJ.out.set (vs := [.string ⟨#[115, 112, 111, 105, 108, 116]⟩]) (o := jj * 6) (HSUB.out g2 hg2).1 (.inl (HSUB.out g2 hg2).2))
                clear hl2 hth hs1 hg2
                obtain ⟨⟨p0, p1, p2, p3, p4⟩, -⟩ := row5 Rwj_2.out
                obtain ⟨c3, c4⟩ := HCEL.out _ HKJ.out
                go_wp2
                go_roundw
                case rel => exact ⟨jj + 1, by go_num, by have := HL2.out; omega, HST⟩
                case measure => have := HL2.out; simp [intOf]; omega
              · have s1 : decide ((jj : Int) < (tq : Int)) = false := decide_eq_false (by omega)
                have s2 : decide (jj < tq) = false := decide_eq_false hl2
                clear hl2 hjj
                obtain ⟨⟨p0, p1, p2, p3, p4⟩, -⟩ := row5 Rwj_2.out
                obtain ⟨c3, c4⟩ := HCEL.out _ HKJ.out
                go_wp2_with fail
                clear p0 p1 p2 p3 p4 c3 c4
                go_loopw [13] (fun sj wr => ∃ ll : Nat, sj = .int .i64 ll ∧ ll ≤ tl ∧ Aside (KpI W7 FM g T wr)) (fun sj _ => tl - (intOf sj).toNat)
                case atStart => exact ⟨0, rfl, by omega, HKJ⟩
                case round =>
                  obtain ⟨ll, rfl, hll, hkp⟩ := hrel
                  obtain ⟨wl, hwl⟩ : ∃ wl, wl = wr := ⟨_, rfl⟩
                  subst hwl
                  have HKL2 := Lib.hid hkp.out
                  clear hkp
                  have Rwl_0 := Lib.hid (show wl.heap[w.heap.size]? = some (.cells #[.int .i64 k, .int .i64 n, .string S, .slice A1 l1 c1, .slice A2 m1 c2] 25 (0, 0)) from (HKL2.out.chg.block _ LW7_0.out (fun hx => by have := HFL0.out _ hx; have := HN0.out; omega)).trans RW7_0.out)
                  have Rwl_1 := Lib.hid (show wl.heap[w.heap.size + 1]? = some (.cells #[.int .i64 pk, .int .i64 pn, .string PS, .slice B1 pl e1, .slice B2 pm e2] 25 (0, 0)) from (HKL2.out.chg.block _ LW7_1.out (fun hx => by have := HFL0.out _ hx; have := HN0.out; omega)).trans RW7_1.out)
                  have Rwl_2 := Lib.hid (show wl.heap[w7.heap.size]? = some (.cells #[.int .i64 xk, .int .i64 xn, .string xS, .slice xA xl xc, .slice (some ⟨g, 0, none⟩) tm xd] 25 (0, 0)) from (HKL2.out.chg.block _ LW7_2.out (fun hx => by have := HFL0.out _ hx; have := HN0.out; omega)).trans RW7_2.out)
                  by_cases hl3 : ll < tl
                  · have s3 : decide ((ll : Int) < (tl : Int)) = true := decide_eq_true (by omega)
                    have s4 : decide (ll < tl) = true := decide_eq_true hl3
                    have l0 : (0 : Int) ≤ (ll : Int) := by omega
                    have l1 : (ll : Int) < (tl : Int) := by omega
                    have l2 : ((ll : Int)).toNat = ll := by omega
                    have HL3 := Lib.hid hl3
                    have hq8 := HTLL.out
                    obtain ⟨g3, rfl, hg3, hth⟩ := HKL.out ll hl3
                    have HTH := Lib.hid (HKL2.out.there _ _ _ hth)
                    have HST := Lib.hid (HKL2.out.set (vs := [.int .i64 0, .int .i64 0, .string ⟨#[]⟩, .slice none 0 0, .slice none 0 0]) (o := ll * 5) (HSUB.out g3 hg3).1 (.inl (HSUB.out g3 hg3).2))
                    clear hl3 hth hg3
                    obtain ⟨⟨p0, p1, p2, p3, p4⟩, -⟩ := row5 Rwl_2.out
                    obtain ⟨c3, c4⟩ := HCEL.out _ HKL2.out
                    go_wp2_with (guard_target = wpList _ _ _ (Oper.mk _ (Op.store _ _ _) _ _ _ _ :: _) _ _; refine wpList_store_mid rfl 25 _ _ rfl g3 (ll * 5) #[.int .i64 0, .int .i64 0, .string ⟨#[]⟩, .slice none 0 0, .slice none 0 0] rfl rfl HTH.out HINV.out (by simp [Value.oneCell']) ?_)
                    go_roundw
                    case rel => exact ⟨ll + 1, by go_num, by have := HL3.out; omega, HST⟩
                    case measure => have := HL3.out; simp [intOf]; omega
                  · have s3 : decide ((ll : Int) < (tl : Int)) = false := decide_eq_false (by omega)
                    have s4 : decide (ll < tl) = false := decide_eq_false hl3
                    obtain ⟨hs1, hs2⟩ := HKL2.out.there _ _ _ HTHR.out 0 (by omega)
                    rw [Nat.add_zero] at hs1 hs2
                    obtain ⟨u0, hu0⟩ := Option.isSome_iff_exists.1 hs1
                    have HST := Lib.hid (HKL2.out.set (vs := [.string ⟨#[115, 112, 111, 105, 108, 116]⟩]) (o := ii * 6) HGIN.out (.inr ⟨ii, rfl, rfl⟩))
                    have htl9 := HTL.out
                    clear hl3 hs1 hll
                    obtain ⟨⟨p0, p1, p2, p3, p4⟩, -⟩ := row5 Rwl_2.out
                    obtain ⟨c3, c4⟩ := HCEL.out _ HKL2.out
                    go_wp2
                    go_roundw
                    case rel => exact ⟨ii + 1, by go_num, by have := HLT.out; omega, HST⟩
                    case measure => have := HLT.out; simp [intOf]; omega
          · have t1 : decide ((ii : Int) < (tm : Int)) = false := decide_eq_false (by omega)
            have t2 : decide (ii < tm) = false := decide_eq_false hlt
            clear hlt hii
            have HBwo := Lib.hid (show Below w.heap.size w wo from HBW7.out.trans (HKO.out.chg.below HBW7.out.size (fun x hx => by have := (HFL0.out x hx).1; have := HN0.out; omega)))
            have Lwo_0 := Lib.hid (show w.heap.size < wo.heap.size from Nat.lt_of_lt_of_le LW7_0.out HKO.out.chg.size)
            have Lwo_1 := Lib.hid (show w.heap.size + 1 < wo.heap.size from Nat.lt_of_lt_of_le LW7_1.out HKO.out.chg.size)
            have Lwo_2 := Lib.hid (show w7.heap.size < wo.heap.size from Nat.lt_of_lt_of_le LW7_2.out HKO.out.chg.size)
            obtain ⟨⟨p0_0, p0_1, p0_2, p0_3, p0_4⟩, -⟩ := row5 Rwo_0.out
            obtain ⟨⟨p1_0, p1_1, p1_2, p1_3, p1_4⟩, -⟩ := row5 Rwo_1.out
            obtain ⟨⟨p2_0, p2_1, p2_2, p2_3, p2_4⟩, -⟩ := row5 Rwo_2.out
            go_wp2_with fail
            clear p0_0 p0_1 p0_2 p0_3 p0_4 p1_0 p1_1 p1_2 p1_3 p1_4 p2_0 p2_1 p2_2 p2_3 p2_4
            refine (HTV.out _ HBwo.out).mono ?_
            rintro e w8 ⟨rfl, hb⟩
            have Rw8_0 := Lib.hid (show w8.heap[w.heap.size]? = some (.cells #[.int .i64 k, .int .i64 n, .string S, .slice A1 l1 c1, .slice A2 m1 c2] 25 (0, 0)) from (hb.block _ Lwo_0.out).trans Rwo_0.out)
            have Lw8_0 := Lib.hid (show w.heap.size < w8.heap.size from Nat.lt_of_lt_of_le Lwo_0.out hb.size)
            have Rw8_1 := Lib.hid (show w8.heap[w.heap.size + 1]? = some (.cells #[.int .i64 pk, .int .i64 pn, .string PS, .slice B1 pl e1, .slice B2 pm e2] 25 (0, 0)) from (hb.block _ Lwo_1.out).trans Rwo_1.out)
            have Lw8_1 := Lib.hid (show w.heap.size + 1 < w8.heap.size from Nat.lt_of_lt_of_le Lwo_1.out hb.size)
            have Rw8_2 := Lib.hid (show w8.heap[w7.heap.size]? = some (.cells #[.int .i64 xk, .int .i64 xn, .string xS, .slice xA xl xc, .slice xB tm xd] 25 (0, 0)) from (hb.block _ Lwo_2.out).trans Rwo_2.out)
            have Lw8_2 := Lib.hid (show w7.heap.size < w8.heap.size from Nat.lt_of_lt_of_le Lwo_2.out hb.size)
            have HBw8 := Lib.hid (HBwo.out.trans (hb.mono HBwo.out.size))
            clear hb
            obtain ⟨⟨p0_0, p0_1, p0_2, p0_3, p0_4⟩, -⟩ := row5 Rw8_0.out
            obtain ⟨⟨p1_0, p1_1, p1_2, p1_3, p1_4⟩, -⟩ := row5 Rw8_1.out
            obtain ⟨⟨p2_0, p2_1, p2_2, p2_3, p2_4⟩, -⟩ := row5 Rw8_2.out
            go_wp2_with fail
            clear p0_0 p0_1 p0_2 p0_3 p0_4 p1_0 p1_1 p1_2 p1_3 p1_4 p2_0 p2_1 p2_2 p2_3 p2_4
            refine (HTP.out _ HBw8.out).mono ?_
            rintro e w9 ⟨rfl, hb⟩
            have Rw9_0 := Lib.hid (show w9.heap[w.heap.size]? = some (.cells #[.int .i64 k, .int .i64 n, .string S, .slice A1 l1 c1, .slice A2 m1 c2] 25 (0, 0)) from (hb.block _ Lw8_0.out).trans Rw8_0.out)
            have Lw9_0 := Lib.hid (show w.heap.size < w9.heap.size from Nat.lt_of_lt_of_le Lw8_0.out hb.size)
            have Rw9_1 := Lib.hid (show w9.heap[w.heap.size + 1]? = some (.cells #[.int .i64 pk, .int .i64 pn, .string PS, .slice B1 pl e1, .slice B2 pm e2] 25 (0, 0)) from (hb.block _ Lw8_1.out).trans Rw8_1.out)
            have Lw9_1 := Lib.hid (show w.heap.size + 1 < w9.heap.size from Nat.lt_of_lt_of_le Lw8_1.out hb.size)
            have Rw9_2 := Lib.hid (show w9.heap[w7.heap.size]? = some (.cells #[.int .i64 xk, .int .i64 xn, .string xS, .slice xA xl xc, .slice xB tm xd] 25 (0, 0)) from (hb.block _ Lw8_2.out).trans Rw8_2.out)
            have Lw9_2 := Lib.hid (show w7.heap.size < w9.heap.size from Nat.lt_of_lt_of_le Lw8_2.out hb.size)
            have HBw9 := Lib.hid (HBw8.out.trans (hb.mono HBw8.out.size))
            clear hb
            go_wp2
            go_ret
            exact ⟨rfl, HBw9.out⟩
      · have tcP : (cP != 0) = true := bne_iff_ne.2 hcP
        clear hcP
        obtain ⟨⟨p0_0, p0_1, p0_2, p0_3, p0_4⟩, -⟩ := row5 Rw4_0.out
        obtain ⟨⟨p1_0, p1_1, p1_2, p1_3, p1_4⟩, -⟩ := row5 Rw4_1.out
        go_wp2_with fail
        clear p0_0 p0_1 p0_2 p0_3 p0_4 p1_0 p1_1 p1_2 p1_3 p1_4
        refine (awake_any9 _).mono ?_
        rintro e w5 ⟨rfl, hb⟩
        have Rw5_0 := Lib.hid (show w5.heap[w.heap.size]? = some (.cells #[.int .i64 k, .int .i64 n, .string S, .slice A1 l1 c1, .slice A2 m1 c2] 25 (0, 0)) from (hb.block _ Lw4_0.out).trans Rw4_0.out)
        have Lw5_0 := Lib.hid (show w.heap.size < w5.heap.size from Nat.lt_of_lt_of_le Lw4_0.out hb.size)
        have Rw5_1 := Lib.hid (show w5.heap[w.heap.size + 1]? = some (.cells #[.int .i64 pk, .int .i64 pn, .string PS, .slice B1 pl e1, .slice B2 pm e2] 25 (0, 0)) from (hb.block _ Lw4_1.out).trans Rw4_1.out)
        have Lw5_1 := Lib.hid (show w.heap.size + 1 < w5.heap.size from Nat.lt_of_lt_of_le Lw4_1.out hb.size)
        have HBw5 := Lib.hid (HBw4.out.trans (hb.mono HBw4.out.size))
        clear hb
        go_wp2
        go_ret
        exact ⟨rfl, HBw5.out⟩
    · have tcV : (cV != 0) = true := bne_iff_ne.2 hcV
      clear hcV
      obtain ⟨⟨p0_0, p0_1, p0_2, p0_3, p0_4⟩, -⟩ := row5 Rw3_0.out
      obtain ⟨⟨p1_0, p1_1, p1_2, p1_3, p1_4⟩, -⟩ := row5 Rw3_1.out
      go_wp2_with fail
      clear p0_0 p0_1 p0_2 p0_3 p0_4 p1_0 p1_1 p1_2 p1_3 p1_4
      refine (awake_any9 _).mono ?_
      rintro e w4 ⟨rfl, hb⟩
      have Rw4_0 := Lib.hid (show w4.heap[w.heap.size]? = some (.cells #[.int .i64 k, .int .i64 n, .string S, .slice A1 l1 c1, .slice A2 m1 c2] 25 (0, 0)) from (hb.block _ Lw3_0.out).trans Rw3_0.out)
      have Lw4_0 := Lib.hid (show w.heap.size < w4.heap.size from Nat.lt_of_lt_of_le Lw3_0.out hb.size)
      have Rw4_1 := Lib.hid (show w4.heap[w.heap.size + 1]? = some (.cells #[.int .i64 pk, .int .i64 pn, .string PS, .slice B1 pl e1, .slice B2 pm e2] 25 (0, 0)) from (hb.block _ Lw3_1.out).trans Rw3_1.out)
      have Lw4_1 := Lib.hid (show w.heap.size + 1 < w4.heap.size from Nat.lt_of_lt_of_le Lw3_1.out hb.size)
      have HBw4 := Lib.hid (HBw3.out.trans (hb.mono HBw3.out.size))
      clear hb
      go_wp2
      go_ret
      exact ⟨rfl, HBw4.out⟩
end Go.Proofs.Ytbfogkcnfnjcaaa.Pa
