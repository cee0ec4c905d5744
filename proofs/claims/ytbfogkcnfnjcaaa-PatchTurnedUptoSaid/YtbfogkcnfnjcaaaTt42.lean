/- Merged: PaW4. -/
import Derived.Test.YtbfogkcnfnjcaaaTt41
import Derived.Test.YtbfogkcnfnjcaaaTt32
set_option linter.unusedSimpArgs false
namespace Go.Proofs.Ytbfogkcnfnjcaaa.Pa
open Go.Proofs Go.RowKit Go.Lib
open Go.Proofs.Ytbfogkcnfnjcaaa.Utf
open Go.Proofs.Ytbfogkcnfnjcaaa.Sc
open Go.Proofs.Ytbfogkcnfnjcaaa.Re
open Go.Proofs.Ytbfogkcnfnjcaaa.Tr
open Go.Proofs.Ytbfogkcnfnjcaaa.Po
open Go.Proofs.Ytbfogkcnfnjcaaa.Em (lenV szU wfV szA_of chk Check_any)

structure TuI (W5 : World) (g : Nat) (T : List M3) (wr : World) : Prop where
  ex : ∃ T' : List M3, T'.Perm T ∧ ∀ j (h : j < T'.length), CellsAt wr g (j * 6) (encM T'[j].1)
  chg : ChgF [g] W5 wr
theorem TuI.start {W : World} {n0 : Nat} {A : Option Addr} {T : List M3} {FM : List Nat} (h : MapT W A T FM) (hF : ∀ k ∈ FM, n0 ≤ k) (hW : n0 ≤ W.heap.size) (hn : FM.Nodup) :
    ∃ g, ((0 < T.length → A = some ⟨g, 0, none⟩ ∧ FM = g :: tF T) ∧ n0 ≤ g ∧ (g ∈ FM ∨ g = W.heap.size) ∧ g ∉ tF T) ∧ TuI W g T W := by
  by_cases h0 : 0 < T.length
  · obtain ⟨g, e, e2, hc⟩ := h.at_ h0
    refine ⟨g, ⟨fun _ => ⟨e, e2⟩, hF g (by rw [e2]; simp), .inl (by rw [e2]; simp), ?_⟩, ⟨T, List.Perm.refl _, hc⟩, ChgF.refl _ _⟩
    rw [e2, List.nodup_cons] at hn
    exact hn.1
  · have e : T = [] := List.eq_nil_of_length_eq_zero (by omega)
    subst e
    exact ⟨W.heap.size, ⟨fun h => absurd h h0, hW, .inr rfl, by simp [tF]⟩, ⟨[], List.Perm.refl _, fun j h => by simp at h⟩, ChgF.refl _ _⟩
theorem TuI.read {W5 wo : World} {A2 : Option Addr} {g : Nat} {T : List M3} {FM : List Nat} (h : TuI W5 g T wo) (hm : MapT W5 A2 T FM) (hA : 0 < T.length → A2 = some ⟨g, 0, none⟩ ∧ FM = g :: tF T) (hg : g ∉ tF T) (hF : ∀ k ∈ FM, k < W5.heap.size) :
    ∃ T' FM', T'.Perm T ∧ MapT wo A2 T' FM' ∧ ∀ k ∈ FM', k ∈ FM := by
  obtain ⟨T', hp, hc⟩ := h.ex
  by_cases h0 : 0 < T.length
  · obtain ⟨rfl, rfl⟩ := hA h0
    refine ⟨T', g :: tF T', hp, ⟨fun _ => ⟨g, rfl, rfl, hc⟩, fun h1 => by rw [hp.length_eq] at h1; omega, fun t ht => ?_⟩, fun k hk => ?_⟩
    · have hT := hp.mem_iff.1 ht
      refine RdF.keep _ _ _ (fun k hk => ?_) (hm.rd t hT)
      have h2 := tF_mem hT hk
      exact h.chg.block k (hF k (List.mem_cons_of_mem _ h2)) (by rw [List.mem_singleton]; rintro rfl; exact hg h2)
    · rcases List.mem_cons.1 hk with rfl | hk
      · simp
      · exact List.mem_cons_of_mem _ ((tF_perm hp k).1 hk)
  · have e : T = [] := List.eq_nil_of_length_eq_zero (by omega)
    subst e
    obtain rfl : T' = [] := List.eq_nil_of_length_eq_zero (by rw [hp.length_eq]; rfl)
    exact ⟨[], [], List.Perm.refl _, ⟨fun h => by simp at h, fun _ => rfl, fun t h => by cases h⟩, fun k h => by cases h⟩
theorem eq_turn {v p q : V} (h : Fit v (lst p)) (hL : (lst p).Perm (lst q)) (hv : lenV v) (hcv : chk v = 0) (hl : lenV p) (hcp : chk p = 0) : Eq7 (aplV v (lst p)) (aplV v (lst q)) := by
  have t1 := ty_chk hcv
  have t2 := ty_lst (ty_chk hcp)
  have n1 := nd_chk hv hcv
  have n2 : ∀ m ∈ lst p, ndV m.2 := fun m hm => by
    obtain ⟨nm, _, h2, _⟩ := lst_mem hm
    exact nd_ms (nd_chk hl hcp) _ h2
  exact ⟨apl_perm h hL hv t1 t2, ⟨nd_apl _ v h hv n1 n2, nd_apl _ v (h.perm hL) hv n1 fun m hm => n2 m (hL.mem_iff.2 hm)⟩, ⟨apl_len _ v h hv, apl_len _ v (h.perm hL) hv⟩⟩
theorem rd_mp0 (w : World) (lo hi : Nat) : RdA w lo hi (mpV ([], [])) [.int .i64 6, .int .i64 0, .string ⟨#[]⟩, .slice none 0 0, .slice none 0 0] := by
  rw [mpV, RdA]
  exact ⟨none, 0, none, 0, rfl, rfl, fun h => by simp at h, fun h => by simp at h⟩
theorem mp0_wf : wfV (mpV ([], [])) := wfV_mp fun y h => by cases h
theorem mp0_sz : szU (mpV ([], [])) = 1 := by rw [szU_mp]; simp [Em.szUL]
theorem mp0_fit {v : V} : fitP v (mpV ([], [])) ↔ v.k = 6 := ⟨fun h => h.1, fun h => ⟨h, rfl, Nat.zero_le _, (fun nm h => by cases h), List.Pairwise.nil⟩⟩
theorem eq7_zero : Eq7 V0 V0 := ⟨rfl, ⟨by unfold V0; simp [ndV, ndL], by unfold V0; simp [ndV, ndL]⟩, ⟨by unfold V0; simp [Em.lenV, Em.lenL], by unfold V0; simp [Em.lenV, Em.lenL]⟩⟩
theorem same7_zero (w : World) : Calls Try.prog 15 #[.agg #[.int .i64 0, .int .i64 0, .string ⟨#[]⟩, .slice none 0 0, .slice none 0 0], .agg #[.int .i64 0, .int .i64 0, .string ⟨#[]⟩, .slice none 0 0, .slice none 0 0]] w fun e w' => e = .returned (.bool true) ∧ Below w.heap.size w w' :=
  rSame7_any (ht V0) V0 V0 [.int .i64 0, .int .i64 0, .string ⟨#[]⟩, .slice none 0 0, .slice none 0 0] [.int .i64 0, .int .i64 0, .string ⟨#[]⟩, .slice none 0 0, .slice none 0 0] w (Nat.le_refl _) (by unfold V0; simp [szA, szAL]; decide) eq7_zero (rd_zero _ _ _) (rd_zero _ _ _)
theorem cells_set {w : World} {g o : Nat} {cs : List Value} (ht : w.there g o cs.length) : CellsAt (w.setCells g o cs) g o cs := fun j u hu =>
  ⟨World.rangeAt_setCells_same w g o cs ht j u hu, by rw [World.frozen?_setCells]; exact (ht j (List.getElem?_eq_some_iff.1 hu).1).2⟩
theorem TuI.swap {W5 wr : World} {g : Nat} {T T' : List M3} (hp : T'.Perm T) (hc : ∀ j (h : j < T'.length), CellsAt wr g (j * 6) (encM T'[j].1)) (hch : ChgF [g] W5 wr) {a b : Nat} (ha : a < T'.length) (hb : b < T'.length) :
    TuI W5 g T ((wr.setCells g (a * 6) (encM T'[b].1)).setCells g (b * 6) (encM T'[a].1)) := by
  refine ⟨⟨swp T' a b T'[a] T'[b], (swp_perm ha hb).trans hp, fun j hj => ?_⟩, (hch.trans (setCells_chg g [g] (by simp) _ _ _)).trans (setCells_chg g [g] (by simp) _ _ _)⟩
  have hjl : j < T'.length := by rw [set_len2] at hj; exact hj
  have l6 : ∀ x : M6, (encM x).length = 6 := fun x => rfl
  have hth : ∀ j (h : j < T'.length), wr.there g (j * 6) 6 := fun j h => (hc j h).there
  by_cases e : j = b
  · subst e
    have h1 : (swp T' a j T'[a] T'[j])[j] = T'[a] := by simp [swp, List.getElem_set]
    rw [h1]
    exact cells_set (World.there_setCells (by rw [l6]; exact hth j hb) _ _ _)
  · by_cases e2 : j = a
    · subst e2
      have h1 : (swp T' j b T'[j] T'[b])[j] = T'[b] := by simp only [swp, List.getElem_set]; rw [if_neg (by omega)]; simp
      rw [h1]
      exact (cells_set (by rw [l6]; exact hth j ha)).apart _ _ (by rw [l6, l6]; omega)
    · have h1 : (swp T' a b T'[a] T'[b])[j] = T'[j] := by simp only [swp, List.getElem_set]; rw [if_neg (by omega), if_neg (by omega)]
      rw [h1]
      exact ((hc j hjl).apart _ _ (by rw [l6, l6]; omega)).apart _ _ (by rw [l6, l6]; omega)
theorem setCells_drew (b : Nat) : ∀ (vs : List Value) (o : Nat) (w : World), w.drew.setCells b o vs = (w.setCells b o vs).drew
  | [], _, _ => rfl
  | v :: r, o, w => by
    rw [World.setCells, World.setCells]
    exact setCells_drew b r (o + 1) (w.setCell ⟨b, o, none⟩ v)
theorem TuI.drew {W5 : World} {g : Nat} {T : List M3} {wr : World} (h : TuI W5 g T wr) : TuI W5 g T wr.drew := by
  obtain ⟨T', hp, hc⟩ := h.ex
  exact ⟨⟨T', hp, fun j hj => (hc j hj).keep rfl⟩, ⟨h.chg.os, h.chg.tape, h.chg.output, h.chg.size, h.chg.block⟩⟩
theorem set_row {w : World} {b g o : Nat} {vs : List Value} {x : Option Obj} (hb : b ≠ g) (h : w.heap[b]? = x) : (w.setCells g o vs).drew.heap[b]? = x := (setCells_other hb vs o w).trans h
theorem set_row' {w : World} {b g o : Nat} {vs : List Value} {x : Option Obj} (hb : b ≠ g) (h : w.heap[b]? = x) : (w.setCells g o vs).heap[b]? = x := (setCells_other hb vs o w).trans h
theorem set_there {w : World} {g o g' o' n : Nat} {vs : List Value} (h : w.there g' o' n) : (w.setCells g o vs).drew.there g' o' n := fun j hj => World.there_setCells h g o vs j hj
theorem six_there {w : World} {g o : Nat} (h : w.there g o 6) : ∃ u0 u1 u2 u3 u4 u5, (w.cell? ⟨g, o, none⟩ = some u0 ∧ w.cell? ⟨g, o + 1, none⟩ = some u1 ∧ w.cell? ⟨g, o + 2, none⟩ = some u2 ∧ w.cell? ⟨g, o + 3, none⟩ = some u3 ∧ w.cell? ⟨g, o + 4, none⟩ = some u4 ∧ w.cell? ⟨g, o + 5, none⟩ = some u5) ∧
    w.frozen? ⟨g, o, none⟩ = false ∧ w.frozen? ⟨g, o + 1, none⟩ = false ∧ w.frozen? ⟨g, o + 2, none⟩ = false ∧ w.frozen? ⟨g, o + 3, none⟩ = false ∧ w.frozen? ⟨g, o + 4, none⟩ = false ∧ w.frozen? ⟨g, o + 5, none⟩ = false := by
  obtain ⟨u0, h0⟩ := Option.isSome_iff_exists.1 (h 0 (by omega)).1
  obtain ⟨u1, h1⟩ := Option.isSome_iff_exists.1 (h 1 (by omega)).1
  obtain ⟨u2, h2⟩ := Option.isSome_iff_exists.1 (h 2 (by omega)).1
  obtain ⟨u3, h3⟩ := Option.isSome_iff_exists.1 (h 3 (by omega)).1
  obtain ⟨u4, h4⟩ := Option.isSome_iff_exists.1 (h 4 (by omega)).1
  obtain ⟨u5, h5⟩ := Option.isSome_iff_exists.1 (h 5 (by omega)).1
  exact ⟨u0, u1, u2, u3, u4, u5, ⟨h0, h1, h2, h3, h4, h5⟩, (h 0 (by omega)).2, (h 1 (by omega)).2, (h 2 (by omega)).2, (h 3 (by omega)).2, (h 4 (by omega)).2, (h 5 (by omega)).2⟩

set_option maxRecDepth 100000 in
set_option maxHeartbeats 2000000 in
theorem turned_walk (v : V) (cv : List Value) (p : V) (cp : List Value) (ov : Value) (xs : List Int) (w : World) (hv : RdA w 0 w.heap.size v cv) (zv : szU v ≤ 1048576) (fv : wfV v) (hp : RdA w 0 w.heap.size p cp) (zp : szU p ≤ 1048576) (fp : wfV p) (ho : Rd w w.heap.size ov (xs.map fun n => .int .i64 n)) (hxw : ∀ n ∈ xs, (Lit.int .i64 n).wf = true) (_hxl : xs.length ≤ 1048576) :
    Calls Try.prog 4 #[.agg cv.toArray, .agg cp.toArray, ov] w fun e w' => e = .returned (.bool true) ∧ Below w.heap.size w w' := by
  have lv := Em.len_of_RdA v cv hv
  have lp := Em.len_of_RdA p cp hp
  have sv : szA 4611686018427387904 v := szA_of _ v fv (by omega)
  have sp : szA 4611686018427387904 p := szA_of _ p fp (by omega)
  have HFEW := Lib.hid (fun (W : World) (hW : Below w.heap.size w W) => few_any v p cv cp W (hv.below hW (Nat.le_refl _) hW.size) (hp.below hW (Nat.le_refl _) hW.size) sv sp)
  have HCV := Lib.hid (fun (W : World) (hW : Below w.heap.size w W) => Check_any v cv 0 W sv (hv.below hW (Nat.le_refl _) hW.size))
  have HCP := Lib.hid (fun (W : World) (hW : Below w.heap.size w W) => Check_any p cp 0 W sp (hp.below hW (Nat.le_refl _) hW.size))
  have HAP := Lib.hid (fun (W : World) (hW : Below w.heap.size w W) => Apply_any v p cv cp W (hv.below hW (Nat.le_refl _) hW.size) (hp.below hW (Nat.le_refl _) hW.size) fv fp (by omega) (by omega))
  have HOUT := Lib.hid (show fitP v p → lenV (aplV v (lst p)) ∧ wfV (aplV v (lst p)) ∧ szU (aplV v (lst p)) ≤ 2097152 from fun h => by
    have hf := fit_of h lp
    refine ⟨apl_len _ v hf lv, wfV_apl _ v hf lv fv (fun m hm => by
      obtain ⟨nm, _, h2, _⟩ := lst_mem hm
      exact wfV_ms fp _ h2), ?_⟩
    have h1 := szU_take hf lv (lst p).length
    rw [apl_all] at h1
    omega)
  have HCPP := Lib.hid (fun (W : World) (hW : Below w.heap.size w W) => Copy_any (ht p) p (Nat.le_refl _) (szA_of _ p fp (by omega)) cp W (hp.below hW (Nat.le_refl _) hW.size))
  obtain ⟨cV, hcV⟩ : ∃ c, chk v = c := ⟨_, rfl⟩
  obtain ⟨cP, hcP⟩ : ∃ c, chk p = c := ⟨_, rfl⟩
  rw [hcV] at HCV
  rw [hcP] at HCP
  have HVF := Lib.hid (And.intro lv (And.intro fv zv))
  have HPF := Lib.hid (And.intro lp (And.intro fp zp))
  have HCHV := Lib.hid hcV
  have HCHP := Lib.hid hcP
  have HRV := Lib.hid hv
  obtain ⟨k, hk⟩ : ∃ k, v.k = k := ⟨_, rfl⟩
  have HVK := Lib.hid hk
  have HPML := Lib.hid (show p.ms.length ≤ 1048576 from Nat.le_trans (ms_szU p) zp)
  obtain ⟨oA, oc, rfl, hox⟩ := ho
  have HOX := Lib.hid hox
  have HXW := Lib.hid hxw
  obtain ⟨on, hon⟩ : ∃ on, (xs.map fun n => Value.int .i64 n).length = on := ⟨_, rfl⟩
  have HON := Lib.hid hon
  rw [hon] at HOX ⊢
  obtain ⟨A1, c1, A2, c2, ev, -⟩ := hv.cells
  obtain ⟨B1, e1, B2, e2, ep, -⟩ := hp.cells
  subst ev ep
  rw [hk] at HFEW HCV HAP HRV ⊢
  clear hk hv hp zv zp fv fp lv lp sv sp hcV hcP hox hxw hon
  generalize v.n = n at *
  generalize strOf v.s = S at *
  generalize v.l.length = l1 at *
  generalize v.ms.length = m1 at *
  obtain ⟨pk, hpk⟩ : ∃ x, p.k = x := ⟨_, rfl⟩
  obtain ⟨pn, hpn⟩ : ∃ x, p.n = x := ⟨_, rfl⟩
  obtain ⟨PS, hPS⟩ : ∃ x, strOf p.s = x := ⟨_, rfl⟩
  obtain ⟨pl, hpl⟩ : ∃ x, p.l.length = x := ⟨_, rfl⟩
  obtain ⟨pm, hpm⟩ : ∃ x, p.ms.length = x := ⟨_, rfl⟩
  have HPKE := Lib.hid hpk
  have HPNE := Lib.hid hpn
  have HPSE := Lib.hid hPS
  have HPLE := Lib.hid hpl
  have HPM := Lib.hid hpm
  rw [hpk, hpn, hPS, hpl, hpm] at HFEW HCP HAP HCPP ⊢
  clear hpk hpn hPS hpl hpm
  obtain ⟨W0, hW0⟩ : ∃ W0, W0 = ((w.alloc (.cells #[.int .i64 k, .int .i64 n, .string S, .slice A1 l1 c1, .slice A2 m1 c2] 25)).alloc (.cells #[.int .i64 pk, .int .i64 pn, .string PS, .slice B1 pl e1, .slice B2 pm e2] 25)) := ⟨_, rfl⟩
  have HBW0 := Lib.hid (show Below w.heap.size w W0 by rw [hW0]; exact ((Below.refl _ _).alloc (Nat.le_refl _) _).alloc (by simp) _)
  have hs0 : W0.heap.size = w.heap.size + 2 := by rw [hW0, szAl, szAl]
  have RW0_0 := Lib.hid (show W0.heap[w.heap.size]? = some (.cells #[.int .i64 k, .int .i64 n, .string S, .slice A1 l1 c1, .slice A2 m1 c2] 25 (0, 0)) by rw [hW0]; exact heapOld ((show (w.alloc (.cells #[.int .i64 k, .int .i64 n, .string S, .slice A1 l1 c1, .slice A2 m1 c2] 25)).heap[w.heap.size]? = some (.cells #[.int .i64 k, .int .i64 n, .string S, .slice A1 l1 c1, .slice A2 m1 c2] 25 (0, 0)) from by rw [show w.heap.size = w.heap.size by simp]; exact heapNew _ _)) _)
  have LW0_0 := Lib.hid (show w.heap.size < W0.heap.size by omega)
  have RW0_1 := Lib.hid (show W0.heap[w.heap.size + 1]? = some (.cells #[.int .i64 pk, .int .i64 pn, .string PS, .slice B1 pl e1, .slice B2 pm e2] 25 (0, 0)) by rw [hW0]; exact (show ((w.alloc (.cells #[.int .i64 k, .int .i64 n, .string S, .slice A1 l1 c1, .slice A2 m1 c2] 25)).alloc (.cells #[.int .i64 pk, .int .i64 pn, .string PS, .slice B1 pl e1, .slice B2 pm e2] 25)).heap[w.heap.size + 1]? = some (.cells #[.int .i64 pk, .int .i64 pn, .string PS, .slice B1 pl e1, .slice B2 pm e2] 25 (0, 0)) from by rw [show w.heap.size + 1 = (w.alloc (.cells #[.int .i64 k, .int .i64 n, .string S, .slice A1 l1 c1, .slice A2 m1 c2] 25)).heap.size by simp]; exact heapNew _ _))
  have LW0_1 := Lib.hid (show w.heap.size + 1 < W0.heap.size by omega)
  have HW0 := Lib.hid hW0
  clear hW0 hs0
  go_enter Try.func4, Try.ntmps4
  go_wp2_with fail
  rw [← HW0.out]
  refine (awake_any9 _).mono ?_
  rintro e w1 ⟨rfl, hb⟩
  have Rw1_0 := Lib.hid (show w1.heap[w.heap.size]? = some (.cells #[.int .i64 k, .int .i64 n, .string S, .slice A1 l1 c1, .slice A2 m1 c2] 25 (0, 0)) from (hb.block _ LW0_0.out).trans RW0_0.out)
  have Lw1_0 := Lib.hid (show w.heap.size < w1.heap.size from Nat.lt_of_lt_of_le LW0_0.out hb.size)
  have Rw1_1 := Lib.hid (show w1.heap[w.heap.size + 1]? = some (.cells #[.int .i64 pk, .int .i64 pn, .string PS, .slice B1 pl e1, .slice B2 pm e2] 25 (0, 0)) from (hb.block _ LW0_1.out).trans RW0_1.out)
  have Lw1_1 := Lib.hid (show w.heap.size + 1 < w1.heap.size from Nat.lt_of_lt_of_le LW0_1.out hb.size)
  have HBw1 := Lib.hid (HBW0.out.trans (hb.mono HBW0.out.size))
  clear hb
  obtain ⟨⟨p0_0, p0_1, p0_2, p0_3, p0_4⟩, -⟩ := row5 Rw1_0.out
  obtain ⟨⟨p1_0, p1_1, p1_2, p1_3, p1_4⟩, -⟩ := row5 Rw1_1.out
  go_wp2_with fail
  clear p0_0 p0_1 p0_2 p0_3 p0_4 p1_0 p1_1 p1_2 p1_3 p1_4
  refine (HFEW.out _ HBw1.out).mono ?_
  rintro e w2 ⟨⟨b, rfl⟩, hb⟩
  have Rw2_0 := Lib.hid (show w2.heap[w.heap.size]? = some (.cells #[.int .i64 k, .int .i64 n, .string S, .slice A1 l1 c1, .slice A2 m1 c2] 25 (0, 0)) from (hb.block _ Lw1_0.out).trans Rw1_0.out)
  have Lw2_0 := Lib.hid (show w.heap.size < w2.heap.size from Nat.lt_of_lt_of_le Lw1_0.out hb.size)
  have Rw2_1 := Lib.hid (show w2.heap[w.heap.size + 1]? = some (.cells #[.int .i64 pk, .int .i64 pn, .string PS, .slice B1 pl e1, .slice B2 pm e2] 25 (0, 0)) from (hb.block _ Lw1_1.out).trans Rw1_1.out)
  have Lw2_1 := Lib.hid (show w.heap.size + 1 < w2.heap.size from Nat.lt_of_lt_of_le Lw1_1.out hb.size)
  have HBw2 := Lib.hid (HBw1.out.trans (hb.mono HBw1.out.size))
  clear hb
  cases b
  · obtain ⟨⟨p0_0, p0_1, p0_2, p0_3, p0_4⟩, -⟩ := row5 Rw2_0.out
    obtain ⟨⟨p1_0, p1_1, p1_2, p1_3, p1_4⟩, -⟩ := row5 Rw2_1.out
    go_wp2_with fail
    clear p0_0 p0_1 p0_2 p0_3 p0_4 p1_0 p1_1 p1_2 p1_3 p1_4
    refine (awake_any9 _).mono ?_
    rintro e w3 ⟨rfl, hb⟩
    have Rw3_0 := Lib.hid (show w3.heap[w.heap.size]? = some (.cells #[.int .i64 k, .int .i64 n, .string S, .slice A1 l1 c1, .slice A2 m1 c2] 25 (0, 0)) from (hb.block _ Lw2_0.out).trans Rw2_0.out)
    have Lw3_0 := Lib.hid (show w.heap.size < w3.heap.size from Nat.lt_of_lt_of_le Lw2_0.out hb.size)
    have Rw3_1 := Lib.hid (show w3.heap[w.heap.size + 1]? = some (.cells #[.int .i64 pk, .int .i64 pn, .string PS, .slice B1 pl e1, .slice B2 pm e2] 25 (0, 0)) from (hb.block _ Lw2_1.out).trans Rw2_1.out)
    have Lw3_1 := Lib.hid (show w.heap.size + 1 < w3.heap.size from Nat.lt_of_lt_of_le Lw2_1.out hb.size)
    have HBw3 := Lib.hid (HBw2.out.trans (hb.mono HBw2.out.size))
    clear hb
    go_wp2
    go_ret
    exact ⟨rfl, HBw3.out⟩
  · obtain ⟨⟨p0_0, p0_1, p0_2, p0_3, p0_4⟩, -⟩ := row5 Rw2_0.out
    obtain ⟨⟨p1_0, p1_1, p1_2, p1_3, p1_4⟩, -⟩ := row5 Rw2_1.out
    go_wp2_with fail
    clear p0_0 p0_1 p0_2 p0_3 p0_4 p1_0 p1_1 p1_2 p1_3 p1_4
    refine (HCV.out _ HBw2.out).mono ?_
    rintro e w3 ⟨rfl, hb⟩
    have Rw3_0 := Lib.hid (show w3.heap[w.heap.size]? = some (.cells #[.int .i64 k, .int .i64 n, .string S, .slice A1 l1 c1, .slice A2 m1 c2] 25 (0, 0)) from (hb.block _ Lw2_0.out).trans Rw2_0.out)
    have Lw3_0 := Lib.hid (show w.heap.size < w3.heap.size from Nat.lt_of_lt_of_le Lw2_0.out hb.size)
    have Rw3_1 := Lib.hid (show w3.heap[w.heap.size + 1]? = some (.cells #[.int .i64 pk, .int .i64 pn, .string PS, .slice B1 pl e1, .slice B2 pm e2] 25 (0, 0)) from (hb.block _ Lw2_1.out).trans Rw2_1.out)
    have Lw3_1 := Lib.hid (show w.heap.size + 1 < w3.heap.size from Nat.lt_of_lt_of_le Lw2_1.out hb.size)
    have HBw3 := Lib.hid (HBw2.out.trans (hb.mono HBw2.out.size))
    clear hb
    by_cases hcV : cV = 0
    · have HcV := Lib.hid hcV
      subst hcV
      obtain ⟨⟨p0_0, p0_1, p0_2, p0_3, p0_4⟩, -⟩ := row5 Rw3_0.out
      obtain ⟨⟨p1_0, p1_1, p1_2, p1_3, p1_4⟩, -⟩ := row5 Rw3_1.out
      go_wp2_with fail
      clear p0_0 p0_1 p0_2 p0_3 p0_4 p1_0 p1_1 p1_2 p1_3 p1_4
      refine (HCP.out _ HBw3.out).mono ?_
      rintro e w4 ⟨rfl, hb⟩
      have Rw4_0 := Lib.hid (show w4.heap[w.heap.size]? = some (.cells #[.int .i64 k, .int .i64 n, .string S, .slice A1 l1 c1, .slice A2 m1 c2] 25 (0, 0)) from (hb.block _ Lw3_0.out).trans Rw3_0.out)
      have Lw4_0 := Lib.hid (show w.heap.size < w4.heap.size from Nat.lt_of_lt_of_le Lw3_0.out hb.size)
      have Rw4_1 := Lib.hid (show w4.heap[w.heap.size + 1]? = some (.cells #[.int .i64 pk, .int .i64 pn, .string PS, .slice B1 pl e1, .slice B2 pm e2] 25 (0, 0)) from (hb.block _ Lw3_1.out).trans Rw3_1.out)
      have Lw4_1 := Lib.hid (show w.heap.size + 1 < w4.heap.size from Nat.lt_of_lt_of_le Lw3_1.out hb.size)
      have HBw4 := Lib.hid (HBw3.out.trans (hb.mono HBw3.out.size))
      clear hb
      by_cases hcP : cP = 0
      · have HcP := Lib.hid hcP
        subst hcP
        by_cases hon : on ≤ 400
        · have d1 : decide ((400 : Int) < (on : Int)) = false := decide_eq_false (by omega)
          have d2 : decide (400 < on) = false := decide_eq_false (by omega)
          obtain ⟨⟨p0_0, p0_1, p0_2, p0_3, p0_4⟩, -⟩ := row5 Rw4_0.out
          obtain ⟨⟨p1_0, p1_1, p1_2, p1_3, p1_4⟩, -⟩ := row5 Rw4_1.out
          go_wp2_with fail
          clear p0_0 p0_1 p0_2 p0_3 p0_4 p1_0 p1_1 p1_2 p1_3 p1_4
          refine (HCPP.out _ HBw4.out).mono ?_
          rintro e w5 ⟨⟨cy, Fy, rfl, hcy, hny, hFy⟩, hb⟩
          have Rw5_0 := Lib.hid (show w5.heap[w.heap.size]? = some (.cells #[.int .i64 k, .int .i64 n, .string S, .slice A1 l1 c1, .slice A2 m1 c2] 25 (0, 0)) from (hb.block _ Lw4_0.out).trans Rw4_0.out)
          have Lw5_0 := Lib.hid (show w.heap.size < w5.heap.size from Nat.lt_of_lt_of_le Lw4_0.out hb.size)
          have Rw5_1 := Lib.hid (show w5.heap[w.heap.size + 1]? = some (.cells #[.int .i64 pk, .int .i64 pn, .string PS, .slice B1 pl e1, .slice B2 pm e2] 25 (0, 0)) from (hb.block _ Lw4_1.out).trans Rw4_1.out)
          have Lw5_1 := Lib.hid (show w.heap.size + 1 < w5.heap.size from Nat.lt_of_lt_of_le Lw4_1.out hb.size)
          have HBw5 := Lib.hid (HBw4.out.trans (hb.mono HBw4.out.size))
          have HFYS := Lib.hid hb.size
          obtain ⟨cA, cc, cB, cd, FL, FM, T, rfl, rfl, hTN, hTV, hMT, hback⟩ := mapT_back hcy
          have HFY := Lib.hid (show ∀ k ∈ FL ++ FM, w4.heap.size ≤ k ∧ k < w5.heap.size from hFy)
          have HNY := Lib.hid hny
          have HTN := Lib.hid hTN
          have HTV := Lib.hid hTV
          have HMT0 := Lib.hid hMT
          have HBK := Lib.hid hback
          have HTL := Lib.hid (show T.length = pm by rw [← tV_len, hTV]; exact HPM.out)
          rw [HPKE.out, HPNE.out, HPSE.out, HPLE.out, HPM.out] at HBK ⊢
          clear hcy hny hFy hTN hTV hMT hback
          clear hb
          have HNWw5 := HFYS
          obtain ⟨W5, hW5⟩ : ∃ W5, W5 = w5.alloc (.cells #[.int .i64 pk, .int .i64 pn, .string PS, .slice cA pl cc, .slice cB pm cd] 25) := ⟨_, rfl⟩
          have hb : Below w5.heap.size w5 W5 := by rw [hW5]; exact (Below.refl _ _).alloc (Nat.le_refl _) _
          have RW5_0 := Lib.hid (show W5.heap[w.heap.size]? = some (.cells #[.int .i64 k, .int .i64 n, .string S, .slice A1 l1 c1, .slice A2 m1 c2] 25 (0, 0)) from (hb.block _ Lw5_0.out).trans Rw5_0.out)
          have LW5_0 := Lib.hid (show w.heap.size < W5.heap.size from Nat.lt_of_lt_of_le Lw5_0.out hb.size)
          have RW5_1 := Lib.hid (show W5.heap[w.heap.size + 1]? = some (.cells #[.int .i64 pk, .int .i64 pn, .string PS, .slice B1 pl e1, .slice B2 pm e2] 25 (0, 0)) from (hb.block _ Lw5_1.out).trans Rw5_1.out)
          have LW5_1 := Lib.hid (show w.heap.size + 1 < W5.heap.size from Nat.lt_of_lt_of_le Lw5_1.out hb.size)
          have HBW5 := Lib.hid (HBw5.out.trans (hb.mono HBw5.out.size))
          have RW5_2 := Lib.hid (show W5.heap[w5.heap.size]? = some (.cells #[.int .i64 pk, .int .i64 pn, .string PS, .slice cA pl cc, .slice cB pm cd] 25 (0, 0)) by rw [hW5]; exact heapNew _ _)
          have LW5_2 := Lib.hid (show w5.heap.size < W5.heap.size by rw [hW5, szAl]; exact Nat.lt_succ_self _)
          have HW5 := Lib.hid hW5
          clear hW5 hb
          obtain ⟨g, hg, hkp⟩ := TuI.start (W := W5) (n0 := w4.heap.size) (HMT0.out.keep (w' := W5) (fun k hk => by rw [HW5.out]; exact Below.heap_alloc _ _ _ (HFY.out k (List.mem_append_right _ hk)).2)) (fun k hk => (HFY.out k (List.mem_append_right _ hk)).1) (Nat.le_trans HNWw5.out (by rw [HW5.out]; simp)) (by
            have := HNY.out
            rw [List.nodup_append] at this
            exact this.2.1)
          have HG := Lib.hid hg
          have HKP := Lib.hid hkp
          have HN0 := Lib.hid (show w.heap.size + 1 < w4.heap.size from Lw4_1.out)
          have HSB := Lib.hid (show W5.heap.size = w5.heap.size + 1 by rw [HW5.out]; exact szAl _ _)
          have HGB := Lib.hid (show w4.heap.size ≤ g ∧ (g < w5.heap.size ∨ g = w5.heap.size + 1) from ⟨HG.out.2.1, by
            rcases HG.out.2.2.1 with h | h
            · exact .inl (HFY.out g (List.mem_append_right _ h)).2
            · exact .inr (by rw [h, HSB.out])⟩)
          clear hg hkp
          have q0 := RW5_0.out
          rw [HW5.out] at q0
          obtain ⟨⟨p0_0, p0_1, p0_2, p0_3, p0_4⟩, -⟩ := row5 q0
          clear q0
          have q1 := RW5_1.out
          rw [HW5.out] at q1
          obtain ⟨⟨p1_0, p1_1, p1_2, p1_3, p1_4⟩, -⟩ := row5 q1
          clear q1
          have q2 := RW5_2.out
          rw [HW5.out] at q2
          obtain ⟨⟨p2_0, p2_1, p2_2, p2_3, p2_4⟩, -⟩ := row5 q2
          clear q2
          go_wp2_with fail
          rw [← HW5.out]
          clear p0_0 p0_1 p0_2 p0_3 p0_4 p1_0 p1_1 p1_2 p1_3 p1_4 p2_0 p2_1 p2_2 p2_3 p2_4
          clear d1 d2
          go_loopw [8] (fun si wr => ∃ ii : Nat, si = .int .i64 ii ∧ ii ≤ on ∧ Aside (TuI W5 g T wr)) (fun si _ => on - (intOf si).toNat)
          case atStart => exact ⟨0, rfl, by omega, HKP⟩
          case round =>
            obtain ⟨ii, rfl, hii, hkp⟩ := hrel
            obtain ⟨wo, hwo⟩ : ∃ wo, wo = wr := ⟨_, rfl⟩
            subst hwo
            have HKO := Lib.hid hkp.out
            clear hkp
            have Rwo_0 := Lib.hid (show wo.heap[w.heap.size]? = some (.cells #[.int .i64 k, .int .i64 n, .string S, .slice A1 l1 c1, .slice A2 m1 c2] 25 (0, 0)) from (HKO.out.chg.block _ LW5_0.out (by rw [List.mem_singleton]; have := HGB.out; have := HN0.out; have := HFYS.out; omega)).trans RW5_0.out)
            have Rwo_1 := Lib.hid (show wo.heap[w.heap.size + 1]? = some (.cells #[.int .i64 pk, .int .i64 pn, .string PS, .slice B1 pl e1, .slice B2 pm e2] 25 (0, 0)) from (HKO.out.chg.block _ LW5_1.out (by rw [List.mem_singleton]; have := HGB.out; have := HN0.out; have := HFYS.out; omega)).trans RW5_1.out)
            have Rwo_2 := Lib.hid (show wo.heap[w5.heap.size]? = some (.cells #[.int .i64 pk, .int .i64 pn, .string PS, .slice cA pl cc, .slice cB pm cd] 25 (0, 0)) from (HKO.out.chg.block _ LW5_2.out (by rw [List.mem_singleton]; have := HGB.out; have := HN0.out; have := HFYS.out; omega)).trans RW5_2.out)
            have HBwo := Lib.hid (show Below w.heap.size w wo from HBW5.out.trans (HKO.out.chg.below HBW5.out.size (fun x hx => by rw [List.mem_singleton] at hx; have := HGB.out; have := HN0.out; omega)))
            by_cases hlt : ii < on ∧ 0 < pm
            · have t1 : decide ((ii : Int) < (on : Int)) = true := decide_eq_true (by omega)
              have t2 : decide (ii < on) = true := decide_eq_true hlt.1
              have t3 : decide ((0 : Int) < (pm : Int)) = true := decide_eq_true (by omega)
              have t4 : decide (0 < pm) = true := decide_eq_true hlt.2
              have k0 : (0 : Int) ≤ (ii : Int) := by omega
              have k1 : (ii : Int) < (on : Int) := by omega
              have k2 : ((ii : Int)).toNat = ii := by omega
              have k3 : ¬ (pm : Int) = 0 := by omega
              have k5 : ¬ pm = 0 := by omega
              have k4 : ((pm : Int) == 0) = false := beq_eq_false_iff_ne.2 (by omega)
              have HLT := Lib.hid hlt
              have hpml : pm ≤ 1048576 := by rw [← HPM.out]; exact HPML.out
              obtain ⟨a, ha, ham⟩ : ∃ a : Nat, (ii : Int) % (pm : Int) = (a : Int) ∧ a < pm := ⟨ii % pm, by simp, Nat.mod_lt _ hlt.2⟩
              obtain ⟨ad, rfl, hadb, hxc⟩ := HOX.out (by omega)
              have hixs : ii < xs.length := by have := HON.out; rw [List.length_map] at this; omega
              have hcx := hxc ii (.int .i64 xs[ii]) (by rw [List.getElem?_map, List.getElem?_eq_getElem hixs]; rfl)
              obtain ⟨x, hx⟩ : ∃ x, xs[ii] = x := ⟨_, rfl⟩
              rw [hx] at hcx
              obtain ⟨X, hX⟩ : ∃ X, IntKind.u64.wrap x = X := ⟨_, rfl⟩
              have hX0 : 0 ≤ X ∧ X < 18446744073709551616 := by rw [← hX, IntKind.wrap_u64]; omega
              have hwp : IntKind.u64.wrap (pm : Int) = (pm : Int) := IntWalk.u64_in _ (by omega)
              obtain ⟨b, hb1, hbm⟩ : ∃ b : Nat, X % (pm : Int) = (b : Int) ∧ b < pm := ⟨(X % (pm : Int)).toNat, by have := Int.emod_nonneg X k3; omega, by have h1 := Int.emod_lt_of_pos X (show (0 : Int) < (pm : Int) by omega); have := Int.emod_nonneg X k3; omega⟩
              have htm : X.tmod (pm : Int) = (b : Int) := by rw [Int.tmod_eq_emod_of_nonneg hX0.1]; exact hb1
              have hwb : IntKind.i64.wrap (b : Int) = (b : Int) := IntWalk.i64_in _ (by omega)
              have hwb2 : IntKind.u64.wrap (b : Int) = (b : Int) := IntWalk.u64_in _ (by omega)
              have HAM := Lib.hid ham
              have HBM := Lib.hid hbm
              have HADB := Lib.hid hadb
              have hco := (HBwo.out.cell (p := ad.add ii) (by rw [blk_add]; exact hadb)).trans hcx
              clear hxc hcx hx hixs hadb hX0
              obtain ⟨⟨p0_0, p0_1, p0_2, p0_3, p0_4⟩, -⟩ := row5 Rwo_0.out
              obtain ⟨⟨p1_0, p1_1, p1_2, p1_3, p1_4⟩, -⟩ := row5 Rwo_1.out
              obtain ⟨⟨p2_0, p2_1, p2_2, p2_3, p2_4⟩, -⟩ := row5 Rwo_2.out
              go_wp2_with fail
              clear p0_0 p0_1 p0_2 p0_3 p0_4 p1_0 p1_1 p1_2 p1_3 p1_4 p2_0 p2_1 p2_2 p2_3 p2_4
              refine wp_region_held_drew (S := fun W' => W'.heap[w5.heap.size]? = some (.cells #[.int .i64 pk, .int .i64 pn, .string PS, .slice cA pl cc, .slice cB pm cd] 25 (0, 0)) ∧ W'.cell? (ad.add ii) = some (.int .i64 x)) (by kernel_rfl) (⟨Rwo_2.out, hco⟩) (fun hHeld => ?_)
              refine wpAnyH_take (i := 0) (oi := { dst := some 60, op := Op.move (Operand.tmp 2), type := 39, pos := "law.go:83", after := #[], guard := none }) (v := ?_) rfl (by kernel_rfl) (by kernel_rfl) (by kernel_rfl) (fun _ _ _ h => h) (Or.inl ⟨by rfl, ?_⟩) hHeld ?_
              rotate_left
              · intro w hSw; (try dsimp only at hSw); go_simp; with_reducible rfl
              try simp only [Act.put, List.setIfInBounds_toArray, List.set_cons_zero, List.set_cons_succ]
              refine wpAnyH_take (i := 1) (oi := { dst := some 61, op := Op.move (Operand.tmp 8), type := 3, pos := "law.go:83", after := #[], guard := none }) (v := ?_) rfl (by kernel_rfl) (by kernel_rfl) (by kernel_rfl) (fun _ _ _ h => h) (Or.inl ⟨by rfl, ?_⟩) hHeld ?_
              rotate_left
              · intro w hSw; (try dsimp only at hSw); go_simp; with_reducible rfl
              try simp only [Act.put, List.setIfInBounds_toArray, List.set_cons_zero, List.set_cons_succ]
              refine wpAnyH_take (i := 2) (oi := { dst := some 62, op := Op.indexAddr 39 (Operand.tmp 60) (Operand.tmp 61), type := 0, pos := "law.go:83", after := #[{ on := 0, ground := Ground.data }, { on := 1, ground := Ground.data }], guard := none }) (v := ?_) rfl (by kernel_rfl) (by kernel_rfl) (by kernel_rfl) (fun _ _ _ h => h) (Or.inl ⟨by rfl, ?_⟩) hHeld ?_
              rotate_left
              · intro w hSw; (try dsimp only at hSw); go_simp; with_reducible rfl
              try simp only [Act.put, List.setIfInBounds_toArray, List.set_cons_zero, List.set_cons_succ]
              refine wpAnyH_take (i := 3) (oi := { dst := some 63, op := Op.load 3 (Operand.tmp 62), type := 3, pos := "law.go:83", after := #[{ on := 2, ground := Ground.data }], guard := none }) (v := ?_) rfl (by kernel_rfl) (by kernel_rfl) (by kernel_rfl) (fun _ _ _ h => h) (Or.inl ⟨by rfl, ?_⟩) hHeld ?_
              rotate_left
              · intro w hSw; (try dsimp only at hSw); have hx := hSw.2; go_simp; with_reducible rfl
              try simp only [Act.put, List.setIfInBounds_toArray, List.set_cons_zero, List.set_cons_succ]
              refine wpAnyH_take (i := 4) (oi := { dst := some 64, op := Op.convert 3 41 (Operand.tmp 63), type := 41, pos := "law.go:83", after := #[{ on := 3, ground := Ground.data }], guard := none }) (v := ?_) rfl (by kernel_rfl) (by kernel_rfl) (by kernel_rfl) (fun _ _ _ h => h) (Or.inl ⟨by rfl, ?_⟩) hHeld ?_
              rotate_left
              · intro w hSw; (try dsimp only at hSw); go_simp; with_reducible rfl
              try simp only [Act.put, List.setIfInBounds_toArray, List.set_cons_zero, List.set_cons_succ]
              refine wpAnyH_take (i := 5) (oi := { dst := some 65, op := Op.fieldAddr 25 (Operand.tmp 7) 4, type := 0, pos := "law.go:83", after := #[], guard := none }) (v := ?_) rfl (by kernel_rfl) (by kernel_rfl) (by kernel_rfl) (fun _ _ _ h => h) (Or.inl ⟨by rfl, ?_⟩) hHeld ?_
              rotate_left
              · intro w hSw; (try dsimp only at hSw); go_simp; with_reducible rfl
              try simp only [Act.put, List.setIfInBounds_toArray, List.set_cons_zero, List.set_cons_succ]
              refine wpAnyH_take (i := 6) (oi := { dst := some 66, op := Op.load 23 (Operand.tmp 65), type := 23, pos := "law.go:83", after := #[{ on := 5, ground := Ground.data }], guard := none }) (v := ?_) rfl (by kernel_rfl) (by kernel_rfl) (by kernel_rfl) (fun _ _ _ h => h) (Or.inl ⟨by rfl, ?_⟩) hHeld ?_
              rotate_left
              · intro w hSw; (try dsimp only at hSw); obtain ⟨⟨p0, p1, p2, p3, p4⟩, -⟩ := row5 hSw.1; go_simp; with_reducible rfl
              try simp only [Act.put, List.setIfInBounds_toArray, List.set_cons_zero, List.set_cons_succ]
              refine wpAnyH_take (i := 7) (oi := { dst := some 67, op := Op.call { callee := Callee.builtin Builtin.len, args := #[Operand.tmp 66], argTypes := #[23] }, type := 3, pos := "law.go:83", after := #[{ on := 6, ground := Ground.data }], guard := none }) (v := ?_) rfl (by kernel_rfl) (by kernel_rfl) (by kernel_rfl) (fun _ _ _ h => h) (Or.inl ⟨by rfl, ?_⟩) hHeld ?_
              rotate_left
              · intro w hSw; (try dsimp only at hSw); go_simp; with_reducible rfl
              try simp only [Act.put, List.setIfInBounds_toArray, List.set_cons_zero, List.set_cons_succ]
              refine wpAnyH_take (i := 8) (oi := { dst := some 68, op := Op.convert 3 41 (Operand.tmp 67), type := 41, pos := "law.go:83", after := #[{ on := 7, ground := Ground.data }], guard := none }) (v := ?_) rfl (by kernel_rfl) (by kernel_rfl) (by kernel_rfl) (fun _ _ _ h => h) (Or.inl ⟨by rfl, ?_⟩) hHeld ?_
              rotate_left
              · intro w hSw; (try dsimp only at hSw); go_simp; with_reducible rfl
              try simp only [Act.put, List.setIfInBounds_toArray, List.set_cons_zero, List.set_cons_succ]
              refine wpAnyH_take (i := 9) (oi := { dst := some 69, op := Op.binOp BinOp.rem 41 (Operand.tmp 64) (Operand.tmp 68) 41, type := 41, pos := "law.go:83", after := #[{ on := 4, ground := Ground.data }, { on := 8, ground := Ground.data }], guard := none }) (v := ?_) rfl (by kernel_rfl) (by kernel_rfl) (by kernel_rfl) (fun _ _ _ h => h) (Or.inl ⟨by rfl, ?_⟩) hHeld ?_
              rotate_left
              · intro w hSw; (try dsimp only at hSw); go_simp; with_reducible rfl
              try simp only [Act.put, List.setIfInBounds_toArray, List.set_cons_zero, List.set_cons_succ]
              refine wpAnyH_take (i := 10) (oi := { dst := some 70, op := Op.convert 41 3 (Operand.tmp 69), type := 3, pos := "law.go:83", after := #[{ on := 9, ground := Ground.data }], guard := none }) (v := ?_) rfl (by kernel_rfl) (by kernel_rfl) (by kernel_rfl) (fun _ _ _ h => h) (Or.inl ⟨by rfl, ?_⟩) hHeld ?_
              rotate_left
              · intro w hSw; (try dsimp only at hSw); go_simp; with_reducible rfl
              try simp only [Act.put, List.setIfInBounds_toArray, List.set_cons_zero, List.set_cons_succ]
              refine wpAnyH_take (i := 11) (oi := { dst := some 10, op := Op.assign (Operand.tmp 70), type := 3, pos := "law.go:83", after := #[{ on := 10, ground := Ground.data }, { on := 0, ground := Ground.phase }, { on := 1, ground := Ground.phase }, { on := 2, ground := Ground.phase }, { on := 3, ground := Ground.phase }, { on := 4, ground := Ground.phase }, { on := 5, ground := Ground.phase }, { on := 6, ground := Ground.phase }, { on := 7, ground := Ground.phase }, { on := 8, ground := Ground.phase }, { on := 9, ground := Ground.phase }, { on := 10, ground := Ground.phase }], guard := none }) (v := ?_) rfl (by kernel_rfl) (by kernel_rfl) (by kernel_rfl) (fun _ _ _ h => h) (Or.inl ⟨by rfl, ?_⟩) hHeld ?_
              rotate_left
              · intro w hSw; (try dsimp only at hSw); go_simp; with_reducible rfl
              try simp only [Act.put, List.setIfInBounds_toArray, List.set_cons_zero, List.set_cons_succ]
              refine wpAnyH_done (by kernel_rfl) ?_ _
              clear hHeld
              go_wp2_with fail
              obtain ⟨hgA, -⟩ := HG.out.1 (by rw [HTL.out]; exact HLT.out.2)
              subst hgA
              obtain ⟨T', hpe, hce⟩ := HKO.out.ex
              have hla : a < T'.length := by rw [hpe.length_eq, HTL.out]; exact HAM.out
              have hlb : b < T'.length := by rw [hpe.length_eq, HTL.out]; exact HBM.out
              have HSW := Lib.hid (TuI.swap hpe hce HKO.out.chg hla hlb)
              have hta := (hce a hla).there
              have htb := (hce b hlb).there
              have hca := hce a hla
              have hcb := hce b hlb
              obtain ⟨ma, hma⟩ : ∃ m, (T'[a]'hla).1 = m := ⟨_, rfl⟩
              obtain ⟨mb, hmb⟩ : ∃ m, (T'[b]'hlb).1 = m := ⟨_, rfl⟩
              rw [hma] at hca
              rw [hmb] at hcb
              rw [hma, hmb] at HSW
              obtain ⟨qq, qk, qn, qS, qA, ql, qc, qB, qm, qd⟩ := ma
              obtain ⟨rr, rk, rn, rS, rA, rl, rc, rB, rm, rd⟩ := mb
              have hsa : Six wo g (a * 6) (.string (strOf qq)) (.int .i64 qk) (.int .i64 qn) (.string qS) (.slice qA ql qc) (.slice qB qm qd) := ⟨(hca 0 _ rfl).1, (hca 1 _ rfl).1, (hca 2 _ rfl).1, (hca 3 _ rfl).1, (hca 4 _ rfl).1, (hca 5 _ rfl).1⟩
              have hsb : Six wo g (b * 6) (.string (strOf rr)) (.int .i64 rk) (.int .i64 rn) (.string rS) (.slice rA rl rc) (.slice rB rm rd) := ⟨(hcb 0 _ rfl).1, (hcb 1 _ rfl).1, (hcb 2 _ rfl).1, (hcb 3 _ rfl).1, (hcb 4 _ rfl).1, (hcb 5 _ rfl).1⟩
              obtain ⟨QN, hQN⟩ : ∃ x, strOf qq = x := ⟨_, rfl⟩
              obtain ⟨RN, hRN⟩ : ∃ x, strOf rr = x := ⟨_, rfl⟩
              have HSW2 := Lib.hid (show TuI W5 g T ((wo.setCells g (a * 6) [.string RN, .int .i64 rk, .int .i64 rn, .string rS, .slice rA rl rc, .slice rB rm rd]).setCells g (b * 6) [.string QN, .int .i64 qk, .int .i64 qn, .string qS, .slice qA ql qc, .slice qB qm qd]) by
                rw [← hQN, ← hRN]; exact HSW.out)
              rw [hQN] at hsa
              rw [hRN] at hsb
              obtain ⟨wd, hwd⟩ : ∃ wd, wd = wo.drew := ⟨_, rfl⟩
              rw [← hwd]
              have HSA := Lib.hid (show Six wd g (a * 6) (.string QN) (.int .i64 qk) (.int .i64 qn) (.string qS) (.slice qA ql qc) (.slice qB qm qd) by rw [hwd]; exact hsa)
              have HSB := Lib.hid (show Six wd g (b * 6) (.string RN) (.int .i64 rk) (.int .i64 rn) (.string rS) (.slice rA rl rc) (.slice rB rm rd) by rw [hwd]; exact hsb)
              have HTA := Lib.hid (show wd.there g (a * 6) 6 by rw [hwd]; exact hta)
              have HTB := Lib.hid (show wd.there g (b * 6) 6 by rw [hwd]; exact htb)
              have HRD := Lib.hid (show wd.heap[w5.heap.size]? = some (.cells #[.int .i64 pk, .int .i64 pn, .string PS, .slice cA pl cc, .slice (some ⟨g, 0, none⟩) pm cd] 25 (0, 0)) by rw [hwd]; exact Rwo_2.out)
              have HGE := Lib.hid (show w5.heap.size ≠ g by have := HGB.out; omega)
              have a0' : (0 : Int) ≤ (a : Int) := by omega
              have a1' : (a : Int) < (pm : Int) := by omega
              have a2' : ((a : Int)).toNat = a := by omega
              have b0' : (0 : Int) ≤ (b : Int) := by omega
              have b1' : (b : Int) < (pm : Int) := by omega
              have b2' : ((b : Int)).toNat = b := by omega
              have HWD := Lib.hid hwd
              have hii1 : ii < on := HLT.out.1
              clear hpe hce hla hlb hta htb hca hcb hma hmb hsa hsb hQN hRN hwd hX hwp hb1 htm hwb hwb2 hco HSW
              refine wp_region_held_drew (S := fun W' => W'.heap[w5.heap.size]? = some (.cells #[.int .i64 pk, .int .i64 pn, .string PS, .slice cA pl cc, .slice (some ⟨g, 0, none⟩) pm cd] 25 (0, 0))) (by kernel_rfl) (HRD.out) (fun hHeld => ?_)
              refine wpAnyH_take (i := 0) (oi := { dst := some 71, op := Op.fieldAddr 25 (Operand.tmp 7) 4, type := 0, pos := "law.go:84", after := #[], guard := none }) (v := ?_) rfl (by kernel_rfl) (by kernel_rfl) (by kernel_rfl) (fun _ _ _ h => h) (Or.inl ⟨by rfl, ?_⟩) hHeld ?_
              rotate_left
              · intro w hSw; (try dsimp only at hSw); go_simp; with_reducible rfl
              try simp only [Act.put, List.setIfInBounds_toArray, List.set_cons_zero, List.set_cons_succ]
              refine wpAnyH_take (i := 1) (oi := { dst := some 72, op := Op.load 23 (Operand.tmp 71), type := 23, pos := "law.go:84", after := #[{ on := 0, ground := Ground.data }], guard := none }) (v := ?_) rfl (by kernel_rfl) (by kernel_rfl) (by kernel_rfl) (fun _ _ _ h => h) (Or.inl ⟨by rfl, ?_⟩) hHeld ?_
              rotate_left
              · intro w hSw; (try dsimp only at hSw); obtain ⟨⟨p0, p1, p2, p3, p4⟩, -⟩ := row5 hSw; go_simp; with_reducible rfl
              try simp only [Act.put, List.setIfInBounds_toArray, List.set_cons_zero, List.set_cons_succ]
              refine wpAnyH_take (i := 2) (oi := { dst := some 73, op := Op.move (Operand.tmp 9), type := 3, pos := "law.go:84", after := #[], guard := none }) (v := ?_) rfl (by kernel_rfl) (by kernel_rfl) (by kernel_rfl) (fun _ _ _ h => h) (Or.inl ⟨by rfl, ?_⟩) hHeld ?_
              rotate_left
              · intro w hSw; (try dsimp only at hSw); go_simp; with_reducible rfl
              try simp only [Act.put, List.setIfInBounds_toArray, List.set_cons_zero, List.set_cons_succ]
              refine wpAnyH_take (i := 3) (oi := { dst := some 74, op := Op.fieldAddr 25 (Operand.tmp 7) 4, type := 0, pos := "law.go:84", after := #[{ on := 17, ground := Ground.gcOnly Departure.lateStores }], guard := none }) (v := ?_) rfl (by kernel_rfl) (by kernel_rfl) (by kernel_rfl) (fun _ _ _ h => h) (Or.inl ⟨by rfl, ?_⟩) hHeld ?_
              rotate_left
              · intro w hSw; (try dsimp only at hSw); go_simp; with_reducible rfl
              try simp only [Act.put, List.setIfInBounds_toArray, List.set_cons_zero, List.set_cons_succ]
              refine wpAnyH_take (i := 4) (oi := { dst := some 75, op := Op.load 23 (Operand.tmp 74), type := 23, pos := "law.go:84", after := #[{ on := 3, ground := Ground.data }, { on := 17, ground := Ground.gcOnly Departure.lateStores }], guard := none }) (v := ?_) rfl (by kernel_rfl) (by kernel_rfl) (by kernel_rfl) (fun _ _ _ h => h) (Or.inl ⟨by rfl, ?_⟩) hHeld ?_
              rotate_left
              · intro w hSw; (try dsimp only at hSw); obtain ⟨⟨p0, p1, p2, p3, p4⟩, -⟩ := row5 hSw; go_simp; with_reducible rfl
              try simp only [Act.put, List.setIfInBounds_toArray, List.set_cons_zero, List.set_cons_succ]
              refine wpAnyH_take (i := 5) (oi := { dst := some 76, op := Op.move (Operand.tmp 10), type := 3, pos := "law.go:84", after := #[{ on := 17, ground := Ground.gcOnly Departure.lateStores }], guard := none }) (v := ?_) rfl (by kernel_rfl) (by kernel_rfl) (by kernel_rfl) (fun _ _ _ h => h) (Or.inl ⟨by rfl, ?_⟩) hHeld ?_
              rotate_left
              · intro w hSw; (try dsimp only at hSw); go_simp; with_reducible rfl
              try simp only [Act.put, List.setIfInBounds_toArray, List.set_cons_zero, List.set_cons_succ]
              refine wpAnyH_take (i := 6) (oi := { dst := some 77, op := Op.fieldAddr 25 (Operand.tmp 7) 4, type := 0, pos := "law.go:84", after := #[], guard := none }) (v := ?_) rfl (by kernel_rfl) (by kernel_rfl) (by kernel_rfl) (fun _ _ _ h => h) (Or.inl ⟨by rfl, ?_⟩) hHeld ?_
              rotate_left
              · intro w hSw; (try dsimp only at hSw); go_simp; with_reducible rfl
              try simp only [Act.put, List.setIfInBounds_toArray, List.set_cons_zero, List.set_cons_succ]
              refine wpAnyH_take (i := 7) (oi := { dst := some 78, op := Op.load 23 (Operand.tmp 77), type := 23, pos := "law.go:84", after := #[{ on := 6, ground := Ground.data }], guard := none }) (v := ?_) rfl (by kernel_rfl) (by kernel_rfl) (by kernel_rfl) (fun _ _ _ h => h) (Or.inl ⟨by rfl, ?_⟩) hHeld ?_
              rotate_left
              · intro w hSw; (try dsimp only at hSw); obtain ⟨⟨p0, p1, p2, p3, p4⟩, -⟩ := row5 hSw; go_simp; with_reducible rfl
              try simp only [Act.put, List.setIfInBounds_toArray, List.set_cons_zero, List.set_cons_succ]
              refine wpAnyH_take (i := 8) (oi := { dst := some 79, op := Op.move (Operand.tmp 10), type := 3, pos := "law.go:84", after := #[], guard := none }) (v := ?_) rfl (by kernel_rfl) (by kernel_rfl) (by kernel_rfl) (fun _ _ _ h => h) (Or.inl ⟨by rfl, ?_⟩) hHeld ?_
              rotate_left
              · intro w hSw; (try dsimp only at hSw); go_simp; with_reducible rfl
              try simp only [Act.put, List.setIfInBounds_toArray, List.set_cons_zero, List.set_cons_succ]
              refine wpAnyH_take (i := 9) (oi := { dst := some 80, op := Op.indexAddr 23 (Operand.tmp 78) (Operand.tmp 79), type := 0, pos := "law.go:84", after := #[{ on := 7, ground := Ground.data }, { on := 8, ground := Ground.data }], guard := none }) (v := ?_) rfl (by kernel_rfl) (by kernel_rfl) (by kernel_rfl) (fun _ _ _ h => h) (Or.inl ⟨by rfl, ?_⟩) hHeld ?_
              rotate_left
              · intro w hSw; (try dsimp only at hSw); go_simp; with_reducible rfl
              try simp only [Act.put, List.setIfInBounds_toArray, List.set_cons_zero, List.set_cons_succ]
              refine wpAnyH_take (i := 11) (oi := { dst := some 82, op := Op.fieldAddr 25 (Operand.tmp 7) 4, type := 0, pos := "law.go:84", after := #[], guard := none }) (v := ?_) rfl (by kernel_rfl) (by kernel_rfl) (by kernel_rfl) (fun _ _ _ h => h) (Or.inl ⟨by rfl, ?_⟩) hHeld ?_
              rotate_left
              · intro w hSw; (try dsimp only at hSw); go_simp; with_reducible rfl
              try simp only [Act.put, List.setIfInBounds_toArray, List.set_cons_zero, List.set_cons_succ]
              refine wpAnyH_take (i := 12) (oi := { dst := some 83, op := Op.load 23 (Operand.tmp 82), type := 23, pos := "law.go:84", after := #[{ on := 11, ground := Ground.data }], guard := none }) (v := ?_) rfl (by kernel_rfl) (by kernel_rfl) (by kernel_rfl) (fun _ _ _ h => h) (Or.inl ⟨by rfl, ?_⟩) hHeld ?_
              rotate_left
              · intro w hSw; (try dsimp only at hSw); obtain ⟨⟨p0, p1, p2, p3, p4⟩, -⟩ := row5 hSw; go_simp; with_reducible rfl
              try simp only [Act.put, List.setIfInBounds_toArray, List.set_cons_zero, List.set_cons_succ]
              refine wpAnyH_take (i := 13) (oi := { dst := some 84, op := Op.move (Operand.tmp 9), type := 3, pos := "law.go:84", after := #[], guard := none }) (v := ?_) rfl (by kernel_rfl) (by kernel_rfl) (by kernel_rfl) (fun _ _ _ h => h) (Or.inl ⟨by rfl, ?_⟩) hHeld ?_
              rotate_left
              · intro w hSw; (try dsimp only at hSw); go_simp; with_reducible rfl
              try simp only [Act.put, List.setIfInBounds_toArray, List.set_cons_zero, List.set_cons_succ]
              refine wpAnyH_take (i := 14) (oi := { dst := some 85, op := Op.indexAddr 23 (Operand.tmp 83) (Operand.tmp 84), type := 0, pos := "law.go:84", after := #[{ on := 12, ground := Ground.data }, { on := 13, ground := Ground.data }], guard := none }) (v := ?_) rfl (by kernel_rfl) (by kernel_rfl) (by kernel_rfl) (fun _ _ _ h => h) (Or.inl ⟨by rfl, ?_⟩) hHeld ?_
              rotate_left
              · intro w hSw; (try dsimp only at hSw); go_simp; with_reducible rfl
              try simp only [Act.put, List.setIfInBounds_toArray, List.set_cons_zero, List.set_cons_succ]
              refine wpAnyH_ready (rs := [10, 15]) (by kernel_rfl) (by simp) ?_
              refine AllReadyH.cons (o := { dst := some 81, op := Op.load 36 (Operand.tmp 80), type := 36, pos := "law.go:84", after := #[{ on := 9, ground := Ground.data }], guard := none }) rfl (fun K hK => ?_) (AllReadyH.cons (o := { dst := some 86, op := Op.load 36 (Operand.tmp 85), type := 36, pos := "law.go:84", after := #[{ on := 14, ground := Ground.data }], guard := none }) rfl (fun K hK => ?_) AllReadyH.nil)
              · obtain ⟨a0, a1, a2, a3, a4, a5⟩ := HSB.out
                go_simp
                clear a0 a1 a2 a3 a4 a5
                refine hK.out _ _ (hHeld) (fun hHeld => ?_)
                clear hK K
                try simp only [Act.put, List.setIfInBounds_toArray, List.set_cons_zero, List.set_cons_succ]
                refine wpAnyH_ready (rs := [15]) (by kernel_rfl) (by simp) ?_
                refine AllReadyH.cons (o := { dst := some 86, op := Op.load 36 (Operand.tmp 85), type := 36, pos := "law.go:84", after := #[{ on := 14, ground := Ground.data }], guard := none }) rfl (fun K hK => ?_) AllReadyH.nil
                obtain ⟨a0, a1, a2, a3, a4, a5⟩ := HSA.out
                go_simp
                clear a0 a1 a2 a3 a4 a5
                refine hK.out _ _ (hHeld) (fun hHeld => ?_)
                clear hK K
                try simp only [Act.put, List.setIfInBounds_toArray, List.set_cons_zero, List.set_cons_succ]
                refine wpAnyH_take (i := 16) (oi := { dst := some 87, op := Op.indexAddr 23 (Operand.tmp 72) (Operand.tmp 73), type := 0, pos := "law.go:84", after := #[{ on := 1, ground := Ground.data }, { on := 2, ground := Ground.data }, { on := 0, ground := Ground.phase }, { on := 1, ground := Ground.phase }, { on := 2, ground := Ground.phase }, { on := 3, ground := Ground.textOnly Departure.lateStores }, { on := 4, ground := Ground.textOnly Departure.lateStores }, { on := 5, ground := Ground.textOnly Departure.lateStores }, { on := 6, ground := Ground.phase }, { on := 7, ground := Ground.phase }, { on := 8, ground := Ground.phase }, { on := 9, ground := Ground.phase }, { on := 10, ground := Ground.phase }, { on := 11, ground := Ground.textOnly Departure.lateStores }, { on := 12, ground := Ground.textOnly Departure.lateStores }, { on := 13, ground := Ground.textOnly Departure.lateStores }, { on := 14, ground := Ground.textOnly Departure.lateStoresUnsure }, { on := 15, ground := Ground.phase }], guard := none }) (v := ?_) rfl (by kernel_rfl) (by kernel_rfl) (by kernel_rfl) (fun _ _ _ h => h) (Or.inl ⟨by rfl, ?_⟩) hHeld ?_
                rotate_left
                · intro w hSw; (try dsimp only at hSw); go_simp; with_reducible rfl
                try simp only [Act.put, List.setIfInBounds_toArray, List.set_cons_zero, List.set_cons_succ]
                refine wpAnyH_ready (rs := [17]) (by kernel_rfl) (by simp) ?_
                refine AllReadyH.cons (o := { dst := none, op := Op.store 36 (Operand.tmp 87) (Operand.tmp 81), type := 0, pos := "law.go:84", after := #[{ on := 16, ground := Ground.data }, { on := 10, ground := Ground.data }, { on := 0, ground := Ground.phase }, { on := 1, ground := Ground.phase }, { on := 2, ground := Ground.phase }, { on := 3, ground := Ground.textOnly Departure.lateStores }, { on := 4, ground := Ground.textOnly Departure.lateStores }, { on := 5, ground := Ground.textOnly Departure.lateStores }, { on := 6, ground := Ground.phase }, { on := 7, ground := Ground.phase }, { on := 8, ground := Ground.phase }, { on := 9, ground := Ground.phase }, { on := 10, ground := Ground.phase }, { on := 11, ground := Ground.textOnly Departure.lateStores }, { on := 12, ground := Ground.textOnly Departure.lateStores }, { on := 13, ground := Ground.textOnly Departure.lateStores }, { on := 14, ground := Ground.textOnly Departure.lateStoresUnsure }, { on := 15, ground := Ground.phase }], guard := none }) rfl (fun K hK => ?_) AllReadyH.nil
                obtain ⟨u0, u1, u2, u3, u4, u5, ⟨z0, z1, z2, z3, z4, z5⟩, ⟨y0, y1, y2, y3, y4, y5⟩⟩ := six_there HTA.out
                go_simp
                clear z0 z1 z2 z3 z4 z5 y0 y1 y2 y3 y4 y5
                obtain ⟨w7, hw7⟩ : ∃ w7, w7 = ((((((wd.setCell ⟨g, a * 6, none⟩ (.string RN)).setCell ⟨g, a * 6 + 1, none⟩ (.int .i64 rk)).setCell ⟨g, a * 6 + 2, none⟩ (.int .i64 rn)).setCell ⟨g, a * 6 + 3, none⟩ (.string rS)).setCell ⟨g, a * 6 + 4, none⟩ (.slice rA rl rc)).setCell ⟨g, a * 6 + 5, none⟩ (.slice rB rm rd)).drew := ⟨_, rfl⟩
                have HW7 := Lib.hid (show w7 = (wd.setCells g (a * 6) [.string RN, .int .i64 rk, .int .i64 rn, .string rS, .slice rA rl rc, .slice rB rm rd]).drew from hw7)
                have HR7 := Lib.hid (show w7.heap[w5.heap.size]? = some (.cells #[.int .i64 pk, .int .i64 pn, .string PS, .slice cA pl cc, .slice (some ⟨g, 0, none⟩) pm cd] 25 (0, 0)) by rw [HW7.out]; exact set_row HGE.out HRD.out)
                have HTB7 := Lib.hid (show w7.there g (b * 6) 6 by rw [HW7.out]; exact set_there HTB.out)
                rw [← hw7]
                clear hw7
                refine hK.out _ _ (HR7.out) (fun hHeld => ?_)
                clear hK K
                try simp only [Act.put, List.setIfInBounds_toArray, List.set_cons_zero, List.set_cons_succ]
                refine wpAnyH_take (i := 18) (oi := { dst := some 88, op := Op.indexAddr 23 (Operand.tmp 75) (Operand.tmp 76), type := 0, pos := "law.go:84", after := #[{ on := 4, ground := Ground.data }, { on := 5, ground := Ground.data }, { on := 0, ground := Ground.phase }, { on := 1, ground := Ground.phase }, { on := 2, ground := Ground.phase }, { on := 3, ground := Ground.phase }, { on := 4, ground := Ground.phase }, { on := 5, ground := Ground.phase }, { on := 6, ground := Ground.phase }, { on := 7, ground := Ground.phase }, { on := 8, ground := Ground.phase }, { on := 9, ground := Ground.phase }, { on := 10, ground := Ground.phase }, { on := 11, ground := Ground.phase }, { on := 12, ground := Ground.phase }, { on := 13, ground := Ground.phase }, { on := 14, ground := Ground.phase }, { on := 15, ground := Ground.phase }, { on := 16, ground := Ground.phase }, { on := 17, ground := Ground.phase }], guard := none }) (v := ?_) rfl (by kernel_rfl) (by kernel_rfl) (by kernel_rfl) (fun _ _ _ h => h) (Or.inl ⟨by rfl, ?_⟩) hHeld ?_
                rotate_left
                · intro w hSw; (try dsimp only at hSw); go_simp; with_reducible rfl
                try simp only [Act.put, List.setIfInBounds_toArray, List.set_cons_zero, List.set_cons_succ]
                refine wpAnyH_ready (rs := [19]) (by kernel_rfl) (by simp) ?_
                refine AllReadyH.cons (o := { dst := none, op := Op.store 36 (Operand.tmp 88) (Operand.tmp 86), type := 0, pos := "law.go:84", after := #[{ on := 18, ground := Ground.data }, { on := 15, ground := Ground.data }, { on := 17, ground := Ground.chain }, { on := 0, ground := Ground.phase }, { on := 1, ground := Ground.phase }, { on := 2, ground := Ground.phase }, { on := 3, ground := Ground.phase }, { on := 4, ground := Ground.phase }, { on := 5, ground := Ground.phase }, { on := 6, ground := Ground.phase }, { on := 7, ground := Ground.phase }, { on := 8, ground := Ground.phase }, { on := 9, ground := Ground.phase }, { on := 10, ground := Ground.phase }, { on := 11, ground := Ground.phase }, { on := 12, ground := Ground.phase }, { on := 13, ground := Ground.phase }, { on := 14, ground := Ground.phase }, { on := 15, ground := Ground.phase }, { on := 16, ground := Ground.phase }, { on := 17, ground := Ground.phase }], guard := none }) rfl (fun K hK => ?_) AllReadyH.nil
                obtain ⟨u0, u1, u2, u3, u4, u5, ⟨z0, z1, z2, z3, z4, z5⟩, ⟨y0, y1, y2, y3, y4, y5⟩⟩ := six_there HTB7.out
                go_simp
                clear z0 z1 z2 z3 z4 z5 y0 y1 y2 y3 y4 y5
                obtain ⟨w8, hw8⟩ : ∃ w8, w8 = ((((((w7.setCell ⟨g, b * 6, none⟩ (.string QN)).setCell ⟨g, b * 6 + 1, none⟩ (.int .i64 qk)).setCell ⟨g, b * 6 + 2, none⟩ (.int .i64 qn)).setCell ⟨g, b * 6 + 3, none⟩ (.string qS)).setCell ⟨g, b * 6 + 4, none⟩ (.slice qA ql qc)).setCell ⟨g, b * 6 + 5, none⟩ (.slice qB qm qd)) := ⟨_, rfl⟩
                have HW8 := Lib.hid (show w8 = w7.setCells g (b * 6) [.string QN, .int .i64 qk, .int .i64 qn, .string qS, .slice qA ql qc, .slice qB qm qd] from hw8)
                have HR8 := Lib.hid (show w8.heap[w5.heap.size]? = some (.cells #[.int .i64 pk, .int .i64 pn, .string PS, .slice cA pl cc, .slice (some ⟨g, 0, none⟩) pm cd] 25 (0, 0)) by rw [HW8.out]; exact set_row' HGE.out HR7.out)
                rw [← hw8]
                clear hw8
                refine hK.out _ _ (HR8.out) (fun hHeld => ?_)
                clear hK K
                try simp only [Act.put, List.setIfInBounds_toArray, List.set_cons_zero, List.set_cons_succ]
                refine wpAnyH_done (by kernel_rfl) ?_ _
                clear hHeld
                have HFIN := Lib.hid (show TuI W5 g T w8 by
                  rw [HW8.out, HW7.out, HWD.out]
                  simp only [setCells_drew]
                  exact HSW2.out.drew.drew)
                have htl9 := hpml
                go_wp2
                go_roundw
                case rel => exact ⟨ii + 1, by go_num, by have := HLT.out; omega, HFIN⟩
                case measure => have := HLT.out; simp [intOf]; omega
              · obtain ⟨a0, a1, a2, a3, a4, a5⟩ := HSA.out
                go_simp
                clear a0 a1 a2 a3 a4 a5
                refine hK.out _ _ (hHeld) (fun hHeld => ?_)
                clear hK K
                try simp only [Act.put, List.setIfInBounds_toArray, List.set_cons_zero, List.set_cons_succ]
                refine wpAnyH_ready (rs := [10]) (by kernel_rfl) (by simp) ?_
                refine AllReadyH.cons (o := { dst := some 81, op := Op.load 36 (Operand.tmp 80), type := 36, pos := "law.go:84", after := #[{ on := 9, ground := Ground.data }], guard := none }) rfl (fun K hK => ?_) AllReadyH.nil
                obtain ⟨a0, a1, a2, a3, a4, a5⟩ := HSB.out
                go_simp
                clear a0 a1 a2 a3 a4 a5
                refine hK.out _ _ (hHeld) (fun hHeld => ?_)
                clear hK K
                try simp only [Act.put, List.setIfInBounds_toArray, List.set_cons_zero, List.set_cons_succ]
                refine wpAnyH_take (i := 16) (oi := { dst := some 87, op := Op.indexAddr 23 (Operand.tmp 72) (Operand.tmp 73), type := 0, pos := "law.go:84", after := #[{ on := 1, ground := Ground.data }, { on := 2, ground := Ground.data }, { on := 0, ground := Ground.phase }, { on := 1, ground := Ground.phase }, { on := 2, ground := Ground.phase }, { on := 3, ground := Ground.textOnly Departure.lateStores }, { on := 4, ground := Ground.textOnly Departure.lateStores }, { on := 5, ground := Ground.textOnly Departure.lateStores }, { on := 6, ground := Ground.phase }, { on := 7, ground := Ground.phase }, { on := 8, ground := Ground.phase }, { on := 9, ground := Ground.phase }, { on := 10, ground := Ground.phase }, { on := 11, ground := Ground.textOnly Departure.lateStores }, { on := 12, ground := Ground.textOnly Departure.lateStores }, { on := 13, ground := Ground.textOnly Departure.lateStores }, { on := 14, ground := Ground.textOnly Departure.lateStoresUnsure }, { on := 15, ground := Ground.phase }], guard := none }) (v := ?_) rfl (by kernel_rfl) (by kernel_rfl) (by kernel_rfl) (fun _ _ _ h => h) (Or.inl ⟨by rfl, ?_⟩) hHeld ?_
                rotate_left
                · intro w hSw; (try dsimp only at hSw); go_simp; with_reducible rfl
                try simp only [Act.put, List.setIfInBounds_toArray, List.set_cons_zero, List.set_cons_succ]
                refine wpAnyH_ready (rs := [17]) (by kernel_rfl) (by simp) ?_
                refine AllReadyH.cons (o := { dst := none, op := Op.store 36 (Operand.tmp 87) (Operand.tmp 81), type := 0, pos := "law.go:84", after := #[{ on := 16, ground := Ground.data }, { on := 10, ground := Ground.data }, { on := 0, ground := Ground.phase }, { on := 1, ground := Ground.phase }, { on := 2, ground := Ground.phase }, { on := 3, ground := Ground.textOnly Departure.lateStores }, { on := 4, ground := Ground.textOnly Departure.lateStores }, { on := 5, ground := Ground.textOnly Departure.lateStores }, { on := 6, ground := Ground.phase }, { on := 7, ground := Ground.phase }, { on := 8, ground := Ground.phase }, { on := 9, ground := Ground.phase }, { on := 10, ground := Ground.phase }, { on := 11, ground := Ground.textOnly Departure.lateStores }, { on := 12, ground := Ground.textOnly Departure.lateStores }, { on := 13, ground := Ground.textOnly Departure.lateStores }, { on := 14, ground := Ground.textOnly Departure.lateStoresUnsure }, { on := 15, ground := Ground.phase }], guard := none }) rfl (fun K hK => ?_) AllReadyH.nil
                obtain ⟨u0, u1, u2, u3, u4, u5, ⟨z0, z1, z2, z3, z4, z5⟩, ⟨y0, y1, y2, y3, y4, y5⟩⟩ := six_there HTA.out
                go_simp
                clear z0 z1 z2 z3 z4 z5 y0 y1 y2 y3 y4 y5
                obtain ⟨w7, hw7⟩ : ∃ w7, w7 = ((((((wd.setCell ⟨g, a * 6, none⟩ (.string RN)).setCell ⟨g, a * 6 + 1, none⟩ (.int .i64 rk)).setCell ⟨g, a * 6 + 2, none⟩ (.int .i64 rn)).setCell ⟨g, a * 6 + 3, none⟩ (.string rS)).setCell ⟨g, a * 6 + 4, none⟩ (.slice rA rl rc)).setCell ⟨g, a * 6 + 5, none⟩ (.slice rB rm rd)).drew := ⟨_, rfl⟩
                have HW7 := Lib.hid (show w7 = (wd.setCells g (a * 6) [.string RN, .int .i64 rk, .int .i64 rn, .string rS, .slice rA rl rc, .slice rB rm rd]).drew from hw7)
                have HR7 := Lib.hid (show w7.heap[w5.heap.size]? = some (.cells #[.int .i64 pk, .int .i64 pn, .string PS, .slice cA pl cc, .slice (some ⟨g, 0, none⟩) pm cd] 25 (0, 0)) by rw [HW7.out]; exact set_row HGE.out HRD.out)
                have HTB7 := Lib.hid (show w7.there g (b * 6) 6 by rw [HW7.out]; exact set_there HTB.out)
                rw [← hw7]
                clear hw7
                refine hK.out _ _ (HR7.out) (fun hHeld => ?_)
                clear hK K
                try simp only [Act.put, List.setIfInBounds_toArray, List.set_cons_zero, List.set_cons_succ]
                refine wpAnyH_take (i := 18) (oi := { dst := some 88, op := Op.indexAddr 23 (Operand.tmp 75) (Operand.tmp 76), type := 0, pos := "law.go:84", after := #[{ on := 4, ground := Ground.data }, { on := 5, ground := Ground.data }, { on := 0, ground := Ground.phase }, { on := 1, ground := Ground.phase }, { on := 2, ground := Ground.phase }, { on := 3, ground := Ground.phase }, { on := 4, ground := Ground.phase }, { on := 5, ground := Ground.phase }, { on := 6, ground := Ground.phase }, { on := 7, ground := Ground.phase }, { on := 8, ground := Ground.phase }, { on := 9, ground := Ground.phase }, { on := 10, ground := Ground.phase }, { on := 11, ground := Ground.phase }, { on := 12, ground := Ground.phase }, { on := 13, ground := Ground.phase }, { on := 14, ground := Ground.phase }, { on := 15, ground := Ground.phase }, { on := 16, ground := Ground.phase }, { on := 17, ground := Ground.phase }], guard := none }) (v := ?_) rfl (by kernel_rfl) (by kernel_rfl) (by kernel_rfl) (fun _ _ _ h => h) (Or.inl ⟨by rfl, ?_⟩) hHeld ?_
                rotate_left
                · intro w hSw; (try dsimp only at hSw); go_simp; with_reducible rfl
                try simp only [Act.put, List.setIfInBounds_toArray, List.set_cons_zero, List.set_cons_succ]
                refine wpAnyH_ready (rs := [19]) (by kernel_rfl) (by simp) ?_
                refine AllReadyH.cons (o := { dst := none, op := Op.store 36 (Operand.tmp 88) (Operand.tmp 86), type := 0, pos := "law.go:84", after := #[{ on := 18, ground := Ground.data }, { on := 15, ground := Ground.data }, { on := 17, ground := Ground.chain }, { on := 0, ground := Ground.phase }, { on := 1, ground := Ground.phase }, { on := 2, ground := Ground.phase }, { on := 3, ground := Ground.phase }, { on := 4, ground := Ground.phase }, { on := 5, ground := Ground.phase }, { on := 6, ground := Ground.phase }, { on := 7, ground := Ground.phase }, { on := 8, ground := Ground.phase }, { on := 9, ground := Ground.phase }, { on := 10, ground := Ground.phase }, { on := 11, ground := Ground.phase }, { on := 12, ground := Ground.phase }, { on := 13, ground := Ground.phase }, { on := 14, ground := Ground.phase }, { on := 15, ground := Ground.phase }, { on := 16, ground := Ground.phase }, { on := 17, ground := Ground.phase }], guard := none }) rfl (fun K hK => ?_) AllReadyH.nil
                obtain ⟨u0, u1, u2, u3, u4, u5, ⟨z0, z1, z2, z3, z4, z5⟩, ⟨y0, y1, y2, y3, y4, y5⟩⟩ := six_there HTB7.out
                go_simp
                clear z0 z1 z2 z3 z4 z5 y0 y1 y2 y3 y4 y5
                obtain ⟨w8, hw8⟩ : ∃ w8, w8 = ((((((w7.setCell ⟨g, b * 6, none⟩ (.string QN)).setCell ⟨g, b * 6 + 1, none⟩ (.int .i64 qk)).setCell ⟨g, b * 6 + 2, none⟩ (.int .i64 qn)).setCell ⟨g, b * 6 + 3, none⟩ (.string qS)).setCell ⟨g, b * 6 + 4, none⟩ (.slice qA ql qc)).setCell ⟨g, b * 6 + 5, none⟩ (.slice qB qm qd)) := ⟨_, rfl⟩
                have HW8 := Lib.hid (show w8 = w7.setCells g (b * 6) [.string QN, .int .i64 qk, .int .i64 qn, .string qS, .slice qA ql qc, .slice qB qm qd] from hw8)
                have HR8 := Lib.hid (show w8.heap[w5.heap.size]? = some (.cells #[.int .i64 pk, .int .i64 pn, .string PS, .slice cA pl cc, .slice (some ⟨g, 0, none⟩) pm cd] 25 (0, 0)) by rw [HW8.out]; exact set_row' HGE.out HR7.out)
                rw [← hw8]
                clear hw8
                refine hK.out _ _ (HR8.out) (fun hHeld => ?_)
                clear hK K
                try simp only [Act.put, List.setIfInBounds_toArray, List.set_cons_zero, List.set_cons_succ]
                refine wpAnyH_done (by kernel_rfl) ?_ _
                clear hHeld
                have HFIN := Lib.hid (show TuI W5 g T w8 by
                  rw [HW8.out, HW7.out, HWD.out]
                  simp only [setCells_drew]
                  exact HSW2.out.drew.drew)
                have htl9 := hpml
                go_wp2
                go_roundw
                case rel => exact ⟨ii + 1, by go_num, by have := HLT.out; omega, HFIN⟩
                case measure => have := HLT.out; simp [intOf]; omega
            · go_upto_region 5 with fail
              go_cut [52] (fun c wx => c = .bool false ∧ Aside (wx = wo))
              case first =>
                obtain ⟨⟨p0_0, p0_1, p0_2, p0_3, p0_4⟩, -⟩ := row5 Rwo_0.out
                obtain ⟨⟨p1_0, p1_1, p1_2, p1_3, p1_4⟩, -⟩ := row5 Rwo_1.out
                obtain ⟨⟨p2_0, p2_1, p2_2, p2_3, p2_4⟩, -⟩ := row5 Rwo_2.out
                by_cases hio : ii < on
                · have t1 : decide ((ii : Int) < (on : Int)) = true := decide_eq_true (by omega)
                  have t2 : decide (ii < on) = true := decide_eq_true (by omega)
                  have t3 : decide ((0 : Int) < (pm : Int)) = false := decide_eq_false (by omega)
                  have t4 : decide (0 < pm) = false := decide_eq_false (by omega)
                  have k0 : (0 : Int) ≤ (ii : Int) := by omega
                  clear hio hlt hii
                  go_wp2_with fail
                  go_meet
                  exact ⟨rfl, (show _ = _ from rfl)⟩
                · have t1 : decide ((ii : Int) < (on : Int)) = false := decide_eq_false (by omega)
                  have t2 : decide (ii < on) = false := decide_eq_false hio
                  clear hio hlt hii
                  go_wp2_with fail
                  go_meet
                  exact ⟨rfl, (show _ = _ from rfl)⟩
              case rest =>
                obtain ⟨rfl, hw⟩ := hcut
                obtain rfl := hw.out.symm
                clear hlt hii
                obtain ⟨T', FM', hpe, hmt', hfm'⟩ := HKO.out.read (HMT0.out.keep (w' := W5) (fun k hk => by rw [HW5.out]; exact Below.heap_alloc _ _ _ (HFY.out k (List.mem_append_right _ hk)).2)) HG.out.1 HG.out.2.2.2 (fun k hk => by have := (HFY.out k (List.mem_append_right _ hk)).2; have := HSB.out; omega)
                obtain ⟨f1, f2, f3, f4, f5, f6⟩ := turn_facts (p := p) HTN.out HTV.out hpe
                have hrq := HBK.out wo T' FM' (fun k hk => (HKO.out.chg.block k (by have := (HFY.out k (List.mem_append_left _ hk)).2; have := HSB.out; omega) (by
                  rw [List.mem_singleton]
                  rintro rfl
                  rcases HG.out.2.2.1 with h | h
                  · have := HNY.out
                    rw [List.nodup_append] at this
                    exact this.2.2 _ hk _ h rfl
                  · have := (HFY.out _ (List.mem_append_left _ hk)).2; have := HSB.out; omega)).trans (by rw [HW5.out]; exact Below.heap_alloc _ _ _ (HFY.out k (List.mem_append_left _ hk)).2)) (hpe.length_eq) hmt'
                have hq := RdF.toA (lo := 0) (hi := wo.heap.size) _ _ _ (fun k hk => ⟨Nat.zero_le _, by
                  have h1 : k < w5.heap.size := by
                    rcases List.mem_append.1 hk with h | h
                    · exact (HFY.out k (List.mem_append_left _ h)).2
                    · exact (HFY.out k (List.mem_append_right _ (hfm' k h))).2
                  have := HKO.out.chg.size
                  have := HSB.out
                  omega⟩) hrq
                obtain ⟨q, hqv⟩ : ∃ q, mkT p T' = q := ⟨_, rfl⟩
                rw [hqv] at f1 f2 f3 f4 f5 f6 hq
                have HQ := Lib.hid hq
                have HQF := Lib.hid (show wfV q ∧ szU q ≤ 1048576 from ⟨f6 HPF.out.2.1, by rw [f5]; exact HPF.out.2.2⟩)
                have HFP := Lib.hid (show fitP v p ↔ fitP v q from ⟨fun h => fit_perm f1 f2 f3 h, fun h => fit_perm f1.symm f2.symm f3.symm h⟩)
                have HLP := Lib.hid (lst_perm f4)
                clear hpe hmt' hfm' f1 f2 f3 f4 f5 f6 hrq hq hqv
                have Lwo_0 := Lib.hid (show w.heap.size < wo.heap.size from Nat.lt_of_lt_of_le LW5_0.out HKO.out.chg.size)
                have Lwo_1 := Lib.hid (show w.heap.size + 1 < wo.heap.size from Nat.lt_of_lt_of_le LW5_1.out HKO.out.chg.size)
                have Lwo_2 := Lib.hid (show w5.heap.size < wo.heap.size from Nat.lt_of_lt_of_le LW5_2.out HKO.out.chg.size)
                have Fwo_q := Lib.hid (Below.refl wo.heap.size wo)
                by_cases hf : fitP v p
                · have HF := Lib.hid hf
                  have hk6 : k = 6 := HVK.out.symm.trans hf.1
                  subst hk6
                  obtain ⟨x, hxv⟩ : ∃ x, aplV v (lst p) = x := ⟨_, rfl⟩
                  obtain ⟨y, hyv⟩ : ∃ y, aplV v (lst q) = y := ⟨_, rfl⟩
                  have HXV := Lib.hid hxv
                  have HYV := Lib.hid hyv
                  have hE := eq_turn (fit_of hf HPF.out.1) HLP.out HVF.out.1 (HCHV.out) HPF.out.1 (HCHP.out)
                  rw [hxv, hyv] at hE
                  have HE := Lib.hid hE
                  have hxo := HOUT.out hf
                  rw [hxv] at hxo
                  have HXO := Lib.hid hxo
                  clear hf hE hxo hxv hyv
                  have HRV := Lib.hid (show RdA w 0 w.heap.size v [.int .i64 6, .int .i64 n, .string S, .slice A1 l1 c1, .slice A2 m1 c2] from HRV.out)
                  obtain ⟨⟨p0_0, p0_1, p0_2, p0_3, p0_4⟩, -⟩ := row5 Rwo_0.out
                  obtain ⟨⟨p1_0, p1_1, p1_2, p1_3, p1_4⟩, -⟩ := row5 Rwo_1.out
                  obtain ⟨⟨p2_0, p2_1, p2_2, p2_3, p2_4⟩, -⟩ := row5 Rwo_2.out
                  go_wp2_with fail
                  clear p0_0 p0_1 p0_2 p0_3 p0_4 p1_0 p1_1 p1_2 p1_3 p1_4 p2_0 p2_1 p2_2 p2_3 p2_4
                  refine (HAP.out _ HBwo.out).mono ?_
                  rintro e w6 ⟨⟨xs, xe, rfl, hx0⟩, hb⟩
                  have Rw6_0 := Lib.hid (show w6.heap[w.heap.size]? = some (.cells #[.int .i64 6, .int .i64 n, .string S, .slice A1 l1 c1, .slice A2 m1 c2] 25 (0, 0)) from (hb.block _ Lwo_0.out).trans Rwo_0.out)
                  have Lw6_0 := Lib.hid (show w.heap.size < w6.heap.size from Nat.lt_of_lt_of_le Lwo_0.out hb.size)
                  have Rw6_1 := Lib.hid (show w6.heap[w.heap.size + 1]? = some (.cells #[.int .i64 pk, .int .i64 pn, .string PS, .slice B1 pl e1, .slice B2 pm e2] 25 (0, 0)) from (hb.block _ Lwo_1.out).trans Rwo_1.out)
                  have Lw6_1 := Lib.hid (show w.heap.size + 1 < w6.heap.size from Nat.lt_of_lt_of_le Lwo_1.out hb.size)
                  have Rw6_2 := Lib.hid (show w6.heap[w5.heap.size]? = some (.cells #[.int .i64 pk, .int .i64 pn, .string PS, .slice cA pl cc, .slice cB pm cd] 25 (0, 0)) from (hb.block _ Lwo_2.out).trans Rwo_2.out)
                  have Lw6_2 := Lib.hid (show w5.heap.size < w6.heap.size from Nat.lt_of_lt_of_le Lwo_2.out hb.size)
                  have Fw6_q := Lib.hid (Fwo_q.out.trans (hb.mono Fwo_q.out.size))
                  have HBw6 := Lib.hid (HBwo.out.trans (hb.mono HBwo.out.size))
                  obtain ⟨e0, hx⟩ : xe = 0 ∧ RdA w6 0 w6.heap.size x xs := by
                    rcases hx0 with ⟨_, e0, F, h1, _, h3⟩ | ⟨h0, _⟩
                    · refine ⟨e0, ?_⟩
                      have h2 := RdF.toA (lo := 0) (hi := w6.heap.size) _ _ _ (fun k hk => ⟨Nat.zero_le _, (h3 k hk).2⟩) h1
                      rw [HXV.out] at h2
                      exact h2
                    · exact absurd HF.out h0
                  subst e0
                  clear hx0
                  have Hx := Lib.hid hx
                  obtain ⟨xA, xc, xB, xd, ex, -⟩ := hx.cells
                  subst ex
                  clear hx
                  generalize x.k = xk at *
                  generalize x.n = xn at *
                  generalize strOf x.s = xS at *
                  generalize x.l.length = xl at *
                  generalize x.ms.length = xm at *
                  clear hb
                  have Fw6_x := Lib.hid (Below.refl w6.heap.size w6)
                  obtain ⟨W6, hW6⟩ : ∃ W6, W6 = w6.alloc (.cells #[.int .i64 xk, .int .i64 xn, .string xS, .slice xA xl xc, .slice xB xm xd] 25) := ⟨_, rfl⟩
                  have hb : Below w6.heap.size w6 W6 := by rw [hW6]; exact (Below.refl _ _).alloc (Nat.le_refl _) _
                  have RW6_0 := Lib.hid (show W6.heap[w.heap.size]? = some (.cells #[.int .i64 6, .int .i64 n, .string S, .slice A1 l1 c1, .slice A2 m1 c2] 25 (0, 0)) from (hb.block _ Lw6_0.out).trans Rw6_0.out)
                  have LW6_0 := Lib.hid (show w.heap.size < W6.heap.size from Nat.lt_of_lt_of_le Lw6_0.out hb.size)
                  have RW6_1 := Lib.hid (show W6.heap[w.heap.size + 1]? = some (.cells #[.int .i64 pk, .int .i64 pn, .string PS, .slice B1 pl e1, .slice B2 pm e2] 25 (0, 0)) from (hb.block _ Lw6_1.out).trans Rw6_1.out)
                  have LW6_1 := Lib.hid (show w.heap.size + 1 < W6.heap.size from Nat.lt_of_lt_of_le Lw6_1.out hb.size)
                  have RW6_2 := Lib.hid (show W6.heap[w5.heap.size]? = some (.cells #[.int .i64 pk, .int .i64 pn, .string PS, .slice cA pl cc, .slice cB pm cd] 25 (0, 0)) from (hb.block _ Lw6_2.out).trans Rw6_2.out)
                  have LW6_2 := Lib.hid (show w5.heap.size < W6.heap.size from Nat.lt_of_lt_of_le Lw6_2.out hb.size)
                  have FW6_q := Lib.hid (Fw6_q.out.trans (hb.mono Fw6_q.out.size))
                  have FW6_x := Lib.hid (Fw6_x.out.trans (hb.mono Fw6_x.out.size))
                  have HBW6 := Lib.hid (HBw6.out.trans (hb.mono HBw6.out.size))
                  have RW6_3 := Lib.hid (show W6.heap[w6.heap.size]? = some (.cells #[.int .i64 xk, .int .i64 xn, .string xS, .slice xA xl xc, .slice xB xm xd] 25 (0, 0)) by rw [hW6]; exact heapNew _ _)
                  have LW6_3 := Lib.hid (show w6.heap.size < W6.heap.size by rw [hW6, szAl]; exact Nat.lt_succ_self _)
                  have HW6 := Lib.hid hW6
                  clear hW6 hb
                  have q0 := RW6_0.out
                  rw [HW6.out] at q0
                  obtain ⟨⟨p0_0, p0_1, p0_2, p0_3, p0_4⟩, -⟩ := row5 q0
                  clear q0
                  have q2 := RW6_2.out
                  rw [HW6.out] at q2
                  obtain ⟨⟨p2_0, p2_1, p2_2, p2_3, p2_4⟩, -⟩ := row5 q2
                  clear q2
                  have q3 := RW6_3.out
                  rw [HW6.out] at q3
                  obtain ⟨⟨p3_0, p3_1, p3_2, p3_3, p3_4⟩, -⟩ := row5 q3
                  clear q3
                  go_wp2_with fail
                  rw [← HW6.out]
                  clear p0_0 p0_1 p0_2 p0_3 p0_4 p2_0 p2_1 p2_2 p2_3 p2_4 p3_0 p3_1 p3_2 p3_3 p3_4
                  refine (Apply_any v q [.int .i64 6, .int .i64 n, .string S, .slice A1 l1 c1, .slice A2 m1 c2] [.int .i64 pk, .int .i64 pn, .string PS, .slice cA pl cc, .slice cB pm cd] _ (HRV.out.below HBW6.out (Nat.le_refl _) HBW6.out.size) (HQ.out.below FW6_q.out (Nat.le_refl _) FW6_q.out.size) HVF.out.2.1 HQF.out.1 (by have := HVF.out.2.2; omega) (by have := HQF.out.2; omega)).mono ?_
                  rintro e w7 ⟨⟨ys, ye, rfl, hy0⟩, hb⟩
                  have Rw7_0 := Lib.hid (show w7.heap[w.heap.size]? = some (.cells #[.int .i64 6, .int .i64 n, .string S, .slice A1 l1 c1, .slice A2 m1 c2] 25 (0, 0)) from (hb.block _ LW6_0.out).trans RW6_0.out)
                  have Lw7_0 := Lib.hid (show w.heap.size < w7.heap.size from Nat.lt_of_lt_of_le LW6_0.out hb.size)
                  have Rw7_2 := Lib.hid (show w7.heap[w5.heap.size]? = some (.cells #[.int .i64 pk, .int .i64 pn, .string PS, .slice cA pl cc, .slice cB pm cd] 25 (0, 0)) from (hb.block _ LW6_2.out).trans RW6_2.out)
                  have Lw7_2 := Lib.hid (show w5.heap.size < w7.heap.size from Nat.lt_of_lt_of_le LW6_2.out hb.size)
                  have Rw7_3 := Lib.hid (show w7.heap[w6.heap.size]? = some (.cells #[.int .i64 xk, .int .i64 xn, .string xS, .slice xA xl xc, .slice xB xm xd] 25 (0, 0)) from (hb.block _ LW6_3.out).trans RW6_3.out)
                  have Lw7_3 := Lib.hid (show w6.heap.size < w7.heap.size from Nat.lt_of_lt_of_le LW6_3.out hb.size)
                  have Fw7_q := Lib.hid (FW6_q.out.trans (hb.mono FW6_q.out.size))
                  have Fw7_x := Lib.hid (FW6_x.out.trans (hb.mono FW6_x.out.size))
                  have HBw7 := Lib.hid (HBW6.out.trans (hb.mono HBW6.out.size))
                  obtain ⟨e0, hy⟩ : ye = 0 ∧ RdA w7 0 w7.heap.size y ys := by
                    rcases hy0 with ⟨_, e0, F, h1, _, h3⟩ | ⟨h0, _⟩
                    · refine ⟨e0, ?_⟩
                      have h2 := RdF.toA (lo := 0) (hi := w7.heap.size) _ _ _ (fun k hk => ⟨Nat.zero_le _, (h3 k hk).2⟩) h1
                      rw [HYV.out] at h2
                      exact h2
                    · exact absurd (HFP.out.1 HF.out) h0
                  subst e0
                  clear hy0
                  have Hy := Lib.hid hy
                  obtain ⟨yA, yc, yB, yd, ey, -⟩ := hy.cells
                  subst ey
                  clear hy
                  generalize y.k = yk at *
                  generalize y.n = yn at *
                  generalize strOf y.s = yS at *
                  generalize y.l.length = yl at *
                  generalize y.ms.length = ym at *
                  clear hb
                  have Fw7_y := Lib.hid (Below.refl w7.heap.size w7)
                  obtain ⟨W7, hW7⟩ : ∃ W7, W7 = w7.alloc (.cells #[.int .i64 yk, .int .i64 yn, .string yS, .slice yA yl yc, .slice yB ym yd] 25) := ⟨_, rfl⟩
                  have hb : Below w7.heap.size w7 W7 := by rw [hW7]; exact (Below.refl _ _).alloc (Nat.le_refl _) _
                  have RW7_0 := Lib.hid (show W7.heap[w.heap.size]? = some (.cells #[.int .i64 6, .int .i64 n, .string S, .slice A1 l1 c1, .slice A2 m1 c2] 25 (0, 0)) from (hb.block _ Lw7_0.out).trans Rw7_0.out)
                  have LW7_0 := Lib.hid (show w.heap.size < W7.heap.size from Nat.lt_of_lt_of_le Lw7_0.out hb.size)
                  have RW7_2 := Lib.hid (show W7.heap[w5.heap.size]? = some (.cells #[.int .i64 pk, .int .i64 pn, .string PS, .slice cA pl cc, .slice cB pm cd] 25 (0, 0)) from (hb.block _ Lw7_2.out).trans Rw7_2.out)
                  have LW7_2 := Lib.hid (show w5.heap.size < W7.heap.size from Nat.lt_of_lt_of_le Lw7_2.out hb.size)
                  have RW7_3 := Lib.hid (show W7.heap[w6.heap.size]? = some (.cells #[.int .i64 xk, .int .i64 xn, .string xS, .slice xA xl xc, .slice xB xm xd] 25 (0, 0)) from (hb.block _ Lw7_3.out).trans Rw7_3.out)
                  have LW7_3 := Lib.hid (show w6.heap.size < W7.heap.size from Nat.lt_of_lt_of_le Lw7_3.out hb.size)
                  have FW7_q := Lib.hid (Fw7_q.out.trans (hb.mono Fw7_q.out.size))
                  have FW7_x := Lib.hid (Fw7_x.out.trans (hb.mono Fw7_x.out.size))
                  have FW7_y := Lib.hid (Fw7_y.out.trans (hb.mono Fw7_y.out.size))
                  have HBW7 := Lib.hid (HBw7.out.trans (hb.mono HBw7.out.size))
                  have RW7_4 := Lib.hid (show W7.heap[w7.heap.size]? = some (.cells #[.int .i64 yk, .int .i64 yn, .string yS, .slice yA yl yc, .slice yB ym yd] 25 (0, 0)) by rw [hW7]; exact heapNew _ _)
                  have LW7_4 := Lib.hid (show w7.heap.size < W7.heap.size by rw [hW7, szAl]; exact Nat.lt_succ_self _)
                  have HW7 := Lib.hid hW7
                  clear hW7 hb
                  have q0 := RW7_0.out
                  rw [HW7.out] at q0
                  obtain ⟨⟨p0_0, p0_1, p0_2, p0_3, p0_4⟩, -⟩ := row5 q0
                  clear q0
                  have q3 := RW7_3.out
                  rw [HW7.out] at q3
                  obtain ⟨⟨p3_0, p3_1, p3_2, p3_3, p3_4⟩, -⟩ := row5 q3
                  clear q3
                  have q4 := RW7_4.out
                  rw [HW7.out] at q4
                  obtain ⟨⟨p4_0, p4_1, p4_2, p4_3, p4_4⟩, -⟩ := row5 q4
                  clear q4
                  go_wp2_with fail
                  rw [← HW7.out]
                  clear p0_0 p0_1 p0_2 p0_3 p0_4 p3_0 p3_1 p3_2 p3_3 p3_4 p4_0 p4_1 p4_2 p4_3 p4_4
                  refine (Apply_any v (mpV ([], [])) [.int .i64 6, .int .i64 n, .string S, .slice A1 l1 c1, .slice A2 m1 c2] [.int .i64 6, .int .i64 0, .string ⟨#[]⟩, .slice none 0 0, .slice none 0 0] _ (HRV.out.below HBW7.out (Nat.le_refl _) HBW7.out.size) (rd_mp0 _ _ _) HVF.out.2.1 mp0_wf (by have := HVF.out.2.2; omega) (by rw [mp0_sz]; omega)).mono ?_
                  rintro e w8 ⟨⟨zs, ze, rfl, hz0⟩, hb⟩
                  have Rw8_0 := Lib.hid (show w8.heap[w.heap.size]? = some (.cells #[.int .i64 6, .int .i64 n, .string S, .slice A1 l1 c1, .slice A2 m1 c2] 25 (0, 0)) from (hb.block _ LW7_0.out).trans RW7_0.out)
                  have Lw8_0 := Lib.hid (show w.heap.size < w8.heap.size from Nat.lt_of_lt_of_le LW7_0.out hb.size)
                  have Rw8_3 := Lib.hid (show w8.heap[w6.heap.size]? = some (.cells #[.int .i64 xk, .int .i64 xn, .string xS, .slice xA xl xc, .slice xB xm xd] 25 (0, 0)) from (hb.block _ LW7_3.out).trans RW7_3.out)
                  have Lw8_3 := Lib.hid (show w6.heap.size < w8.heap.size from Nat.lt_of_lt_of_le LW7_3.out hb.size)
                  have Rw8_4 := Lib.hid (show w8.heap[w7.heap.size]? = some (.cells #[.int .i64 yk, .int .i64 yn, .string yS, .slice yA yl yc, .slice yB ym yd] 25 (0, 0)) from (hb.block _ LW7_4.out).trans RW7_4.out)
                  have Lw8_4 := Lib.hid (show w7.heap.size < w8.heap.size from Nat.lt_of_lt_of_le LW7_4.out hb.size)
                  have Fw8_q := Lib.hid (FW7_q.out.trans (hb.mono FW7_q.out.size))
                  have Fw8_x := Lib.hid (FW7_x.out.trans (hb.mono FW7_x.out.size))
                  have Fw8_y := Lib.hid (FW7_y.out.trans (hb.mono FW7_y.out.size))
                  have HBw8 := Lib.hid (HBW7.out.trans (hb.mono HBW7.out.size))
                  obtain ⟨e0, hz⟩ : ze = 0 ∧ RdA w8 0 w8.heap.size v zs := by
                    rcases hz0 with ⟨_, e0, F, h1, _, h3⟩ | ⟨h0, _⟩
                    · refine ⟨e0, ?_⟩
                      have h2 := RdF.toA (lo := 0) (hi := w8.heap.size) _ _ _ (fun k hk => ⟨Nat.zero_le _, (h3 k hk).2⟩) h1
                      rw [show aplV v (lst (mpV ([], []))) = v from rfl] at h2
                      exact h2
                    · exact absurd (mp0_fit.2 (HVK.out)) h0
                  subst e0
                  clear hz0
                  have Hz := Lib.hid hz
                  obtain ⟨zA, zc, zB, zd, ez, -⟩ := hz.cells
                  subst ez
                  clear hz
                  generalize v.k = zk at *
                  generalize v.n = zn at *
                  generalize strOf v.s = zS at *
                  generalize v.l.length = zl at *
                  generalize v.ms.length = zm at *
                  clear hb
                  have Fw8_z := Lib.hid (Below.refl w8.heap.size w8)
                  obtain ⟨W8, hW8⟩ : ∃ W8, W8 = w8.alloc (.cells #[.int .i64 zk, .int .i64 zn, .string zS, .slice zA zl zc, .slice zB zm zd] 25) := ⟨_, rfl⟩
                  have hb : Below w8.heap.size w8 W8 := by rw [hW8]; exact (Below.refl _ _).alloc (Nat.le_refl _) _
                  have RW8_0 := Lib.hid (show W8.heap[w.heap.size]? = some (.cells #[.int .i64 6, .int .i64 n, .string S, .slice A1 l1 c1, .slice A2 m1 c2] 25 (0, 0)) from (hb.block _ Lw8_0.out).trans Rw8_0.out)
                  have LW8_0 := Lib.hid (show w.heap.size < W8.heap.size from Nat.lt_of_lt_of_le Lw8_0.out hb.size)
                  have RW8_3 := Lib.hid (show W8.heap[w6.heap.size]? = some (.cells #[.int .i64 xk, .int .i64 xn, .string xS, .slice xA xl xc, .slice xB xm xd] 25 (0, 0)) from (hb.block _ Lw8_3.out).trans Rw8_3.out)
                  have LW8_3 := Lib.hid (show w6.heap.size < W8.heap.size from Nat.lt_of_lt_of_le Lw8_3.out hb.size)
                  have RW8_4 := Lib.hid (show W8.heap[w7.heap.size]? = some (.cells #[.int .i64 yk, .int .i64 yn, .string yS, .slice yA yl yc, .slice yB ym yd] 25 (0, 0)) from (hb.block _ Lw8_4.out).trans Rw8_4.out)
                  have LW8_4 := Lib.hid (show w7.heap.size < W8.heap.size from Nat.lt_of_lt_of_le Lw8_4.out hb.size)
                  have FW8_q := Lib.hid (Fw8_q.out.trans (hb.mono Fw8_q.out.size))
                  have FW8_x := Lib.hid (Fw8_x.out.trans (hb.mono Fw8_x.out.size))
                  have FW8_y := Lib.hid (Fw8_y.out.trans (hb.mono Fw8_y.out.size))
                  have FW8_z := Lib.hid (Fw8_z.out.trans (hb.mono Fw8_z.out.size))
                  have HBW8 := Lib.hid (HBw8.out.trans (hb.mono HBw8.out.size))
                  have RW8_5 := Lib.hid (show W8.heap[w8.heap.size]? = some (.cells #[.int .i64 zk, .int .i64 zn, .string zS, .slice zA zl zc, .slice zB zm zd] 25 (0, 0)) by rw [hW8]; exact heapNew _ _)
                  have LW8_5 := Lib.hid (show w8.heap.size < W8.heap.size by rw [hW8, szAl]; exact Nat.lt_succ_self _)
                  have HW8 := Lib.hid hW8
                  clear hW8 hb
                  have q0 := RW8_0.out
                  rw [HW8.out] at q0
                  obtain ⟨⟨p0_0, p0_1, p0_2, p0_3, p0_4⟩, -⟩ := row5 q0
                  clear q0
                  have q3 := RW8_3.out
                  rw [HW8.out] at q3
                  obtain ⟨⟨p3_0, p3_1, p3_2, p3_3, p3_4⟩, -⟩ := row5 q3
                  clear q3
                  have q4 := RW8_4.out
                  rw [HW8.out] at q4
                  obtain ⟨⟨p4_0, p4_1, p4_2, p4_3, p4_4⟩, -⟩ := row5 q4
                  clear q4
                  have q5 := RW8_5.out
                  rw [HW8.out] at q5
                  obtain ⟨⟨p5_0, p5_1, p5_2, p5_3, p5_4⟩, -⟩ := row5 q5
                  clear q5
                  go_wp2_with fail
                  rw [← HW8.out]
                  clear p0_0 p0_1 p0_2 p0_3 p0_4 p3_0 p3_1 p3_2 p3_3 p3_4 p4_0 p4_1 p4_2 p4_3 p4_4 p5_0 p5_1 p5_2 p5_3 p5_4
                  refine (rSame7_any (ht x) x y [.int .i64 xk, .int .i64 xn, .string xS, .slice xA xl xc, .slice xB xm xd] [.int .i64 yk, .int .i64 yn, .string yS, .slice yA yl yc, .slice yB ym yd] _ (Nat.le_refl _) (szA_of _ x HXO.out.2.1 (by have := HXO.out.2.2; omega)) HE.out (Hx.out.below FW8_x.out (Nat.le_refl _) FW8_x.out.size) (Hy.out.below FW8_y.out (Nat.le_refl _) FW8_y.out.size)).mono ?_
                  rintro e w9 ⟨rfl, hb⟩
                  have Rw9_0 := Lib.hid (show w9.heap[w.heap.size]? = some (.cells #[.int .i64 6, .int .i64 n, .string S, .slice A1 l1 c1, .slice A2 m1 c2] 25 (0, 0)) from (hb.block _ LW8_0.out).trans RW8_0.out)
                  have Lw9_0 := Lib.hid (show w.heap.size < w9.heap.size from Nat.lt_of_lt_of_le LW8_0.out hb.size)
                  have Rw9_3 := Lib.hid (show w9.heap[w6.heap.size]? = some (.cells #[.int .i64 xk, .int .i64 xn, .string xS, .slice xA xl xc, .slice xB xm xd] 25 (0, 0)) from (hb.block _ LW8_3.out).trans RW8_3.out)
                  have Lw9_3 := Lib.hid (show w6.heap.size < w9.heap.size from Nat.lt_of_lt_of_le LW8_3.out hb.size)
                  have Rw9_4 := Lib.hid (show w9.heap[w7.heap.size]? = some (.cells #[.int .i64 yk, .int .i64 yn, .string yS, .slice yA yl yc, .slice yB ym yd] 25 (0, 0)) from (hb.block _ LW8_4.out).trans RW8_4.out)
                  have Lw9_4 := Lib.hid (show w7.heap.size < w9.heap.size from Nat.lt_of_lt_of_le LW8_4.out hb.size)
                  have Rw9_5 := Lib.hid (show w9.heap[w8.heap.size]? = some (.cells #[.int .i64 zk, .int .i64 zn, .string zS, .slice zA zl zc, .slice zB zm zd] 25 (0, 0)) from (hb.block _ LW8_5.out).trans RW8_5.out)
                  have Lw9_5 := Lib.hid (show w8.heap.size < w9.heap.size from Nat.lt_of_lt_of_le LW8_5.out hb.size)
                  have Fw9_q := Lib.hid (FW8_q.out.trans (hb.mono FW8_q.out.size))
                  have Fw9_x := Lib.hid (FW8_x.out.trans (hb.mono FW8_x.out.size))
                  have Fw9_y := Lib.hid (FW8_y.out.trans (hb.mono FW8_y.out.size))
                  have Fw9_z := Lib.hid (FW8_z.out.trans (hb.mono FW8_z.out.size))
                  have HBw9 := Lib.hid (HBW8.out.trans (hb.mono HBW8.out.size))
                  clear hb
                  obtain ⟨⟨p0_0, p0_1, p0_2, p0_3, p0_4⟩, -⟩ := row5 Rw9_0.out
                  obtain ⟨⟨p3_0, p3_1, p3_2, p3_3, p3_4⟩, -⟩ := row5 Rw9_3.out
                  obtain ⟨⟨p4_0, p4_1, p4_2, p4_3, p4_4⟩, -⟩ := row5 Rw9_4.out
                  obtain ⟨⟨p5_0, p5_1, p5_2, p5_3, p5_4⟩, -⟩ := row5 Rw9_5.out
                  go_wp2_with fail
                  clear p0_0 p0_1 p0_2 p0_3 p0_4 p3_0 p3_1 p3_2 p3_3 p3_4 p4_0 p4_1 p4_2 p4_3 p4_4 p5_0 p5_1 p5_2 p5_3 p5_4
                  refine (same_self v [.int .i64 6, .int .i64 n, .string S, .slice A1 l1 c1, .slice A2 m1 c2] [.int .i64 zk, .int .i64 zn, .string zS, .slice zA zl zc, .slice zB zm zd] _ (szA_of _ v HVF.out.2.1 (by have := HVF.out.2.2; omega)) (HRV.out.below HBw9.out (Nat.le_refl _) HBw9.out.size) (Hz.out.below Fw9_z.out (Nat.le_refl _) Fw9_z.out.size)).mono ?_
                  rintro e w10 ⟨rfl, hb⟩
                  have Rw10_0 := Lib.hid (show w10.heap[w.heap.size]? = some (.cells #[.int .i64 6, .int .i64 n, .string S, .slice A1 l1 c1, .slice A2 m1 c2] 25 (0, 0)) from (hb.block _ Lw9_0.out).trans Rw9_0.out)
                  have Lw10_0 := Lib.hid (show w.heap.size < w10.heap.size from Nat.lt_of_lt_of_le Lw9_0.out hb.size)
                  have Rw10_3 := Lib.hid (show w10.heap[w6.heap.size]? = some (.cells #[.int .i64 xk, .int .i64 xn, .string xS, .slice xA xl xc, .slice xB xm xd] 25 (0, 0)) from (hb.block _ Lw9_3.out).trans Rw9_3.out)
                  have Lw10_3 := Lib.hid (show w6.heap.size < w10.heap.size from Nat.lt_of_lt_of_le Lw9_3.out hb.size)
                  have Rw10_4 := Lib.hid (show w10.heap[w7.heap.size]? = some (.cells #[.int .i64 yk, .int .i64 yn, .string yS, .slice yA yl yc, .slice yB ym yd] 25 (0, 0)) from (hb.block _ Lw9_4.out).trans Rw9_4.out)
                  have Lw10_4 := Lib.hid (show w7.heap.size < w10.heap.size from Nat.lt_of_lt_of_le Lw9_4.out hb.size)
                  have Rw10_5 := Lib.hid (show w10.heap[w8.heap.size]? = some (.cells #[.int .i64 zk, .int .i64 zn, .string zS, .slice zA zl zc, .slice zB zm zd] 25 (0, 0)) from (hb.block _ Lw9_5.out).trans Rw9_5.out)
                  have Lw10_5 := Lib.hid (show w8.heap.size < w10.heap.size from Nat.lt_of_lt_of_le Lw9_5.out hb.size)
                  have Fw10_q := Lib.hid (Fw9_q.out.trans (hb.mono Fw9_q.out.size))
                  have Fw10_x := Lib.hid (Fw9_x.out.trans (hb.mono Fw9_x.out.size))
                  have Fw10_y := Lib.hid (Fw9_y.out.trans (hb.mono Fw9_y.out.size))
                  have Fw10_z := Lib.hid (Fw9_z.out.trans (hb.mono Fw9_z.out.size))
                  have HBw10 := Lib.hid (HBw9.out.trans (hb.mono HBw9.out.size))
                  clear hb
                  go_wp2
                  go_ret
                  exact ⟨rfl, HBw10.out⟩
                · by_cases hk6 : k = 6
                  · have HF := Lib.hid hf
                    clear hf
                    have HK6 := Lib.hid (HVK.out.trans hk6)
                    subst hk6
                    have HRV := Lib.hid (show RdA w 0 w.heap.size v [.int .i64 6, .int .i64 n, .string S, .slice A1 l1 c1, .slice A2 m1 c2] from HRV.out)
                    obtain ⟨⟨p0_0, p0_1, p0_2, p0_3, p0_4⟩, -⟩ := row5 Rwo_0.out
                    obtain ⟨⟨p1_0, p1_1, p1_2, p1_3, p1_4⟩, -⟩ := row5 Rwo_1.out
                    obtain ⟨⟨p2_0, p2_1, p2_2, p2_3, p2_4⟩, -⟩ := row5 Rwo_2.out
                    go_wp2_with fail
                    clear p0_0 p0_1 p0_2 p0_3 p0_4 p1_0 p1_1 p1_2 p1_3 p1_4 p2_0 p2_1 p2_2 p2_3 p2_4
                    refine (HAP.out _ HBwo.out).mono ?_
                    rintro e w6 ⟨⟨xs, xe, rfl, hx0⟩, hb⟩
                    have Rw6_0 := Lib.hid (show w6.heap[w.heap.size]? = some (.cells #[.int .i64 6, .int .i64 n, .string S, .slice A1 l1 c1, .slice A2 m1 c2] 25 (0, 0)) from (hb.block _ Lwo_0.out).trans Rwo_0.out)
                    have Lw6_0 := Lib.hid (show w.heap.size < w6.heap.size from Nat.lt_of_lt_of_le Lwo_0.out hb.size)
                    have Rw6_1 := Lib.hid (show w6.heap[w.heap.size + 1]? = some (.cells #[.int .i64 pk, .int .i64 pn, .string PS, .slice B1 pl e1, .slice B2 pm e2] 25 (0, 0)) from (hb.block _ Lwo_1.out).trans Rwo_1.out)
                    have Lw6_1 := Lib.hid (show w.heap.size + 1 < w6.heap.size from Nat.lt_of_lt_of_le Lwo_1.out hb.size)
                    have Rw6_2 := Lib.hid (show w6.heap[w5.heap.size]? = some (.cells #[.int .i64 pk, .int .i64 pn, .string PS, .slice cA pl cc, .slice cB pm cd] 25 (0, 0)) from (hb.block _ Lwo_2.out).trans Rwo_2.out)
                    have Lw6_2 := Lib.hid (show w5.heap.size < w6.heap.size from Nat.lt_of_lt_of_le Lwo_2.out hb.size)
                    have Fw6_q := Lib.hid (Fwo_q.out.trans (hb.mono Fwo_q.out.size))
                    have HBw6 := Lib.hid (HBwo.out.trans (hb.mono HBwo.out.size))
                    obtain ⟨e0, e1⟩ := hx0.resolve_left (fun h => absurd h.1 (HF.out)) |>.2
                    subst e0 e1
                    clear hx0
                    clear hb
                    obtain ⟨W6, hW6⟩ : ∃ W6, W6 = w6.alloc (.cells #[.int .i64 0, .int .i64 0, .string ⟨#[]⟩, .slice none 0 0, .slice none 0 0] 25) := ⟨_, rfl⟩
                    have hb : Below w6.heap.size w6 W6 := by rw [hW6]; exact (Below.refl _ _).alloc (Nat.le_refl _) _
                    have RW6_0 := Lib.hid (show W6.heap[w.heap.size]? = some (.cells #[.int .i64 6, .int .i64 n, .string S, .slice A1 l1 c1, .slice A2 m1 c2] 25 (0, 0)) from (hb.block _ Lw6_0.out).trans Rw6_0.out)
                    have LW6_0 := Lib.hid (show w.heap.size < W6.heap.size from Nat.lt_of_lt_of_le Lw6_0.out hb.size)
                    have RW6_1 := Lib.hid (show W6.heap[w.heap.size + 1]? = some (.cells #[.int .i64 pk, .int .i64 pn, .string PS, .slice B1 pl e1, .slice B2 pm e2] 25 (0, 0)) from (hb.block _ Lw6_1.out).trans Rw6_1.out)
                    have LW6_1 := Lib.hid (show w.heap.size + 1 < W6.heap.size from Nat.lt_of_lt_of_le Lw6_1.out hb.size)
                    have RW6_2 := Lib.hid (show W6.heap[w5.heap.size]? = some (.cells #[.int .i64 pk, .int .i64 pn, .string PS, .slice cA pl cc, .slice cB pm cd] 25 (0, 0)) from (hb.block _ Lw6_2.out).trans Rw6_2.out)
                    have LW6_2 := Lib.hid (show w5.heap.size < W6.heap.size from Nat.lt_of_lt_of_le Lw6_2.out hb.size)
                    have FW6_q := Lib.hid (Fw6_q.out.trans (hb.mono Fw6_q.out.size))
                    have HBW6 := Lib.hid (HBw6.out.trans (hb.mono HBw6.out.size))
                    have RW6_3 := Lib.hid (show W6.heap[w6.heap.size]? = some (.cells #[.int .i64 0, .int .i64 0, .string ⟨#[]⟩, .slice none 0 0, .slice none 0 0] 25 (0, 0)) by rw [hW6]; exact heapNew _ _)
                    have LW6_3 := Lib.hid (show w6.heap.size < W6.heap.size by rw [hW6, szAl]; exact Nat.lt_succ_self _)
                    have HW6 := Lib.hid hW6
                    clear hW6 hb
                    have q0 := RW6_0.out
                    rw [HW6.out] at q0
                    obtain ⟨⟨p0_0, p0_1, p0_2, p0_3, p0_4⟩, -⟩ := row5 q0
                    clear q0
                    have q2 := RW6_2.out
                    rw [HW6.out] at q2
                    obtain ⟨⟨p2_0, p2_1, p2_2, p2_3, p2_4⟩, -⟩ := row5 q2
                    clear q2
                    have q3 := RW6_3.out
                    rw [HW6.out] at q3
                    obtain ⟨⟨p3_0, p3_1, p3_2, p3_3, p3_4⟩, -⟩ := row5 q3
                    clear q3
                    go_wp2_with fail
                    rw [← HW6.out]
                    clear p0_0 p0_1 p0_2 p0_3 p0_4 p2_0 p2_1 p2_2 p2_3 p2_4 p3_0 p3_1 p3_2 p3_3 p3_4
                    refine (Apply_any v q [.int .i64 6, .int .i64 n, .string S, .slice A1 l1 c1, .slice A2 m1 c2] [.int .i64 pk, .int .i64 pn, .string PS, .slice cA pl cc, .slice cB pm cd] _ (HRV.out.below HBW6.out (Nat.le_refl _) HBW6.out.size) (HQ.out.below FW6_q.out (Nat.le_refl _) FW6_q.out.size) HVF.out.2.1 HQF.out.1 (by have := HVF.out.2.2; omega) (by have := HQF.out.2; omega)).mono ?_
                    rintro e w7 ⟨⟨ys, ye, rfl, hy0⟩, hb⟩
                    have Rw7_0 := Lib.hid (show w7.heap[w.heap.size]? = some (.cells #[.int .i64 6, .int .i64 n, .string S, .slice A1 l1 c1, .slice A2 m1 c2] 25 (0, 0)) from (hb.block _ LW6_0.out).trans RW6_0.out)
                    have Lw7_0 := Lib.hid (show w.heap.size < w7.heap.size from Nat.lt_of_lt_of_le LW6_0.out hb.size)
                    have Rw7_2 := Lib.hid (show w7.heap[w5.heap.size]? = some (.cells #[.int .i64 pk, .int .i64 pn, .string PS, .slice cA pl cc, .slice cB pm cd] 25 (0, 0)) from (hb.block _ LW6_2.out).trans RW6_2.out)
                    have Lw7_2 := Lib.hid (show w5.heap.size < w7.heap.size from Nat.lt_of_lt_of_le LW6_2.out hb.size)
                    have Rw7_3 := Lib.hid (show w7.heap[w6.heap.size]? = some (.cells #[.int .i64 0, .int .i64 0, .string ⟨#[]⟩, .slice none 0 0, .slice none 0 0] 25 (0, 0)) from (hb.block _ LW6_3.out).trans RW6_3.out)
                    have Lw7_3 := Lib.hid (show w6.heap.size < w7.heap.size from Nat.lt_of_lt_of_le LW6_3.out hb.size)
                    have Fw7_q := Lib.hid (FW6_q.out.trans (hb.mono FW6_q.out.size))
                    have HBw7 := Lib.hid (HBW6.out.trans (hb.mono HBW6.out.size))
                    obtain ⟨e0, e1⟩ := hy0.resolve_left (fun h => absurd h.1 (fun h => HF.out (HFP.out.2 h))) |>.2
                    subst e0 e1
                    clear hy0
                    clear hb
                    obtain ⟨W7, hW7⟩ : ∃ W7, W7 = w7.alloc (.cells #[.int .i64 0, .int .i64 0, .string ⟨#[]⟩, .slice none 0 0, .slice none 0 0] 25) := ⟨_, rfl⟩
                    have hb : Below w7.heap.size w7 W7 := by rw [hW7]; exact (Below.refl _ _).alloc (Nat.le_refl _) _
                    have RW7_0 := Lib.hid (show W7.heap[w.heap.size]? = some (.cells #[.int .i64 6, .int .i64 n, .string S, .slice A1 l1 c1, .slice A2 m1 c2] 25 (0, 0)) from (hb.block _ Lw7_0.out).trans Rw7_0.out)
                    have LW7_0 := Lib.hid (show w.heap.size < W7.heap.size from Nat.lt_of_lt_of_le Lw7_0.out hb.size)
                    have RW7_2 := Lib.hid (show W7.heap[w5.heap.size]? = some (.cells #[.int .i64 pk, .int .i64 pn, .string PS, .slice cA pl cc, .slice cB pm cd] 25 (0, 0)) from (hb.block _ Lw7_2.out).trans Rw7_2.out)
                    have LW7_2 := Lib.hid (show w5.heap.size < W7.heap.size from Nat.lt_of_lt_of_le Lw7_2.out hb.size)
                    have RW7_3 := Lib.hid (show W7.heap[w6.heap.size]? = some (.cells #[.int .i64 0, .int .i64 0, .string ⟨#[]⟩, .slice none 0 0, .slice none 0 0] 25 (0, 0)) from (hb.block _ Lw7_3.out).trans Rw7_3.out)
                    have LW7_3 := Lib.hid (show w6.heap.size < W7.heap.size from Nat.lt_of_lt_of_le Lw7_3.out hb.size)
                    have FW7_q := Lib.hid (Fw7_q.out.trans (hb.mono Fw7_q.out.size))
                    have HBW7 := Lib.hid (HBw7.out.trans (hb.mono HBw7.out.size))
                    have RW7_4 := Lib.hid (show W7.heap[w7.heap.size]? = some (.cells #[.int .i64 0, .int .i64 0, .string ⟨#[]⟩, .slice none 0 0, .slice none 0 0] 25 (0, 0)) by rw [hW7]; exact heapNew _ _)
                    have LW7_4 := Lib.hid (show w7.heap.size < W7.heap.size by rw [hW7, szAl]; exact Nat.lt_succ_self _)
                    have HW7 := Lib.hid hW7
                    clear hW7 hb
                    have q0 := RW7_0.out
                    rw [HW7.out] at q0
                    obtain ⟨⟨p0_0, p0_1, p0_2, p0_3, p0_4⟩, -⟩ := row5 q0
                    clear q0
                    have q3 := RW7_3.out
                    rw [HW7.out] at q3
                    obtain ⟨⟨p3_0, p3_1, p3_2, p3_3, p3_4⟩, -⟩ := row5 q3
                    clear q3
                    have q4 := RW7_4.out
                    rw [HW7.out] at q4
                    obtain ⟨⟨p4_0, p4_1, p4_2, p4_3, p4_4⟩, -⟩ := row5 q4
                    clear q4
                    go_wp2_with fail
                    rw [← HW7.out]
                    clear p0_0 p0_1 p0_2 p0_3 p0_4 p3_0 p3_1 p3_2 p3_3 p3_4 p4_0 p4_1 p4_2 p4_3 p4_4
                    refine (Apply_any v (mpV ([], [])) [.int .i64 6, .int .i64 n, .string S, .slice A1 l1 c1, .slice A2 m1 c2] [.int .i64 6, .int .i64 0, .string ⟨#[]⟩, .slice none 0 0, .slice none 0 0] _ (HRV.out.below HBW7.out (Nat.le_refl _) HBW7.out.size) (rd_mp0 _ _ _) HVF.out.2.1 mp0_wf (by have := HVF.out.2.2; omega) (by rw [mp0_sz]; omega)).mono ?_
                    rintro e w8 ⟨⟨zs, ze, rfl, hz0⟩, hb⟩
                    have Rw8_0 := Lib.hid (show w8.heap[w.heap.size]? = some (.cells #[.int .i64 6, .int .i64 n, .string S, .slice A1 l1 c1, .slice A2 m1 c2] 25 (0, 0)) from (hb.block _ LW7_0.out).trans RW7_0.out)
                    have Lw8_0 := Lib.hid (show w.heap.size < w8.heap.size from Nat.lt_of_lt_of_le LW7_0.out hb.size)
                    have Rw8_3 := Lib.hid (show w8.heap[w6.heap.size]? = some (.cells #[.int .i64 0, .int .i64 0, .string ⟨#[]⟩, .slice none 0 0, .slice none 0 0] 25 (0, 0)) from (hb.block _ LW7_3.out).trans RW7_3.out)
                    have Lw8_3 := Lib.hid (show w6.heap.size < w8.heap.size from Nat.lt_of_lt_of_le LW7_3.out hb.size)
                    have Rw8_4 := Lib.hid (show w8.heap[w7.heap.size]? = some (.cells #[.int .i64 0, .int .i64 0, .string ⟨#[]⟩, .slice none 0 0, .slice none 0 0] 25 (0, 0)) from (hb.block _ LW7_4.out).trans RW7_4.out)
                    have Lw8_4 := Lib.hid (show w7.heap.size < w8.heap.size from Nat.lt_of_lt_of_le LW7_4.out hb.size)
                    have Fw8_q := Lib.hid (FW7_q.out.trans (hb.mono FW7_q.out.size))
                    have HBw8 := Lib.hid (HBW7.out.trans (hb.mono HBW7.out.size))
                    obtain ⟨e0, hz⟩ : ze = 0 ∧ RdA w8 0 w8.heap.size v zs := by
                      rcases hz0 with ⟨_, e0, F, h1, _, h3⟩ | ⟨h0, _⟩
                      · refine ⟨e0, ?_⟩
                        have h2 := RdF.toA (lo := 0) (hi := w8.heap.size) _ _ _ (fun k hk => ⟨Nat.zero_le _, (h3 k hk).2⟩) h1
                        rw [show aplV v (lst (mpV ([], []))) = v from rfl] at h2
                        exact h2
                      · exact absurd (mp0_fit.2 (HK6.out)) h0
                    subst e0
                    clear hz0
                    have Hz := Lib.hid hz
                    obtain ⟨zA, zc, zB, zd, ez, -⟩ := hz.cells
                    subst ez
                    clear hz
                    generalize v.k = zk at *
                    generalize v.n = zn at *
                    generalize strOf v.s = zS at *
                    generalize v.l.length = zl at *
                    generalize v.ms.length = zm at *
                    clear hb
                    have Fw8_z := Lib.hid (Below.refl w8.heap.size w8)
                    obtain ⟨W8, hW8⟩ : ∃ W8, W8 = w8.alloc (.cells #[.int .i64 zk, .int .i64 zn, .string zS, .slice zA zl zc, .slice zB zm zd] 25) := ⟨_, rfl⟩
                    have hb : Below w8.heap.size w8 W8 := by rw [hW8]; exact (Below.refl _ _).alloc (Nat.le_refl _) _
                    have RW8_0 := Lib.hid (show W8.heap[w.heap.size]? = some (.cells #[.int .i64 6, .int .i64 n, .string S, .slice A1 l1 c1, .slice A2 m1 c2] 25 (0, 0)) from (hb.block _ Lw8_0.out).trans Rw8_0.out)
                    have LW8_0 := Lib.hid (show w.heap.size < W8.heap.size from Nat.lt_of_lt_of_le Lw8_0.out hb.size)
                    have RW8_3 := Lib.hid (show W8.heap[w6.heap.size]? = some (.cells #[.int .i64 0, .int .i64 0, .string ⟨#[]⟩, .slice none 0 0, .slice none 0 0] 25 (0, 0)) from (hb.block _ Lw8_3.out).trans Rw8_3.out)
                    have LW8_3 := Lib.hid (show w6.heap.size < W8.heap.size from Nat.lt_of_lt_of_le Lw8_3.out hb.size)
                    have RW8_4 := Lib.hid (show W8.heap[w7.heap.size]? = some (.cells #[.int .i64 0, .int .i64 0, .string ⟨#[]⟩, .slice none 0 0, .slice none 0 0] 25 (0, 0)) from (hb.block _ Lw8_4.out).trans Rw8_4.out)
                    have LW8_4 := Lib.hid (show w7.heap.size < W8.heap.size from Nat.lt_of_lt_of_le Lw8_4.out hb.size)
                    have FW8_q := Lib.hid (Fw8_q.out.trans (hb.mono Fw8_q.out.size))
                    have FW8_z := Lib.hid (Fw8_z.out.trans (hb.mono Fw8_z.out.size))
                    have HBW8 := Lib.hid (HBw8.out.trans (hb.mono HBw8.out.size))
                    have RW8_5 := Lib.hid (show W8.heap[w8.heap.size]? = some (.cells #[.int .i64 zk, .int .i64 zn, .string zS, .slice zA zl zc, .slice zB zm zd] 25 (0, 0)) by rw [hW8]; exact heapNew _ _)
                    have LW8_5 := Lib.hid (show w8.heap.size < W8.heap.size by rw [hW8, szAl]; exact Nat.lt_succ_self _)
                    have HW8 := Lib.hid hW8
                    clear hW8 hb
                    have q0 := RW8_0.out
                    rw [HW8.out] at q0
                    obtain ⟨⟨p0_0, p0_1, p0_2, p0_3, p0_4⟩, -⟩ := row5 q0
                    clear q0
                    have q3 := RW8_3.out
                    rw [HW8.out] at q3
                    obtain ⟨⟨p3_0, p3_1, p3_2, p3_3, p3_4⟩, -⟩ := row5 q3
                    clear q3
                    have q4 := RW8_4.out
                    rw [HW8.out] at q4
                    obtain ⟨⟨p4_0, p4_1, p4_2, p4_3, p4_4⟩, -⟩ := row5 q4
                    clear q4
                    have q5 := RW8_5.out
                    rw [HW8.out] at q5
                    obtain ⟨⟨p5_0, p5_1, p5_2, p5_3, p5_4⟩, -⟩ := row5 q5
                    clear q5
                    go_wp2_with fail
                    rw [← HW8.out]
                    clear p0_0 p0_1 p0_2 p0_3 p0_4 p3_0 p3_1 p3_2 p3_3 p3_4 p4_0 p4_1 p4_2 p4_3 p4_4 p5_0 p5_1 p5_2 p5_3 p5_4
                    refine (same7_zero _).mono ?_
                    rintro e w9 ⟨rfl, hb⟩
                    have Rw9_0 := Lib.hid (show w9.heap[w.heap.size]? = some (.cells #[.int .i64 6, .int .i64 n, .string S, .slice A1 l1 c1, .slice A2 m1 c2] 25 (0, 0)) from (hb.block _ LW8_0.out).trans RW8_0.out)
                    have Lw9_0 := Lib.hid (show w.heap.size < w9.heap.size from Nat.lt_of_lt_of_le LW8_0.out hb.size)
                    have Rw9_3 := Lib.hid (show w9.heap[w6.heap.size]? = some (.cells #[.int .i64 0, .int .i64 0, .string ⟨#[]⟩, .slice none 0 0, .slice none 0 0] 25 (0, 0)) from (hb.block _ LW8_3.out).trans RW8_3.out)
                    have Lw9_3 := Lib.hid (show w6.heap.size < w9.heap.size from Nat.lt_of_lt_of_le LW8_3.out hb.size)
                    have Rw9_4 := Lib.hid (show w9.heap[w7.heap.size]? = some (.cells #[.int .i64 0, .int .i64 0, .string ⟨#[]⟩, .slice none 0 0, .slice none 0 0] 25 (0, 0)) from (hb.block _ LW8_4.out).trans RW8_4.out)
                    have Lw9_4 := Lib.hid (show w7.heap.size < w9.heap.size from Nat.lt_of_lt_of_le LW8_4.out hb.size)
                    have Rw9_5 := Lib.hid (show w9.heap[w8.heap.size]? = some (.cells #[.int .i64 zk, .int .i64 zn, .string zS, .slice zA zl zc, .slice zB zm zd] 25 (0, 0)) from (hb.block _ LW8_5.out).trans RW8_5.out)
                    have Lw9_5 := Lib.hid (show w8.heap.size < w9.heap.size from Nat.lt_of_lt_of_le LW8_5.out hb.size)
                    have Fw9_q := Lib.hid (FW8_q.out.trans (hb.mono FW8_q.out.size))
                    have Fw9_z := Lib.hid (FW8_z.out.trans (hb.mono FW8_z.out.size))
                    have HBw9 := Lib.hid (HBW8.out.trans (hb.mono HBW8.out.size))
                    clear hb
                    obtain ⟨⟨p0_0, p0_1, p0_2, p0_3, p0_4⟩, -⟩ := row5 Rw9_0.out
                    obtain ⟨⟨p3_0, p3_1, p3_2, p3_3, p3_4⟩, -⟩ := row5 Rw9_3.out
                    obtain ⟨⟨p4_0, p4_1, p4_2, p4_3, p4_4⟩, -⟩ := row5 Rw9_4.out
                    obtain ⟨⟨p5_0, p5_1, p5_2, p5_3, p5_4⟩, -⟩ := row5 Rw9_5.out
                    go_wp2_with fail
                    clear p0_0 p0_1 p0_2 p0_3 p0_4 p3_0 p3_1 p3_2 p3_3 p3_4 p4_0 p4_1 p4_2 p4_3 p4_4 p5_0 p5_1 p5_2 p5_3 p5_4
                    refine (same_self v [.int .i64 6, .int .i64 n, .string S, .slice A1 l1 c1, .slice A2 m1 c2] [.int .i64 zk, .int .i64 zn, .string zS, .slice zA zl zc, .slice zB zm zd] _ (szA_of _ v HVF.out.2.1 (by have := HVF.out.2.2; omega)) (HRV.out.below HBw9.out (Nat.le_refl _) HBw9.out.size) (Hz.out.below Fw9_z.out (Nat.le_refl _) Fw9_z.out.size)).mono ?_
                    rintro e w10 ⟨rfl, hb⟩
                    have Rw10_0 := Lib.hid (show w10.heap[w.heap.size]? = some (.cells #[.int .i64 6, .int .i64 n, .string S, .slice A1 l1 c1, .slice A2 m1 c2] 25 (0, 0)) from (hb.block _ Lw9_0.out).trans Rw9_0.out)
                    have Lw10_0 := Lib.hid (show w.heap.size < w10.heap.size from Nat.lt_of_lt_of_le Lw9_0.out hb.size)
                    have Rw10_3 := Lib.hid (show w10.heap[w6.heap.size]? = some (.cells #[.int .i64 0, .int .i64 0, .string ⟨#[]⟩, .slice none 0 0, .slice none 0 0] 25 (0, 0)) from (hb.block _ Lw9_3.out).trans Rw9_3.out)
                    have Lw10_3 := Lib.hid (show w6.heap.size < w10.heap.size from Nat.lt_of_lt_of_le Lw9_3.out hb.size)
                    have Rw10_4 := Lib.hid (show w10.heap[w7.heap.size]? = some (.cells #[.int .i64 0, .int .i64 0, .string ⟨#[]⟩, .slice none 0 0, .slice none 0 0] 25 (0, 0)) from (hb.block _ Lw9_4.out).trans Rw9_4.out)
                    have Lw10_4 := Lib.hid (show w7.heap.size < w10.heap.size from Nat.lt_of_lt_of_le Lw9_4.out hb.size)
                    have Rw10_5 := Lib.hid (show w10.heap[w8.heap.size]? = some (.cells #[.int .i64 zk, .int .i64 zn, .string zS, .slice zA zl zc, .slice zB zm zd] 25 (0, 0)) from (hb.block _ Lw9_5.out).trans Rw9_5.out)
                    have Lw10_5 := Lib.hid (show w8.heap.size < w10.heap.size from Nat.lt_of_lt_of_le Lw9_5.out hb.size)
                    have Fw10_q := Lib.hid (Fw9_q.out.trans (hb.mono Fw9_q.out.size))
                    have Fw10_z := Lib.hid (Fw9_z.out.trans (hb.mono Fw9_z.out.size))
                    have HBw10 := Lib.hid (HBw9.out.trans (hb.mono HBw9.out.size))
                    clear hb
                    go_wp2
                    go_ret
                    exact ⟨rfl, HBw10.out⟩
                  · have HF := Lib.hid hf
                    clear hf
                    have HK6 := Lib.hid (show ¬ v.k = 6 from fun h => hk6 (HVK.out.symm.trans h))
                    have tk6 : (k == 6) = false := beq_eq_false_iff_ne.2 hk6
                    clear hk6
                    have HRV := Lib.hid (show RdA w 0 w.heap.size v [.int .i64 k, .int .i64 n, .string S, .slice A1 l1 c1, .slice A2 m1 c2] from HRV.out)
                    obtain ⟨⟨p0_0, p0_1, p0_2, p0_3, p0_4⟩, -⟩ := row5 Rwo_0.out
                    obtain ⟨⟨p1_0, p1_1, p1_2, p1_3, p1_4⟩, -⟩ := row5 Rwo_1.out
                    obtain ⟨⟨p2_0, p2_1, p2_2, p2_3, p2_4⟩, -⟩ := row5 Rwo_2.out
                    go_wp2_with fail
                    clear p0_0 p0_1 p0_2 p0_3 p0_4 p1_0 p1_1 p1_2 p1_3 p1_4 p2_0 p2_1 p2_2 p2_3 p2_4
                    refine (HAP.out _ HBwo.out).mono ?_
                    rintro e w6 ⟨⟨xs, xe, rfl, hx0⟩, hb⟩
                    have Rw6_0 := Lib.hid (show w6.heap[w.heap.size]? = some (.cells #[.int .i64 k, .int .i64 n, .string S, .slice A1 l1 c1, .slice A2 m1 c2] 25 (0, 0)) from (hb.block _ Lwo_0.out).trans Rwo_0.out)
                    have Lw6_0 := Lib.hid (show w.heap.size < w6.heap.size from Nat.lt_of_lt_of_le Lwo_0.out hb.size)
                    have Rw6_1 := Lib.hid (show w6.heap[w.heap.size + 1]? = some (.cells #[.int .i64 pk, .int .i64 pn, .string PS, .slice B1 pl e1, .slice B2 pm e2] 25 (0, 0)) from (hb.block _ Lwo_1.out).trans Rwo_1.out)
                    have Lw6_1 := Lib.hid (show w.heap.size + 1 < w6.heap.size from Nat.lt_of_lt_of_le Lwo_1.out hb.size)
                    have Rw6_2 := Lib.hid (show w6.heap[w5.heap.size]? = some (.cells #[.int .i64 pk, .int .i64 pn, .string PS, .slice cA pl cc, .slice cB pm cd] 25 (0, 0)) from (hb.block _ Lwo_2.out).trans Rwo_2.out)
                    have Lw6_2 := Lib.hid (show w5.heap.size < w6.heap.size from Nat.lt_of_lt_of_le Lwo_2.out hb.size)
                    have Fw6_q := Lib.hid (Fwo_q.out.trans (hb.mono Fwo_q.out.size))
                    have HBw6 := Lib.hid (HBwo.out.trans (hb.mono HBwo.out.size))
                    obtain ⟨e0, e1⟩ := hx0.resolve_left (fun h => absurd h.1 (HF.out)) |>.2
                    subst e0 e1
                    clear hx0
                    clear hb
                    obtain ⟨W6, hW6⟩ : ∃ W6, W6 = w6.alloc (.cells #[.int .i64 0, .int .i64 0, .string ⟨#[]⟩, .slice none 0 0, .slice none 0 0] 25) := ⟨_, rfl⟩
                    have hb : Below w6.heap.size w6 W6 := by rw [hW6]; exact (Below.refl _ _).alloc (Nat.le_refl _) _
                    have RW6_0 := Lib.hid (show W6.heap[w.heap.size]? = some (.cells #[.int .i64 k, .int .i64 n, .string S, .slice A1 l1 c1, .slice A2 m1 c2] 25 (0, 0)) from (hb.block _ Lw6_0.out).trans Rw6_0.out)
                    have LW6_0 := Lib.hid (show w.heap.size < W6.heap.size from Nat.lt_of_lt_of_le Lw6_0.out hb.size)
                    have RW6_1 := Lib.hid (show W6.heap[w.heap.size + 1]? = some (.cells #[.int .i64 pk, .int .i64 pn, .string PS, .slice B1 pl e1, .slice B2 pm e2] 25 (0, 0)) from (hb.block _ Lw6_1.out).trans Rw6_1.out)
                    have LW6_1 := Lib.hid (show w.heap.size + 1 < W6.heap.size from Nat.lt_of_lt_of_le Lw6_1.out hb.size)
                    have RW6_2 := Lib.hid (show W6.heap[w5.heap.size]? = some (.cells #[.int .i64 pk, .int .i64 pn, .string PS, .slice cA pl cc, .slice cB pm cd] 25 (0, 0)) from (hb.block _ Lw6_2.out).trans Rw6_2.out)
                    have LW6_2 := Lib.hid (show w5.heap.size < W6.heap.size from Nat.lt_of_lt_of_le Lw6_2.out hb.size)
                    have FW6_q := Lib.hid (Fw6_q.out.trans (hb.mono Fw6_q.out.size))
                    have HBW6 := Lib.hid (HBw6.out.trans (hb.mono HBw6.out.size))
                    have RW6_3 := Lib.hid (show W6.heap[w6.heap.size]? = some (.cells #[.int .i64 0, .int .i64 0, .string ⟨#[]⟩, .slice none 0 0, .slice none 0 0] 25 (0, 0)) by rw [hW6]; exact heapNew _ _)
                    have LW6_3 := Lib.hid (show w6.heap.size < W6.heap.size by rw [hW6, szAl]; exact Nat.lt_succ_self _)
                    have HW6 := Lib.hid hW6
                    clear hW6 hb
                    have q0 := RW6_0.out
                    rw [HW6.out] at q0
                    obtain ⟨⟨p0_0, p0_1, p0_2, p0_3, p0_4⟩, -⟩ := row5 q0
                    clear q0
                    have q2 := RW6_2.out
                    rw [HW6.out] at q2
                    obtain ⟨⟨p2_0, p2_1, p2_2, p2_3, p2_4⟩, -⟩ := row5 q2
                    clear q2
                    have q3 := RW6_3.out
                    rw [HW6.out] at q3
                    obtain ⟨⟨p3_0, p3_1, p3_2, p3_3, p3_4⟩, -⟩ := row5 q3
                    clear q3
                    go_wp2_with fail
                    rw [← HW6.out]
                    clear p0_0 p0_1 p0_2 p0_3 p0_4 p2_0 p2_1 p2_2 p2_3 p2_4 p3_0 p3_1 p3_2 p3_3 p3_4
                    refine (Apply_any v q [.int .i64 k, .int .i64 n, .string S, .slice A1 l1 c1, .slice A2 m1 c2] [.int .i64 pk, .int .i64 pn, .string PS, .slice cA pl cc, .slice cB pm cd] _ (HRV.out.below HBW6.out (Nat.le_refl _) HBW6.out.size) (HQ.out.below FW6_q.out (Nat.le_refl _) FW6_q.out.size) HVF.out.2.1 HQF.out.1 (by have := HVF.out.2.2; omega) (by have := HQF.out.2; omega)).mono ?_
                    rintro e w7 ⟨⟨ys, ye, rfl, hy0⟩, hb⟩
                    have Rw7_0 := Lib.hid (show w7.heap[w.heap.size]? = some (.cells #[.int .i64 k, .int .i64 n, .string S, .slice A1 l1 c1, .slice A2 m1 c2] 25 (0, 0)) from (hb.block _ LW6_0.out).trans RW6_0.out)
                    have Lw7_0 := Lib.hid (show w.heap.size < w7.heap.size from Nat.lt_of_lt_of_le LW6_0.out hb.size)
                    have Rw7_2 := Lib.hid (show w7.heap[w5.heap.size]? = some (.cells #[.int .i64 pk, .int .i64 pn, .string PS, .slice cA pl cc, .slice cB pm cd] 25 (0, 0)) from (hb.block _ LW6_2.out).trans RW6_2.out)
                    have Lw7_2 := Lib.hid (show w5.heap.size < w7.heap.size from Nat.lt_of_lt_of_le LW6_2.out hb.size)
                    have Rw7_3 := Lib.hid (show w7.heap[w6.heap.size]? = some (.cells #[.int .i64 0, .int .i64 0, .string ⟨#[]⟩, .slice none 0 0, .slice none 0 0] 25 (0, 0)) from (hb.block _ LW6_3.out).trans RW6_3.out)
                    have Lw7_3 := Lib.hid (show w6.heap.size < w7.heap.size from Nat.lt_of_lt_of_le LW6_3.out hb.size)
                    have Fw7_q := Lib.hid (FW6_q.out.trans (hb.mono FW6_q.out.size))
                    have HBw7 := Lib.hid (HBW6.out.trans (hb.mono HBW6.out.size))
                    obtain ⟨e0, e1⟩ := hy0.resolve_left (fun h => absurd h.1 (fun h => HF.out (HFP.out.2 h))) |>.2
                    subst e0 e1
                    clear hy0
                    clear hb
                    obtain ⟨W7, hW7⟩ : ∃ W7, W7 = w7.alloc (.cells #[.int .i64 0, .int .i64 0, .string ⟨#[]⟩, .slice none 0 0, .slice none 0 0] 25) := ⟨_, rfl⟩
                    have hb : Below w7.heap.size w7 W7 := by rw [hW7]; exact (Below.refl _ _).alloc (Nat.le_refl _) _
                    have RW7_0 := Lib.hid (show W7.heap[w.heap.size]? = some (.cells #[.int .i64 k, .int .i64 n, .string S, .slice A1 l1 c1, .slice A2 m1 c2] 25 (0, 0)) from (hb.block _ Lw7_0.out).trans Rw7_0.out)
                    have LW7_0 := Lib.hid (show w.heap.size < W7.heap.size from Nat.lt_of_lt_of_le Lw7_0.out hb.size)
                    have RW7_2 := Lib.hid (show W7.heap[w5.heap.size]? = some (.cells #[.int .i64 pk, .int .i64 pn, .string PS, .slice cA pl cc, .slice cB pm cd] 25 (0, 0)) from (hb.block _ Lw7_2.out).trans Rw7_2.out)
                    have LW7_2 := Lib.hid (show w5.heap.size < W7.heap.size from Nat.lt_of_lt_of_le Lw7_2.out hb.size)
                    have RW7_3 := Lib.hid (show W7.heap[w6.heap.size]? = some (.cells #[.int .i64 0, .int .i64 0, .string ⟨#[]⟩, .slice none 0 0, .slice none 0 0] 25 (0, 0)) from (hb.block _ Lw7_3.out).trans Rw7_3.out)
                    have LW7_3 := Lib.hid (show w6.heap.size < W7.heap.size from Nat.lt_of_lt_of_le Lw7_3.out hb.size)
                    have FW7_q := Lib.hid (Fw7_q.out.trans (hb.mono Fw7_q.out.size))
                    have HBW7 := Lib.hid (HBw7.out.trans (hb.mono HBw7.out.size))
                    have RW7_4 := Lib.hid (show W7.heap[w7.heap.size]? = some (.cells #[.int .i64 0, .int .i64 0, .string ⟨#[]⟩, .slice none 0 0, .slice none 0 0] 25 (0, 0)) by rw [hW7]; exact heapNew _ _)
                    have LW7_4 := Lib.hid (show w7.heap.size < W7.heap.size by rw [hW7, szAl]; exact Nat.lt_succ_self _)
                    have HW7 := Lib.hid hW7
                    clear hW7 hb
                    have q0 := RW7_0.out
                    rw [HW7.out] at q0
                    obtain ⟨⟨p0_0, p0_1, p0_2, p0_3, p0_4⟩, -⟩ := row5 q0
                    clear q0
                    have q3 := RW7_3.out
                    rw [HW7.out] at q3
                    obtain ⟨⟨p3_0, p3_1, p3_2, p3_3, p3_4⟩, -⟩ := row5 q3
                    clear q3
                    have q4 := RW7_4.out
                    rw [HW7.out] at q4
                    obtain ⟨⟨p4_0, p4_1, p4_2, p4_3, p4_4⟩, -⟩ := row5 q4
                    clear q4
                    go_wp2_with fail
                    rw [← HW7.out]
                    clear p0_0 p0_1 p0_2 p0_3 p0_4 p3_0 p3_1 p3_2 p3_3 p3_4 p4_0 p4_1 p4_2 p4_3 p4_4
                    refine (Apply_any v (mpV ([], [])) [.int .i64 k, .int .i64 n, .string S, .slice A1 l1 c1, .slice A2 m1 c2] [.int .i64 6, .int .i64 0, .string ⟨#[]⟩, .slice none 0 0, .slice none 0 0] _ (HRV.out.below HBW7.out (Nat.le_refl _) HBW7.out.size) (rd_mp0 _ _ _) HVF.out.2.1 mp0_wf (by have := HVF.out.2.2; omega) (by rw [mp0_sz]; omega)).mono ?_
                    rintro e w8 ⟨⟨zs, ze, rfl, hz0⟩, hb⟩
                    have Rw8_0 := Lib.hid (show w8.heap[w.heap.size]? = some (.cells #[.int .i64 k, .int .i64 n, .string S, .slice A1 l1 c1, .slice A2 m1 c2] 25 (0, 0)) from (hb.block _ LW7_0.out).trans RW7_0.out)
                    have Lw8_0 := Lib.hid (show w.heap.size < w8.heap.size from Nat.lt_of_lt_of_le LW7_0.out hb.size)
                    have Rw8_3 := Lib.hid (show w8.heap[w6.heap.size]? = some (.cells #[.int .i64 0, .int .i64 0, .string ⟨#[]⟩, .slice none 0 0, .slice none 0 0] 25 (0, 0)) from (hb.block _ LW7_3.out).trans RW7_3.out)
                    have Lw8_3 := Lib.hid (show w6.heap.size < w8.heap.size from Nat.lt_of_lt_of_le LW7_3.out hb.size)
                    have Rw8_4 := Lib.hid (show w8.heap[w7.heap.size]? = some (.cells #[.int .i64 0, .int .i64 0, .string ⟨#[]⟩, .slice none 0 0, .slice none 0 0] 25 (0, 0)) from (hb.block _ LW7_4.out).trans RW7_4.out)
                    have Lw8_4 := Lib.hid (show w7.heap.size < w8.heap.size from Nat.lt_of_lt_of_le LW7_4.out hb.size)
                    have Fw8_q := Lib.hid (FW7_q.out.trans (hb.mono FW7_q.out.size))
                    have HBw8 := Lib.hid (HBW7.out.trans (hb.mono HBW7.out.size))
                    obtain ⟨e0, e1⟩ := hz0.resolve_left (fun h => absurd h.1 (fun h => HK6.out (mp0_fit.1 h))) |>.2
                    subst e0 e1
                    clear hz0
                    clear hb
                    obtain ⟨W8, hW8⟩ : ∃ W8, W8 = w8.alloc (.cells #[.int .i64 0, .int .i64 0, .string ⟨#[]⟩, .slice none 0 0, .slice none 0 0] 25) := ⟨_, rfl⟩
                    have hb : Below w8.heap.size w8 W8 := by rw [hW8]; exact (Below.refl _ _).alloc (Nat.le_refl _) _
                    have RW8_0 := Lib.hid (show W8.heap[w.heap.size]? = some (.cells #[.int .i64 k, .int .i64 n, .string S, .slice A1 l1 c1, .slice A2 m1 c2] 25 (0, 0)) from (hb.block _ Lw8_0.out).trans Rw8_0.out)
                    have LW8_0 := Lib.hid (show w.heap.size < W8.heap.size from Nat.lt_of_lt_of_le Lw8_0.out hb.size)
                    have RW8_3 := Lib.hid (show W8.heap[w6.heap.size]? = some (.cells #[.int .i64 0, .int .i64 0, .string ⟨#[]⟩, .slice none 0 0, .slice none 0 0] 25 (0, 0)) from (hb.block _ Lw8_3.out).trans Rw8_3.out)
                    have LW8_3 := Lib.hid (show w6.heap.size < W8.heap.size from Nat.lt_of_lt_of_le Lw8_3.out hb.size)
                    have RW8_4 := Lib.hid (show W8.heap[w7.heap.size]? = some (.cells #[.int .i64 0, .int .i64 0, .string ⟨#[]⟩, .slice none 0 0, .slice none 0 0] 25 (0, 0)) from (hb.block _ Lw8_4.out).trans Rw8_4.out)
                    have LW8_4 := Lib.hid (show w7.heap.size < W8.heap.size from Nat.lt_of_lt_of_le Lw8_4.out hb.size)
                    have FW8_q := Lib.hid (Fw8_q.out.trans (hb.mono Fw8_q.out.size))
                    have HBW8 := Lib.hid (HBw8.out.trans (hb.mono HBw8.out.size))
                    have RW8_5 := Lib.hid (show W8.heap[w8.heap.size]? = some (.cells #[.int .i64 0, .int .i64 0, .string ⟨#[]⟩, .slice none 0 0, .slice none 0 0] 25 (0, 0)) by rw [hW8]; exact heapNew _ _)
                    have LW8_5 := Lib.hid (show w8.heap.size < W8.heap.size by rw [hW8, szAl]; exact Nat.lt_succ_self _)
                    have HW8 := Lib.hid hW8
                    clear hW8 hb
                    have q0 := RW8_0.out
                    rw [HW8.out] at q0
                    obtain ⟨⟨p0_0, p0_1, p0_2, p0_3, p0_4⟩, -⟩ := row5 q0
                    clear q0
                    have q3 := RW8_3.out
                    rw [HW8.out] at q3
                    obtain ⟨⟨p3_0, p3_1, p3_2, p3_3, p3_4⟩, -⟩ := row5 q3
                    clear q3
                    have q4 := RW8_4.out
                    rw [HW8.out] at q4
                    obtain ⟨⟨p4_0, p4_1, p4_2, p4_3, p4_4⟩, -⟩ := row5 q4
                    clear q4
                    have q5 := RW8_5.out
                    rw [HW8.out] at q5
                    obtain ⟨⟨p5_0, p5_1, p5_2, p5_3, p5_4⟩, -⟩ := row5 q5
                    clear q5
                    go_wp2_with fail
                    rw [← HW8.out]
                    clear p0_0 p0_1 p0_2 p0_3 p0_4 p3_0 p3_1 p3_2 p3_3 p3_4 p4_0 p4_1 p4_2 p4_3 p4_4 p5_0 p5_1 p5_2 p5_3 p5_4
                    refine (same7_zero _).mono ?_
                    rintro e w9 ⟨rfl, hb⟩
                    have Rw9_0 := Lib.hid (show w9.heap[w.heap.size]? = some (.cells #[.int .i64 k, .int .i64 n, .string S, .slice A1 l1 c1, .slice A2 m1 c2] 25 (0, 0)) from (hb.block _ LW8_0.out).trans RW8_0.out)
                    have Lw9_0 := Lib.hid (show w.heap.size < w9.heap.size from Nat.lt_of_lt_of_le LW8_0.out hb.size)
                    have Rw9_3 := Lib.hid (show w9.heap[w6.heap.size]? = some (.cells #[.int .i64 0, .int .i64 0, .string ⟨#[]⟩, .slice none 0 0, .slice none 0 0] 25 (0, 0)) from (hb.block _ LW8_3.out).trans RW8_3.out)
                    have Lw9_3 := Lib.hid (show w6.heap.size < w9.heap.size from Nat.lt_of_lt_of_le LW8_3.out hb.size)
                    have Rw9_4 := Lib.hid (show w9.heap[w7.heap.size]? = some (.cells #[.int .i64 0, .int .i64 0, .string ⟨#[]⟩, .slice none 0 0, .slice none 0 0] 25 (0, 0)) from (hb.block _ LW8_4.out).trans RW8_4.out)
                    have Lw9_4 := Lib.hid (show w7.heap.size < w9.heap.size from Nat.lt_of_lt_of_le LW8_4.out hb.size)
                    have Rw9_5 := Lib.hid (show w9.heap[w8.heap.size]? = some (.cells #[.int .i64 0, .int .i64 0, .string ⟨#[]⟩, .slice none 0 0, .slice none 0 0] 25 (0, 0)) from (hb.block _ LW8_5.out).trans RW8_5.out)
                    have Lw9_5 := Lib.hid (show w8.heap.size < w9.heap.size from Nat.lt_of_lt_of_le LW8_5.out hb.size)
                    have Fw9_q := Lib.hid (FW8_q.out.trans (hb.mono FW8_q.out.size))
                    have HBw9 := Lib.hid (HBW8.out.trans (hb.mono HBW8.out.size))
                    clear hb
                    obtain ⟨⟨p0_0, p0_1, p0_2, p0_3, p0_4⟩, -⟩ := row5 Rw9_0.out
                    obtain ⟨⟨p3_0, p3_1, p3_2, p3_3, p3_4⟩, -⟩ := row5 Rw9_3.out
                    obtain ⟨⟨p4_0, p4_1, p4_2, p4_3, p4_4⟩, -⟩ := row5 Rw9_4.out
                    obtain ⟨⟨p5_0, p5_1, p5_2, p5_3, p5_4⟩, -⟩ := row5 Rw9_5.out
                    go_wp2
                    go_ret
                    exact ⟨rfl, HBw9.out⟩
        · have d1 : decide ((400 : Int) < (on : Int)) = true := decide_eq_true (by omega)
          have d2 : decide (400 < on) = true := decide_eq_true (by omega)
          obtain ⟨⟨p0_0, p0_1, p0_2, p0_3, p0_4⟩, -⟩ := row5 Rw4_0.out
          obtain ⟨⟨p1_0, p1_1, p1_2, p1_3, p1_4⟩, -⟩ := row5 Rw4_1.out
          go_wp2_with fail
          clear p0_0 p0_1 p0_2 p0_3 p0_4 p1_0 p1_1 p1_2 p1_3 p1_4
          refine (awake_any9 _).mono ?_
          rintro e w5 ⟨rfl, hb⟩
          have Rw5_0 := Lib.hid (show w5.heap[w.heap.size]? = some (.cells #[.int .i64 k, .int .i64 n, .string S, .slice A1 l1 c1, .slice A2 m1 c2] 25 (0, 0)) from (hb.block _ Lw4_0.out).trans Rw4_0.out)
          have Lw5_0 := Lib.hid (show w.heap.size < w5.heap.size from Nat.lt_of_lt_of_le Lw4_0.out hb.size)
          have Rw5_1 := Lib.hid (show w5.heap[w.heap.size + 1]? = some (.cells #[.int .i64 pk, .int .i64 pn, .string PS, .slice B1 pl e1, .slice B2 pm e2] 25 (0, 0)) from (hb.block _ Lw4_1.out).trans Rw4_1.out)
          have Lw5_1 := Lib.hid (show w.heap.size + 1 < w5.heap.size from Nat.lt_of_lt_of_le Lw4_1.out hb.size)
          have HBw5 := Lib.hid (HBw4.out.trans (hb.mono HBw4.out.size))
          clear hb
          go_wp2
          go_ret
          exact ⟨rfl, HBw5.out⟩
      · have tcP : (cP != 0) = true := bne_iff_ne.2 hcP
        clear hcP
        obtain ⟨⟨p0_0, p0_1, p0_2, p0_3, p0_4⟩, -⟩ := row5 Rw4_0.out
        obtain ⟨⟨p1_0, p1_1, p1_2, p1_3, p1_4⟩, -⟩ := row5 Rw4_1.out
        go_wp2_with fail
        clear p0_0 p0_1 p0_2 p0_3 p0_4 p1_0 p1_1 p1_2 p1_3 p1_4
        refine (awake_any9 _).mono ?_
        rintro e w5 ⟨rfl, hb⟩
        have Rw5_0 := Lib.hid (show w5.heap[w.heap.size]? = some (.cells #[.int .i64 k, .int .i64 n, .string S, .slice A1 l1 c1, .slice A2 m1 c2] 25 (0, 0)) from (hb.block _ Lw4_0.out).trans Rw4_0.out)
        have Lw5_0 := Lib.hid (show w.heap.size < w5.heap.size from Nat.lt_of_lt_of_le Lw4_0.out hb.size)
        have Rw5_1 := Lib.hid (show w5.heap[w.heap.size + 1]? = some (.cells #[.int .i64 pk, .int .i64 pn, .string PS, .slice B1 pl e1, .slice B2 pm e2] 25 (0, 0)) from (hb.block _ Lw4_1.out).trans Rw4_1.out)
        have Lw5_1 := Lib.hid (show w.heap.size + 1 < w5.heap.size from Nat.lt_of_lt_of_le Lw4_1.out hb.size)
        have HBw5 := Lib.hid (HBw4.out.trans (hb.mono HBw4.out.size))
        clear hb
        go_wp2
        go_ret
        exact ⟨rfl, HBw5.out⟩
    · have tcV : (cV != 0) = true := bne_iff_ne.2 hcV
      clear hcV
      obtain ⟨⟨p0_0, p0_1, p0_2, p0_3, p0_4⟩, -⟩ := row5 Rw3_0.out
      obtain ⟨⟨p1_0, p1_1, p1_2, p1_3, p1_4⟩, -⟩ := row5 Rw3_1.out
      go_wp2_with fail
      clear p0_0 p0_1 p0_2 p0_3 p0_4 p1_0 p1_1 p1_2 p1_3 p1_4
      refine (awake_any9 _).mono ?_
      rintro e w4 ⟨rfl, hb⟩
      have Rw4_0 := Lib.hid (show w4.heap[w.heap.size]? = some (.cells #[.int .i64 k, .int .i64 n, .string S, .slice A1 l1 c1, .slice A2 m1 c2] 25 (0, 0)) from (hb.block _ Lw3_0.out).trans Rw3_0.out)
      have Lw4_0 := Lib.hid (show w.heap.size < w4.heap.size from Nat.lt_of_lt_of_le Lw3_0.out hb.size)
      have Rw4_1 := Lib.hid (show w4.heap[w.heap.size + 1]? = some (.cells #[.int .i64 pk, .int .i64 pn, .string PS, .slice B1 pl e1, .slice B2 pm e2] 25 (0, 0)) from (hb.block _ Lw3_1.out).trans Rw3_1.out)
      have Lw4_1 := Lib.hid (show w.heap.size + 1 < w4.heap.size from Nat.lt_of_lt_of_le Lw3_1.out hb.size)
      have HBw4 := Lib.hid (HBw3.out.trans (hb.mono HBw3.out.size))
      clear hb
      go_wp2
      go_ret
      exact ⟨rfl, HBw4.out⟩
end Go.Proofs.Ytbfogkcnfnjcaaa.Pa
