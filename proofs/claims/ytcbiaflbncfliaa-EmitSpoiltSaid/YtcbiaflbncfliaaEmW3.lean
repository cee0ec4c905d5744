import Derived.Test.YtcbiaflbncfliaaEmG
import Derived.Deep.AppendLies
import Derived.Deep.RegionLaw
/- The walk of EmitSpoilt. -/
namespace Go.Proofs.Ytcbiaflbncfliaa.Em
open Go.RowKit
open Go.Proofs.Ytcbiaflbncfliaa.Utf
open Go.Proofs.Ytcbiaflbncfliaa.Sc
open Go.Proofs.Ytcbiaflbncfliaa.Re

theorem own_of_chk {k n : Int} {s : List UInt8} {l ms : List V} {ns : List (List UInt8)} (h : chk (.mk k n s l ns ms) = 0) : own k n s l.length ns ms.length := by
  have := (chk_ok h).2.2
  rw [allV] at this
  exact this.1
theorem chk_wrong {k n : Int} {s : List UInt8} {l ms : List V} {ns : List (List UInt8)} (h : ¬ own k n s l.length ns ms.length) : chk (.mk k n s l ns ms) = 1 := by
  unfold chk
  rw [wk, if_neg (by omega), if_neg (by omega), if_neg h]
/-- another number in the place of what its kind doesn't name -/
theorem spoil_n {k n : Int} {s : List UInt8} {l ms : List V} {ns : List (List UInt8)} (h1 : k ≠ 2) (h2 : k ≠ 3) (hn : n ≠ 0) : chk (.mk k n s l ns ms) = 1 := chk_wrong fun h => hn (h.1.2.1 ⟨h1, h2⟩)
theorem bad255 : ¬ okS [255] := by decide
/-- a text that isn't right -/
theorem spoil_s (k n : Int) (l ms : List V) (ns : List (List UInt8)) : chk (.mk k n [255] l ns ms) = 1 := chk_wrong fun h => by
  by_cases h4 : k = 4
  · exact bad255 (h.2.2.2.1 h4)
  · have := h.1.2.2.1 h4
    cases this
/-- a name twice -/
theorem spoil_m {ns : List (List UInt8)} {ms' : List V} {x : List UInt8} (hx : x ∈ ns) (h1 : ns.length ≤ 2000) : chk (.mk 6 0 [] [] (ns ++ [x]) ms') = 1 := chk_wrong fun h => by
  have := (h.2.2.2.2 rfl (by simp; omega)).2
  rw [List.nodup_append] at this
  exact this.2.2 x hx x (by simp) rfl
/-- members' cells, one behind the other -/
theorem mem_cells {w : World} {lo hi : Nat} : ∀ (ms : List V) (ns : List (List UInt8)) (g o : Nat), RdAM w lo hi g o ns ms → ∃ mcs : List Value, mcs.length = ms.length * 6 ∧ (∀ j u, mcs[j]? = some u → w.cell? ⟨g, o + j, none⟩ = some u) ∧ (∀ u ∈ mcs, u.oneCell' = true) ∧
    ∀ (w' : World) (lo' hi' g' o' : Nat), (∀ j u, mcs[j]? = some u → w'.cell? ⟨g', o' + j, none⟩ = some u) → (∀ p : Addr, lo ≤ p.block → p.block < hi → w'.cell? p = w.cell? p) → lo' ≤ lo → hi ≤ hi' → RdAM w' lo' hi' g' o' ns ms
  | [], ns, g, o, h => ⟨[], rfl, (fun j u hu => by simp at hu), (fun u hu => by cases hu), fun w' lo' hi' g' o' _ _ _ _ => by rw [RdAM]; trivial⟩
  | v :: r, ns, g, o, h => by
    rw [RdAM] at h
    obtain ⟨nm, ns', rfl, hn, ⟨cs, hc, hv⟩, hr⟩ := h
    obtain ⟨mcs, m1, m2, m3, m4⟩ := mem_cells r ns' g (o + 6) hr
    obtain ⟨A, c, A2, c2, rfl, _⟩ := hv.cells
    refine ⟨.string (strOf nm) :: .int .i64 v.k :: .int .i64 v.n :: .string (strOf v.s) :: .slice A v.l.length c :: .slice A2 v.ms.length c2 :: mcs, by simp [m1]; omega, fun j u hu => ?_, fun u hu => ?_, fun w' lo' hi' g' o' h1 h2 h3 h4 => ?_⟩
    · match j, hu with
      | 0, hu => rw [← hu]; exact hn
      | 1, hu => exact hc 0 u hu
      | 2, hu => exact hc 1 u hu
      | 3, hu => exact hc 2 u hu
      | 4, hu => exact hc 3 u hu
      | 5, hu => exact hc 4 u hu
      | j + 6, hu => rw [show o + (j + 6) = o + 6 + j by omega]; exact m2 j u (by simpa using hu)
    · simp only [List.mem_cons] at hu
      rcases hu with rfl | rfl | rfl | rfl | rfl | rfl | hu
      · rfl
      · rfl
      · rfl
      · rfl
      · rfl
      · rfl
      · exact m3 u hu
    · rw [RdAM]
      refine ⟨nm, ns', rfl, h1 0 _ rfl, ⟨_, fun j u hu => ?_, RdA.keep h2 h3 h4 v _ hv⟩, m4 w' lo' hi' g' (o' + 6) (fun j u hu => ?_) h2 h3 h4⟩
      · match j, hu with
        | 0, hu => exact h1 1 u hu
        | 1, hu => exact h1 2 u hu
        | 2, hu => exact h1 3 u hu
        | 3, hu => exact h1 4 u hu
        | 4, hu => exact h1 5 u hu
        | j + 5, hu => simp at hu
      · have := h1 (j + 6) u (by simpa using hu)
        rwa [show o' + (j + 6) = o' + 6 + j by omega] at this
theorem RdAM_app {w : World} {lo hi g : Nat} : ∀ (ms : List V) (ns : List (List UInt8)) (o : Nat) (mt : List V) (nt : List (List UInt8)), RdAM w lo hi g o ns ms → ns.length = ms.length → RdAM w lo hi g (o + ms.length * 6) nt mt → RdAM w lo hi g o (ns ++ nt) (ms ++ mt)
  | [], ns, o, mt, nt, _, hn, h2 => by
    have e := List.eq_nil_of_length_eq_zero (by simpa using hn : ns.length = 0)
    subst e
    simpa using h2
  | v :: r, ns, o, mt, nt, h, hn, h2 => by
    rw [RdAM] at h
    obtain ⟨nm, ns', rfl, h0, hv, hr⟩ := h
    rw [List.cons_append, List.cons_append, RdAM]
    refine ⟨nm, ns' ++ nt, rfl, h0, hv, RdAM_app r ns' (o + 6) mt nt hr (by simpa using hn) ?_⟩
    rw [List.length_cons, show o + (r.length + 1) * 6 = o + 6 + r.length * 6 by omega] at h2
    exact h2
theorem add_off (g o j : Nat) : (⟨g, o, none⟩ : Addr).add j = ⟨g, o + j, none⟩ := by unfold Addr.add; split <;> simp_all
theorem infoMem : (Try.prog.info? 35).map (fun i => (i.zero, i.size, i.bytes)) = some (some (.agg #[.string ByteArray.empty, .int .i64 0, .int .i64 0, .string ByteArray.empty, .slice none 0 0, .slice none 0 0]), 6, 96) := by kernel_rfl

theorem szAL_app {B : Nat} : ∀ (a b : List V), szAL B a → szAL B b → szAL B (a ++ b)
  | [], b, _, h => h
  | v :: r, b, h1, h2 => by rw [szAL] at h1; rw [List.cons_append, szAL]; exact ⟨h1.1, szAL_app r b h1.2 h2⟩
set_option maxRecDepth 100000 in
/-- a map's members, and its first one again: no right value -/
theorem twice_check {w : World} {ns : List (List UInt8)} {ms : List V} {g o : Nat} (hn : ns.length = ms.length) (h0 : 0 < ms.length) (h2 : ms.length ≤ 2000) (hR : RdAM w 0 w.heap.size g o ns ms)
    (hz : szAL 4611686018427387904 ms) (hzn : ∀ x ∈ ns, x.length ≤ 4611686018427387904) : ∃ (mcs : List Value) (X : ByteArray) (y1 y2 : Int) (y3 : ByteArray) (p1 : Option Addr) (y4 p2 : Nat) (p3 : Option Addr) (y5 p4 : Nat),
      mcs.length = ms.length * 6 ∧ (∀ j u, mcs[j]? = some u → w.cell? ⟨g, o + j, none⟩ = some u) ∧ (∀ u ∈ mcs, u.oneCell' = true) ∧
      (∀ j u, ([.string X, .int .i64 y1, .int .i64 y2, .string y3, .slice p1 y4 p2, .slice p3 y5 p4] : List Value)[j]? = some u → w.cell? ⟨g, o + j, none⟩ = some u) ∧
      ∀ (w1 : World) (g' cp : Nat), Below w.heap.size w w1 → g' < w1.heap.size → (∀ j u, (mcs ++ [.string X, .int .i64 y1, .int .i64 y2, .string y3, .slice p1 y4 p2, .slice p3 y5 p4])[j]? = some u → w1.cell? ⟨g', j, none⟩ = some u) →
        Calls Try.prog 11 #[.agg #[.int .i64 6, .int .i64 0, .string ⟨#[]⟩, .slice none 0 0, .slice (some ⟨g', 0, none⟩) (ms.length + 1) cp]] w1 (Gives (.int .i64 1) w1) := by
  obtain ⟨mcs, m1, m2, m3, m4⟩ := mem_cells _ _ _ _ hR
  have h0n : 0 < ns.length := by omega
  obtain ⟨a0, xa, hxa, hva⟩ := RdAM.at_ _ _ o hR 0 h0 h0n
  obtain ⟨p1, p2, p3, p4, ea, _⟩ := hva.cells
  refine ⟨mcs, strOf ns[0], ms[0].k, ms[0].n, strOf ms[0].s, p1, ms[0].l.length, p2, p3, ms[0].ms.length, p4, m1, m2, m3, fun j u hu => ?_, fun w1 g' cp hb hg' hc => ?_⟩
  · match j, hu with
    | 0, hu => rw [← hu]; simpa using a0
    | 1, hu => have := hxa 0 u (by rw [ea]; exact hu); simpa using this
    | 2, hu => have := hxa 1 u (by rw [ea]; exact hu); simpa using this
    | 3, hu => have := hxa 2 u (by rw [ea]; exact hu); simpa using this
    | 4, hu => have := hxa 3 u (by rw [ea]; exact hu); simpa using this
    | 5, hu => have := hxa 4 u (by rw [ea]; exact hu); simpa using this
    | j + 6, hu => simp at hu
  · have hch := spoil_m (ns := ns) (ms' := ms ++ [ms[0]]) (List.getElem_mem h0n) (by omega)
    have hzy : szA 4611686018427387904 (.mk 6 0 [] [] (ns ++ [ns[0]]) (ms ++ [ms[0]])) := by
      rw [szA, szAL]
      refine ⟨by decide, by decide, by simp, by simp, by simp; omega, fun nm hm => ?_, trivial, szAL_app _ _ hz (by rw [szAL, szAL]; exact ⟨szAL_mem hz (List.getElem_mem h0), trivial⟩)⟩
      rcases List.mem_append.1 hm with hm | hm
      · exact hzn nm hm
      · rw [List.mem_singleton] at hm; rw [hm]; exact hzn _ (List.getElem_mem h0n)
    have key := Check_any (.mk 6 0 [] [] (ns ++ [ns[0]]) (ms ++ [ms[0]])) [.int .i64 6, .int .i64 0, .string ⟨#[]⟩, .slice none 0 0, .slice (some ⟨g', 0, none⟩) (ms.length + 1) cp] 0 w1 hzy (by
      rw [RdA]
      refine ⟨none, 0, some ⟨g', 0, none⟩, cp, by simp; rfl, by simp [hn], fun h => absurd h (by simp), fun _ => ⟨g', 0, rfl, Nat.zero_le _, hg', ?_⟩⟩
      refine RdAM_app _ _ _ _ _ (m4 w1 0 w1.heap.size g' 0 (fun j u hu => ?_) (fun p _ hp => hb.cell hp) (Nat.le_refl _) hb.size) hn ?_
      · rw [Nat.zero_add]
        exact hc j u (by rw [List.getElem?_append_left (List.getElem?_eq_some_iff.1 hu).1]; exact hu)
      · rw [RdAM]
        have hi : ∀ j u, ([.string (strOf ns[0]), .int .i64 ms[0].k, .int .i64 ms[0].n, .string (strOf ms[0].s), .slice p1 ms[0].l.length p2, .slice p3 ms[0].ms.length p4] : List Value)[j]? = some u → w1.cell? ⟨g', ms.length * 6 + j, none⟩ = some u := fun j u hu => hc _ u (by
          rw [List.getElem?_append_right (by omega), m1, Nat.add_sub_cancel_left]; exact hu)
        refine ⟨ns[0], [], rfl, by have := hi 0 _ rfl; simpa using this, ⟨xa, fun j u hu => ?_, hva.below hb (Nat.le_refl _) hb.size⟩, by rw [RdAM]; trivial⟩
        rw [ea] at hu
        have := hi (j + 1) u (by simpa using hu)
        rwa [show 0 + ms.length * 6 + 1 + j = ms.length * 6 + (j + 1) by omega])
    rw [hch] at key
    exact key

set_option maxRecDepth 100000 in
set_option maxHeartbeats 16000000 in
theorem spoilt_walk (a : V) (ca : List Value) (n : Int) (w : World) (ha : RdA w 0 w.heap.size a ca) (za : szA reachBytes a) (hn : (Lit.int .i64 n).wf = true) :
    Calls Try.prog 5 #[.agg ca.toArray, .int .i64 n] w fun e w' => e = .returned (.bool true) ∧ Below w.heap.size w w' := by
  have la := len_of_RdA a ca ha
  have zb : szA 4611686018427387904 a := szA_more (by decide) a za
  have cA := fun w1 (h : Below w.heap.size w w1) => Check_any a ca 0 w1 zb (ha.below h (Nat.le_refl _) h.size)
  obtain ⟨A, c, A2, c2, ea, hna, hLa, hMa⟩ := ha.cells
  obtain ⟨k, m, s, l, ns, ms⟩ := a
  simp only [V.k, V.n, V.s, V.l, V.ns, V.ms] at *
  have zz := (szA_eq _ _).1 zb
  simp only [V.k, V.n, V.s, V.l, V.ns, V.ms] at zz
  obtain ⟨z1, z2, z3, z4, z5, z6, z7, z8⟩ := zz
  have hl5 : ms.length * 96 ≤ reachBytes := ((szA_eq _ _).1 za).2.2.2.2.1
  have cW := fun w1 (h : Below w.heap.size w w1) => Check_any (.mk k n s l ns ms) [.int .i64 k, .int .i64 n, .string (strOf s), .slice A l.length c, .slice A2 ms.length c2] 0 w1 (by rw [szA]; exact ⟨z1, hn, z3, z4, z5, z6, z7, z8⟩) (by
    rw [RdA]
    exact ⟨A, c, A2, c2, rfl, hna, fun h0 => by obtain ⟨g, o, e, g1, g2, g3⟩ := hLa h0; exact ⟨g, o, e, g1, Nat.lt_of_lt_of_le g2 h.size, RdAL.keep (fun p _ hp => h.cell hp) (Nat.le_refl _) h.size _ _ _ g1 g2 g3⟩,
      fun h0 => by obtain ⟨g, o, e, g1, g2, g3⟩ := hMa h0; exact ⟨g, o, e, g1, Nat.lt_of_lt_of_le g2 h.size, RdAM.keep (fun p _ hp => h.cell hp) (Nat.le_refl _) h.size _ _ _ _ g1 g2 g3⟩⟩)
  have cX := fun w1 (h : Below w.heap.size w w1) => Check_any (.mk k m [255] l ns ms) [.int .i64 k, .int .i64 m, .string (strOf [255]), .slice A l.length c, .slice A2 ms.length c2] 0 w1 (by rw [szA]; exact ⟨z1, z2, by simp, z4, z5, z6, z7, z8⟩) (by
    rw [RdA]
    exact ⟨A, c, A2, c2, rfl, hna, fun h0 => by obtain ⟨g, o, e, g1, g2, g3⟩ := hLa h0; exact ⟨g, o, e, g1, Nat.lt_of_lt_of_le g2 h.size, RdAL.keep (fun p _ hp => h.cell hp) (Nat.le_refl _) h.size _ _ _ g1 g2 g3⟩,
      fun h0 => by obtain ⟨g, o, e, g1, g2, g3⟩ := hMa h0; exact ⟨g, o, e, g1, Nat.lt_of_lt_of_le g2 h.size, RdAM.keep (fun p _ hp => h.cell hp) (Nat.le_refl _) h.size _ _ _ _ g1 g2 g3⟩⟩)
  rw [spoil_s] at cX
  have hty := fun (h0 : 0 < ms.length) (h2 : ms.length ≤ 2000) g o (hR : RdAM w 0 w.heap.size g o ns ms) => twice_check hna h0 h2 hR z8 z6
  have hsn := fun h1 h2 h3 => spoil_n (k := k) (n := n) (s := s) (l := l) (ms := ms) (ns := ns) h1 h2 h3
  have hS255 : strOf [255] = ⟨#[255]⟩ := rfl
  rw [hS255] at cX
  rw [ea] at cA ⊢
  clear ea hS255
  generalize hCH : chk (V.mk k m s l ns ms) = x at *
  generalize strOf s = S at *
  have CA := Lib.hid cA; clear cA
  have CW := Lib.hid cW; clear cW
  have CX := Lib.hid cX; clear cX
  have HSN := Lib.hid hsn; clear hsn
  have HM := Lib.hid hMa; clear hMa
  have HTY := Lib.hid hty; clear hty
  have HL := Lib.hid hLa; clear hLa
  clear ha za zb z1 z2 z3 z4 z5 z6 z7 z8 la
  go_enter Try.func5, Try.ntmps5
  have hb0 := (Below.refl w.heap.size w).alloc (Nat.le_refl _) (.cells #[.int .i64 k, .int .i64 m, .string S, .slice A l.length c, .slice A2 ms.length c2] 25)
  have HB0 := Lib.hid hb0; clear hb0
  go_wp2_with fail
  refine (awake_any6 _).mono ?_
  rintro e w1 ⟨rfl, hb1⟩
  rw [szAlloc'] at hb1
  have HB1 := Lib.hid (HB0.out.trans (hb1.mono (by omega)))
  have B1 := Lib.hid hb1; clear hb1
  have f : ∀ (j : Nat) u, ([.int .i64 k, .int .i64 m, .string S, .slice A l.length c, .slice A2 ms.length c2] : List Value)[j]? = some u → w1.cell? ⟨w.heap.size, j, none⟩ = some u := fun j u hu => (B1.out.cell (p := ⟨w.heap.size, j, none⟩) (by show w.heap.size < _; omega)).trans (by rw [cell_of_row _ _ j _ _ _ (heap_alloc_new w _)]; simpa using hu)
  have f0 := f 0 _ rfl
  have f1 := f 1 _ rfl
  have f2 := f 2 _ rfl
  have f3 := f 3 _ rfl
  have f4 := f 4 _ rfl

  have s1 := B1.out.size
  rw [szAlloc'] at s1
  have HF := Lib.hid f; clear f
  go_wp2_with fail
  refine (CA.out w1 HB1.out).mono ?_
  rintro e w2 ⟨rfl, hb2⟩
  have HB2 := Lib.hid (HB1.out.trans (hb2.mono HB1.out.size))
  have s2 := hb2.size
  clear f0 f1 f2 f3 f4
  have f : ∀ (j : Nat) u, ([.int .i64 k, .int .i64 m, .string S, .slice A l.length c, .slice A2 ms.length c2] : List Value)[j]? = some u → w2.cell? ⟨w.heap.size, j, none⟩ = some u := fun j u hu => (hb2.cell (p := ⟨w.heap.size, j, none⟩) (by show w.heap.size < _; omega)).trans (HF.out j u hu)
  have f0 := f 0 _ rfl
  have f1 := f 1 _ rfl
  have f2 := f 2 _ rfl
  have f3 := f 3 _ rfl
  have f4 := f 4 _ rfl

  have HF2 := Lib.hid f; clear f hb2
  by_cases hx : x = 0
  · subst hx
    have hne1 : w.heap.size ≠ w2.heap.size := by omega
    have hne2 : w.heap.size ≠ w2.heap.size + 1 := by omega
    have p : ∀ (j : Nat) u, ([.int .i64 k, .int .i64 m, .string S, .slice A l.length c, .slice A2 ms.length c2] : List Value)[j]? = some u → (w2.alloc (.cells #[.int .i64 k, .int .i64 n, .string S, .slice A l.length c, .slice A2 ms.length c2] 25)).cell? ⟨w.heap.size, j, none⟩ = some u := fun j u hu => (((Below.refl w2.heap.size w2).alloc (Nat.le_refl _) _).cell (p := ⟨w.heap.size, j, none⟩) (by show w.heap.size < _; omega)).trans (HF2.out j u hu)
    have p0 := p 0 _ rfl
    have p1 := p 1 _ rfl
    have p2 := p 2 _ rfl
    have p3 := p 3 _ rfl
    have p4 := p 4 _ rfl

    have hbx : Below w2.heap.size w2 ((w2.alloc (.cells #[.int .i64 k, .int .i64 n, .string S, .slice A l.length c, .slice A2 ms.length c2] 25)).alloc (.cells #[.int .i64 k, .int .i64 m, .string ⟨#[255]⟩, .slice A l.length c, .slice A2 ms.length c2] 25)) := ((Below.refl w2.heap.size w2).alloc (Nat.le_refl _) _).alloc (by rw [szAlloc']; omega) _
    have q : ∀ (j : Nat) u, ([.int .i64 k, .int .i64 m, .string S, .slice A l.length c, .slice A2 ms.length c2] : List Value)[j]? = some u → ((w2.alloc (.cells #[.int .i64 k, .int .i64 n, .string S, .slice A l.length c, .slice A2 ms.length c2] 25)).alloc (.cells #[.int .i64 k, .int .i64 m, .string ⟨#[255]⟩, .slice A l.length c, .slice A2 ms.length c2] 25)).cell? ⟨w.heap.size, j, none⟩ = some u := fun j u hu => (hbx.cell (p := ⟨w.heap.size, j, none⟩) (by show w.heap.size < _; omega)).trans (HF2.out j u hu)
    have q0 := q 0 _ rfl
    have q1 := q 1 _ rfl
    have q2 := q 2 _ rfl
    have q3 := q 3 _ rfl
    have q4 := q 4 _ rfl

    have HBX := Lib.hid (HB2.out.trans (hbx.mono HB2.out.size))
    have HFQ := Lib.hid q; clear q p hbx
    by_cases h2 : k = 2
    · have t2 : (k == 2) = true := by rw [beq_iff_eq]; exact h2
      clear h2
      go_wp2_with fail
      refine (CX.out _ HBX.out).mono ?_
      rintro e w4 ⟨rfl, hb4⟩
      have HB4 := Lib.hid (HBX.out.trans (hb4.mono HBX.out.size))
      rw [szAlloc', szAlloc'] at hb4
      have s4 := hb4.size
      rw [szAlloc', szAlloc'] at s4
      clear f0 f1 f2 f3 f4 p0 p1 p2 p3 p4 q0 q1 q2 q3 q4
      have r : ∀ (j : Nat) u, ([.int .i64 k, .int .i64 m, .string S, .slice A l.length c, .slice A2 ms.length c2] : List Value)[j]? = some u → w4.cell? ⟨w.heap.size, j, none⟩ = some u := fun j u hu => (hb4.cell (p := ⟨w.heap.size, j, none⟩) (by show w.heap.size < _; omega)).trans (HFQ.out j u hu)
      have r0 := r 0 _ rfl
      have r1 := r 1 _ rfl
      have r2 := r 2 _ rfl
      have r3 := r 3 _ rfl
      have r4 := r 4 _ rfl

      have HF4 := Lib.hid r; clear r hb4 r0 r1 r2 r3
      by_cases hl0 : ms.length = 0
      · have t10 : ((ms.length : Int) == 0) = true := by rw [beq_iff_eq]; omega
        go_wp2_with fail
        go_ret
        exact ⟨rfl, HB4.out⟩
      · by_cases hl2 : 2000 < ms.length
        · go_wp2_with fail
          go_ret
          exact ⟨rfl, HB4.out⟩
        · have t10 : ((ms.length : Int) == 0) = false := by rw [beq_eq_false_iff_ne]; omega
          have t11 : ms.length ≤ 2000 := by omega
          have t12 : decide ((2000 : Int) < (ms.length : Int)) = false := decide_eq_false (by omega)
          have hpos : 0 < ms.length := by omega
          clear hl0 hl2
          obtain ⟨g, o, rfl, _, hg, hRR⟩ := HM.out hpos
          obtain ⟨mcs, X, y1, y2, y3, p1, y4, p2, p3, y5, p4, m1, m2, m3, m6, mC⟩ := HTY.out hpos t11 g o hRR
          have HCY := Lib.hid mC; clear mC
          have HM6 := Lib.hid m6; clear m6
          clear hRR
          have hby := (Below.refl w4.heap.size w4).alloc (Nat.le_refl _) (.cells #[.int .i64 6, .int .i64 0, .string ⟨#[]⟩, .slice none 0 0, .slice none 0 0] 25)
          have r4' := (hby.cell (p := ⟨w.heap.size, 4, none⟩) (by show w.heap.size < _; omega)).trans r4
          have HBY := Lib.hid (HB4.out.trans (hby.mono HB4.out.size)); clear hby
          have hnews : ∀ j u, mcs[j]? = some u → (w4.alloc (.cells #[.int .i64 6, .int .i64 0, .string ⟨#[]⟩, .slice none 0 0, .slice none 0 0] 25)).cell? ((⟨g, o, none⟩ : Addr).add j) = some u := fun j u hu => by
            rw [add_off]
            exact (HBY.out.cell (p := ⟨g, o + j, none⟩) hg).trans (m2 j u hu)
          obtain ⟨i0, hi, hz0, hz1, hz2⟩ := info_parts infoMem
          go_wp2_with (at_builtin; refine wpList_append_lies _ rfl _ _ 23 rfl w.heap.size 35 i0 _ 6 96 Try.underlying23 hi hz0 hz1 hz2 (by rfl) (by decide) _ 0 [] rfl (World.ownsRow_nil _ _ _ _) ⟨g, o, none⟩ ms.length c2 mcs rfl m1 hnews m3 hpos (by unfold maxLen; omega) (by omega) (by rw [szAlloc']; omega) (w4.heap.size + 1) (szAlloc' _ _) ?_; intro g1 cap1 w5 hown1 hg1 hat1 hlt1; simp only [Nat.zero_add, List.nil_append] at hown1 ⊢; have x0 := (hg1.block w4.heap.size (by rw [szAlloc']; omega) (fun e => by cases e)).trans (heap_alloc_new w4 _); have x1 := frozen_of_row w5 w4.heap.size 4 _ _ x0; have x2 := (cell_of_row w5 w4.heap.size 4 _ _ _ x0).trans rfl)
          have hg1' : (w4.alloc (.cells #[.int .i64 6, .int .i64 0, .string ⟨#[]⟩, .slice none 0 0, .slice none 0 0] 25)).grownBy w5 none := hg1
          have s5 := hg1'.size
          rw [szAlloc'] at s5
          have hg1n : g1 = w4.heap.size + 1 := by
            rcases hat1 with e | e
            · cases e
            · exact e
          subst hg1n
          obtain ⟨w6, hw6⟩ : ∃ z, z = w5.setCell ⟨w4.heap.size, 4, none⟩ (.slice (some ⟨w4.heap.size + 1, 0, none⟩) ms.length cap1) := ⟨_, rfl⟩
          have y6 := heap_setCell_same w5 w4.heap.size 4 _ _ (.slice (some ⟨w4.heap.size + 1, 0, none⟩) ms.length cap1) x0
          have own6 := own_other hown1 x0 (by decide) ⟨w4.heap.size, 4, none⟩ rfl (.slice (some ⟨w4.heap.size + 1, 0, none⟩) ms.length cap1)
          have s6e : w6.heap.size = w5.heap.size := by rw [hw6]; simp
          have s6 : w4.heap.size + 1 < w6.heap.size := by rw [s6e]; exact hlt1
          clear s6e
          have hb6 : Below w.heap.size w w6 := by rw [hw6]; exact (HBY.out.grown hg1' (by rw [szAlloc']; omega) (fun j hj => by cases hj)).setCell (by show w.heap.size ≤ w4.heap.size; omega) _
          have hk6 : ∀ b, b < w4.heap.size → w6.heap[b]? = w4.heap[b]? := fun b hb => by
            rw [hw6, heap_setCell_other w5 ⟨w4.heap.size, 4, none⟩ b _ (by show b ≠ w4.heap.size; omega), hg1'.block b (by rw [szAlloc']; omega) (fun e => by cases e), heap_alloc_old w4 _ hb]
          have r6 : w6.cell? ⟨w.heap.size, 4, none⟩ = some (.slice (some ⟨g, o, none⟩) ms.length c2) := (World.cell?_of_block (hk6 w.heap.size (by omega))).trans r4
          rw [← hw6] at y6 own6
          have y64 := (cell_of_row w6 w4.heap.size 4 _ _ _ y6).trans rfl
          have y6f := frozen_of_row w6 w4.heap.size 4 _ _ y6
          have six : ∀ j u, ([.string X, .int .i64 y1, .int .i64 y2, .string y3, .slice p1 y4 p2, .slice p3 y5 p4] : List Value)[j]? = some u → w6.cell? ⟨g, o + j, none⟩ = some u := fun j u hu => (hb6.cell (p := ⟨g, o + j, none⟩) hg).trans (HM6.out j u hu)
          have q0 : w6.cell? ⟨g, o, none⟩ = some (.string X) := six 0 _ rfl
          have q1 := six 1 _ rfl
          have q2 := six 2 _ rfl
          have q3 := six 3 _ rfl
          have q4 := six 4 _ rfl
          have q5 := six 5 _ rfl
          rw [← hw6]
          have HB6 := Lib.hid hb6
          clear six hb6 hown1 hg1 hg1' hat1 x0 x1 x2 hw6 hk6 r4 r4' hnews
          have HN : ((w6.alloc (.cells #[.string X, .int .i64 y1, .int .i64 y2, .string y3, .slice p1 y4 p2, .slice p3 y5 p4] 35)).drew).heap[w6.heap.size]? = some (.cells #[.string X, .int .i64 y1, .int .i64 y2, .string y3, .slice p1 y4 p2, .slice p3 y5 p4] 35 (0, 0)) := heap_alloc_new w6 _
          have y64d : ((w6.alloc (.cells #[.string X, .int .i64 y1, .int .i64 y2, .string y3, .slice p1 y4 p2, .slice p3 y5 p4] 35)).drew).cell? ⟨w4.heap.size, 4, none⟩ = _ := ((((Below.refl w6.heap.size w6).alloc (Nat.le_refl _) _).drew).cell (p := ⟨w4.heap.size, 4, none⟩) (by show w4.heap.size < _; omega)).trans y64
          have ne1 : w4.heap.size ≠ w6.heap.size := by omega
          have ne2 : w.heap.size ≠ w6.heap.size := by omega
          have ne3 : g ≠ w6.heap.size := by omega
          have k0 : (0 : Int) < (ms.length : Int) := by omega
          go_region_law
            (refine step_append_lies _ (by rfl) _ _ _ (by rfl) w.heap.size 35 i0 _ 6 96 Try.underlying23 hi hz0 hz1 hz2 (by rfl) (by decide) (.slice (some ⟨w4.heap.size + 1, 0, none⟩) ms.length cap1) ms.length mcs (by rfl) ((own6.alloc _).drew) ⟨w6.heap.size, 0, none⟩ 1 1 [.string X, .int .i64 y1, .int .i64 y2, .string y3, .slice p1 y4 p2, .slice p3 y5 p4] (by rfl) (by rfl) (World.news_of_block (cs := #[.string X, .int .i64 y1, .int .i64 y2, .string y3, .slice p1 y4 p2, .slice p3 y5 p4]) (t := 35) (fr := (0, 0)) HN) (by simp [Value.oneCell']) (by omega) (by unfold maxLen; omega) (by omega) (by simp; omega) (w6.heap.size + 1) (by simp) ?_; intro g2 cap2 w7 hown2 hg2 hat2 hlt2; have hg2' : ((w6.alloc (.cells #[.string X, .int .i64 y1, .int .i64 y2, .string y3, .slice p1 y4 p2, .slice p3 y5 p4] 35)).drew).grownBy w7 (some (w4.heap.size + 1)) := hg2; have z0 := (hg2'.block w4.heap.size (by simp; omega) (fun e => by have := Option.some.inj e; omega)).trans ((heap_alloc_old w6 (.cells #[.string X, .int .i64 y1, .int .i64 y2, .string y3, .slice p1 y4 p2, .slice p3 y5 p4] 35) (by omega)).trans y6); have z1 := frozen_of_row w7 w4.heap.size 4 _ _ z0; have z2 := (cell_of_row w7 w4.heap.size 4 _ _ _ z0).trans rfl)
          all_goals
            have s7 := hg2'.size
            have s7b : w6.heap.size + 1 ≤ w7.heap.size := by simpa using s7
            have own8 := own_other hown2 z0 (by decide) ⟨w4.heap.size, 4, none⟩ rfl (.slice (some ⟨g2, 0, none⟩) (ms.length + 1) cap2)
            have y8 := heap_setCell_same w7 w4.heap.size 4 _ _ (.slice (some ⟨g2, 0, none⟩) (ms.length + 1) cap2) z0
            obtain ⟨w8, hw8⟩ : ∃ z, z = w7.setCell ⟨w4.heap.size, 4, none⟩ (.slice (some ⟨g2, 0, none⟩) (ms.length + 1) cap2) := ⟨_, rfl⟩
            have hb8 : Below w.heap.size w w8 := by rw [hw8]; exact ((((HB6.out.alloc (by omega) _).drew).grown hg2' (by simp; omega) (fun j hj => by have := Option.some.inj hj; omega))).setCell (by show w.heap.size ≤ w4.heap.size; omega) _
            have s8 : g2 < w8.heap.size := by rw [hw8]; simpa using hlt2
            rw [← hw8] at own8 y8
            have hcells := own8.cells (g := g2) rfl
            have hck := HCY.out w8 g2 cap2 hb8 s8 (fun j u hu => by have := hcells j u hu; rwa [add_off, Nat.zero_add] at this)
            have HCK := Lib.hid hck
            have HB8 := Lib.hid hb8
            have e0 := (cell_of_row w8 w4.heap.size 0 _ _ _ y8).trans rfl
            have e1 := (cell_of_row w8 w4.heap.size 1 _ _ _ y8).trans rfl
            have e2 := (cell_of_row w8 w4.heap.size 2 _ _ _ y8).trans rfl
            have e3 := (cell_of_row w8 w4.heap.size 3 _ _ _ y8).trans rfl
            have e4 := (cell_of_row w8 w4.heap.size 4 _ _ _ y8).trans rfl
            rw [← hw8]
            clear hck hb8 hcells own8 hown2 z0 z1 z2 hw8 y8 own6 y6 y64 y6f q0 q1 q2 q3 q4 q5 HN hg2 hg2' hat2 hlt2 s7
            go_wp2_with fail
            refine HCK.out.mono ?_
            rintro e w9 ⟨rfl, hb9⟩
            have HB9 := Lib.hid (HB8.out.trans (hb9.mono HB8.out.size)); clear hb9
            go_wp2_with fail
            go_ret
            exact ⟨rfl, HB9.out⟩

    · have t2 : (k == 2) = false := by rw [beq_eq_false_iff_ne]; exact h2
      by_cases h3 : k = 3
      · have t3 : (k == 3) = true := by rw [beq_iff_eq]; exact h3
        clear h2 h3
        go_wp2_with fail
        refine (CX.out _ HBX.out).mono ?_
        rintro e w4 ⟨rfl, hb4⟩
        have HB4 := Lib.hid (HBX.out.trans (hb4.mono HBX.out.size))
        rw [szAlloc', szAlloc'] at hb4
        have s4 := hb4.size
        rw [szAlloc', szAlloc'] at s4
        clear f0 f1 f2 f3 f4 p0 p1 p2 p3 p4 q0 q1 q2 q3 q4
        have r : ∀ (j : Nat) u, ([.int .i64 k, .int .i64 m, .string S, .slice A l.length c, .slice A2 ms.length c2] : List Value)[j]? = some u → w4.cell? ⟨w.heap.size, j, none⟩ = some u := fun j u hu => (hb4.cell (p := ⟨w.heap.size, j, none⟩) (by show w.heap.size < _; omega)).trans (HFQ.out j u hu)
        have r0 := r 0 _ rfl
        have r1 := r 1 _ rfl
        have r2 := r 2 _ rfl
        have r3 := r 3 _ rfl
        have r4 := r 4 _ rfl

        have HF4 := Lib.hid r; clear r hb4 r0 r1 r2 r3
        by_cases hl0 : ms.length = 0
        · have t10 : ((ms.length : Int) == 0) = true := by rw [beq_iff_eq]; omega
          go_wp2_with fail
          go_ret
          exact ⟨rfl, HB4.out⟩
        · by_cases hl2 : 2000 < ms.length
          · go_wp2_with fail
            go_ret
            exact ⟨rfl, HB4.out⟩
          · have t10 : ((ms.length : Int) == 0) = false := by rw [beq_eq_false_iff_ne]; omega
            have t11 : ms.length ≤ 2000 := by omega
            have t12 : decide ((2000 : Int) < (ms.length : Int)) = false := decide_eq_false (by omega)
            have hpos : 0 < ms.length := by omega
            clear hl0 hl2
            obtain ⟨g, o, rfl, _, hg, hRR⟩ := HM.out hpos
            obtain ⟨mcs, X, y1, y2, y3, p1, y4, p2, p3, y5, p4, m1, m2, m3, m6, mC⟩ := HTY.out hpos t11 g o hRR
            have HCY := Lib.hid mC; clear mC
            have HM6 := Lib.hid m6; clear m6
            clear hRR
            have hby := (Below.refl w4.heap.size w4).alloc (Nat.le_refl _) (.cells #[.int .i64 6, .int .i64 0, .string ⟨#[]⟩, .slice none 0 0, .slice none 0 0] 25)
            have r4' := (hby.cell (p := ⟨w.heap.size, 4, none⟩) (by show w.heap.size < _; omega)).trans r4
            have HBY := Lib.hid (HB4.out.trans (hby.mono HB4.out.size)); clear hby
            have hnews : ∀ j u, mcs[j]? = some u → (w4.alloc (.cells #[.int .i64 6, .int .i64 0, .string ⟨#[]⟩, .slice none 0 0, .slice none 0 0] 25)).cell? ((⟨g, o, none⟩ : Addr).add j) = some u := fun j u hu => by
              rw [add_off]
              exact (HBY.out.cell (p := ⟨g, o + j, none⟩) hg).trans (m2 j u hu)
            obtain ⟨i0, hi, hz0, hz1, hz2⟩ := info_parts infoMem
            go_wp2_with (at_builtin; refine wpList_append_lies _ rfl _ _ 23 rfl w.heap.size 35 i0 _ 6 96 Try.underlying23 hi hz0 hz1 hz2 (by rfl) (by decide) _ 0 [] rfl (World.ownsRow_nil _ _ _ _) ⟨g, o, none⟩ ms.length c2 mcs rfl m1 hnews m3 hpos (by unfold maxLen; omega) (by omega) (by rw [szAlloc']; omega) (w4.heap.size + 1) (szAlloc' _ _) ?_; intro g1 cap1 w5 hown1 hg1 hat1 hlt1; simp only [Nat.zero_add, List.nil_append] at hown1 ⊢; have x0 := (hg1.block w4.heap.size (by rw [szAlloc']; omega) (fun e => by cases e)).trans (heap_alloc_new w4 _); have x1 := frozen_of_row w5 w4.heap.size 4 _ _ x0; have x2 := (cell_of_row w5 w4.heap.size 4 _ _ _ x0).trans rfl)
            have hg1' : (w4.alloc (.cells #[.int .i64 6, .int .i64 0, .string ⟨#[]⟩, .slice none 0 0, .slice none 0 0] 25)).grownBy w5 none := hg1
            have s5 := hg1'.size
            rw [szAlloc'] at s5
            have hg1n : g1 = w4.heap.size + 1 := by
              rcases hat1 with e | e
              · cases e
              · exact e
            subst hg1n
            obtain ⟨w6, hw6⟩ : ∃ z, z = w5.setCell ⟨w4.heap.size, 4, none⟩ (.slice (some ⟨w4.heap.size + 1, 0, none⟩) ms.length cap1) := ⟨_, rfl⟩
            have y6 := heap_setCell_same w5 w4.heap.size 4 _ _ (.slice (some ⟨w4.heap.size + 1, 0, none⟩) ms.length cap1) x0
            have own6 := own_other hown1 x0 (by decide) ⟨w4.heap.size, 4, none⟩ rfl (.slice (some ⟨w4.heap.size + 1, 0, none⟩) ms.length cap1)
            have s6e : w6.heap.size = w5.heap.size := by rw [hw6]; simp
            have s6 : w4.heap.size + 1 < w6.heap.size := by rw [s6e]; exact hlt1
            clear s6e
            have hb6 : Below w.heap.size w w6 := by rw [hw6]; exact (HBY.out.grown hg1' (by rw [szAlloc']; omega) (fun j hj => by cases hj)).setCell (by show w.heap.size ≤ w4.heap.size; omega) _
            have hk6 : ∀ b, b < w4.heap.size → w6.heap[b]? = w4.heap[b]? := fun b hb => by
              rw [hw6, heap_setCell_other w5 ⟨w4.heap.size, 4, none⟩ b _ (by show b ≠ w4.heap.size; omega), hg1'.block b (by rw [szAlloc']; omega) (fun e => by cases e), heap_alloc_old w4 _ hb]
            have r6 : w6.cell? ⟨w.heap.size, 4, none⟩ = some (.slice (some ⟨g, o, none⟩) ms.length c2) := (World.cell?_of_block (hk6 w.heap.size (by omega))).trans r4
            rw [← hw6] at y6 own6
            have y64 := (cell_of_row w6 w4.heap.size 4 _ _ _ y6).trans rfl
            have y6f := frozen_of_row w6 w4.heap.size 4 _ _ y6
            have six : ∀ j u, ([.string X, .int .i64 y1, .int .i64 y2, .string y3, .slice p1 y4 p2, .slice p3 y5 p4] : List Value)[j]? = some u → w6.cell? ⟨g, o + j, none⟩ = some u := fun j u hu => (hb6.cell (p := ⟨g, o + j, none⟩) hg).trans (HM6.out j u hu)
            have q0 : w6.cell? ⟨g, o, none⟩ = some (.string X) := six 0 _ rfl
            have q1 := six 1 _ rfl
            have q2 := six 2 _ rfl
            have q3 := six 3 _ rfl
            have q4 := six 4 _ rfl
            have q5 := six 5 _ rfl
            rw [← hw6]
            have HB6 := Lib.hid hb6
            clear six hb6 hown1 hg1 hg1' hat1 x0 x1 x2 hw6 hk6 r4 r4' hnews
            have HN : ((w6.alloc (.cells #[.string X, .int .i64 y1, .int .i64 y2, .string y3, .slice p1 y4 p2, .slice p3 y5 p4] 35)).drew).heap[w6.heap.size]? = some (.cells #[.string X, .int .i64 y1, .int .i64 y2, .string y3, .slice p1 y4 p2, .slice p3 y5 p4] 35 (0, 0)) := heap_alloc_new w6 _
            have y64d : ((w6.alloc (.cells #[.string X, .int .i64 y1, .int .i64 y2, .string y3, .slice p1 y4 p2, .slice p3 y5 p4] 35)).drew).cell? ⟨w4.heap.size, 4, none⟩ = _ := ((((Below.refl w6.heap.size w6).alloc (Nat.le_refl _) _).drew).cell (p := ⟨w4.heap.size, 4, none⟩) (by show w4.heap.size < _; omega)).trans y64
            have ne1 : w4.heap.size ≠ w6.heap.size := by omega
            have ne2 : w.heap.size ≠ w6.heap.size := by omega
            have ne3 : g ≠ w6.heap.size := by omega
            have k0 : (0 : Int) < (ms.length : Int) := by omega
            go_region_law
              (refine step_append_lies _ (by rfl) _ _ _ (by rfl) w.heap.size 35 i0 _ 6 96 Try.underlying23 hi hz0 hz1 hz2 (by rfl) (by decide) (.slice (some ⟨w4.heap.size + 1, 0, none⟩) ms.length cap1) ms.length mcs (by rfl) ((own6.alloc _).drew) ⟨w6.heap.size, 0, none⟩ 1 1 [.string X, .int .i64 y1, .int .i64 y2, .string y3, .slice p1 y4 p2, .slice p3 y5 p4] (by rfl) (by rfl) (World.news_of_block (cs := #[.string X, .int .i64 y1, .int .i64 y2, .string y3, .slice p1 y4 p2, .slice p3 y5 p4]) (t := 35) (fr := (0, 0)) HN) (by simp [Value.oneCell']) (by omega) (by unfold maxLen; omega) (by omega) (by simp; omega) (w6.heap.size + 1) (by simp) ?_; intro g2 cap2 w7 hown2 hg2 hat2 hlt2; have hg2' : ((w6.alloc (.cells #[.string X, .int .i64 y1, .int .i64 y2, .string y3, .slice p1 y4 p2, .slice p3 y5 p4] 35)).drew).grownBy w7 (some (w4.heap.size + 1)) := hg2; have z0 := (hg2'.block w4.heap.size (by simp; omega) (fun e => by have := Option.some.inj e; omega)).trans ((heap_alloc_old w6 (.cells #[.string X, .int .i64 y1, .int .i64 y2, .string y3, .slice p1 y4 p2, .slice p3 y5 p4] 35) (by omega)).trans y6); have z1 := frozen_of_row w7 w4.heap.size 4 _ _ z0; have z2 := (cell_of_row w7 w4.heap.size 4 _ _ _ z0).trans rfl)
            all_goals
              have s7 := hg2'.size
              have s7b : w6.heap.size + 1 ≤ w7.heap.size := by simpa using s7
              have own8 := own_other hown2 z0 (by decide) ⟨w4.heap.size, 4, none⟩ rfl (.slice (some ⟨g2, 0, none⟩) (ms.length + 1) cap2)
              have y8 := heap_setCell_same w7 w4.heap.size 4 _ _ (.slice (some ⟨g2, 0, none⟩) (ms.length + 1) cap2) z0
              obtain ⟨w8, hw8⟩ : ∃ z, z = w7.setCell ⟨w4.heap.size, 4, none⟩ (.slice (some ⟨g2, 0, none⟩) (ms.length + 1) cap2) := ⟨_, rfl⟩
              have hb8 : Below w.heap.size w w8 := by rw [hw8]; exact ((((HB6.out.alloc (by omega) _).drew).grown hg2' (by simp; omega) (fun j hj => by have := Option.some.inj hj; omega))).setCell (by show w.heap.size ≤ w4.heap.size; omega) _
              have s8 : g2 < w8.heap.size := by rw [hw8]; simpa using hlt2
              rw [← hw8] at own8 y8
              have hcells := own8.cells (g := g2) rfl
              have hck := HCY.out w8 g2 cap2 hb8 s8 (fun j u hu => by have := hcells j u hu; rwa [add_off, Nat.zero_add] at this)
              have HCK := Lib.hid hck
              have HB8 := Lib.hid hb8
              have e0 := (cell_of_row w8 w4.heap.size 0 _ _ _ y8).trans rfl
              have e1 := (cell_of_row w8 w4.heap.size 1 _ _ _ y8).trans rfl
              have e2 := (cell_of_row w8 w4.heap.size 2 _ _ _ y8).trans rfl
              have e3 := (cell_of_row w8 w4.heap.size 3 _ _ _ y8).trans rfl
              have e4 := (cell_of_row w8 w4.heap.size 4 _ _ _ y8).trans rfl
              rw [← hw8]
              clear hck hb8 hcells own8 hown2 z0 z1 z2 hw8 y8 own6 y6 y64 y6f q0 q1 q2 q3 q4 q5 HN hg2 hg2' hat2 hlt2 s7
              go_wp2_with fail
              refine HCK.out.mono ?_
              rintro e w9 ⟨rfl, hb9⟩
              have HB9 := Lib.hid (HB8.out.trans (hb9.mono HB8.out.size)); clear hb9
              go_wp2_with fail
              go_ret
              exact ⟨rfl, HB9.out⟩

      · have t3 : (k == 3) = false := by rw [beq_eq_false_iff_ne]; exact h3
        by_cases hn0 : n = 0
        · have t5 : (n != 0) = false := by rw [bne_eq_false_iff_eq]; exact hn0
          clear h2 h3 hn0
          go_wp2_with fail
          refine (CX.out _ HBX.out).mono ?_
          rintro e w4 ⟨rfl, hb4⟩
          have HB4 := Lib.hid (HBX.out.trans (hb4.mono HBX.out.size))
          rw [szAlloc', szAlloc'] at hb4
          have s4 := hb4.size
          rw [szAlloc', szAlloc'] at s4
          clear f0 f1 f2 f3 f4 p0 p1 p2 p3 p4 q0 q1 q2 q3 q4
          have r : ∀ (j : Nat) u, ([.int .i64 k, .int .i64 m, .string S, .slice A l.length c, .slice A2 ms.length c2] : List Value)[j]? = some u → w4.cell? ⟨w.heap.size, j, none⟩ = some u := fun j u hu => (hb4.cell (p := ⟨w.heap.size, j, none⟩) (by show w.heap.size < _; omega)).trans (HFQ.out j u hu)
          have r0 := r 0 _ rfl
          have r1 := r 1 _ rfl
          have r2 := r 2 _ rfl
          have r3 := r 3 _ rfl
          have r4 := r 4 _ rfl

          have HF4 := Lib.hid r; clear r hb4 r0 r1 r2 r3
          by_cases hl0 : ms.length = 0
          · have t10 : ((ms.length : Int) == 0) = true := by rw [beq_iff_eq]; omega
            go_wp2_with fail
            go_ret
            exact ⟨rfl, HB4.out⟩
          · by_cases hl2 : 2000 < ms.length
            · go_wp2_with fail
              go_ret
              exact ⟨rfl, HB4.out⟩
            · have t10 : ((ms.length : Int) == 0) = false := by rw [beq_eq_false_iff_ne]; omega
              have t11 : ms.length ≤ 2000 := by omega
              have t12 : decide ((2000 : Int) < (ms.length : Int)) = false := decide_eq_false (by omega)
              have hpos : 0 < ms.length := by omega
              clear hl0 hl2
              obtain ⟨g, o, rfl, _, hg, hRR⟩ := HM.out hpos
              obtain ⟨mcs, X, y1, y2, y3, p1, y4, p2, p3, y5, p4, m1, m2, m3, m6, mC⟩ := HTY.out hpos t11 g o hRR
              have HCY := Lib.hid mC; clear mC
              have HM6 := Lib.hid m6; clear m6
              clear hRR
              have hby := (Below.refl w4.heap.size w4).alloc (Nat.le_refl _) (.cells #[.int .i64 6, .int .i64 0, .string ⟨#[]⟩, .slice none 0 0, .slice none 0 0] 25)
              have r4' := (hby.cell (p := ⟨w.heap.size, 4, none⟩) (by show w.heap.size < _; omega)).trans r4
              have HBY := Lib.hid (HB4.out.trans (hby.mono HB4.out.size)); clear hby
              have hnews : ∀ j u, mcs[j]? = some u → (w4.alloc (.cells #[.int .i64 6, .int .i64 0, .string ⟨#[]⟩, .slice none 0 0, .slice none 0 0] 25)).cell? ((⟨g, o, none⟩ : Addr).add j) = some u := fun j u hu => by
                rw [add_off]
                exact (HBY.out.cell (p := ⟨g, o + j, none⟩) hg).trans (m2 j u hu)
              obtain ⟨i0, hi, hz0, hz1, hz2⟩ := info_parts infoMem
              go_wp2_with (at_builtin; refine wpList_append_lies _ rfl _ _ 23 rfl w.heap.size 35 i0 _ 6 96 Try.underlying23 hi hz0 hz1 hz2 (by rfl) (by decide) _ 0 [] rfl (World.ownsRow_nil _ _ _ _) ⟨g, o, none⟩ ms.length c2 mcs rfl m1 hnews m3 hpos (by unfold maxLen; omega) (by omega) (by rw [szAlloc']; omega) (w4.heap.size + 1) (szAlloc' _ _) ?_; intro g1 cap1 w5 hown1 hg1 hat1 hlt1; simp only [Nat.zero_add, List.nil_append] at hown1 ⊢; have x0 := (hg1.block w4.heap.size (by rw [szAlloc']; omega) (fun e => by cases e)).trans (heap_alloc_new w4 _); have x1 := frozen_of_row w5 w4.heap.size 4 _ _ x0; have x2 := (cell_of_row w5 w4.heap.size 4 _ _ _ x0).trans rfl)
              have hg1' : (w4.alloc (.cells #[.int .i64 6, .int .i64 0, .string ⟨#[]⟩, .slice none 0 0, .slice none 0 0] 25)).grownBy w5 none := hg1
              have s5 := hg1'.size
              rw [szAlloc'] at s5
              have hg1n : g1 = w4.heap.size + 1 := by
                rcases hat1 with e | e
                · cases e
                · exact e
              subst hg1n
              obtain ⟨w6, hw6⟩ : ∃ z, z = w5.setCell ⟨w4.heap.size, 4, none⟩ (.slice (some ⟨w4.heap.size + 1, 0, none⟩) ms.length cap1) := ⟨_, rfl⟩
              have y6 := heap_setCell_same w5 w4.heap.size 4 _ _ (.slice (some ⟨w4.heap.size + 1, 0, none⟩) ms.length cap1) x0
              have own6 := own_other hown1 x0 (by decide) ⟨w4.heap.size, 4, none⟩ rfl (.slice (some ⟨w4.heap.size + 1, 0, none⟩) ms.length cap1)
              have s6e : w6.heap.size = w5.heap.size := by rw [hw6]; simp
              have s6 : w4.heap.size + 1 < w6.heap.size := by rw [s6e]; exact hlt1
              clear s6e
              have hb6 : Below w.heap.size w w6 := by rw [hw6]; exact (HBY.out.grown hg1' (by rw [szAlloc']; omega) (fun j hj => by cases hj)).setCell (by show w.heap.size ≤ w4.heap.size; omega) _
              have hk6 : ∀ b, b < w4.heap.size → w6.heap[b]? = w4.heap[b]? := fun b hb => by
                rw [hw6, heap_setCell_other w5 ⟨w4.heap.size, 4, none⟩ b _ (by show b ≠ w4.heap.size; omega), hg1'.block b (by rw [szAlloc']; omega) (fun e => by cases e), heap_alloc_old w4 _ hb]
              have r6 : w6.cell? ⟨w.heap.size, 4, none⟩ = some (.slice (some ⟨g, o, none⟩) ms.length c2) := (World.cell?_of_block (hk6 w.heap.size (by omega))).trans r4
              rw [← hw6] at y6 own6
              have y64 := (cell_of_row w6 w4.heap.size 4 _ _ _ y6).trans rfl
              have y6f := frozen_of_row w6 w4.heap.size 4 _ _ y6
              have six : ∀ j u, ([.string X, .int .i64 y1, .int .i64 y2, .string y3, .slice p1 y4 p2, .slice p3 y5 p4] : List Value)[j]? = some u → w6.cell? ⟨g, o + j, none⟩ = some u := fun j u hu => (hb6.cell (p := ⟨g, o + j, none⟩) hg).trans (HM6.out j u hu)
              have q0 : w6.cell? ⟨g, o, none⟩ = some (.string X) := six 0 _ rfl
              have q1 := six 1 _ rfl
              have q2 := six 2 _ rfl
              have q3 := six 3 _ rfl
              have q4 := six 4 _ rfl
              have q5 := six 5 _ rfl
              rw [← hw6]
              have HB6 := Lib.hid hb6
              clear six hb6 hown1 hg1 hg1' hat1 x0 x1 x2 hw6 hk6 r4 r4' hnews
              have HN : ((w6.alloc (.cells #[.string X, .int .i64 y1, .int .i64 y2, .string y3, .slice p1 y4 p2, .slice p3 y5 p4] 35)).drew).heap[w6.heap.size]? = some (.cells #[.string X, .int .i64 y1, .int .i64 y2, .string y3, .slice p1 y4 p2, .slice p3 y5 p4] 35 (0, 0)) := heap_alloc_new w6 _
              have y64d : ((w6.alloc (.cells #[.string X, .int .i64 y1, .int .i64 y2, .string y3, .slice p1 y4 p2, .slice p3 y5 p4] 35)).drew).cell? ⟨w4.heap.size, 4, none⟩ = _ := ((((Below.refl w6.heap.size w6).alloc (Nat.le_refl _) _).drew).cell (p := ⟨w4.heap.size, 4, none⟩) (by show w4.heap.size < _; omega)).trans y64
              have ne1 : w4.heap.size ≠ w6.heap.size := by omega
              have ne2 : w.heap.size ≠ w6.heap.size := by omega
              have ne3 : g ≠ w6.heap.size := by omega
              have k0 : (0 : Int) < (ms.length : Int) := by omega
              go_region_law
                (refine step_append_lies _ (by rfl) _ _ _ (by rfl) w.heap.size 35 i0 _ 6 96 Try.underlying23 hi hz0 hz1 hz2 (by rfl) (by decide) (.slice (some ⟨w4.heap.size + 1, 0, none⟩) ms.length cap1) ms.length mcs (by rfl) ((own6.alloc _).drew) ⟨w6.heap.size, 0, none⟩ 1 1 [.string X, .int .i64 y1, .int .i64 y2, .string y3, .slice p1 y4 p2, .slice p3 y5 p4] (by rfl) (by rfl) (World.news_of_block (cs := #[.string X, .int .i64 y1, .int .i64 y2, .string y3, .slice p1 y4 p2, .slice p3 y5 p4]) (t := 35) (fr := (0, 0)) HN) (by simp [Value.oneCell']) (by omega) (by unfold maxLen; omega) (by omega) (by simp; omega) (w6.heap.size + 1) (by simp) ?_; intro g2 cap2 w7 hown2 hg2 hat2 hlt2; have hg2' : ((w6.alloc (.cells #[.string X, .int .i64 y1, .int .i64 y2, .string y3, .slice p1 y4 p2, .slice p3 y5 p4] 35)).drew).grownBy w7 (some (w4.heap.size + 1)) := hg2; have z0 := (hg2'.block w4.heap.size (by simp; omega) (fun e => by have := Option.some.inj e; omega)).trans ((heap_alloc_old w6 (.cells #[.string X, .int .i64 y1, .int .i64 y2, .string y3, .slice p1 y4 p2, .slice p3 y5 p4] 35) (by omega)).trans y6); have z1 := frozen_of_row w7 w4.heap.size 4 _ _ z0; have z2 := (cell_of_row w7 w4.heap.size 4 _ _ _ z0).trans rfl)
              all_goals
                have s7 := hg2'.size
                have s7b : w6.heap.size + 1 ≤ w7.heap.size := by simpa using s7
                have own8 := own_other hown2 z0 (by decide) ⟨w4.heap.size, 4, none⟩ rfl (.slice (some ⟨g2, 0, none⟩) (ms.length + 1) cap2)
                have y8 := heap_setCell_same w7 w4.heap.size 4 _ _ (.slice (some ⟨g2, 0, none⟩) (ms.length + 1) cap2) z0
                obtain ⟨w8, hw8⟩ : ∃ z, z = w7.setCell ⟨w4.heap.size, 4, none⟩ (.slice (some ⟨g2, 0, none⟩) (ms.length + 1) cap2) := ⟨_, rfl⟩
                have hb8 : Below w.heap.size w w8 := by rw [hw8]; exact ((((HB6.out.alloc (by omega) _).drew).grown hg2' (by simp; omega) (fun j hj => by have := Option.some.inj hj; omega))).setCell (by show w.heap.size ≤ w4.heap.size; omega) _
                have s8 : g2 < w8.heap.size := by rw [hw8]; simpa using hlt2
                rw [← hw8] at own8 y8
                have hcells := own8.cells (g := g2) rfl
                have hck := HCY.out w8 g2 cap2 hb8 s8 (fun j u hu => by have := hcells j u hu; rwa [add_off, Nat.zero_add] at this)
                have HCK := Lib.hid hck
                have HB8 := Lib.hid hb8
                have e0 := (cell_of_row w8 w4.heap.size 0 _ _ _ y8).trans rfl
                have e1 := (cell_of_row w8 w4.heap.size 1 _ _ _ y8).trans rfl
                have e2 := (cell_of_row w8 w4.heap.size 2 _ _ _ y8).trans rfl
                have e3 := (cell_of_row w8 w4.heap.size 3 _ _ _ y8).trans rfl
                have e4 := (cell_of_row w8 w4.heap.size 4 _ _ _ y8).trans rfl
                rw [← hw8]
                clear hck hb8 hcells own8 hown2 z0 z1 z2 hw8 y8 own6 y6 y64 y6f q0 q1 q2 q3 q4 q5 HN hg2 hg2' hat2 hlt2 s7
                go_wp2_with fail
                refine HCK.out.mono ?_
                rintro e w9 ⟨rfl, hb9⟩
                have HB9 := Lib.hid (HB8.out.trans (hb9.mono HB8.out.size)); clear hb9
                go_wp2_with fail
                go_ret
                exact ⟨rfl, HB9.out⟩

        · have t5 : (n != 0) = true := by rw [bne_iff_ne]; exact hn0
          have hsn := HSN.out h2 h3 hn0
          have cw := CW.out _ HBX.out
          rw [hsn] at cw
          have HCW := Lib.hid cw
          have hw5 : ∀ (j : Nat) u, ([.int .i64 k, .int .i64 m, .string ⟨#[255]⟩, .slice A l.length c, .slice A2 ms.length c2] : List Value)[j]? = some u → ((w2.alloc (.cells #[.int .i64 k, .int .i64 n, .string S, .slice A l.length c, .slice A2 ms.length c2] 25)).alloc (.cells #[.int .i64 k, .int .i64 m, .string ⟨#[255]⟩, .slice A l.length c, .slice A2 ms.length c2] 25)).cell? ⟨w2.heap.size + 1, j, none⟩ = some u := fun j u hu => by
            have h1 := heap_alloc_new (w2.alloc (.cells #[.int .i64 k, .int .i64 n, .string S, .slice A l.length c, .slice A2 ms.length c2] 25)) (.cells #[.int .i64 k, .int .i64 m, .string ⟨#[255]⟩, .slice A l.length c, .slice A2 ms.length c2] 25)
            rw [szAlloc'] at h1
            rw [cell_of_row _ _ j _ _ _ h1]
            simpa using hu
          have HW5 := Lib.hid hw5
          clear h2 h3 hn0 hsn cw hw5
          go_wp2_with fail
          refine HCW.out.mono ?_
          rintro e w3 ⟨rfl, hb3⟩
          have HB3 := Lib.hid (HBX.out.trans (hb3.mono HBX.out.size))
          rw [szAlloc', szAlloc'] at hb3
          have s3 := hb3.size
          rw [szAlloc', szAlloc'] at s3
          clear f0 f1 f2 f3 f4 p0 p1 p2 p3 p4 q0 q1 q2 q3 q4
          have f : ∀ (j : Nat) u, ([.int .i64 k, .int .i64 m, .string S, .slice A l.length c, .slice A2 ms.length c2] : List Value)[j]? = some u → w3.cell? ⟨w.heap.size, j, none⟩ = some u := fun j u hu => (hb3.cell (p := ⟨w.heap.size, j, none⟩) (by show w.heap.size < _; omega)).trans (HFQ.out j u hu)
          have f0 := f 0 _ rfl
          have f1 := f 1 _ rfl
          have f2 := f 2 _ rfl
          have f3 := f 3 _ rfl
          have f4 := f 4 _ rfl

          have HFQ3 := Lib.hid f; clear f
          have p : ∀ (j : Nat) u, ([.int .i64 k, .int .i64 m, .string ⟨#[255]⟩, .slice A l.length c, .slice A2 ms.length c2] : List Value)[j]? = some u → w3.cell? ⟨w2.heap.size + 1, j, none⟩ = some u := fun j u hu => (hb3.cell (p := ⟨w2.heap.size + 1, j, none⟩) (by show w2.heap.size + 1 < _; omega)).trans (HW5.out j u hu)
          have p0 := p 0 _ rfl
          have p1 := p 1 _ rfl
          have p2 := p 2 _ rfl
          have p3 := p 3 _ rfl
          have p4 := p 4 _ rfl
          clear p hb3
          go_wp2_with fail
          refine (CX.out w3 HB3.out).mono ?_
          rintro e w4 ⟨rfl, hb4⟩
          have HB4 := Lib.hid (HB3.out.trans (hb4.mono HB3.out.size))
          have s4 := hb4.size
          clear f0 f1 f2 f3 f4 p0 p1 p2 p3 p4
          have r : ∀ (j : Nat) u, ([.int .i64 k, .int .i64 m, .string S, .slice A l.length c, .slice A2 ms.length c2] : List Value)[j]? = some u → w4.cell? ⟨w.heap.size, j, none⟩ = some u := fun j u hu => (hb4.cell (p := ⟨w.heap.size, j, none⟩) (by show w.heap.size < _; omega)).trans (HFQ3.out j u hu)
          have r0 := r 0 _ rfl
          have r1 := r 1 _ rfl
          have r2 := r 2 _ rfl
          have r3 := r 3 _ rfl
          have r4 := r 4 _ rfl

          have HF4 := Lib.hid r; clear r hb4 r0 r1 r2 r3
          by_cases hl0 : ms.length = 0
          · have t10 : ((ms.length : Int) == 0) = true := by rw [beq_iff_eq]; omega
            go_wp2_with fail
            go_ret
            exact ⟨rfl, HB4.out⟩
          · by_cases hl2 : 2000 < ms.length
            · go_wp2_with fail
              go_ret
              exact ⟨rfl, HB4.out⟩
            · have t10 : ((ms.length : Int) == 0) = false := by rw [beq_eq_false_iff_ne]; omega
              have t11 : ms.length ≤ 2000 := by omega
              have t12 : decide ((2000 : Int) < (ms.length : Int)) = false := decide_eq_false (by omega)
              have hpos : 0 < ms.length := by omega
              clear hl0 hl2
              obtain ⟨g, o, rfl, _, hg, hRR⟩ := HM.out hpos
              obtain ⟨mcs, X, y1, y2, y3, p1, y4, p2, p3, y5, p4, m1, m2, m3, m6, mC⟩ := HTY.out hpos t11 g o hRR
              have HCY := Lib.hid mC; clear mC
              have HM6 := Lib.hid m6; clear m6
              clear hRR
              have hby := (Below.refl w4.heap.size w4).alloc (Nat.le_refl _) (.cells #[.int .i64 6, .int .i64 0, .string ⟨#[]⟩, .slice none 0 0, .slice none 0 0] 25)
              have r4' := (hby.cell (p := ⟨w.heap.size, 4, none⟩) (by show w.heap.size < _; omega)).trans r4
              have HBY := Lib.hid (HB4.out.trans (hby.mono HB4.out.size)); clear hby
              have hnews : ∀ j u, mcs[j]? = some u → (w4.alloc (.cells #[.int .i64 6, .int .i64 0, .string ⟨#[]⟩, .slice none 0 0, .slice none 0 0] 25)).cell? ((⟨g, o, none⟩ : Addr).add j) = some u := fun j u hu => by
                rw [add_off]
                exact (HBY.out.cell (p := ⟨g, o + j, none⟩) hg).trans (m2 j u hu)
              obtain ⟨i0, hi, hz0, hz1, hz2⟩ := info_parts infoMem
              go_wp2_with (at_builtin; refine wpList_append_lies _ rfl _ _ 23 rfl w.heap.size 35 i0 _ 6 96 Try.underlying23 hi hz0 hz1 hz2 (by rfl) (by decide) _ 0 [] rfl (World.ownsRow_nil _ _ _ _) ⟨g, o, none⟩ ms.length c2 mcs rfl m1 hnews m3 hpos (by unfold maxLen; omega) (by omega) (by rw [szAlloc']; omega) (w4.heap.size + 1) (szAlloc' _ _) ?_; intro g1 cap1 w5 hown1 hg1 hat1 hlt1; simp only [Nat.zero_add, List.nil_append] at hown1 ⊢; have x0 := (hg1.block w4.heap.size (by rw [szAlloc']; omega) (fun e => by cases e)).trans (heap_alloc_new w4 _); have x1 := frozen_of_row w5 w4.heap.size 4 _ _ x0; have x2 := (cell_of_row w5 w4.heap.size 4 _ _ _ x0).trans rfl)
              have hg1' : (w4.alloc (.cells #[.int .i64 6, .int .i64 0, .string ⟨#[]⟩, .slice none 0 0, .slice none 0 0] 25)).grownBy w5 none := hg1
              have s5 := hg1'.size
              rw [szAlloc'] at s5
              have hg1n : g1 = w4.heap.size + 1 := by
                rcases hat1 with e | e
                · cases e
                · exact e
              subst hg1n
              obtain ⟨w6, hw6⟩ : ∃ z, z = w5.setCell ⟨w4.heap.size, 4, none⟩ (.slice (some ⟨w4.heap.size + 1, 0, none⟩) ms.length cap1) := ⟨_, rfl⟩
              have y6 := heap_setCell_same w5 w4.heap.size 4 _ _ (.slice (some ⟨w4.heap.size + 1, 0, none⟩) ms.length cap1) x0
              have own6 := own_other hown1 x0 (by decide) ⟨w4.heap.size, 4, none⟩ rfl (.slice (some ⟨w4.heap.size + 1, 0, none⟩) ms.length cap1)
              have s6e : w6.heap.size = w5.heap.size := by rw [hw6]; simp
              have s6 : w4.heap.size + 1 < w6.heap.size := by rw [s6e]; exact hlt1
              clear s6e
              have hb6 : Below w.heap.size w w6 := by rw [hw6]; exact (HBY.out.grown hg1' (by rw [szAlloc']; omega) (fun j hj => by cases hj)).setCell (by show w.heap.size ≤ w4.heap.size; omega) _
              have hk6 : ∀ b, b < w4.heap.size → w6.heap[b]? = w4.heap[b]? := fun b hb => by
                rw [hw6, heap_setCell_other w5 ⟨w4.heap.size, 4, none⟩ b _ (by show b ≠ w4.heap.size; omega), hg1'.block b (by rw [szAlloc']; omega) (fun e => by cases e), heap_alloc_old w4 _ hb]
              have r6 : w6.cell? ⟨w.heap.size, 4, none⟩ = some (.slice (some ⟨g, o, none⟩) ms.length c2) := (World.cell?_of_block (hk6 w.heap.size (by omega))).trans r4
              rw [← hw6] at y6 own6
              have y64 := (cell_of_row w6 w4.heap.size 4 _ _ _ y6).trans rfl
              have y6f := frozen_of_row w6 w4.heap.size 4 _ _ y6
              have six : ∀ j u, ([.string X, .int .i64 y1, .int .i64 y2, .string y3, .slice p1 y4 p2, .slice p3 y5 p4] : List Value)[j]? = some u → w6.cell? ⟨g, o + j, none⟩ = some u := fun j u hu => (hb6.cell (p := ⟨g, o + j, none⟩) hg).trans (HM6.out j u hu)
              have q0 : w6.cell? ⟨g, o, none⟩ = some (.string X) := six 0 _ rfl
              have q1 := six 1 _ rfl
              have q2 := six 2 _ rfl
              have q3 := six 3 _ rfl
              have q4 := six 4 _ rfl
              have q5 := six 5 _ rfl
              rw [← hw6]
              have HB6 := Lib.hid hb6
              clear six hb6 hown1 hg1 hg1' hat1 x0 x1 x2 hw6 hk6 r4 r4' hnews
              have HN : ((w6.alloc (.cells #[.string X, .int .i64 y1, .int .i64 y2, .string y3, .slice p1 y4 p2, .slice p3 y5 p4] 35)).drew).heap[w6.heap.size]? = some (.cells #[.string X, .int .i64 y1, .int .i64 y2, .string y3, .slice p1 y4 p2, .slice p3 y5 p4] 35 (0, 0)) := heap_alloc_new w6 _
              have y64d : ((w6.alloc (.cells #[.string X, .int .i64 y1, .int .i64 y2, .string y3, .slice p1 y4 p2, .slice p3 y5 p4] 35)).drew).cell? ⟨w4.heap.size, 4, none⟩ = _ := ((((Below.refl w6.heap.size w6).alloc (Nat.le_refl _) _).drew).cell (p := ⟨w4.heap.size, 4, none⟩) (by show w4.heap.size < _; omega)).trans y64
              have ne1 : w4.heap.size ≠ w6.heap.size := by omega
              have ne2 : w.heap.size ≠ w6.heap.size := by omega
              have ne3 : g ≠ w6.heap.size := by omega
              have k0 : (0 : Int) < (ms.length : Int) := by omega
              go_region_law
                (refine step_append_lies _ (by rfl) _ _ _ (by rfl) w.heap.size 35 i0 _ 6 96 Try.underlying23 hi hz0 hz1 hz2 (by rfl) (by decide) (.slice (some ⟨w4.heap.size + 1, 0, none⟩) ms.length cap1) ms.length mcs (by rfl) ((own6.alloc _).drew) ⟨w6.heap.size, 0, none⟩ 1 1 [.string X, .int .i64 y1, .int .i64 y2, .string y3, .slice p1 y4 p2, .slice p3 y5 p4] (by rfl) (by rfl) (World.news_of_block (cs := #[.string X, .int .i64 y1, .int .i64 y2, .string y3, .slice p1 y4 p2, .slice p3 y5 p4]) (t := 35) (fr := (0, 0)) HN) (by simp [Value.oneCell']) (by omega) (by unfold maxLen; omega) (by omega) (by simp; omega) (w6.heap.size + 1) (by simp) ?_; intro g2 cap2 w7 hown2 hg2 hat2 hlt2; have hg2' : ((w6.alloc (.cells #[.string X, .int .i64 y1, .int .i64 y2, .string y3, .slice p1 y4 p2, .slice p3 y5 p4] 35)).drew).grownBy w7 (some (w4.heap.size + 1)) := hg2; have z0 := (hg2'.block w4.heap.size (by simp; omega) (fun e => by have := Option.some.inj e; omega)).trans ((heap_alloc_old w6 (.cells #[.string X, .int .i64 y1, .int .i64 y2, .string y3, .slice p1 y4 p2, .slice p3 y5 p4] 35) (by omega)).trans y6); have z1 := frozen_of_row w7 w4.heap.size 4 _ _ z0; have z2 := (cell_of_row w7 w4.heap.size 4 _ _ _ z0).trans rfl)
              all_goals
                have s7 := hg2'.size
                have s7b : w6.heap.size + 1 ≤ w7.heap.size := by simpa using s7
                have own8 := own_other hown2 z0 (by decide) ⟨w4.heap.size, 4, none⟩ rfl (.slice (some ⟨g2, 0, none⟩) (ms.length + 1) cap2)
                have y8 := heap_setCell_same w7 w4.heap.size 4 _ _ (.slice (some ⟨g2, 0, none⟩) (ms.length + 1) cap2) z0
                obtain ⟨w8, hw8⟩ : ∃ z, z = w7.setCell ⟨w4.heap.size, 4, none⟩ (.slice (some ⟨g2, 0, none⟩) (ms.length + 1) cap2) := ⟨_, rfl⟩
                have hb8 : Below w.heap.size w w8 := by rw [hw8]; exact ((((HB6.out.alloc (by omega) _).drew).grown hg2' (by simp; omega) (fun j hj => by have := Option.some.inj hj; omega))).setCell (by show w.heap.size ≤ w4.heap.size; omega) _
                have s8 : g2 < w8.heap.size := by rw [hw8]; simpa using hlt2
                rw [← hw8] at own8 y8
                have hcells := own8.cells (g := g2) rfl
                have hck := HCY.out w8 g2 cap2 hb8 s8 (fun j u hu => by have := hcells j u hu; rwa [add_off, Nat.zero_add] at this)
                have HCK := Lib.hid hck
                have HB8 := Lib.hid hb8
                have e0 := (cell_of_row w8 w4.heap.size 0 _ _ _ y8).trans rfl
                have e1 := (cell_of_row w8 w4.heap.size 1 _ _ _ y8).trans rfl
                have e2 := (cell_of_row w8 w4.heap.size 2 _ _ _ y8).trans rfl
                have e3 := (cell_of_row w8 w4.heap.size 3 _ _ _ y8).trans rfl
                have e4 := (cell_of_row w8 w4.heap.size 4 _ _ _ y8).trans rfl
                rw [← hw8]
                clear hck hb8 hcells own8 hown2 z0 z1 z2 hw8 y8 own6 y6 y64 y6f q0 q1 q2 q3 q4 q5 HN hg2 hg2' hat2 hlt2 s7
                go_wp2_with fail
                refine HCK.out.mono ?_
                rintro e w9 ⟨rfl, hb9⟩
                have HB9 := Lib.hid (HB8.out.trans (hb9.mono HB8.out.size)); clear hb9
                go_wp2_with fail
                go_ret
                exact ⟨rfl, HB9.out⟩

  · have t1 : (x != 0) = true := by rw [bne_iff_ne]; exact hx
    clear hx
    go_wp2_with fail
    refine (awake_any6 _).mono ?_
    rintro e w3 ⟨rfl, hb3⟩
    have HB3 := Lib.hid (HB2.out.trans (hb3.mono HB2.out.size)); clear hb3
    go_wp2_with fail
    go_ret
    exact ⟨rfl, HB3.out⟩
end Go.Proofs.Ytcbiaflbncfliaa.Em
