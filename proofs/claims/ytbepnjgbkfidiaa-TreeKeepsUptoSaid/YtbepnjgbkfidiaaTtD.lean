import Derived.Test.YtbepnjgbkfidiaaTtB
import Derived.Test.YtbepnjgbkfidiaaTtA
/- With: the member of a name with another value. -/
namespace Go.Proofs.Ytbepnjgbkfidiaa.Tr
open Go.Proofs Go.RowKit Go.Lib
open Go.Proofs.Ytbepnjgbkfidiaa.Utf
open Go.Proofs.Ytbepnjgbkfidiaa.Sc
open Go.Proofs.Ytbepnjgbkfidiaa.Re

theorem gm_of_own {w w' : World} {ns : List (List UInt8)} {ms : List V} {A : Option Addr} {c n T b : Nat} {rows : List (List Value)} (hm : ms.length = n) (hrl : rows.length = n) (hr6 : ∀ r ∈ rows, r.length = 6)
    (hrv : ∀ k (h1 : k < ms.length) (h2 : k < rows.length) (h3 : k < ns.length), ∃ cs, rows[k] = .string (strOf ns[k]) :: cs ∧ RdA w' 0 w.heap.size ms[k] cs) (ho : w'.ownsRow b T 6 (.slice A n c) n rows.flatten) :
    0 < ms.length → ∃ g, A = some ⟨g, 0, none⟩ ∧ b ≤ g ∧ g < w'.heap.size ∧ ∀ k (h1 : k < ms.length) (h2 : k < ns.length), ∃ cs, CellsAt w' g (k * 6) (.string (strOf ns[k]) :: cs) ∧ RdA w' 0 w.heap.size ms[k] cs := fun h0 => by
  obtain ⟨g, e, g1, g2, hc⟩ := own_at ho (by omega)
  refine ⟨g, e, g1, g2, fun k k1 k2 => ?_⟩
  obtain ⟨cs, e2, hr⟩ := hrv k k1 (by omega) k2
  refine ⟨cs, ?_, hr⟩
  have := hc.sub hr6 k (by omega)
  rw [e2, Nat.zero_add] at this
  exact this
/-- the row that was made, behind the copy -/
theorem own_copied {w : World} {g T n base : Nat} {cur : Array Value} {cs : List Value} (hg : w.heap[g]? = some (.cells cur T (0, 0))) (hb : base ≤ g) (hn : n + 1 ≤ maxLen) (hcur : cur.size = (n + 1) * 6) (hl : cs.length = n * 6) :
    (w.setRow g (cs ++ cur.toList.drop cs.length).toArray).ownsRow base T 6 (.slice (some ⟨g, 0, none⟩) n (n + 1)) n cs := by
  refine ⟨hl, .inr ⟨g, n + 1, _, rfl, hb, setRow_heap w g cur _ T (0, 0) hg, by omega, hn, ?_, ?_⟩⟩
  · simp; omega
  · rw [List.toList_toArray, ← hl, List.take_left']
    rfl
/-- a copy of some rows, or of none -/
theorem run_copy_any {P : Program} (w : World) (dT sT ty elem : TypeId) (n g cap sz : Nat) (hu : P.underlying dT = some (.slice elem)) (hsz : (P.info? elem).map (·.size) = some sz) (A : Option Addr) (sCap : Nat) (cur : Array Value) (t : TypeId) (hg : w.heap[g]? = some (.cells cur t (0, 0))) (cs : List Value) (hl : cs.length = n * sz)
    (hA : 0 < n → ∃ ad, A = some ad ∧ ∀ j v, cs[j]? = some v → w.cell? (ad.add j) = some v) (hfit : cs.length ≤ cur.size) (h1 : ∀ v ∈ cs, v.oneCell' = true) :
    (Builtin.copy_ #[dT, sT] ty #[.slice (some ⟨g, 0, none⟩) n cap, .slice A n sCap]).run P w = .ok (goInt n) (w.setRow g (cs ++ cur.toList.drop cs.length).toArray) := by
  by_cases h0 : 0 < n
  · obtain ⟨ad, rfl, hsrc⟩ := hA h0
    have := run_copy_rows (P := P) w dT sT ty elem sz n g 0 n cap ad n sCap cur t cs hu hsz hg (by simp) hl hsrc (by omega) h1
    simpa using this
  · have hn : n = 0 := by omega
    subst hn
    have hcs : cs = [] := List.eq_nil_of_length_eq_zero (by omega)
    subst hcs
    rw [run_copy_zero w dT sT ty elem _ A 0 cap 0 sCap hu (by rw [hsz]; rfl) (by simp)]
    simp only [List.length_nil, List.drop_zero, List.nil_append, Array.toArray_toList]
    rw [setRow_self w g cur t (0, 0) hg]
    rfl
/-- the old members' rows, read in a later world -/
theorem rows_at_new {w w' : World} {ns : List (List UInt8)} {ms : List V} {n0 g : Nat} {rows : List (List Value)} (hn : ns.length = ms.length) (hrl : rows.length = ms.length) (hr6 : ∀ r ∈ rows, r.length = 6)
    (hrv : ∀ k (h1 : k < ms.length) (h2 : k < rows.length) (h3 : k < ns.length), ∃ cs, rows[k] = .string (strOf ns[k]) :: cs ∧ RdA w 0 n0 ms[k] cs) (hk : ∀ p : Addr, p.block < n0 → w'.cell? p = w.cell? p) (hh : n0 ≤ w'.heap.size) (hc : CellsAt w' g 0 rows.flatten) : RdAM w' 0 w'.heap.size g 0 ns ms := by
  refine RdAM.of_items ms ns 0 hn fun k k1 k2 => ?_
  obtain ⟨cs, e, hr⟩ := hrv k k1 (by omega) k2
  refine ⟨cs, ?_, RdA.keep (fun p _ hp => hk p hp) (Nat.zero_le _) hh _ _ hr⟩
  have := hc.sub hr6 k (by omega)
  rw [e] at this
  exact this
theorem szAl3 (w : World) (a b c : Obj) : (((w.alloc a).alloc b).alloc c).heap.size = w.heap.size + 3 := by simp

/-- a list of members, read row by row -/
structure OldM (w1 : World) (n0 : Nat) (A2 : Option Addr) (ns : List (List UInt8)) (ms : List V) (rows : List (List Value)) : Prop where
  nl : ns.length = ms.length
  len : rows.length = ms.length
  six : ∀ r ∈ rows, r.length = 6
  one : ∀ u ∈ rows.flatten, u.oneCell' = true
  src : 0 < ms.length → ∃ ad, A2 = some ad ∧ ad.block < n0 ∧ ∀ j u, rows.flatten[j]? = some u → w1.cell? (ad.add j) = some u
  row : ∀ k (h1 : k < ms.length) (h2 : k < rows.length) (h3 : k < ns.length), ∃ cs, rows[k] = .string (strOf ns[k]) :: cs ∧ RdA w1 0 n0 ms[k] cs
theorem oldM_of {w1 : World} {n0 : Nat} {A2 : Option Addr} {ns : List (List UInt8)} {ms : List V} (hn : ns.length = ms.length) (h : 0 < ms.length → ∃ g o, A2 = some ⟨g, o, none⟩ ∧ 0 ≤ g ∧ g < n0 ∧ RdAM w1 0 n0 g o ns ms) : ∃ rows, OldM w1 n0 A2 ns ms rows := by
  by_cases h0 : 0 < ms.length
  · obtain ⟨g, o, e, _, hg, hr⟩ := h h0
    obtain ⟨rows, r1, r2, r3, r4⟩ := rowsM hn hr
    exact ⟨rows, hn, r1, r2.1, rows_one (s := 6) r3, fun _ => ⟨⟨g, o, none⟩, e, hg, fun j u hu => by rw [Addr.add_lit]; exact rows_flat (by decide) r2 j u hu⟩, r4⟩
  · have e : ms = [] := List.eq_nil_of_length_eq_zero (by omega)
    subst e
    exact ⟨[], hn, rfl, (fun r h => by cases h), (fun u h => by simp at h), (fun h => absurd h h0), fun k h => by simp at h⟩
theorem OldM.flat {w1 : World} {n0 : Nat} {A2 : Option Addr} {ns : List (List UInt8)} {ms : List V} {rows : List (List Value)} (h : OldM w1 n0 A2 ns ms rows) : rows.flatten.length = ms.length * 6 := by rw [flat_len 6 rows h.six, h.len]
theorem OldM.keep {w1 w2 : World} {n0 : Nat} {A2 : Option Addr} {ns : List (List UInt8)} {ms : List V} {rows : List (List Value)} (h : OldM w1 n0 A2 ns ms rows) (hk : ∀ p : Addr, p.block < n0 → w2.cell? p = w1.cell? p) : OldM w2 n0 A2 ns ms rows :=
  ⟨h.nl, h.len, h.six, h.one, fun h0 => by
    obtain ⟨ad, e, hb, hs⟩ := h.src h0
    exact ⟨ad, e, hb, fun j u hu => (hk (ad.add j) (by obtain ⟨b, o, sp⟩ := ad; simp only [Addr.add]; split <;> exact hb)).trans (hs j u hu)⟩, fun k h1 h2 h3 => by
    obtain ⟨cs, e, hr⟩ := h.row k h1 h2 h3
    exact ⟨cs, e, RdA.keep (fun p _ hp => hk p hp) (Nat.le_refl _) (Nat.le_refl _) _ _ hr⟩⟩
/-- the rows behind a store of five cells in one of them -/
theorem set_rows {w4 : World} {n0 g i : Nat} {A2 : Option Addr} {ns : List (List UInt8)} {ms : List V} {rows : List (List Value)} (h : OldM w4 n0 A2 ns ms rows) (hc : CellsAt w4 g 0 rows.flatten) (_ : i < ms.length) (hg : n0 ≤ g) {v0 v1 v2 v3 v4 : Value} {x : V} (hx : RdA w4 0 n0 x [v0, v1, v2, v3, v4]) :
    ∀ k (_ : k < (ms.set i x).length) (_ : k < ns.length), ∃ cs, CellsAt (st5o w4 g (i * 6 + 1) v0 v1 v2 v3 v4) g (k * 6) (.string (strOf ns[k]) :: cs) ∧ RdA (st5o w4 g (i * 6 + 1) v0 v1 v2 v3 v4) 0 n0 (ms.set i x)[k] cs := fun k h1 h2 => by
  have hkm : k < ms.length := by simpa using h1
  obtain ⟨cs, e, hr⟩ := h.row k hkm (by rw [h.len]; exact hkm) h2
  have hk := hc.sub h.six k (by rw [h.len]; exact hkm)
  rw [e, Nat.zero_add] at hk
  have keep : ∀ p : Addr, 0 ≤ p.block → p.block < n0 → (st5o w4 g (i * 6 + 1) v0 v1 v2 v3 v4).cell? p = w4.cell? p := fun p _ hp => cell_of_blk (st5o_other (by omega))
  by_cases hik : i = k
  · subst hik
    refine ⟨[v0, v1, v2, v3, v4], cells_cons.2 ⟨st5o_far (by simp) (cells_cons.1 hk).1, st5o_at (rd_one hr).1 (cells_cons.1 hk).2⟩, ?_⟩
    rw [List.getElem_set_self]
    exact RdA.keep keep (Nat.le_refl _) (Nat.le_refl _) _ _ hx
  · refine ⟨cs, st5o_far ?_ hk, ?_⟩
    · simp only [List.length_cons, (rd_one hr).1]; omega
    · rw [List.getElem_set_ne hik]
      exact RdA.keep keep (Nat.le_refl _) (Nat.le_refl _) _ _ hr
theorem app_rows {w4 w' : World} {n0 : Nat} {A2 : Option Addr} {nm : List UInt8} {ns : List (List UInt8)} {ms : List V} {rows : List (List Value)} (h : OldM w4 n0 A2 ns ms rows) {cx : List Value} {x : V} (hx : RdA w4 0 n0 x cx) (hk : ∀ p : Addr, p.block < n0 → w'.cell? p = w4.cell? p) :
    ∀ k (_ : k < (ms ++ [x]).length) (_ : k < (rows ++ [.string (strOf nm) :: cx]).length) (_ : k < (ns ++ [nm]).length), ∃ cs, (rows ++ [.string (strOf nm) :: cx])[k] = .string (strOf (ns ++ [nm])[k]) :: cs ∧ RdA w' 0 n0 (ms ++ [x])[k] cs := fun k h1 h2 h3 => by
  by_cases hkl : k < ms.length
  · obtain ⟨cs, e, hr⟩ := h.row k hkl (by rw [h.len]; exact hkl) (by rw [h.nl]; exact hkl)
    refine ⟨cs, ?_, ?_⟩
    · rw [List.getElem_append_left (by rw [h.len]; exact hkl), List.getElem_append_left (by rw [h.nl]; exact hkl)]; exact e
    · rw [List.getElem_append_left hkl]; exact RdA.keep (fun p _ hp => hk p hp) (Nat.le_refl _) (Nat.le_refl _) _ _ hr
  · have hk2 : k = ms.length := by simp at h1; omega
    subst hk2
    refine ⟨cx, ?_, ?_⟩
    · rw [List.getElem_append_right (by rw [h.len]; exact Nat.le_refl _), List.getElem_append_right (by rw [h.nl]; exact Nat.le_refl _)]
      simp [h.len, h.nl]
    · rw [List.getElem_append_right (Nat.le_refl _)]
      simp only [Nat.sub_self, List.getElem_cons_zero]
      exact RdA.keep (fun p _ hp => hk p hp) (Nat.le_refl _) (Nat.le_refl _) _ _ hx

set_option maxRecDepth 100000 in
set_option maxHeartbeats 600000 in
theorem With_any (v x : V) (cs cx : List Value) (nm : List UInt8) (w : World) (hv : RdA w 0 w.heap.size v cs) (hx : RdA w 0 w.heap.size x cx) (hz : (inM v).length < 1466015503701) :
    Calls Try.prog 13 #[.agg cs.toArray, .string (strOf nm), .agg cx.toArray] w (GivesM (withN v nm) (withM v nm x) w) := by
  obtain ⟨i0, hi, hz0, hz1, hz2⟩ := info_parts infoMember
  have hlen := in_len hv
  have hWN : withN v nm = if nm ∈ inN v then inN v else inN v ++ [nm] := rfl
  have hWM : withM v nm x = if nm ∈ inN v then (inM v).set ((inN v).idxOf nm) x else inM v ++ [x] := rfl
  generalize withN v nm = WN at hWN ⊢
  generalize withM v nm x = WM at hWM ⊢
  have HWN := Lib.hid hWN; clear hWN
  have HWM := Lib.hid hWM; clear hWM
  have HI := Lib.hid (fun (W : World) (hW : Below w.heap.size w W) => inside_any v cs 0 w.heap.size W (hv.below hW (Nat.le_refl _) (Nat.le_refl _)))
  have HX := Lib.hid hx
  obtain ⟨A0, c0, A20, c20, rfl, -⟩ := hv.cells
  obtain ⟨X0, d0, X20, d20, rfl, -⟩ := hx.cells
  clear hv hx
  generalize v.k = k at *
  generalize v.n = nn at *
  generalize strOf v.s = S at *
  generalize v.l.length = l at *
  generalize v.ms.length = m at *
  generalize x.k = xk at *
  generalize x.n = xn at *
  generalize strOf x.s = XS at *
  generalize x.l.length = xl at *
  generalize x.ms.length = xm at *
  have HLEN := Lib.hid hlen; clear hlen
  obtain ⟨W0, hW0⟩ : ∃ W0, W0 = (((w.alloc (.cells #[.int .i64 k, .int .i64 nn, .string S, .slice A0 l c0, .slice A20 m c20] 25)).alloc (.cells #[.int .i64 xk, .int .i64 xn, .string XS, .slice X0 xl d0, .slice X20 xm d20] 25)).alloc (.cells #[.int .i64 0, .int .i64 0, .string ⟨#[]⟩, .slice none 0 0, .slice none 0 0] 25)) := ⟨_, rfl⟩
  have HW0 := Lib.hid hW0
  have HB0 : Aside (Below w.heap.size w W0) := by rw [hW0]; exact (((Below.refl _ _).alloc (Nat.le_refl _) _).alloc (by simp) _).alloc (by simp; omega) _
  have HS0 : Aside (W0.heap.size = w.heap.size + 3) := by rw [hW0]; exact szAl3 _ _ _ _
  have HR0 : Aside (W0.heap[w.heap.size + 2]? = some (.cells #[.int .i64 0, .int .i64 0, .string ⟨#[]⟩, .slice none 0 0, .slice none 0 0] 25 (0, 0))) := by
    rw [hW0, show w.heap.size + 2 = ((w.alloc (.cells #[.int .i64 k, .int .i64 nn, .string S, .slice A0 l c0, .slice A20 m c20] 25)).alloc (.cells #[.int .i64 xk, .int .i64 xn, .string XS, .slice X0 xl d0, .slice X20 xm d20] 25)).heap.size by simp]; exact heapNew _ _
  have HX0 : Aside (W0.heap[w.heap.size + 1]? = some (.cells #[.int .i64 xk, .int .i64 xn, .string XS, .slice X0 xl d0, .slice X20 xm d20] 25 (0, 0))) := by
    rw [hW0]
    refine heapOld ?_ _
    rw [show w.heap.size + 1 = (w.alloc (.cells #[.int .i64 k, .int .i64 nn, .string S, .slice A0 l c0, .slice A20 m c20] 25)).heap.size by simp]; exact heapNew _ _
  clear hW0
  go_enter Try.func13, Try.ntmps13
  go_wp2_with fail
  rw [← HW0.out]
  refine (HI.out _ HB0.out).mono ?_
  rintro e w1 ⟨⟨A, c, A2, c2, rfl, -, hM⟩, hb1⟩
  have HB1 : Aside (Below w.heap.size w w1) := HB0.out.trans (hb1.mono HB0.out.size)
  have HR1 : Aside _ := (hb1.block (w.heap.size + 2) (by rw [HS0.out]; omega)).trans HR0.out
  have HX1 : Aside _ := (hb1.block (w.heap.size + 1) (by rw [HS0.out]; omega)).trans HX0.out
  have HS1 : Aside (w.heap.size + 3 ≤ w1.heap.size) := by have := hb1.size; rw [HS0.out] at this; exact this
  obtain ⟨rows, hold⟩ := oldM_of HLEN.out hM
  have HO := Lib.hid (hold.keep (fun p hp => hb1.cell (p := p) (by rw [HS0.out]; omega)))
  clear hM hb1 HI HB0 HR0 HX0 hold
  obtain ⟨ns, hns⟩ : ∃ ns, inN v = ns := ⟨_, rfl⟩
  obtain ⟨ms, hms⟩ : ∃ ms, inM v = ms := ⟨_, rfl⟩
  rw [hns, hms] at HO HWM HLEN
  rw [hns] at HWN
  rw [hms] at hz ⊢
  clear hns hms
  obtain ⟨len, hln⟩ : ∃ len, ms.length = len := ⟨_, rfl⟩
  have HLN := Lib.hid hln
  rw [hln] at hz ⊢
  clear hln
  generalize (inL v).length = ll at *
  have k0 : (0 : Int) ≤ (len : Int) := by omega
  have k1 : (len : Int) + 1 < 1466015503702 := by omega
  obtain ⟨M, hMM⟩ : ∃ M, madeCells (Value.agg #[.string ByteArray.empty, .int .i64 0, .int .i64 0, .string ByteArray.empty, .slice none 0 0, .slice none 0 0]).cells ((len + 1) * 6) = M := ⟨_, rfl⟩
  have hmk : ∀ W : World, (Instr.makeSlice 23 (.int .i64 (len : Int)) (.int .i64 ((len : Int) + 1))).run Try.prog W = .ok (.slice (some ⟨W.heap.size, 0, none⟩) len (len + 1)) (W.alloc (.cells M 50)) := fun W => by
    have := run_make W 23 50 i0 _ Try.underlying23 hi hz0 .i64 .i64 (len : Int) ((len : Int) + 1) k0 (by omega) (by rw [hz2]; omega) (by omega)
    rw [hz1] at this
    rw [← hMM]
    simpa using this
  have HMS : Aside (M.size = (len + 1) * 6) := by rw [← hMM]; exact size_madeCells _ _
  have hfl : rows.flatten.length = len * 6 := by rw [HO.out.flat, HLN.out]
  have hs6 : (Try.prog.info? 50).map (·.size) = some 6 := by rw [hi]; exact congrArg some hz1
  have HG2 : Aside ((w1.alloc (.cells M 50)).heap[w1.heap.size]? = some (.cells M 50 (0, 0))) := heapNew _ _
  obtain ⟨W3, hW3⟩ : ∃ W3, (w1.alloc (.cells M 50)).setRow w1.heap.size (rows.flatten ++ M.toList.drop rows.flatten.length).toArray = W3 := ⟨_, rfl⟩
  have HW3 := Lib.hid hW3
  have HFL := Lib.hid hfl
  have HOWN : Aside (W3.ownsRow w1.heap.size 50 6 (.slice (some ⟨w1.heap.size, 0, none⟩) len (len + 1)) len rows.flatten) := by rw [← hW3]; exact own_copied HG2.out (Nat.le_refl _) (by unfold maxLen; omega) HMS.out hfl
  have HB3 : Aside (Below w.heap.size w W3) := by rw [← hW3]; exact below_setRow (HB1.out.alloc (by have := HS1.out; omega) _) (by have := HS1.out; omega) _
  have HS3 : Aside (w1.heap.size < W3.heap.size) := (show w1.heap.size < W3.heap.size from by rw [← hW3]; simp)
  have HK3 : Aside (∀ k, k < w1.heap.size → W3.heap[k]? = w1.heap[k]?) := (show ∀ _, _ from fun k hk => by rw [← hW3, setRow_other _ _ _ _ (by omega)]; exact Below.heap_alloc w1 _ k hk)
  have hcp : (Builtin.copy_ #[23, 23] 3 #[.slice (some ⟨w1.heap.size, 0, none⟩) len (len + 1), .slice A2 len c2]).run Try.prog (w1.alloc (.cells M 50)) = .ok (goInt len) W3 := by
    rw [← hW3]
    refine run_copy_any _ _ _ _ 50 len w1.heap.size (len + 1) 6 Try.underlying23 hs6 A2 c2 M _ HG2.out rows.flatten hfl (fun hpos => ?_) (by rw [hfl, HMS.out]; omega) HO.out.one
    obtain ⟨ad, e, hb, hsrc⟩ := HO.out.src (by rw [HLN.out]; exact hpos)
    exact ⟨ad, e, fun j u hu => Lib.cell?_alloc_some _ (hsrc j u hu)⟩
  have HR3 : Aside _ := (HK3.out (w.heap.size + 2) (by have := HS1.out; omega)).trans HR1.out
  have HX3 : Aside _ := (HK3.out (w.heap.size + 1) (by have := HS1.out; omega)).trans HX1.out
  have hOld3 := HO.out.keep (w2 := W3) (fun p hp => cell_of_blk (HK3.out p.block (by have := HS1.out; omega)))
  have hmem : 0 < ms.length → ∃ g o, some (⟨w1.heap.size, 0, none⟩ : Addr) = some ⟨g, o, none⟩ ∧ 0 ≤ g ∧ g < W3.heap.size ∧ RdAM W3 0 W3.heap.size g o ns ms := fun h0 => by
    rw [HLN.out] at h0
    obtain ⟨g, e, _, g2, hc⟩ := own_at HOWN.out h0
    refine ⟨g, 0, e, Nat.zero_le _, g2, rows_at_new hOld3.nl hOld3.len hOld3.six hOld3.row (fun _ _ => rfl) HB3.out.size hc⟩
  obtain ⟨d, hd⟩ := mems_of hOld3.nl hmem
  have HD := Lib.hid hd
  have HO3 := Lib.hid hOld3
  have HPL := Lib.hid (place_any (some ⟨w1.heap.size, 0, none⟩) len (len + 1) d (hd.1.trans HLN.out) (by omega) nm W3 (fun h => by
    obtain ⟨g, o, e, _, g2, hr⟩ := hd.2.2.1 h
    exact ⟨g, o, e, g2, hr⟩))
  clear hMM hW3 hfl hmem hd hOld3 HR1 HX1
  go_wp2_with fail
  refine HPL.out.mono ?_
  rintro e w4 ⟨rfl, hb4⟩
  have HR4 : Aside _ := (hb4.block (w.heap.size + 2) (by have := HS1.out; have := HS3.out; omega)).trans HR3.out
  have HX4 : Aside _ := (hb4.block (w.heap.size + 1) (by have := HS1.out; have := HS3.out; omega)).trans HX3.out
  have HOWN4 : Aside (w4.ownsRow w1.heap.size 50 6 (.slice (some ⟨w1.heap.size, 0, none⟩) len (len + 1)) len rows.flatten) := by
    obtain ⟨q1, q⟩ := HOWN.out
    refine ⟨q1, ?_⟩
    rcases q with q | ⟨g, cap, cur, e, q3, q4, q5⟩
    · exact .inl q
    · exact .inr ⟨g, cap, cur, e, q3, (hb4.block g (Array.getElem?_eq_some_iff.1 q4).1).trans q4, q5⟩
  have HB4 : Aside (Below w.heap.size w w4) := HB3.out.trans (hb4.mono HB3.out.size)
  have HS4 := Lib.hid (show w1.heap.size < w4.heap.size from Nat.lt_of_lt_of_le HS3.out hb4.size)
  have HO4 := Lib.hid (HO3.out.keep (fun p hp => hb4.cell (p := p) (Nat.lt_of_lt_of_le hp HB3.out.size)))
  obtain ⟨⟨x0, x1, x2, x3, x4⟩, -⟩ := row5 HX4.out
  have hns : d.map M6.nm = ns := HD.out.2.1
  clear hb4 HR3 HX3 HPL hcp hmk HO HO3 HK3 HOWN
  have I0 := Lib.hid hi
  have I1 := Lib.hid hz0
  have I2 := Lib.hid hz1
  have I3 := Lib.hid hz2
  clear hi hz0 hz1 hz2 hs6
  by_cases hin : nm ∈ ns
  · have hlt := List.idxOf_lt_length_of_mem hin
    obtain ⟨i, hi⟩ : ∃ i, ns.idxOf nm = i := ⟨_, rfl⟩
    have hp : plc (d.map M6.nm) nm = (i : Int) := by rw [hns]; unfold plc; rw [if_pos hin, hi]
    rw [hp]
    have hil : i < len := by rw [hi, HLEN.out, HLN.out] at hlt; exact hlt
    have HWN2 := Lib.hid (HWN.out.trans (if_pos hin))
    have HWM2 := Lib.hid (HWM.out.trans ((if_pos hin).trans (by rw [hi])))
    have t1 : decide ((i : Int) < 0) = false := decide_eq_false (by omega)
    have t1b : decide (0 ≤ (i : Int)) = true := decide_eq_true (by omega)
    have k2 : ((i : Int)).toNat = i := by omega
    have k3 : (0 : Int) ≤ (i : Int) := by omega
    have k4 : (i : Int) < (len : Int) := by omega
    obtain ⟨g4, e4, -, -, hc4⟩ := own_at HOWN4.out (by omega)
    injection e4 with e4
    injection e4 with e4
    subst e4
    have hrow := Lib.hid <| hc4.sub HO4.out.six i (by rw [HO4.out.len, HLN.out]; exact hil)
    have HC4 := Lib.hid hc4
    clear hp hns hin hi hlt hc4
    obtain ⟨cc, ecc, hcc⟩ := HO4.out.row i (by rw [HLN.out]; exact hil) (by rw [HO4.out.len, HLN.out]; exact hil) (by rw [HLEN.out, HLN.out]; exact hil)
    obtain ⟨C0, e0', C20, e20', ecc2, -⟩ := hcc.cells
    have hrow2 := hrow.out
    rw [ecc, Nat.zero_add] at hrow2
    have hrow3 := (cells_cons.1 hrow2).2
    have HROW := Lib.hid hrow3
    rw [ecc2] at hrow3
    obtain ⟨a0, f0⟩ := hrow3 0 _ rfl
    obtain ⟨a1, f1⟩ := hrow3 1 _ rfl
    obtain ⟨a2, f2⟩ := hrow3 2 _ rfl
    obtain ⟨a3, f3⟩ := hrow3 3 _ rfl
    obtain ⟨a4, f4⟩ := hrow3 4 _ rfl
    simp only [Nat.add_zero] at a0 f0
    have HHZ := Lib.hid hz
    have HWB := Lib.hid (show w.heap.size + 1 + 1 ≠ w1.heap.size by have := HS1.out; omega)
    obtain ⟨W5, hW5⟩ : ∃ W5, W5 = st5o w4 w1.heap.size (i * 6 + 1) (.int .i64 xk) (.int .i64 xn) (.string XS) (.slice X0 xl d0) (.slice X20 xm d20) := ⟨_, rfl⟩
    have hW5' : ((((w4.setCell ⟨w1.heap.size, i * 6 + 1, none⟩ (.int .i64 xk)).setCell ⟨w1.heap.size, i * 6 + 1 + 1, none⟩ (.int .i64 xn)).setCell ⟨w1.heap.size, i * 6 + 1 + 2, none⟩ (.string XS)).setCell ⟨w1.heap.size, i * 6 + 1 + 3, none⟩ (.slice X0 xl d0)).setCell ⟨w1.heap.size, i * 6 + 1 + 4, none⟩ (.slice X20 xm d20) = W5 := hW5.symm
    have hr5 := (st5o_other (v0 := .int .i64 xk) (v1 := .int .i64 xn) (v2 := .string XS) (v3 := .slice X0 xl d0) (v4 := .slice X20 xm d20) (o := i * 6 + 1) (show w.heap.size + 2 ≠ w1.heap.size from HWB.out)).trans HR4.out
    rw [← hW5] at hr5
    have HR5 := Lib.hid hr5
    clear hr5
    obtain ⟨⟨z0, z1, z2, z3, z4⟩, ⟨y0, y1, y2, y3, y4⟩⟩ := row5 HR5.out
    have HW5 := Lib.hid hW5
    clear hrow3 hrow2 ecc ecc2 hcc k1 k0 hz hW5
    go_wp2
    refine bodyPost_ret (res5 rfl rfl (st5_row HR5.out (.int .i64 6) (.int .i64 0) (.string ⟨#[]⟩) (.slice none 0 0) (.slice (some ⟨w1.heap.size, 0, none⟩) len (len + 1)))) rfl ?_
    have hml : WM.length = len := by rw [HWM2.out]; simpa using HLN.out
    have hb5 : Below w.heap.size w W5 := HB4.out.trans (by rw [HW5.out]; exact below_grown st5o_grown (by have := HS1.out; omega) HB4.out.size)
    have hxx := RdA.keep (fun p _ hp => HB4.out.cell (p := p) hp) (Nat.le_refl _) (Nat.le_refl _) _ _ HX.out
    have hset := set_rows HO4.out HC4.out (by rw [HLN.out]; exact hil) (by have := HS1.out; omega) hxx
    rw [← HWM2.out, ← HW5.out] at hset
    refine ⟨⟨some ⟨w1.heap.size, 0, none⟩, len + 1, by rw [hml], by rw [HWN2.out, hml, HLEN.out, HLN.out], fun _ => ⟨w1.heap.size, rfl, by have := HS1.out; omega, ?_, fun kk h1 h2 => ?_⟩⟩, st5_below hb5 (by omega) _ _ _ _ _⟩
    · exact Nat.lt_of_lt_of_eq (show w1.heap.size < W5.heap.size by rw [HW5.out, st5o_size]; exact HS4.out) (st5_size (w := W5) (b := w.heap.size + 2) _ _ _ _ _).symm
    · obtain ⟨cs, q1, q2⟩ := hset kk h1 (by rw [← HWN2.out]; exact h2)
      refine ⟨cs, ?_, ?_⟩
      · simp only [HWN2.out]
        exact q1.keep (st5_other (by have := HS1.out; omega) _ _ _ _ _)
      · exact RdA.keep (fun p _ hp => cell_of_blk (st5_other (by omega) _ _ _ _ _)) (Nat.le_refl _) (Nat.le_refl _) _ _ q2
  · have hp : plc (d.map M6.nm) nm = -1 := by rw [hns]; unfold plc; rw [if_neg hin]
    rw [hp]
    have HWN2 := Lib.hid (HWN.out.trans (if_neg hin))
    have HWM2 := Lib.hid (HWM.out.trans (if_neg hin))
    have HHZ := Lib.hid hz
    clear hns hin hp k0 k1 hz
    have NEW : ∀ j u, [Value.string (strOf nm), .int .i64 xk, .int .i64 xn, .string XS, .slice X0 xl d0, .slice X20 xm d20][j]? = some u → (w4.alloc (.cells #[.string (strOf nm), .int .i64 xk, .int .i64 xn, .string XS, .slice X0 xl d0, .slice X20 xm d20] 50)).cell? ((⟨w4.heap.size, 0, none⟩ : Addr).add j) = some u := fun j u hu => by
      rw [Addr.add_lit, Nat.zero_add]; unfold World.cell?; rw [heapNew]; simpa using hu
    have HNEW := Lib.hid NEW; clear NEW
    go_wp2_with (at_builtin; refine wpList_append_own _ rfl _ _ 23 rfl w1.heap.size 50 i0 _ 6 96 Try.underlying23 I0.out I1.out I2.out I3.out rfl (by decide) _ len rows.flatten rfl (HOWN4.out.alloc _) ⟨w4.heap.size, 0, none⟩ 1 1 [Value.string (strOf nm), .int .i64 xk, .int .i64 xn, .string XS, .slice X0 xl d0, .slice X20 xm d20] rfl rfl HNEW.out ?qc3 ?qc4 ?qc5 ?qc6 ?_)
    case qc3 => simp [Value.oneCell']
    case qc4 => have := HHZ.out; unfold maxLen; omega
    case qc5 => have := HHZ.out; omega
    case qc6 => have := HS4.out; simp; omega
    intro v' w5 hown hgrow hnil
    obtain ⟨A', c', rfl⟩ := own_is_slice hown
    have HO5 := Lib.hid hown
    have HG5 := Lib.hid (show Below w.heap.size w w5 from (HB4.out.alloc HB4.out.size _).trans (below_grown (pb := w1.heap.size) hgrow (by have := HS1.out; omega) (by have := HB4.out.size; simp; omega)))
    have hr5 := (hgrow.block (w.heap.size + 2) (by have := HS1.out; have := HS4.out; rw [szAl]; omega) (by have := HS1.out; simp [Value.ownBlock]; omega)).trans (heapOld HR4.out _)
    have HR5 := Lib.hid hr5
    obtain ⟨⟨z0, z1, z2, z3, z4⟩, ⟨y0, y1, y2, y3, y4⟩⟩ := row5 HR5.out
    clear hown hgrow hnil hr5
    go_wp2
    refine bodyPost_ret (res5 rfl rfl (st5_row HR5.out (.int .i64 6) (.int .i64 0) (.string ⟨#[]⟩) (.slice none 0 0) (.slice A' (len + 1) c'))) rfl ?_
    have hml : WM.length = len + 1 := by rw [HWM2.out]; simpa using HLN.out
    have hxx := RdA.keep (fun p _ hp => HB4.out.cell (p := p) hp) (Nat.le_refl _) (Nat.le_refl _) _ _ HX.out
    have hap := app_rows (nm := nm) (w' := w5) HO4.out hxx (fun p hp => (HG5.out.cell (p := p) hp).trans (HB4.out.cell (p := p) hp).symm)
    have hown := HO5.out
    rw [show rows.flatten ++ [Value.string (strOf nm), .int .i64 xk, .int .i64 xn, .string XS, .slice X0 xl d0, .slice X20 xm d20] = (rows ++ [[Value.string (strOf nm), .int .i64 xk, .int .i64 xn, .string XS, .slice X0 xl d0, .slice X20 xm d20]]).flatten by simp] at hown
    have hgm := gm_of_own (w := w) (ms := ms ++ [x]) (ns := ns ++ [nm]) (by simp [HLN.out]) (by simp [HO4.out.len, HLN.out]) (by
      intro r hr
      rcases List.mem_append.1 hr with h | h
      · exact HO4.out.six r h
      · rw [List.mem_singleton.1 h]; rfl) hap hown
    rw [← HWM2.out] at hgm
    refine ⟨⟨A', c', by rw [hml], by rw [HWN2.out, hml]; simp [HLEN.out, HLN.out], fun h0 => ?_⟩, st5_below HG5.out (by omega) _ _ _ _ _⟩
    obtain ⟨g, e, g1, g2, hk⟩ := hgm h0
    refine ⟨g, e, by have := HS1.out; omega, Nat.lt_of_lt_of_eq g2 (st5_size (w := w5) (b := w.heap.size + 2) _ _ _ _ _).symm, fun kk h1 h2 => ?_⟩
    obtain ⟨cs, q1, q2⟩ := hk kk h1 (by rw [← HWN2.out]; exact h2)
    refine ⟨cs, ?_, ?_⟩
    · simp only [HWN2.out]
      exact q1.keep (st5_other (by have := HS1.out; omega) _ _ _ _ _)
    · exact RdA.keep (fun p _ hp => cell_of_blk (st5_other (by omega) _ _ _ _ _)) (Nat.le_refl _) (Nat.le_refl _) _ _ q2
end Go.Proofs.Ytbepnjgbkfidiaa.Tr
/- Without: the members but those of a name. -/
namespace Go.Proofs.Ytbepnjgbkfidiaa.Tr
open Go.Proofs Go.RowKit Go.Lib
open Go.Proofs.Ytbepnjgbkfidiaa.Utf
open Go.Proofs.Ytbepnjgbkfidiaa.Sc
open Go.Proofs.Ytbepnjgbkfidiaa.Re

/-- the kept ones of the first k members -/
def kept (pd : List (M6 × V)) (nm : List UInt8) (k : Nat) : List (M6 × V) := (pd.take k).filter fun p => p.1.nm ≠ nm
def rowsK (l : List (M6 × V)) : List (List Value) := l.map fun p => encM p.1
theorem kept_no {pd : List (M6 × V)} {nm : List UInt8} {k : Nat} (hk : k < pd.length) (h : pd[k].1.nm = nm) : kept pd nm (k + 1) = kept pd nm k := by
  unfold kept
  rw [List.take_succ_eq_append_getElem hk, List.filter_append]
  simp [h]
theorem kept_yes {pd : List (M6 × V)} {nm : List UInt8} {k : Nat} (hk : k < pd.length) (h : pd[k].1.nm ≠ nm) : kept pd nm (k + 1) = kept pd nm k ++ [pd[k]] := by
  unfold kept
  rw [List.take_succ_eq_append_getElem hk, List.filter_append]
  simp [h]
theorem kept_le (pd : List (M6 × V)) (nm : List UInt8) (k : Nat) : (kept pd nm k).length ≤ k := by
  unfold kept
  exact Nat.le_trans (List.length_filter_le _ _) (by simp; omega)
theorem rows_snoc (l : List (M6 × V)) (p : M6 × V) : (rowsK (l ++ [p])).flatten = (rowsK l).flatten ++ encM p.1 := by simp [rowsK]
theorem zip_filter (nm : List UInt8) : ∀ (d : List M6) (ms : List V), (((d.map M6.nm).zip ms).filter fun p => p.1 ≠ nm).map Prod.fst = ((d.zip ms).filter fun p => p.1.nm ≠ nm).map (fun p => p.1.nm) ∧ (((d.map M6.nm).zip ms).filter fun p => p.1 ≠ nm).map Prod.snd = ((d.zip ms).filter fun p => p.1.nm ≠ nm).map Prod.snd
  | [], ms => by simp
  | x :: d, [] => by simp
  | x :: d, v :: ms => by
    have ih := zip_filter nm d ms
    by_cases h : x.nm = nm
    · simp only [List.map_cons, List.zip_cons_cons, List.filter_cons, h, ne_eq, not_true_eq_false, decide_false, Bool.false_eq_true, if_false]
      exact ih
    · simp only [List.map_cons, List.zip_cons_cons, List.filter_cons, h, ne_eq, not_false_eq_true, decide_true, if_true, List.map_cons]
      exact ⟨by rw [ih.1], by rw [ih.2]⟩
set_option maxRecDepth 100000 in
set_option maxHeartbeats 600000 in
theorem Without_any (v : V) (cs : List Value) (nm : List UInt8) (w : World) (hv : RdA w 0 w.heap.size v cs) (hz : (inM v).length < 1466015503701) :
    Calls Try.prog 15 #[.agg cs.toArray, .string (strOf nm)] w (GivesM (woN v nm) (woM v nm) w) := by
  obtain ⟨i0, hi, hz0, hz1, hz2⟩ := info_parts infoMember
  have I0 := Lib.hid hi
  have I1 := Lib.hid hz0
  have I2 := Lib.hid hz1
  have I3 := Lib.hid hz2
  clear hi hz0 hz1 hz2
  have hlen := in_len hv
  have hWN : woN v nm = (((inN v).zip (inM v)).filter fun p => p.1 ≠ nm).map Prod.fst := rfl
  have hWM : woM v nm = (((inN v).zip (inM v)).filter fun p => p.1 ≠ nm).map Prod.snd := rfl
  generalize woN v nm = WN at hWN ⊢
  generalize woM v nm = WM at hWM ⊢
  have HWN := Lib.hid hWN; clear hWN
  have HWM := Lib.hid hWM; clear hWM
  have HI := Lib.hid (fun (W : World) (hW : Below w.heap.size w W) => inside_any v cs 0 w.heap.size W (hv.below hW (Nat.le_refl _) (Nat.le_refl _)))
  obtain ⟨A0, c0, A20, c20, rfl, -⟩ := hv.cells
  clear hv
  generalize v.k = k at *
  generalize v.n = nn at *
  generalize strOf v.s = S at *
  generalize v.l.length = l at *
  generalize v.ms.length = m at *
  have HLEN := Lib.hid hlen; clear hlen
  obtain ⟨W0, hW0⟩ : ∃ W0, W0 = ((w.alloc (.cells #[.int .i64 k, .int .i64 nn, .string S, .slice A0 l c0, .slice A20 m c20] 25)).alloc (.cells #[.int .i64 0, .int .i64 0, .string ⟨#[]⟩, .slice none 0 0, .slice none 0 0] 25)) := ⟨_, rfl⟩
  have HW0 := Lib.hid hW0
  have HB0 : Aside (Below w.heap.size w W0) := by rw [hW0]; exact ((Below.refl _ _).alloc (Nat.le_refl _) _).alloc (by simp) _
  have HS0 : Aside (W0.heap.size = w.heap.size + 2) := (show W0.heap.size = _ from by rw [hW0, szAl, szAl])
  have HR0 : Aside (W0.heap[w.heap.size + 1]? = some (.cells #[.int .i64 0, .int .i64 0, .string ⟨#[]⟩, .slice none 0 0, .slice none 0 0] 25 (0, 0))) := by
    rw [hW0, show w.heap.size + 1 = (w.alloc (.cells #[.int .i64 k, .int .i64 nn, .string S, .slice A0 l c0, .slice A20 m c20] 25)).heap.size by simp]; exact heapNew _ _
  clear hW0
  go_enter Try.func15, Try.ntmps15
  go_wp2_with fail
  rw [← HW0.out]
  refine (HI.out _ HB0.out).mono ?_
  rintro e w1 ⟨⟨A, c, A2, c2, rfl, -, hM⟩, hb1⟩
  have HB1 : Aside (Below w.heap.size w w1) := HB0.out.trans (hb1.mono HB0.out.size)
  have HR1 : Aside _ := (hb1.block (w.heap.size + 1) (by rw [HS0.out]; omega)).trans HR0.out
  have HS1 : Aside (w.heap.size + 2 ≤ w1.heap.size) := by have := hb1.size; rw [HS0.out] at this; exact this
  obtain ⟨d, hd⟩ := mems_of HLEN.out hM
  obtain ⟨pd, hpd⟩ : ∃ pd, pd = d.zip (inM v) := ⟨_, rfl⟩
  have hpl : pd.length = (inM v).length := by rw [hpd, List.length_zip, hd.1]; omega
  have HV : Aside (∀ p ∈ pd, RdA w1 0 w.heap.size p.2 (m6tail p.1)) := (show ∀ _ _, _ from fun p hp => by
    rw [hpd] at hp
    obtain ⟨i, hi, e⟩ := List.getElem_of_mem hp
    rw [List.getElem_zip] at e
    subst e
    have hi2 : i < d.length ∧ i < (inM v).length := by simpa [Nat.lt_min] using hi
    exact RdA.keep (fun p _ hp => (hb1.cell (p := p) (by rw [HS0.out]; omega))) (Nat.le_refl _) (Nat.le_refl _) _ _ (hd.2.2.2 i hi2.1 hi2.2))
  have HWN2 : Aside (WN = (kept pd nm pd.length).map fun p => p.1.nm) := by
    unfold kept; rw [HWN.out, ← hd.2.1, (zip_filter nm d (inM v)).1, hpd, List.take_length]; trivial
  have HWM2 : Aside (WM = (kept pd nm pd.length).map Prod.snd) := by
    unfold kept; rw [HWM.out, ← hd.2.1, (zip_filter nm d (inM v)).2, hpd, List.take_length]; trivial
  have HA : Aside (0 < pd.length → ∃ b off, A2 = some ⟨b, off, none⟩ ∧ b < w.heap.size ∧ ∀ i (h : i < pd.length), M6At w1 b (off + i * 6) pd[i].1) := (show _ → _ from fun h => by
    obtain ⟨g, o, e, _, g2, hr⟩ := hd.2.2.1 (by rw [hd.1]; omega)
    refine ⟨g, o, e, g2, fun i hi => ?_⟩
    have hi2 : i < d.length := by rw [hd.1]; omega
    have : pd[i].1 = d[i] := by simp [hpd]
    rw [this]
    exact (hr i hi2).keep fun j => hb1.cell (p := ⟨g, j, none⟩) (by show g < _; rw [HS0.out]; omega))
  clear hM hb1 HI HB0 HR0 hd hpd
  obtain ⟨len, hln⟩ : ∃ len, (inM v).length = len := ⟨_, rfl⟩
  have HLN : Aside (pd.length = len) := hpl.trans hln
  rw [hln] at hz ⊢
  clear hln hpl
  generalize (inL v).length = ll at *
  have HHZ := Lib.hid hz
  clear hz
  go_wp2_with fail
  go_loopw [7, 17] (fun a si wr => ∃ k : Nat, si = .int .i64 k ∧ k ≤ len ∧ Aside (wr.ownsRow w1.heap.size 50 6 a (kept pd nm k).length (rowsK (kept pd nm k)).flatten) ∧ Aside (Below w1.heap.size w1 wr)) (fun _ si _ => len - (intOf si).toNat)
  case atStart => exact ⟨0, rfl, by omega, (show World.ownsRow _ _ _ _ _ _ _ from World.ownsRow_nil _ _ _ _), (show Below _ _ _ from Below.refl _ _)⟩
  case round =>
    obtain ⟨k, rfl, hk, hown, hbel⟩ := hrel
    by_cases hlt : k < len
    · have t1 : decide ((k : Int) < (len : Int)) = true := decide_eq_true (by omega)
      have t2 : decide (k < len) = true := decide_eq_true hlt
      have k0 : (0 : Int) ≤ (k : Int) := by omega
      have k1 : (k : Int) < (len : Int) := by omega
      have k2 : ((k : Int)).toNat = k := by omega
      have hz := HHZ.out
      have hkl : k < pd.length := by rw [HLN.out]; exact hlt
      obtain ⟨b, off, rfl, hb, hc⟩ := HA.out (by omega)
      have hx := (hc k hkl).keep (W' := wr) (fun j => hbel.out.cell (p := ⟨b, j, none⟩) (by show b < _; have := HB1.out.size; omega))
      clear hc
      have HOW := Lib.hid hown.out
      clear hown
      by_cases hxn : pd[k].1.nm = nm
      · have HK := Lib.hid (kept_no hkl hxn)
        have hq : ((strOf pd[k].1.nm).toList == (strOf nm).toList) = true := by rw [hxn]; exact beq_self_eq_true _
        generalize pd[k] = x at hx hq
        obtain ⟨⟨xx, xk, xn, xs, xA, xl, xc, xB, xm, xd⟩, xv⟩ := x
        simp only [M6At] at hx
        obtain ⟨a0, a1, a2, a3, a4, a5⟩ := hx
        simp only at hq
        clear hxn
        generalize strOf xx = X at *
        go_wp2
        go_roundw
        case rel =>
          refine ⟨k + 1, by go_num, by omega, ?_, ?_⟩
          · rw [HK.out]; exact HOW.out.alloc _
          · exact (show Below _ _ _ from hbel.out.alloc hbel.out.size _)
        case measure => simp [intOf]; omega
      · have HK := Lib.hid (kept_yes hkl hxn)
        have hq : ((strOf pd[k].1.nm).toList == (strOf nm).toList) = false := by
          rw [beq_eq_false_iff_ne]
          intro h
          rw [strOf_list, strOf_list] at h
          exact hxn h
        generalize pd[k] = x at hx hq HK
        obtain ⟨⟨xx, xk, xn, xs, xA, xl, xc, xB, xm, xd⟩, xv⟩ := x
        simp only [M6At] at hx
        obtain ⟨a0, a1, a2, a3, a4, a5⟩ := hx
        simp only at hq
        clear hxn
        have HLE := Lib.hid (kept_le pd nm k)
        generalize hkp : kept pd nm k = kp at *
        have HKP := Lib.hid hkp
        clear hkp
        have hsn := rows_snoc kp (⟨xx, xk, xn, xs, xA, xl, xc, xB, xm, xd⟩, xv)
        simp only [encM] at hsn
        have HSN := Lib.hid hsn
        clear hsn
        generalize strOf xx = X at *
        have NEW : ∀ j u, [Value.string X, .int .i64 xk, .int .i64 xn, .string xs, .slice xA xl xc, .slice xB xm xd][j]? = some u → ((wr.alloc (.cells #[.string X, .int .i64 xk, .int .i64 xn, .string xs, .slice xA xl xc, .slice xB xm xd] 50)).alloc (.cells #[.string X, .int .i64 xk, .int .i64 xn, .string xs, .slice xA xl xc, .slice xB xm xd] 50)).cell? ((⟨wr.heap.size + 1, 0, none⟩ : Addr).add j) = some u := fun j u hu => by
          rw [Addr.add_lit, Nat.zero_add]; unfold World.cell?; rw [← szAl wr (.cells #[.string X, .int .i64 xk, .int .i64 xn, .string xs, .slice xA xl xc, .slice xB xm xd] 50), heapNew]; simpa using hu
        have HNEW := Lib.hid NEW; clear NEW
        go_wp2_with (at_builtin; refine wpList_append_own _ rfl _ _ 23 rfl w1.heap.size 50 i0 _ 6 96 Try.underlying23 I0.out I1.out I2.out I3.out rfl (by decide) u7 kp.length (rowsK kp).flatten rfl ((HOW.out.alloc _).alloc _) ⟨wr.heap.size + 1, 0, none⟩ 1 1 [Value.string X, .int .i64 xk, .int .i64 xn, .string xs, .slice xA xl xc, .slice xB xm xd] rfl rfl HNEW.out ?qc3 ?qc4 ?qc5 ?qc6 ?_)
        case qc3 => simp [Value.oneCell']
        case qc4 => have := HHZ.out; have := HLE.out; unfold maxLen; omega
        case qc5 => have := HHZ.out; have := HLE.out; omega
        case qc6 => have := hbel.out.size; simp; omega
        intro v' w5 hown hgrow hnil
        have HO5 := Lib.hid hown
        have HG5 := Lib.hid (show Below w1.heap.size w1 w5 from Below.grown ((hbel.out.alloc hbel.out.size _).alloc (by have := hbel.out.size; rw [szAl]; omega) _) hgrow (by have := hbel.out.size; rw [szAl, szAl]; omega) (fun g hg => (HOW.out.lt g hg).1))
        clear hown hgrow hnil
        go_wp2
        go_roundw
        case rel =>
          refine ⟨k + 1, by go_num, by omega, ?_, (show Below _ _ _ from HG5.out)⟩
          rw [HK.out, List.length_append, HSN.out]
          exact (show World.ownsRow _ _ _ _ _ _ _ from HO5.out)
        case measure => simp [intOf]; omega
    · have t1 : decide ((k : Int) < (len : Int)) = false := decide_eq_false (by omega)
      have t2 : decide (k < len) = false := decide_eq_false hlt
      have hkn : k = pd.length := by have := HLN.out; omega
      have HOW := Lib.hid hown.out
      rw [hkn] at HOW
      clear hown
      obtain ⟨A', c', rfl⟩ := own_is_slice HOW.out
      have hr1 := (hbel.out.block (w.heap.size + 1) (by have := HS1.out; omega)).trans HR1.out
      have HR := Lib.hid hr1
      obtain ⟨⟨z0, z1, z2, z3, z4⟩, ⟨y0, y1, y2, y3, y4⟩⟩ := row5 hr1
      clear hr1 hkn
      generalize hkp : kept pd nm pd.length = kp at *
      have HKP := Lib.hid hkp
      clear hkp
      go_wp2
      refine bodyPost_ret (res5 rfl rfl (st5_row HR.out (.int .i64 6) (.int .i64 0) (.string ⟨#[]⟩) (.slice none 0 0) (.slice A' kp.length c'))) rfl ?_
      have hml : WM.length = kp.length := by rw [HWM2.out, List.length_map]
      have hbb : Below w.heap.size w wr := HB1.out.trans (hbel.out.mono HB1.out.size)
      refine ⟨⟨A', c', by rw [hml], by rw [HWN2.out, hml, List.length_map], fun h0 => ?_⟩, st5_below hbb (by omega) _ _ _ _ _⟩
      have hgm := gm_of_own (w := w) (ms := WM) (ns := WN) (rows := rowsK kp) hml (by simp [rowsK]) (by
        intro r hr
        obtain ⟨p, _, rfl⟩ := List.mem_map.1 hr
        rfl) (fun kk h1 h2 h3 => by
        have hkk : kk < kp.length := by rw [← hml]; exact h1
        have hmem : kp[kk] ∈ pd := by
          have : kp[kk] ∈ kept pd nm pd.length := by rw [HKP.out]; exact List.getElem_mem hkk
          unfold kept at this
          rw [List.take_length] at this
          exact (List.mem_filter.1 this).1
        refine ⟨m6tail kp[kk].1, ?_, ?_⟩
        · simp only [HWN2.out, rowsK, List.getElem_map]; rfl
        · simp only [HWM2.out, List.getElem_map]
          exact RdA.keep (fun p _ hp => hbel.out.cell (p := p) (by have := HB1.out.size; omega)) (Nat.le_refl _) (Nat.le_refl _) _ _ (HV.out _ hmem)) HOW.out
      obtain ⟨g, e, g1, g2, hk2⟩ := hgm h0
      refine ⟨g, e, by have := HS1.out; omega, Nat.lt_of_lt_of_eq g2 (st5_size (w := wr) (b := w.heap.size + 1) _ _ _ _ _).symm, fun kk h1 h2 => ?_⟩
      obtain ⟨cs, q1, q2⟩ := hk2 kk h1 h2
      exact ⟨cs, q1.keep (st5_other (by have := HS1.out; omega) _ _ _ _ _), RdA.keep (fun p _ hp => cell_of_blk (st5_other (by omega) _ _ _ _ _)) (Nat.le_refl _) (Nat.le_refl _) _ _ q2⟩
end Go.Proofs.Ytbepnjgbkfidiaa.Tr
/- Law 07: two. -/
namespace Go.Proofs.Ytbepnjgbkfidiaa.Tr
open Go.Proofs Go.RowKit Go.Lib
open Go.Maps (Keyed)
open Go.Proofs.Ytbepnjgbkfidiaa.Utf
open Go.Proofs.Ytbepnjgbkfidiaa.Sc
open Go.Proofs.Ytbepnjgbkfidiaa.Re

def numV (n : Int) : V := .mk 3 n [] [] [] []
def twoV (x y : List UInt8) (nx ny : Int) : V := mpV ([x, y], [numV nx, numV ny])
def twoD : DataW Unit := ((DataW.map []).put (pK [97]) (.lit (.int .i64 2))).put (pK [98]) (.lit (.int .i64 1))
theorem zero64 (w : World) : (zeroValue 2).run Try.prog w = .ok (.int .i64 0) w := by kernel_rfl
def GivesTwo (x y : List UInt8) (nx ny : Int) (w : World) (e : Ending) (w' : World) : Prop :=
  (∃ A c, e = .returned (.agg #[.int .i64 6, .int .i64 0, .string ⟨#[]⟩, .slice none 0 0, .slice A 2 c]) ∧ RdA w' 0 w'.heap.size (twoV x y nx ny) [.int .i64 6, .int .i64 0, .string ⟨#[]⟩, .slice none 0 0, .slice A 2 c]) ∧ Below w.heap.size w w'
theorem rd_num (w : World) (lo hi : Nat) (n : Int) : RdA w lo hi (numV n) [.int .i64 3, .int .i64 n, .string ⟨#[]⟩, .slice none 0 0, .slice none 0 0] := by
  rw [numV, RdA]
  exact ⟨none, 0, none, 0, rfl, rfl, fun h => by simp at h, fun h => by simp at h⟩

set_option maxRecDepth 100000 in
set_option maxHeartbeats 600000 in
theorem two_any (x y : List UInt8) (nx ny : Int) (hx : (x = [97] ∧ nx = 2) ∨ (x = [98] ∧ nx = 1)) (hy : (y = [97] ∧ ny = 2) ∨ (y = [98] ∧ ny = 1)) (w : World) :
    Calls Try.prog 24 #[.string (strOf x), .string (strOf y)] w (GivesTwo x y nx ny w) := by
  have hmm : ∀ (w : World), (Instr.makeMap 60 none).run Try.prog w = .ok (.map (some w.heap.size)) (w.alloc (.map #[] 0)) := fun _ => by kernel_rfl
  have own0 := World.ownsMap_made (w.alloc (.cells #[.int .i64 0, .int .i64 0, .string ⟨#[]⟩, .slice none 0 0, .slice none 0 0] 25)) Try.prog 9 (plainElem (H := Unit) Try.prog 2)
  have key : ∀ l : List UInt8, l.length ≤ 9223372036854775807 → keyOf Try.prog 9 (.string (strOf l)) = some (pK l) := fun l hl => by
    have hkey := Go.WideMaps.keyOf_string_mk (P := Try.prog) (k := 9) Try.underlying9 (s := strOf l) (by rw [strOf_size]; exact hl)
    rwa [strOf_data] at hkey
  obtain ⟨W2, run1, own1, g1⟩ := own0.update keyN Try.underlying60 (by unfold maxLen; decide) (key [97] (by simp)) (plainElem_int (a := 2) Try.underlying2 (by decide))
  obtain ⟨W3, run2, own2, g2⟩ := own1.update keyN Try.underlying60 (by unfold maxLen; decide) (key [98] (by simp)) (plainElem_int (a := 1) Try.underlying2 (by decide))
  obtain ⟨c1, run3, at1, _⟩ := own2.lookup_int keyN Try.underlying60 Try.underlying2 (zero64 _) (key x (by rcases hx with ⟨rfl, _⟩ | ⟨rfl, _⟩ <;> simp))
  obtain ⟨c2, run4, at2, _⟩ := own2.lookup_int keyN Try.underlying60 Try.underlying2 (zero64 _) (key y (by rcases hy with ⟨rfl, _⟩ | ⟨rfl, _⟩ <;> simp))
  have e1 : c1 = nx := by
    rcases hx with ⟨rfl, rfl⟩ | ⟨rfl, rfl⟩
    · have : DataW.atKey (H := Unit) twoD (pK [97]) (.lit (.int .i64 0)) = .lit (.int .i64 2) := by kernel_rfl
      have := at1.symm.trans this
      injection this with h; injection h
    · have : DataW.atKey (H := Unit) twoD (pK [98]) (.lit (.int .i64 0)) = .lit (.int .i64 1) := by kernel_rfl
      have := at1.symm.trans this
      injection this with h; injection h
  have e2 : c2 = ny := by
    rcases hy with ⟨rfl, rfl⟩ | ⟨rfl, rfl⟩
    · have : DataW.atKey (H := Unit) twoD (pK [97]) (.lit (.int .i64 0)) = .lit (.int .i64 2) := by kernel_rfl
      have := at2.symm.trans this
      injection this with h; injection h
    · have : DataW.atKey (H := Unit) twoD (pK [98]) (.lit (.int .i64 0)) = .lit (.int .i64 1) := by kernel_rfl
      have := at2.symm.trans this
      injection this with h; injection h
  subst e1 e2
  rw [szAl] at run1 run2 run3 run4 g1 g2
  rw [show strOf [97] = ⟨#[97]⟩ from rfl] at run1
  rw [show strOf [98] = ⟨#[98]⟩ from rfl] at run2
  have hb : Below w.heap.size w W3 := ((((Below.refl _ w).alloc (Nat.le_refl _) _).alloc (by simp) _).grown g1 (by simp; omega) (by intro k hk; injection hk; omega)).grown g2 (by have := g1.size; simp at this; omega) (by intro k hk; injection hk; omega)
  have hr : W3.heap[w.heap.size]? = some (.cells #[.int .i64 0, .int .i64 0, .string ⟨#[]⟩, .slice none 0 0, .slice none 0 0] 25 (0, 0)) := by
    have s1 := g1.size
    rw [szAl, szAl] at s1
    exact (g2.block _ (by omega) (by simp)).trans ((g1.block _ (by rw [szAl, szAl]; omega) (by simp)).trans (heapOld (heapNew _ _) _))
  have HB := Lib.hid hb
  have HLT := Lib.hid (show w.heap.size < W3.heap.size by have s1 := g1.size; have s2 := g2.size; rw [szAl, szAl] at s1; omega)
  clear hb own0 own1 own2 g1 g2 at1 at2 hx hy key
  obtain ⟨W4, hW4⟩ : ∃ W4, W4 = W3.alloc (.cells #[.string (strOf x), .int .i64 3, .int .i64 c1, .string ⟨#[]⟩, .slice none 0 0, .slice none 0 0, .string (strOf y), .int .i64 3, .int .i64 c2, .string ⟨#[]⟩, .slice none 0 0, .slice none 0 0] 50) := ⟨_, rfl⟩
  have hr4 : (W3.alloc (.cells #[.string (strOf x), .int .i64 3, .int .i64 c1, .string ⟨#[]⟩, .slice none 0 0, .slice none 0 0, .string (strOf y), .int .i64 3, .int .i64 c2, .string ⟨#[]⟩, .slice none 0 0, .slice none 0 0] 50)).heap[w.heap.size]? = some (.cells #[.int .i64 0, .int .i64 0, .string ⟨#[]⟩, .slice none 0 0, .slice none 0 0] 25 (0, 0)) := heapOld hr _
  have HR4 := Lib.hid hr4
  have HN : Aside (W4.heap[W3.heap.size]? = some (.cells #[.string (strOf x), .int .i64 3, .int .i64 c1, .string ⟨#[]⟩, .slice none 0 0, .slice none 0 0, .string (strOf y), .int .i64 3, .int .i64 c2, .string ⟨#[]⟩, .slice none 0 0, .slice none 0 0] 50 (0, 0))) := (show W4.heap[W3.heap.size]? = _ from by rw [hW4]; exact heapNew _ _)
  have HW4 := Lib.hid hW4
  clear hW4
  have HNM : Aside (∀ (k : Nat) (h1 : k < [numV c1, numV c2].length) (h2 : k < [x, y].length), ∃ cs, CellsAt W4 W3.heap.size (k * 6) (.string (strOf [x, y][k]) :: cs) ∧ ∀ (lo hi : Nat) (W : World), RdA W lo hi [numV c1, numV c2][k] cs) := (show ∀ _ _ _, _ from fun k h1 h2 => by
    match k, h1, h2 with
    | 0, _, _ =>
      refine ⟨[.int .i64 3, .int .i64 c1, .string ⟨#[]⟩, .slice none 0 0, .slice none 0 0], fun j u hu => ?_, fun lo hi W => rd_num W lo hi c1⟩
      match j, hu with
      | 0, hu | 1, hu | 2, hu | 3, hu | 4, hu | 5, hu => exact ⟨by simp only [World.cell?, HN.out]; exact hu, by simp [World.frozen?, HN.out]⟩
      | n + 6, hu => simp at hu
    | 1, _, _ =>
      refine ⟨[.int .i64 3, .int .i64 c2, .string ⟨#[]⟩, .slice none 0 0, .slice none 0 0], fun j u hu => ?_, fun lo hi W => rd_num W lo hi c2⟩
      match j, hu with
      | 0, hu | 1, hu | 2, hu | 3, hu | 4, hu | 5, hu => exact ⟨by simp only [World.cell?, HN.out]; exact hu, by simp [World.frozen?, HN.out]⟩
      | n + 6, hu => simp at hu)
  obtain ⟨⟨z0, z1, z2, z3, z4⟩, ⟨y0, y1, y2, y3, y4⟩⟩ := row5 hr4
  clear hr hr4
  generalize hX : strOf x = X at *
  generalize hY : strOf y = Y at *
  have HX := Lib.hid hX
  have HY := Lib.hid hY
  clear hX hY
  go_enter Try.func24, Try.ntmps24
  go_wp2
  refine bodyPost_ret (res5 rfl rfl (st5_row HR4.out (.int .i64 6) (.int .i64 0) (.string ⟨#[]⟩) (.slice none 0 0) (.slice (some ⟨W3.heap.size, 0, none⟩) 2 2))) rfl ?_
  have hb4 : Below w.heap.size w W4 := by rw [HW4.out]; exact HB.out.alloc HB.out.size _
  have hs4 : W4.heap.size = W3.heap.size + 1 := by rw [HW4.out, szAl]
  rw [← HW4.out]
  have hne : ∀ k, w.heap.size < k → (st5 W4 w.heap.size (.int .i64 6) (.int .i64 0) (.string ⟨#[]⟩) (.slice none 0 0) (.slice (some ⟨W3.heap.size, 0, none⟩) 2 2)).heap[k]? = W4.heap[k]? := fun k hk => st5_other (by omega) _ _ _ _ _
  have hss : (st5 W4 w.heap.size (.int .i64 6) (.int .i64 0) (.string ⟨#[]⟩) (.slice none 0 0) (.slice (some ⟨W3.heap.size, 0, none⟩) 2 2)).heap.size = W4.heap.size := st5_size _ _ _ _ _
  have hbb := st5_below (B := w.heap.size) hb4 (Nat.le_refl _) (.int .i64 6) (.int .i64 0) (.string ⟨#[]⟩) (.slice none 0 0) (.slice (some ⟨W3.heap.size, 0, none⟩) 2 2)
  refine ⟨⟨some ⟨W3.heap.size, 0, none⟩, 2, rfl, ?_⟩, hbb⟩
  have hlt : w.heap.size < W3.heap.size := HLT.out
  refine GivesM.rd (w := w) (ns := [x, y]) (ms := [numV c1, numV c2]) rfl (by have := hb4.size; exact Nat.le_trans this (Nat.le_of_eq hss.symm)) (fun _ => ⟨W3.heap.size, rfl, by omega, ?_, fun k h1 h2 => ?_⟩)
  · exact Nat.lt_of_lt_of_eq (by rw [hs4]; exact Nat.lt_succ_self _) hss.symm
  · obtain ⟨cs, q1, q2⟩ := HNM.out k h1 h2
    exact ⟨cs, q1.keep (hne _ hlt), q2 _ _ _⟩
end Go.Proofs.Ytbepnjgbkfidiaa.Tr
