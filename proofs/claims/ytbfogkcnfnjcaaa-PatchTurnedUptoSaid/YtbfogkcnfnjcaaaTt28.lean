/- Merged: TrU TrV TrW PaRaw. -/
import Derived.Test.YtbfogkcnfnjcaaaTt26
import Derived.Laws.CopyOwn
import Derived.Laws.CopyRow
import Derived.Laws.MakeOwn
import Derived.Test.YtbfogkcnfnjcaaaTt24
import Derived.Test.YtbfogkcnfnjcaaaTt21
import Derived.Test.YtbfogkcnfnjcaaaTt14
namespace Go.Proofs.Ytbfogkcnfnjcaaa.Tr
open Go.Proofs Go.RowKit Go.Lib
open Go.Proofs.Ytbfogkcnfnjcaaa.Utf
open Go.Proofs.Ytbfogkcnfnjcaaa.Sc
open Go.Proofs.Ytbfogkcnfnjcaaa.Re

theorem run_copy_rows {P : Program} (w : World) (dT sT ty elem : TypeId) (s n g o dLen dCap : Nat) (a : Addr) (sLen sCap : Nat) (cur : Array Value) (t : TypeId) (cs : List Value)
    (hu : P.underlying dT = some (.slice elem)) (hs : (P.info? elem).map (·.size) = some s)
    (hg : w.heap[g]? = some (.cells cur t (0, 0))) (hn : n = Nat.min sLen dLen) (hl : cs.length = n * s)
    (hsrc : ∀ j v, cs[j]? = some v → w.cell? (a.add j) = some v) (hfit : o + cs.length ≤ cur.size) (h1 : ∀ v ∈ cs, v.oneCell' = true) :
    (Builtin.copy_ #[dT, sT] ty #[.slice (some ⟨g, o, none⟩) dLen dCap, .slice (some a) sLen sCap]).run P w =
      .ok (goInt n) (w.setRow g (cur.toList.take o ++ cs ++ cur.toList.drop (o + cs.length)).toArray) := by
  have hld := run_loadCells_list (P := P) w a cs hsrc
  have hst := run_storeCells_at P g o t cs 0 cur w hg (by simpa using hfit) h1
  cases hq : P.info? elem with
  | none => simp [hq] at hs
  | some i =>
    have hi : i.size = s := by simpa [hq] using hs
    simp [Builtin.copy_, run_underlying hu, Builtin.lenOf, Builtin.firstCells, sizeOf, typeInfo, hq, hi, ← hn, ← hl, hld, hst]
theorem run_copy_zero {P : Program} (w : World) (dT sT ty elem : TypeId) (d a : Option Addr) (dLen dCap sLen sCap : Nat) (hu : P.underlying dT = some (.slice elem)) (hs : ((P.info? elem).map (·.size)).isSome = true) (hn : Nat.min sLen dLen = 0) :
    (Builtin.copy_ #[dT, sT] ty #[.slice d dLen dCap, .slice a sLen sCap]).run P w = .ok (goInt 0) w := by
  cases hq : P.info? elem with
  | none => simp [hq] at hs
  | some i =>
    have hl : ∀ (x : Addr), (loadCells x 0).run P w = .ok #[] w := fun x => by simpa using run_loadCells_list (P := P) w x [] (by simp)
    cases d <;> cases a <;> simp [Builtin.copy_, run_underlying hu, Builtin.lenOf, Builtin.firstCells, sizeOf, typeInfo, hq, hn, storeCells, hl]
def withN (v : V) (nm : List UInt8) : List (List UInt8) := if nm ∈ inN v then inN v else inN v ++ [nm]
def withM (v : V) (nm : List UInt8) (x : V) : List V := if nm ∈ inN v then (inM v).set ((inN v).idxOf nm) x else inM v ++ [x]
def woN (v : V) (nm : List UInt8) : List (List UInt8) := (((inN v).zip (inM v)).filter fun p => p.1 ≠ nm).map Prod.fst
def woM (v : V) (nm : List UInt8) : List V := (((inN v).zip (inM v)).filter fun p => p.1 ≠ nm).map Prod.snd
end Go.Proofs.Ytbfogkcnfnjcaaa.Tr
namespace Go.Proofs.Ytbfogkcnfnjcaaa.Tr
open Go.Proofs Go.RowKit Go.Lib
open Go.Proofs.Ytbfogkcnfnjcaaa.Utf
open Go.Proofs.Ytbfogkcnfnjcaaa.Sc
open Go.Proofs.Ytbfogkcnfnjcaaa.Re

theorem own_copied {w : World} {g T n base : Nat} {cur : Array Value} {cs : List Value} (hg : w.heap[g]? = some (.cells cur T (0, 0))) (hb : base ≤ g) (hn : n + 1 ≤ maxLen) (hcur : cur.size = (n + 1) * 6) (hl : cs.length = n * 6) :
    (w.setRow g (cs ++ cur.toList.drop cs.length).toArray).ownsRow base T 6 (.slice (some ⟨g, 0, none⟩) n (n + 1)) n cs := by
  refine ⟨hl, .inr ⟨g, n + 1, _, rfl, hb, setRow_heap w g cur _ T (0, 0) hg, by omega, hn, ?_, ?_⟩⟩
  · simp; omega
  · rw [List.toList_toArray, ← hl, List.take_left']
    rfl
theorem run_copy_any {P : Program} (w : World) (dT sT ty elem : TypeId) (n g cap sz : Nat) (hu : P.underlying dT = some (.slice elem)) (hsz : (P.info? elem).map (·.size) = some sz) (A : Option Addr) (sCap : Nat) (cur : Array Value) (t : TypeId) (hg : w.heap[g]? = some (.cells cur t (0, 0))) (cs : List Value) (hl : cs.length = n * sz)
    (hA : 0 < n → ∃ ad, A = some ad ∧ ∀ j v, cs[j]? = some v → w.cell? (ad.add j) = some v) (hfit : cs.length ≤ cur.size) (h1 : ∀ v ∈ cs, v.oneCell' = true) :
    (Builtin.copy_ #[dT, sT] ty #[.slice (some ⟨g, 0, none⟩) n cap, .slice A n sCap]).run P w = .ok (goInt n) (w.setRow g (cs ++ cur.toList.drop cs.length).toArray) := by
  by_cases h0 : 0 < n
  · obtain ⟨ad, rfl, hsrc⟩ := hA h0
    have := run_copy_rows (P := P) w dT sT ty elem sz n g 0 n cap ad n sCap cur t cs hu hsz hg (by simp) hl hsrc (by omega) h1
    simpa using this
  · have hn : n = 0 := by omega
    subst hn
    have hcs : cs = [] := List.eq_nil_of_length_eq_zero (by omega)
    subst hcs
    rw [run_copy_zero w dT sT ty elem _ A 0 cap 0 sCap hu (by rw [hsz]; rfl) (by simp)]
    simp only [List.length_nil, List.drop_zero, List.nil_append, Array.toArray_toList]
    rw [setRow_self w g cur t (0, 0) hg]
    rfl
theorem szAl3 (w : World) (a b c : Obj) : (((w.alloc a).alloc b).alloc c).heap.size = w.heap.size + 3 := by simp

end Go.Proofs.Ytbfogkcnfnjcaaa.Tr
namespace Go.Proofs.Ytbfogkcnfnjcaaa.Tr
open Go.Proofs Go.RowKit Go.Lib
open Go.Proofs.Ytbfogkcnfnjcaaa.Utf
open Go.Proofs.Ytbfogkcnfnjcaaa.Sc
open Go.Proofs.Ytbfogkcnfnjcaaa.Re

def kept (pd : List (M6 × V)) (nm : List UInt8) (k : Nat) : List (M6 × V) := (pd.take k).filter fun p => p.1.nm ≠ nm
end Go.Proofs.Ytbfogkcnfnjcaaa.Tr
namespace Go.Proofs.Ytbfogkcnfnjcaaa.Pa
open Go.Proofs Go.RowKit Go.Lib
open Go.Proofs.Ytbfogkcnfnjcaaa.Utf
open Go.Proofs.Ytbfogkcnfnjcaaa.Sc
open Go.Proofs.Ytbfogkcnfnjcaaa.Re
open Go.Proofs.Ytbfogkcnfnjcaaa.Tr

def RawM (w : World) (hi : Nat) (A : Option Addr) (d : List M6) : Prop :=
  0 < d.length → ∃ g o, A = some ⟨g, o, none⟩ ∧ g < hi ∧ ∀ i (h : i < d.length), M6At w g (o + i * 6) d[i]
theorem RawM.keep {w w' : World} {hi : Nat} {A : Option Addr} {d : List M6} (h : RawM w hi A d) (hk : ∀ p : Addr, p.block < hi → w'.cell? p = w.cell? p) : RawM w' hi A d := fun h0 => by
  obtain ⟨g, o, e, g1, hr⟩ := h h0
  exact ⟨g, o, e, g1, fun i hi => (hr i hi).keep fun j => hk ⟨g, j, none⟩ g1⟩
theorem RawM.more {w : World} {hi hi' : Nat} {A : Option Addr} {d : List M6} (h : RawM w hi A d) (hh : hi ≤ hi') : RawM w hi' A d := fun h0 => by
  obtain ⟨g, o, e, g1, hr⟩ := h h0
  exact ⟨g, o, e, by omega, hr⟩
theorem m6_cells {w : World} {g o : Nat} {x : M6} (h : M6At w g o x) : ∀ j u, (encM x)[j]? = some u → w.cell? ⟨g, o + j, none⟩ = some u := by
  obtain ⟨h0, h1, h2, h3, h4, h5⟩ := h
  intro j u hu
  match j with
  | 0 => simp [encM] at hu; subst hu; exact h0
  | 1 => simp [encM] at hu; subst hu; exact h1
  | 2 => simp [encM] at hu; subst hu; exact h2
  | 3 => simp [encM] at hu; subst hu; exact h3
  | 4 => simp [encM] at hu; subst hu; exact h4
  | 5 => simp [encM] at hu; subst hu; exact h5
  | j + 6 => simp [encM] at hu
theorem m6_of_cells {w : World} {g o : Nat} {x : M6} (h : CellsAt w g o (encM x)) : M6At w g o x :=
  ⟨(h 0 _ rfl).1, (h 1 _ rfl).1, (h 2 _ rfl).1, (h 3 _ rfl).1, (h 4 _ rfl).1, (h 5 _ rfl).1⟩
theorem rows6 (d : List M6) : ∀ r ∈ d.map encM, r.length = 6 := by
  intro r hr
  obtain ⟨x, _, rfl⟩ := List.mem_map.1 hr
  rfl
theorem rows1 (d : List M6) : ∀ u ∈ (d.map encM).flatten, u.oneCell' = true := rows_one (s := 6) (by
  intro r hr
  obtain ⟨x, _, rfl⟩ := List.mem_map.1 hr
  exact encM_one x)
theorem RawM.src {w : World} {hi : Nat} {A : Option Addr} {d : List M6} (h : RawM w hi A d) : 0 < d.length → ∃ ad, A = some ad ∧ ad.block < hi ∧ ∀ j u, (d.map encM).flatten[j]? = some u → w.cell? (ad.add j) = some u := fun h0 => by
  obtain ⟨g, o, e, g1, hr⟩ := h h0
  refine ⟨⟨g, o, none⟩, e, g1, fun j u hu => ?_⟩
  rw [Addr.add_lit]
  refine rows_flat (s := 6) (by decide) (w := w) (g := g) (o := o) ⟨rows6 d, fun k hk t u hu => ?_⟩ j u hu
  rw [List.length_map] at hk
  rw [List.getElem_map] at hu
  exact m6_cells (hr k hk) t u hu
def GivesD (d : List M6) (w : World) (e : Ending) (w' : World) : Prop :=
  (∃ A c, e = .returned (.agg #[.int .i64 6, .int .i64 0, .string ⟨#[]⟩, .slice none 0 0, .slice A d.length c]) ∧ d.length ≤ c ∧ (0 < d.length → ∃ g, A = some ⟨g, 0, none⟩ ∧ w.heap.size ≤ g ∧ g < w'.heap.size ∧
    ∀ k (h1 : k < d.length), CellsAt w' g (k * 6) (encM d[k]))) ∧ Below w.heap.size w w'
theorem inside_map (n : Int) (S : ByteArray) (A A2 : Option Addr) (l c l2 c2 : Nat) (w : World) :
    Calls Try.prog 50 #[.agg #[.int .i64 6, .int .i64 n, .string S, .slice A l c, .slice A2 l2 c2]] w fun e w' => e = .returned (.tuple #[.slice none 0 0, .slice A2 l2 c2]) ∧ Below w.heap.size w w' := by
  refine (inside_cells 6 n S A A2 l c l2 c2 w).mono ?_
  rintro e w1 ⟨⟨A', l', c', A2', l2', c2', rfl, -, h5, h6, -⟩, hb1⟩
  obtain ⟨rfl, rfl, rfl⟩ := h5 (by decide)
  obtain ⟨rfl, rfl, rfl⟩ := h6 rfl
  exact ⟨rfl, hb1⟩
def withD (d : List M6) (x : M6) : List M6 := if x.nm ∈ d.map M6.nm then d.set ((d.map M6.nm).idxOf x.nm) x else d ++ [x]
def woD (d : List M6) (nm : List UInt8) : List M6 := d.filter fun y => y.nm ≠ nm

set_option maxRecDepth 100000 in
set_option maxHeartbeats 600000 in
theorem With_raw (d : List M6) (nn : Int) (S : ByteArray) (A0 : Option Addr) (l c0 : Nat) (A20 : Option Addr) (c20 : Nat) (x : M6) (w : World) (hd : RawM w w.heap.size A20 d) (hz : d.length < 1466015503701) :
    Calls Try.prog 38 #[.agg #[.int .i64 6, .int .i64 nn, .string S, .slice A0 l c0, .slice A20 d.length c20], .string (strOf x.nm), .agg #[.int .i64 x.k, .int .i64 x.n, .string x.s, .slice x.A x.l x.c, .slice x.A2 x.m x.c2]] w (GivesD (withD d x) w) := by
  obtain ⟨i0, hi, hz0, hz1, hz2⟩ := info_parts infoMember
  have hWD : withD d x = if x.nm ∈ d.map M6.nm then d.set ((d.map M6.nm).idxOf x.nm) x else d ++ [x] := rfl
  generalize withD d x = WD at hWD ⊢
  have HWD := Lib.hid hWD; clear hWD
  obtain ⟨nm, xk, xn, XS, X0, xl, d0, X20, xm, d20⟩ := x
  simp only at HWD ⊢
  have HD0 := Lib.hid hd
  clear hd
  obtain ⟨len, hln⟩ : ∃ len, d.length = len := ⟨_, rfl⟩
  have HLN := Lib.hid hln
  rw [hln] at hz ⊢
  clear hln
  have HI := Lib.hid (fun (W : World) => inside_map nn S A0 A20 l c0 len c20 W)
  obtain ⟨W0, hW0⟩ : ∃ W0, W0 = (((w.alloc (.cells #[.int .i64 6, .int .i64 nn, .string S, .slice A0 l c0, .slice A20 len c20] 25)).alloc (.cells #[.int .i64 xk, .int .i64 xn, .string XS, .slice X0 xl d0, .slice X20 xm d20] 25)).alloc (.cells #[.int .i64 0, .int .i64 0, .string ⟨#[]⟩, .slice none 0 0, .slice none 0 0] 25)) := ⟨_, rfl⟩
  have HW0 := Lib.hid hW0
  have HB0 : Aside (Below w.heap.size w W0) := by rw [hW0]; exact (((Below.refl _ _).alloc (Nat.le_refl _) _).alloc (by simp) _).alloc (by simp; omega) _
  have HS0 : Aside (W0.heap.size = w.heap.size + 3) := by rw [hW0]; exact szAl3 _ _ _ _
  have HR0 : Aside (W0.heap[w.heap.size + 2]? = some (.cells #[.int .i64 0, .int .i64 0, .string ⟨#[]⟩, .slice none 0 0, .slice none 0 0] 25 (0, 0))) := by
    rw [hW0, show w.heap.size + 2 = ((w.alloc (.cells #[.int .i64 6, .int .i64 nn, .string S, .slice A0 l c0, .slice A20 len c20] 25)).alloc (.cells #[.int .i64 xk, .int .i64 xn, .string XS, .slice X0 xl d0, .slice X20 xm d20] 25)).heap.size by simp]; exact heapNew _ _
  have HX0 : Aside (W0.heap[w.heap.size + 1]? = some (.cells #[.int .i64 xk, .int .i64 xn, .string XS, .slice X0 xl d0, .slice X20 xm d20] 25 (0, 0))) := by
    rw [hW0]
    refine heapOld ?_ _
    rw [show w.heap.size + 1 = (w.alloc (.cells #[.int .i64 6, .int .i64 nn, .string S, .slice A0 l c0, .slice A20 len c20] 25)).heap.size by simp]; exact heapNew _ _
  clear hW0
  go_enter Try.func38, Try.ntmps38
  go_wp2_with fail
  rw [← HW0.out]
  refine (HI.out _).mono ?_
  rintro e w1 ⟨rfl, hb1⟩
  have HB1 : Aside (Below w.heap.size w w1) := HB0.out.trans (hb1.mono HB0.out.size)
  have HR1 : Aside _ := (hb1.block (w.heap.size + 2) (by rw [HS0.out]; omega)).trans HR0.out
  have HX1 : Aside _ := (hb1.block (w.heap.size + 1) (by rw [HS0.out]; omega)).trans HX0.out
  have HS1 : Aside (w.heap.size + 3 ≤ w1.heap.size) := by have := hb1.size; rw [HS0.out] at this; exact this
  obtain ⟨rows, hrows⟩ : ∃ rows, d.map encM = rows := ⟨_, rfl⟩
  have HROWS := Lib.hid hrows
  have HSIX := Lib.hid (rows6 d)
  have HONE := Lib.hid (rows1 d)
  have HSRC := Lib.hid ((HD0.out.keep (w' := w1) (fun p hp => HB1.out.cell (p := p) hp)).src)
  rw [hrows] at HSIX HONE HSRC
  have HRL := Lib.hid (show rows.length = len by rw [← hrows, List.length_map]; exact HLN.out)
  clear hb1 HI HB0 HR0 HX0 hrows
  have k0 : (0 : Int) ≤ (len : Int) := by omega
  have k1 : (len : Int) + 1 < 1466015503702 := by omega
  obtain ⟨M, hMM⟩ : ∃ M, madeCells (Value.agg #[.string ByteArray.empty, .int .i64 0, .int .i64 0, .string ByteArray.empty, .slice none 0 0, .slice none 0 0]).cells ((len + 1) * 6) = M := ⟨_, rfl⟩
  have hmk : ∀ W : World, (Instr.makeSlice 23 (.int .i64 (len : Int)) (.int .i64 ((len : Int) + 1))).run Try.prog W = .ok (.slice (some ⟨W.heap.size, 0, none⟩) len (len + 1)) (W.alloc (.cells M 36)) := fun W => by
    have := run_make W 23 36 i0 _ Try.underlying23 hi hz0 .i64 .i64 (len : Int) ((len : Int) + 1) k0 (by omega) (by rw [hz2]; omega) (by omega)
    rw [hz1] at this
    rw [← hMM]
    simpa using this
  have HMS : Aside (M.size = (len + 1) * 6) := by rw [← hMM]; exact size_madeCells _ _
  have hfl : rows.flatten.length = len * 6 := by rw [flat_len 6 rows HSIX.out, HRL.out]
  have hs6 : (Try.prog.info? 36).map (·.size) = some 6 := by rw [hi]; exact congrArg some hz1
  have HG2 : Aside ((w1.alloc (.cells M 36)).heap[w1.heap.size]? = some (.cells M 36 (0, 0))) := heapNew _ _
  obtain ⟨W3, hW3⟩ : ∃ W3, (w1.alloc (.cells M 36)).setRow w1.heap.size (rows.flatten ++ M.toList.drop rows.flatten.length).toArray = W3 := ⟨_, rfl⟩
  have HW3 := Lib.hid hW3
  have HFL := Lib.hid hfl
  have HOWN : Aside (W3.ownsRow w1.heap.size 36 6 (.slice (some ⟨w1.heap.size, 0, none⟩) len (len + 1)) len rows.flatten) := by rw [← hW3]; exact own_copied HG2.out (Nat.le_refl _) (by unfold maxLen; omega) HMS.out hfl
  have HB3 : Aside (Below w.heap.size w W3) := by rw [← hW3]; exact below_setRow (HB1.out.alloc (by have := HS1.out; omega) _) (by have := HS1.out; omega) _
  have HS3 : Aside (w1.heap.size < W3.heap.size) := (show w1.heap.size < W3.heap.size from by rw [← hW3]; simp)
  have HK3 : Aside (∀ k, k < w1.heap.size → W3.heap[k]? = w1.heap[k]?) := (show ∀ _, _ from fun k hk => by rw [← hW3, setRow_other _ _ _ _ (by omega)]; exact Below.heap_alloc w1 _ k hk)
  have hcp : (Builtin.copy_ #[23, 23] 3 #[.slice (some ⟨w1.heap.size, 0, none⟩) len (len + 1), .slice A20 len c20]).run Try.prog (w1.alloc (.cells M 36)) = .ok (goInt len) W3 := by
    rw [← hW3]
    refine run_copy_any _ _ _ _ 36 len w1.heap.size (len + 1) 6 Try.underlying23 hs6 A20 c20 M _ HG2.out rows.flatten hfl (fun hpos => ?_) (by rw [hfl, HMS.out]; omega) HONE.out
    obtain ⟨ad, e, hb, hsrc⟩ := HSRC.out (by rw [HLN.out]; exact hpos)
    exact ⟨ad, e, fun j u hu => Lib.cell?_alloc_some _ (hsrc j u hu)⟩
  have HR3 : Aside _ := (HK3.out (w.heap.size + 2) (by have := HS1.out; omega)).trans HR1.out
  have HX3 : Aside _ := (HK3.out (w.heap.size + 1) (by have := HS1.out; omega)).trans HX1.out
  have HPL := Lib.hid (place_any (some ⟨w1.heap.size, 0, none⟩) len (len + 1) d HLN.out (by omega) nm W3 (fun h => by
    rw [HLN.out] at h
    obtain ⟨g, e, _, g2, hc⟩ := own_at HOWN.out h
    refine ⟨g, 0, e, g2, fun i hi => ?_⟩
    have := hc.sub HSIX.out i (by rw [HRL.out, ← HLN.out]; exact hi)
    have er : rows[i]'(by rw [HRL.out, ← HLN.out]; exact hi) = encM d[i] := by simp only [← HROWS.out, List.getElem_map]
    rw [er] at this
    exact m6_of_cells this))
  clear hMM hW3 hfl HR1 HX1
  go_wp2_with fail
  refine HPL.out.mono ?_
  rintro e w4 ⟨rfl, hb4⟩
  have HR4 : Aside _ := (hb4.block (w.heap.size + 2) (by have := HS1.out; have := HS3.out; omega)).trans HR3.out
  have HX4 : Aside _ := (hb4.block (w.heap.size + 1) (by have := HS1.out; have := HS3.out; omega)).trans HX3.out
  have HOWN4 : Aside (w4.ownsRow w1.heap.size 36 6 (.slice (some ⟨w1.heap.size, 0, none⟩) len (len + 1)) len rows.flatten) := by
    obtain ⟨q1, q⟩ := HOWN.out
    refine ⟨q1, ?_⟩
    rcases q with q | ⟨g, cap, cur, e, q3, q4, q5⟩
    · exact .inl q
    · exact .inr ⟨g, cap, cur, e, q3, (hb4.block g (Array.getElem?_eq_some_iff.1 q4).1).trans q4, q5⟩
  have HB4 : Aside (Below w.heap.size w w4) := HB3.out.trans (hb4.mono HB3.out.size)
  have HS4 := Lib.hid (show w1.heap.size < w4.heap.size from Nat.lt_of_lt_of_le HS3.out hb4.size)
  obtain ⟨⟨x0, x1, x2, x3, x4⟩, -⟩ := row5 HX4.out
  clear hb4 HR3 HX3 HPL hcp hmk HSRC HK3 HOWN
  have I0 := Lib.hid hi
  have I1 := Lib.hid hz0
  have I2 := Lib.hid hz1
  have I3 := Lib.hid hz2
  clear hi hz0 hz1 hz2 hs6
  by_cases hin : nm ∈ d.map M6.nm
  · have hlt := List.idxOf_lt_length_of_mem hin
    obtain ⟨i, hi⟩ : ∃ i, (d.map M6.nm).idxOf nm = i := ⟨_, rfl⟩
    have hp : plc (d.map M6.nm) nm = (i : Int) := by unfold plc; rw [if_pos hin, hi]
    rw [hp]
    have hil : i < len := by rw [hi, List.length_map, HLN.out] at hlt; exact hlt
    have hid : i < d.length := by rw [HLN.out]; exact hil
    have HWD2 := Lib.hid (HWD.out.trans ((if_pos hin).trans (by rw [hi])))
    have HNMI := Lib.hid (show d[i].nm = nm by
      have h1 : (d.map M6.nm)[i]'(by rw [List.length_map]; exact hid) = nm := by
        have := List.getElem_idxOf hlt
        simp only [hi] at this
        exact this
      rwa [List.getElem_map] at h1)
    have t1 : decide ((i : Int) < 0) = false := decide_eq_false (by omega)
    have t1b : decide (0 ≤ (i : Int)) = true := decide_eq_true (by omega)
    have k2 : ((i : Int)).toNat = i := by omega
    have k3 : (0 : Int) ≤ (i : Int) := by omega
    have k4 : (i : Int) < (len : Int) := by omega
    obtain ⟨g4, e4, -, -, hc4⟩ := own_at HOWN4.out (by omega)
    injection e4 with e4
    injection e4 with e4
    subst e4
    have hall := Lib.hid (show ∀ k (h : k < d.length), CellsAt w4 w1.heap.size (k * 6) (encM d[k]) from fun k hk => by
      have := hc4.sub HSIX.out k (by rw [HRL.out, ← HLN.out]; exact hk)
      have er : rows[k]'(by rw [HRL.out, ← HLN.out]; exact hk) = encM d[k] := by simp only [← HROWS.out, List.getElem_map]
      rw [er, Nat.zero_add] at this
      exact this)
    have hrow3 := (cells_cons.1 (hall.out i hid)).2
    have HROW := Lib.hid hrow3
    clear hp hin hi hlt hc4
    obtain ⟨a0, f0⟩ := hrow3 0 _ rfl
    obtain ⟨a1, f1⟩ := hrow3 1 _ rfl
    obtain ⟨a2, f2⟩ := hrow3 2 _ rfl
    obtain ⟨a3, f3⟩ := hrow3 3 _ rfl
    obtain ⟨a4, f4⟩ := hrow3 4 _ rfl
    simp only [Nat.add_zero] at a0 f0
    have HHZ := Lib.hid hz
    have HWB := Lib.hid (show w.heap.size + 1 + 1 ≠ w1.heap.size by have := HS1.out; omega)
    have HIL := Lib.hid hil
    have HID := Lib.hid hid
    obtain ⟨W5, hW5⟩ : ∃ W5, W5 = st5o w4 w1.heap.size (i * 6 + 1) (.int .i64 xk) (.int .i64 xn) (.string XS) (.slice X0 xl d0) (.slice X20 xm d20) := ⟨_, rfl⟩
    have hW5' : ((((w4.setCell ⟨w1.heap.size, i * 6 + 1, none⟩ (.int .i64 xk)).setCell ⟨w1.heap.size, i * 6 + 1 + 1, none⟩ (.int .i64 xn)).setCell ⟨w1.heap.size, i * 6 + 1 + 2, none⟩ (.string XS)).setCell ⟨w1.heap.size, i * 6 + 1 + 3, none⟩ (.slice X0 xl d0)).setCell ⟨w1.heap.size, i * 6 + 1 + 4, none⟩ (.slice X20 xm d20) = W5 := hW5.symm
    have hr5 := (st5o_other (v0 := .int .i64 xk) (v1 := .int .i64 xn) (v2 := .string XS) (v3 := .slice X0 xl d0) (v4 := .slice X20 xm d20) (o := i * 6 + 1) (show w.heap.size + 2 ≠ w1.heap.size from HWB.out)).trans HR4.out
    rw [← hW5] at hr5
    have HR5 := Lib.hid hr5
    clear hr5
    obtain ⟨⟨z0, z1, z2, z3, z4⟩, ⟨y0, y1, y2, y3, y4⟩⟩ := row5 HR5.out
    have HW5 := Lib.hid hW5
    clear hrow3 k1 k0 hz hW5 hil
    go_wp2
    refine bodyPost_ret (res5 rfl rfl (st5_row HR5.out (.int .i64 6) (.int .i64 0) (.string ⟨#[]⟩) (.slice none 0 0) (.slice (some ⟨w1.heap.size, 0, none⟩) len (len + 1)))) rfl ?_
    have hml : WD.length = len := by rw [HWD2.out]; simpa using HLN.out
    have hb5 : Below w.heap.size w W5 := HB4.out.trans (by rw [HW5.out]; exact below_grown st5o_grown (by have := HS1.out; omega) HB4.out.size)
    refine ⟨⟨some ⟨w1.heap.size, 0, none⟩, len + 1, by rw [hml], by omega, fun _ => ⟨w1.heap.size, rfl, by have := HS1.out; omega, ?_, fun kk h1 => ?_⟩⟩, st5_below hb5 (by omega) _ _ _ _ _⟩
    · exact Nat.lt_of_lt_of_eq (show w1.heap.size < W5.heap.size by rw [HW5.out, st5o_size]; exact HS4.out) (st5_size (w := W5) (b := w.heap.size + 2) _ _ _ _ _).symm
    · refine CellsAt.keep (w := W5) ?_ (st5_other (by have := HS1.out; omega) _ _ _ _ _)
      have hkd : kk < d.length := by rw [HLN.out, ← hml]; exact h1
      simp only [HWD2.out]
      by_cases hik : i = kk
      · subst hik
        rw [List.getElem_set_self, HW5.out]
        have h2 := cells_cons.1 (hall.out i hkd)
        rw [HNMI.out] at h2
        exact cells_cons.2 ⟨st5o_far (by simp) h2.1, st5o_at rfl h2.2⟩
      · rw [List.getElem_set_ne hik, HW5.out]
        exact st5o_far (by rw [encM_len]; omega) (hall.out kk hkd)
  · have hp : plc (d.map M6.nm) nm = -1 := by unfold plc; rw [if_neg hin]
    rw [hp]
    have HWD2 := Lib.hid (HWD.out.trans (if_neg hin))
    have HHZ := Lib.hid hz
    clear hin hp k0 k1 hz
    have NEW : ∀ j u, [Value.string (strOf nm), .int .i64 xk, .int .i64 xn, .string XS, .slice X0 xl d0, .slice X20 xm d20][j]? = some u → (w4.alloc (.cells #[.string (strOf nm), .int .i64 xk, .int .i64 xn, .string XS, .slice X0 xl d0, .slice X20 xm d20] 36)).cell? ((⟨w4.heap.size, 0, none⟩ : Addr).add j) = some u := fun j u hu => by
      rw [Addr.add_lit, Nat.zero_add]; unfold World.cell?; rw [heapNew]; simpa using hu
    have HNEW := Lib.hid NEW; clear NEW
    go_wp2_with (at_builtin; refine wpList_append_own _ rfl _ _ 23 rfl w1.heap.size 36 i0 _ 6 96 Try.underlying23 I0.out I1.out I2.out I3.out rfl (by decide) _ len rows.flatten rfl (HOWN4.out.alloc _) ⟨w4.heap.size, 0, none⟩ 1 1 [Value.string (strOf nm), .int .i64 xk, .int .i64 xn, .string XS, .slice X0 xl d0, .slice X20 xm d20] rfl rfl HNEW.out ?qc3 ?qc4 ?qc5 ?qc6 ?qc)
    case qc3 => simp [Value.oneCell']
    case qc4 => have := HHZ.out; unfold maxLen; omega
    case qc5 => have := HHZ.out; omega
    case qc6 => have := HS4.out; simp; omega
    intro v' w5 hown hgrow hnil
    obtain ⟨A', c', rfl⟩ := own_is_slice hown
    have HO5 := Lib.hid hown
    have HG5 := Lib.hid (show Below w.heap.size w w5 from (HB4.out.alloc HB4.out.size _).trans (below_grown (pb := w1.heap.size) hgrow (by have := HS1.out; omega) (by have := HB4.out.size; simp; omega)))
    have hr5 := (hgrow.block (w.heap.size + 2) (by have := HS1.out; have := HS4.out; rw [szAl]; omega) (by have := HS1.out; simp [Value.ownBlock]; omega)).trans (heapOld HR4.out _)
    have HR5 := Lib.hid hr5
    obtain ⟨⟨z0, z1, z2, z3, z4⟩, ⟨y0, y1, y2, y3, y4⟩⟩ := row5 HR5.out
    clear hown hgrow hnil hr5
    go_wp2
    refine bodyPost_ret (res5 rfl rfl (st5_row HR5.out (.int .i64 6) (.int .i64 0) (.string ⟨#[]⟩) (.slice none 0 0) (.slice A' (len + 1) c'))) rfl ?_
    have hml : WD.length = len + 1 := by rw [HWD2.out]; simpa using HLN.out
    have hown := HO5.out
    have hrw : rows.flatten ++ [Value.string (strOf nm), .int .i64 xk, .int .i64 xn, .string XS, .slice X0 xl d0, .slice X20 xm d20] = (WD.map encM).flatten := by
      rw [HWD2.out, List.map_append, HROWS.out]; simp [encM]
    rw [hrw] at hown
    refine ⟨⟨A', c', by rw [hml], by rw [hml]; exact own_le hown, fun h0 => ?_⟩, st5_below HG5.out (by omega) _ _ _ _ _⟩
    obtain ⟨g, e, g1, g2, hc⟩ := own_at hown (by omega)
    refine ⟨g, e, by have := HS1.out; omega, Nat.lt_of_lt_of_eq g2 (st5_size (w := w5) (b := w.heap.size + 2) _ _ _ _ _).symm, fun kk h1 => ?_⟩
    refine CellsAt.keep (w := w5) ?_ (st5_other (by have := HS1.out; omega) _ _ _ _ _)
    have := hc.sub (rows6 WD) kk (by rw [List.length_map]; exact h1)
    rw [List.getElem_map, Nat.zero_add] at this
    exact this

theorem wo_no {d : List M6} {nm : List UInt8} {k : Nat} (hk : k < d.length) (h : d[k].nm = nm) : woD (d.take (k + 1)) nm = woD (d.take k) nm := by
  unfold woD
  rw [List.take_succ_eq_append_getElem hk, List.filter_append]
  simp [h]
theorem wo_yes {d : List M6} {nm : List UInt8} {k : Nat} (hk : k < d.length) (h : d[k].nm ≠ nm) : woD (d.take (k + 1)) nm = woD (d.take k) nm ++ [d[k]] := by
  unfold woD
  rw [List.take_succ_eq_append_getElem hk, List.filter_append]
  simp [h]
theorem wo_le (d : List M6) (nm : List UInt8) (k : Nat) : (woD (d.take k) nm).length ≤ k := by
  unfold woD
  exact Nat.le_trans (List.length_filter_le _ _) (by simp; omega)
theorem enc_snoc (l : List M6) (p : M6) : ((l ++ [p]).map encM).flatten = (l.map encM).flatten ++ encM p := by simp

set_option maxRecDepth 100000 in
set_option maxHeartbeats 600000 in
theorem Without_raw (d : List M6) (nn : Int) (S : ByteArray) (A0 : Option Addr) (l c0 : Nat) (A20 : Option Addr) (c20 : Nat) (nm : List UInt8) (w : World) (hd : RawM w w.heap.size A20 d) (hz : d.length < 1466015503701) :
    Calls Try.prog 39 #[.agg #[.int .i64 6, .int .i64 nn, .string S, .slice A0 l c0, .slice A20 d.length c20], .string (strOf nm)] w (GivesD (woD d nm) w) := by
  obtain ⟨i0, hi, hz0, hz1, hz2⟩ := info_parts infoMember
  have I0 := Lib.hid hi
  have I1 := Lib.hid hz0
  have I2 := Lib.hid hz1
  have I3 := Lib.hid hz2
  clear hi hz0 hz1 hz2
  have hWD : woD d nm = woD (d.take d.length) nm := by rw [List.take_length]
  generalize woD d nm = WD at hWD ⊢
  have HWD := Lib.hid hWD; clear hWD
  have HD0 := Lib.hid hd
  clear hd
  obtain ⟨len, hln⟩ : ∃ len, d.length = len := ⟨_, rfl⟩
  have HLN := Lib.hid hln
  rw [hln] at hz HWD ⊢
  clear hln
  have HI := Lib.hid (fun (W : World) => inside_map nn S A0 A20 l c0 len c20 W)
  obtain ⟨W0, hW0⟩ : ∃ W0, W0 = ((w.alloc (.cells #[.int .i64 6, .int .i64 nn, .string S, .slice A0 l c0, .slice A20 len c20] 25)).alloc (.cells #[.int .i64 0, .int .i64 0, .string ⟨#[]⟩, .slice none 0 0, .slice none 0 0] 25)) := ⟨_, rfl⟩
  have HW0 := Lib.hid hW0
  have HB0 : Aside (Below w.heap.size w W0) := by rw [hW0]; exact ((Below.refl _ _).alloc (Nat.le_refl _) _).alloc (by simp) _
  have HS0 : Aside (W0.heap.size = w.heap.size + 2) := (show W0.heap.size = _ from by rw [hW0, szAl, szAl])
  have HR0 : Aside (W0.heap[w.heap.size + 1]? = some (.cells #[.int .i64 0, .int .i64 0, .string ⟨#[]⟩, .slice none 0 0, .slice none 0 0] 25 (0, 0))) := by
    rw [hW0, show w.heap.size + 1 = (w.alloc (.cells #[.int .i64 6, .int .i64 nn, .string S, .slice A0 l c0, .slice A20 len c20] 25)).heap.size by simp]; exact heapNew _ _
  clear hW0
  go_enter Try.func39, Try.ntmps39
  go_wp2_with fail
  rw [← HW0.out]
  refine (HI.out _).mono ?_
  rintro e w1 ⟨rfl, hb1⟩
  have HB1 : Aside (Below w.heap.size w w1) := HB0.out.trans (hb1.mono HB0.out.size)
  have HR1 : Aside _ := (hb1.block (w.heap.size + 1) (by rw [HS0.out]; omega)).trans HR0.out
  have HS1 : Aside (w.heap.size + 2 ≤ w1.heap.size) := by have := hb1.size; rw [HS0.out] at this; exact this
  have HA : Aside (RawM w1 w.heap.size A20 d) := HD0.out.keep (fun p hp => HB1.out.cell (p := p) hp)
  clear hb1 HI HB0 HR0
  have HHZ := Lib.hid hz
  clear hz
  go_wp2_with fail
  go_loopw [7, 17] (fun a si wr => ∃ k : Nat, si = .int .i64 k ∧ k ≤ len ∧ Aside (wr.ownsRow w1.heap.size 36 6 a (woD (d.take k) nm).length ((woD (d.take k) nm).map encM).flatten) ∧ Aside (Below w1.heap.size w1 wr)) (fun _ si _ => len - (intOf si).toNat)
  case atStart => exact ⟨0, rfl, by omega, (show World.ownsRow _ _ _ _ _ _ _ from World.ownsRow_nil _ _ _ _), (show Below _ _ _ from Below.refl _ _)⟩
  case round =>
    obtain ⟨k, rfl, hk, hown, hbel⟩ := hrel
    by_cases hlt : k < len
    · have t1 : decide ((k : Int) < (len : Int)) = true := decide_eq_true (by omega)
      have t2 : decide (k < len) = true := decide_eq_true hlt
      have k0 : (0 : Int) ≤ (k : Int) := by omega
      have k1 : (k : Int) < (len : Int) := by omega
      have k2 : ((k : Int)).toNat = k := by omega
      have hz := HHZ.out
      have hkl : k < d.length := by rw [HLN.out]; exact hlt
      obtain ⟨b, off, rfl, hb, hc⟩ := HA.out (by omega)
      have hx := (hc k hkl).keep (W' := wr) (fun j => hbel.out.cell (p := ⟨b, j, none⟩) (by show b < _; have := HB1.out.size; omega))
      clear hc
      have HOW := Lib.hid hown.out
      clear hown
      by_cases hxn : d[k].nm = nm
      · have HK := Lib.hid (wo_no hkl hxn)
        have hq : ((strOf d[k].nm).toList == (strOf nm).toList) = true := by rw [hxn]; exact beq_self_eq_true _
        generalize d[k] = x at hx hq
        obtain ⟨xx, xk, xn, xs, xA, xl, xc, xB, xm, xd⟩ := x
        simp only [M6At] at hx
        obtain ⟨a0, a1, a2, a3, a4, a5⟩ := hx
        simp only at hq
        clear hxn
        generalize strOf xx = X at *
        go_wp2
        go_roundw
        case rel =>
          refine ⟨k + 1, by go_num, by omega, ?_, ?_⟩
          · rw [HK.out]; exact HOW.out.alloc _
          · exact (show Below _ _ _ from hbel.out.alloc hbel.out.size _)
        case measure => simp [intOf]; omega
      · have HK := Lib.hid (wo_yes hkl hxn)
        have hq : ((strOf d[k].nm).toList == (strOf nm).toList) = false := by
          rw [beq_eq_false_iff_ne]
          intro h
          rw [strOf_list, strOf_list] at h
          exact hxn h
        generalize d[k] = x at hx hq HK
        obtain ⟨xx, xk, xn, xs, xA, xl, xc, xB, xm, xd⟩ := x
        simp only [M6At] at hx
        obtain ⟨a0, a1, a2, a3, a4, a5⟩ := hx
        simp only at hq
        clear hxn
        have HLE := Lib.hid (wo_le d nm k)
        generalize hkp : woD (d.take k) nm = kp at *
        have HKP := Lib.hid hkp
        clear hkp
        have hsn := enc_snoc kp ⟨xx, xk, xn, xs, xA, xl, xc, xB, xm, xd⟩
        rw [show encM ⟨xx, xk, xn, xs, xA, xl, xc, xB, xm, xd⟩ = [Value.string (strOf xx), .int .i64 xk, .int .i64 xn, .string xs, .slice xA xl xc, .slice xB xm xd] from rfl] at hsn
        have HSN := Lib.hid hsn
        clear hsn
        obtain ⟨X, hX⟩ : ∃ X, strOf xx = X := ⟨_, rfl⟩
        rw [hX] at hq a0 HSN
        clear hX
        have NEW : ∀ j u, [Value.string X, .int .i64 xk, .int .i64 xn, .string xs, .slice xA xl xc, .slice xB xm xd][j]? = some u → ((wr.alloc (.cells #[.string X, .int .i64 xk, .int .i64 xn, .string xs, .slice xA xl xc, .slice xB xm xd] 36)).alloc (.cells #[.string X, .int .i64 xk, .int .i64 xn, .string xs, .slice xA xl xc, .slice xB xm xd] 36)).cell? ((⟨wr.heap.size + 1, 0, none⟩ : Addr).add j) = some u := fun j u hu => by
          rw [Addr.add_lit, Nat.zero_add]; unfold World.cell?; rw [← szAl wr (.cells #[.string X, .int .i64 xk, .int .i64 xn, .string xs, .slice xA xl xc, .slice xB xm xd] 36), heapNew]; simpa using hu
        have HNEW := Lib.hid NEW; clear NEW
        go_wp2_with (at_builtin; refine wpList_append_own _ rfl _ _ 23 rfl w1.heap.size 36 i0 _ 6 96 Try.underlying23 I0.out I1.out I2.out I3.out rfl (by decide) u7 kp.length (kp.map encM).flatten rfl ((HOW.out.alloc _).alloc _) ⟨wr.heap.size + 1, 0, none⟩ 1 1 [Value.string X, .int .i64 xk, .int .i64 xn, .string xs, .slice xA xl xc, .slice xB xm xd] rfl rfl HNEW.out ?qc3 ?qc4 ?qc5 ?qc6 ?qc)
        case qc3 => simp [Value.oneCell']
        case qc4 => have := HHZ.out; have := HLE.out; unfold maxLen; omega
        case qc5 => have := HHZ.out; have := HLE.out; omega
        case qc6 => have := hbel.out.size; simp; omega
        intro v' w5 hown hgrow hnil
        have HO5 := Lib.hid hown
        have HG5 := Lib.hid (show Below w1.heap.size w1 w5 from Below.grown ((hbel.out.alloc hbel.out.size _).alloc (by have := hbel.out.size; rw [szAl]; omega) _) hgrow (by have := hbel.out.size; rw [szAl, szAl]; omega) (fun g hg => (HOW.out.lt g hg).1))
        clear hown hgrow hnil
        go_wp2
        go_roundw
        case rel =>
          refine ⟨k + 1, by go_num, by omega, ?_, (show Below _ _ _ from HG5.out)⟩
          rw [HK.out, List.length_append, HSN.out]
          exact (show World.ownsRow _ _ _ _ _ _ _ from HO5.out)
        case measure => simp [intOf]; omega
    · have t1 : decide ((k : Int) < (len : Int)) = false := decide_eq_false (by omega)
      have t2 : decide (k < len) = false := decide_eq_false hlt
      have hkn : k = len := by omega
      have HOW := Lib.hid hown.out
      rw [hkn, ← HWD.out] at HOW
      clear hown
      obtain ⟨A', c', rfl⟩ := own_is_slice HOW.out
      have hr1 := (hbel.out.block (w.heap.size + 1) (by have := HS1.out; omega)).trans HR1.out
      have HR := Lib.hid hr1
      obtain ⟨⟨z0, z1, z2, z3, z4⟩, ⟨y0, y1, y2, y3, y4⟩⟩ := row5 hr1
      clear hr1 hkn
      go_wp2
      refine bodyPost_ret (res5 rfl rfl (st5_row HR.out (.int .i64 6) (.int .i64 0) (.string ⟨#[]⟩) (.slice none 0 0) (.slice A' WD.length c'))) rfl ?_
      have hbb : Below w.heap.size w wr := HB1.out.trans (hbel.out.mono HB1.out.size)
      refine ⟨⟨A', c', rfl, own_le HOW.out, fun h0 => ?_⟩, st5_below hbb (by omega) _ _ _ _ _⟩
      obtain ⟨g, e, g1, g2, hc⟩ := own_at HOW.out h0
      refine ⟨g, e, by have := HS1.out; omega, Nat.lt_of_lt_of_eq g2 (st5_size (w := wr) (b := w.heap.size + 1) _ _ _ _ _).symm, fun kk h1 => ?_⟩
      refine CellsAt.keep (w := wr) ?_ (st5_other (by have := HS1.out; omega) _ _ _ _ _)
      have := hc.sub (rows6 WD) kk (by rw [List.length_map]; exact h1)
      rw [List.getElem_map, Nat.zero_add] at this
      exact this

def getD (d : List M6) (nm : List UInt8) : List Value := ((d.map m6tail)[(d.map M6.nm).idxOf nm]?).getD [.int .i64 0, .int .i64 0, .string ⟨#[]⟩, .slice none 0 0, .slice none 0 0]

set_option maxRecDepth 100000 in
set_option maxHeartbeats 4000000 in
theorem Get_raw (d : List M6) (nn : Int) (S : ByteArray) (A0 : Option Addr) (l c0 : Nat) (A20 : Option Addr) (c20 : Nat) (nm : List UInt8) (w : World) (hd : RawM w w.heap.size A20 d) (hms : d.length < 4611686018427387904) :
    Calls Try.prog 37 #[.agg #[.int .i64 6, .int .i64 nn, .string S, .slice A0 l c0, .slice A20 d.length c20], .string (strOf nm)] w fun e w' =>
      e = .returned (.tuple #[.agg (getD d nm).toArray, .bool (decide (nm ∈ d.map M6.nm))]) ∧ Below w.heap.size w w' := by
  have HD0 := Lib.hid hd
  clear hd
  obtain ⟨len, hln⟩ : ∃ len, d.length = len := ⟨_, rfl⟩
  have HLN := Lib.hid hln
  rw [hln] at hms ⊢
  clear hln
  have HI := Lib.hid (fun (W : World) => inside_map nn S A0 A20 l c0 len c20 W)
  have hz : ((w.alloc (.cells #[.int .i64 6, .int .i64 nn, .string S, .slice A0 l c0, .slice A20 len c20] 25)).alloc (.cells #[.int .i64 0, .int .i64 0, .string ⟨#[]⟩, .slice none 0 0, .slice none 0 0] 25)).heap[w.heap.size + 1]? = some (.cells #[.int .i64 0, .int .i64 0, .string ⟨#[]⟩, .slice none 0 0, .slice none 0 0] 25 (0, 0)) := by
    have := heapNew (w.alloc (.cells #[.int .i64 6, .int .i64 nn, .string S, .slice A0 l c0, .slice A20 len c20] 25)) (.cells #[.int .i64 0, .int .i64 0, .string ⟨#[]⟩, .slice none 0 0, .slice none 0 0] 25)
    rwa [szAl] at this
  have hb0 : Below w.heap.size w ((w.alloc (.cells #[.int .i64 6, .int .i64 nn, .string S, .slice A0 l c0, .slice A20 len c20] 25)).alloc (.cells #[.int .i64 0, .int .i64 0, .string ⟨#[]⟩, .slice none 0 0, .slice none 0 0] 25)) := ((Below.refl _ _).alloc (Nat.le_refl _) _).alloc (by simp) _
  have hs0 : ((w.alloc (.cells #[.int .i64 6, .int .i64 nn, .string S, .slice A0 l c0, .slice A20 len c20] 25)).alloc (.cells #[.int .i64 0, .int .i64 0, .string ⟨#[]⟩, .slice none 0 0, .slice none 0 0] 25)).heap.size = w.heap.size + 2 := by rw [szAl, szAl]
  have HZ := Lib.hid hz
  have HB0 := Lib.hid hb0
  have HS0 := Lib.hid hs0
  clear hz hb0 hs0
  go_enter Try.func37, Try.ntmps37
  go_wp2_with fail
  generalize ((w.alloc (.cells #[.int .i64 6, .int .i64 nn, .string S, .slice A0 l c0, .slice A20 len c20] 25)).alloc (.cells #[.int .i64 0, .int .i64 0, .string ⟨#[]⟩, .slice none 0 0, .slice none 0 0] 25)) = w0 at HZ HB0 HS0 ⊢
  refine (HI.out _).mono ?_
  rintro e w1 ⟨rfl, hb1⟩
  have HB1 := Lib.hid (HB0.out.trans (hb1.mono HB0.out.size))
  have HD := Lib.hid (HD0.out.keep (w' := w1) (fun p hp => HB1.out.cell (p := p) hp))
  have HZ1 := Lib.hid ((hb1.block (w.heap.size + 1) (by rw [HS0.out]; omega)).trans HZ.out)
  have HSZ := Lib.hid (show w.heap.size + 2 ≤ w1.heap.size by have := hb1.size; rw [HS0.out] at this; omega)
  have HPL := Lib.hid (place_any A20 len c20 d HLN.out hms nm w1 (fun h => by
    obtain ⟨g, o, e, g2, hr⟩ := HD.out h
    exact ⟨g, o, e, by have := HB1.out.size; omega, hr⟩))
  clear hb1 HZ HB0 HS0 HI
  go_wp2_with fail
  refine HPL.out.mono ?_
  rintro e w2 ⟨rfl, hb2⟩
  have HB2 := Lib.hid hb2
  have hz2 := (hb2.block (w.heap.size + 1) (by have := HSZ.out; omega)).trans HZ1.out
  have HZ2 := Lib.hid hz2
  obtain ⟨⟨z0, z1, z2, z3, z4⟩, ⟨y0, y1, y2, y3, y4⟩⟩ := row5 hz2
  clear hb2 hz2 HPL
  by_cases hin : nm ∈ d.map M6.nm
  · have hlt := List.idxOf_lt_length_of_mem hin
    obtain ⟨i, hi⟩ : ∃ i, (d.map M6.nm).idxOf nm = i := ⟨_, rfl⟩
    have hp : plc (d.map M6.nm) nm = (i : Int) := by unfold plc; rw [if_pos hin, hi]
    rw [hp]
    have hil : i < len := by rw [hi, List.length_map, HLN.out] at hlt; exact hlt
    have hid : i < d.length := by rw [HLN.out]; exact hil
    have HDC := Lib.hid (decide_eq_true hin)
    have hge : getD d nm = m6tail d[i] := by unfold getD; rw [hi, List.getElem?_eq_getElem (by rw [List.length_map]; exact hid), List.getElem_map]; rfl
    obtain ⟨g, o, rfl, g2, hr⟩ := HD.out (by omega)
    have hx := (hr i hid).keep (W' := w2) (fun j => HB2.out.cell (p := ⟨g, j, none⟩) (by show g < _; have := HB1.out.size; omega))
    have HGE := Lib.hid hge
    generalize d[i] = x at hx HGE
    clear hr hge hi hp hin hlt hid
    obtain ⟨xx, xk, xn, xs, xA, xl, xc, xB, xm, xd⟩ := x
    simp only [M6At] at hx
    obtain ⟨a0, a1, a2, a3, a4, a5⟩ := hx
    generalize strOf xx = X at *
    have t1 : decide ((i : Int) < 0) = false := decide_eq_false (by omega)
    have t1b : ¬ ((i : Int) < 0) := by omega
    have k0 : (0 : Int) ≤ (i : Int) := by omega
    have k1 : (i : Int) < (len : Int) := by omega
    have k2 : ((i : Int)).toNat = i := by omega
    go_wp2
    refine bodyPost_ret (res5b rfl rfl rfl (st5_row HZ2.out (.int .i64 xk) (.int .i64 xn) (.string xs) (.slice xA xl xc) (.slice xB xm xd))) rfl ?_
    have hbb := HB1.out.trans (HB2.out.mono HB1.out.size)
    refine ⟨by rw [HGE.out, HDC.out]; rfl, st5_below hbb (by omega) _ _ _ _ _⟩
  · have hp : plc (d.map M6.nm) nm = -1 := by unfold plc; rw [if_neg hin]
    rw [hp]
    have HDC := Lib.hid (decide_eq_false hin)
    have hge : getD d nm = [.int .i64 0, .int .i64 0, .string ⟨#[]⟩, .slice none 0 0, .slice none 0 0] := by
      unfold getD
      rw [List.idxOf_eq_length hin, List.length_map, List.getElem?_eq_none (by simp)]
      rfl
    have HGE := Lib.hid hge
    clear hin hp hge
    go_wp2
    refine bodyPost_ret (res5b rfl rfl rfl (st5_row HZ2.out (.int .i64 0) (.int .i64 0) (.string ⟨#[]⟩) (.slice none 0 0) (.slice none 0 0))) rfl ?_
    have hbb := HB1.out.trans (HB2.out.mono HB1.out.size)
    refine ⟨by rw [HGE.out, HDC.out]; rfl, st5_below hbb (by omega) _ _ _ _ _⟩
end Go.Proofs.Ytbfogkcnfnjcaaa.Pa
