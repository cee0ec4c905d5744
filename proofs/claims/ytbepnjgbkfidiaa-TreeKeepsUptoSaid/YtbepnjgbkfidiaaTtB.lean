import Derived.Test.YtbepnjgbkfidiaaTtA
import Derived.Test.YtbepnjgbkfidiaaEmA
import Derived.Laws.CopyOwn
import Derived.Laws.CopyRow
import Derived.Laws.MakeOwn
/- The places of names, as a map. -/
namespace Go.Proofs.Ytbepnjgbkfidiaa.Tr
open Go.Proofs Go.RowKit Go.Shelf
open Go.Maps (Keyed string_keyed IsMap isMap_empty atKey_put_same atKey_put_other has_put_same has_put_other)
open Go.Proofs.Ytbepnjgbkfidiaa.Utf
attribute [local go_sem] Oper.semAt_some

def pK (n : List UInt8) : Lit := .string n
theorem pK_key (n : List UInt8) : WideAt.IsKeyLit (pK n) := trivial
/-- the places of names, put one behind the other -/
def fsD (l : List (Ix × N6)) : DataW Unit := l.foldl (fun D x => D.put (pK x.2.1.nm) (.lit (.int .i64 x.1.1))) (.map [])
theorem fsD_snoc (l : List (Ix × N6)) (x : Ix × N6) : fsD (l ++ [x]) = (fsD l).put (pK x.2.1.nm) (.lit (.int .i64 x.1.1)) := by simp [fsD]
theorem foldl_map (l : List (Ix × N6)) : ∀ D : DataW Unit, IsMap D → IsMap (l.foldl (fun D x => D.put (pK x.2.1.nm) (.lit (.int .i64 x.1.1))) D) := by
  induction l with
  | nil => intro D h; exact h
  | cons a r ih => intro D h; exact ih _ (h.put _ _)
theorem fsD_isMap (l : List (Ix × N6)) : IsMap (fsD l) := foldl_map l _ isMap_empty
theorem fsD_has (nm : List UInt8) : ∀ (d : List N6) (o : Nat), Maps.has (fsD (seqM o d)) (pK nm) = decide (nm ∈ d.map (fun x => x.1.nm))
  | [], o => rfl
  | x :: r, o => by
    rw [seqM, fsD_snoc]
    by_cases h : nm = x.1.nm
    · subst h
      rw [has_put_same (fsD_isMap _) (pK_key _)]
      simp
    · rw [has_put_other (fun e => h (by unfold pK at e; injection e)), fsD_has nm r]
      simp [h]
theorem fsD_at (nm : List UInt8) (z : DataW Unit) : ∀ (d : List N6) (o : Nat), o + d.length ≤ 4611686018427387904 → nm ∈ d.map (fun x => x.1.nm) → (fsD (seqM o d)).atKey (pK nm) z = .lit (.int .i64 ((o + (d.map (fun x => x.1.nm)).idxOf nm : Nat) : Int))
  | [], o, _, h => by simp at h
  | x :: r, o, hl, h => by
    rw [seqM, fsD_snoc, List.map_cons, List.idxOf_cons]
    rw [List.length_cons] at hl
    by_cases e : x.1.nm = nm
    · subst e
      rw [atKey_put_same (fsD_isMap _) (pK_key _), ix_val (by omega)]
      simp
    · rw [atKey_put_other (fun k => e (by unfold pK at k; injection k with k; exact k.symm)), fsD_at nm z r (o + 1) (by omega) (by
        rw [List.map_cons, List.mem_cons] at h
        rcases h with h | h
        · exact absurd h.symm e
        · exact h)]
      have : (x.1.nm == nm) = false := by rw [beq_eq_false_iff_ne]; exact e
      rw [this]
      congr 3
      simp
      omega
theorem keyN : Keyed Try.prog 9 := string_keyed Try.underlying9
/-- the places of names in memory -/
def Plcs (w : World) (mb n : Nat) (D : DataW Unit) : Prop := w.ownsMap Try.prog 9 (plainElem (H := Unit) Try.prog 3) mb n D
theorem blk_own (B : Nat) (Bx : Nat) (o : Obj) (ho : o.isCells = true) {W W' : World} {row : Option Nat} (h : W.heap[Bx]? = some o) (hg : W.grownBy W' row) (hr : ∀ r, row = some r → B ≤ r ∧ ∃ o : Obj, W.heap[r]? = some o ∧ o.isCells = false) : W'.heap[Bx]? = some o := by
  refine (hg.block Bx (Array.getElem?_eq_some_iff.1 h).1 (fun e => ?_)).trans h
  obtain ⟨_, o', h1, h2⟩ := hr Bx e.symm
  rw [h] at h1
  cases h1
  rw [ho] at h2
  cases h2

set_option maxRecDepth 100000 in
set_option maxHeartbeats 4000000 in
theorem firsts_in (F : Fence) (n : Nat) (h44 : F.fn 44) (h56 : F.fn 56) (h64 : F.fn 64) (hro : F.round = none) (hn : 3 ≤ n) (A : Option Addr) (len cap : Nat) (d : List N6) (hlen : d.length = len) (hreach : len < 4611686018427387904) (w : World)
    (hA : 0 < d.length → ∃ b off, A = some ⟨b, off, none⟩ ∧ b < w.heap.size ∧ ∀ i (h : i < d.length), M6At w b (off + i * 6) d[i].1) :
    CallsIn F n Try.prog 44 #[.slice A len cap] w fun e W' => e = .returned (.map (some w.heap.size)) ∧ Plcs W' w.heap.size len (fsD (seqM 0 d)) ∧ Below w.heap.size w W' := by
  have h1 : 1 ≤ n := by omega
  have hmm : ∀ (n : Int) (w : World), (Instr.makeMap 70 (some (.int .i64 n))).run Try.prog w = .ok (.map (some w.heap.size)) (w.alloc (.map #[] 0)) := fun _ _ => by kernel_rfl
  refine callsIn_of_wp_marks Try.func44 rfl h44 ?_ hro
  simp only [Try.ntmps44, List.size_toArray, List.length_cons, List.length_nil, Nat.reduceAdd, Nat.reduceSub, Array.replicate_succ, Array.replicate_zero, List.push_toArray, List.append_toArray, List.nil_append, List.cons_append]
  have HA : Aside _ := hA
  have HL : Aside (d.length = len) := hlen
  clear hA hlen
  gi_wp2_with (gi_at_call 56; refine (back_in F (n - 1) h56 hro _ _ _ _).mono ?_; rintro e w' ⟨rfl, rfl⟩)
  have hBw : Below w.heap.size w (((w.alloc (.map #[] 0)).alloc (.cells #[.map (some w.heap.size)] 70)).alloc (.cells #[.slice A len cap] 23)) := (((Below.refl _ w).alloc (Nat.le_refl _) _).alloc (by simp) _).alloc (by simp; omega) _
  have hm0 := ((World.ownsMap_made w Try.prog 9 (plainElem (H := Unit) Try.prog 3)).alloc (.cells #[.map (some w.heap.size)] 70)).alloc (.cells #[.slice A len cap] 23)
  have hb1 : (((w.alloc (.map #[] 0)).alloc (.cells #[.map (some w.heap.size)] 70)).alloc (.cells #[.slice A len cap] 23)).heap[w.heap.size + 1]? = some (.cells #[.map (some w.heap.size)] 70 (0, 0)) := by
    refine heapOld ?_ _
    have := heapNew (w.alloc (.map #[] 0)) (.cells #[.map (some w.heap.size)] 70)
    rwa [szAl] at this
  have hb2 : (((w.alloc (.map #[] 0)).alloc (.cells #[.map (some w.heap.size)] 70)).alloc (.cells #[.slice A len cap] 23)).heap[w.heap.size + 2]? = some (.cells #[.slice A len cap] 23 (0, 0)) := by
    have := heapNew ((w.alloc (.map #[] 0)).alloc (.cells #[.map (some w.heap.size)] 70)) (.cells #[.slice A len cap] 23)
    rwa [szAl, szAl] at this
  have hsz : (((w.alloc (.map #[] 0)).alloc (.cells #[.map (some w.heap.size)] 70)).alloc (.cells #[.slice A len cap] 23)).heap.size = w.heap.size + 3 := by rw [szAl, szAl, szAl]
  generalize ((w.alloc (.map #[] 0)).alloc (.cells #[.map (some w.heap.size)] 70)).alloc (.cells #[.slice A len cap] 23) = W0 at hBw hm0 hb1 hb2 hsz ⊢
  have hseq := back_stops F (n - 1) h64 hro (by omega) (w.heap.size + 2) w.heap.size cap A d (by have := HL.out; omega) W0 (by omega) (by omega) (by rw [HL.out]; show W0.cell? ⟨w.heap.size + 2, 0, none⟩ = _; simp [World.cell?, hb2])
    (fun h => by
      obtain ⟨b, off, e, hb, hc⟩ := HA.out h
      exact ⟨b, off, e, hb, fun i hi => (hc i hi).keep fun j => hBw.cell (p := ⟨b, j, none⟩) hb⟩)
  refine wpIn_rangeFunc_ownH hro h1 (gf := 64) (lb := #[.pointer (some ⟨w.heap.size + 2, 0, none⟩)]) rfl h64 (enters_of Try.func64 (by kernel_rfl) rfl)
    hseq (fun h k => h.trans k) (fun W l o o' hl ho hc hw => ⟨belowK_b (w := W0) (by omega) W l o o' hl ho hc hw, World.putObj_heap_other (by omega)⟩) (Below.refl _ _) (fun _ => rfl)
    (fun pre W => (W.heap[w.heap.size + 1]? = some (.cells #[.map (some w.heap.size)] 70 (0, 0)) ∧ Plcs W w.heap.size pre.length (fsD pre)) ∧ (Below w.heap.size w W ∧ w.heap.size + 3 ≤ W.heap.size))
    (fun _ _ _ => False)
    (OwnFrom.and (fun s X Y row hs hg hr => ⟨blk_own W0.heap.size _ _ rfl hs.1 hg hr, World.ownsMap.kept hs.2 hg (fun e => by have := (hr _ e.symm).1; omega)⟩) (OwnFrom.and (ownFrom_below (Nat.le_refl _) (by omega)) (fun s X Y row hs hg hr => Nat.le_trans hs hg.size)))
    (fun _ _ _ _ _ hs _ _ => hs)
    ⟨⟨hb1, hm0⟩, hBw, by omega⟩
    (fun x a' W => ∃ Bx : Nat, W.heap[Bx]? = some (.cells (encM x.2.1).toArray 50 (0, 0)) ∧ a' = { tmps := #[.slice A len cap, undef, .map none, .pointer (some ⟨w.heap.size + 1, 0, none⟩), .int .i64 x.1.1, .pointer (some ⟨Bx, 0, none⟩), .slice A len cap, .int .i64 len, .map (some w.heap.size), .slice A len cap, .func (.func 64) #[] #[.pointer (some ⟨w.heap.size + 1 + 1, 0, none⟩)], .int .i64 x.1.1, .agg (encM x.2.1).toArray, undef, undef, undef, undef, undef], defers := [] })
    (fun x a' s X Y row hs hg hr => by
      obtain ⟨Bx, e2, e3⟩ := hs
      exact ⟨Bx, blk_own W0.heap.size _ _ rfl e2 hg hr, e3⟩) ?assign ?body ?done ?stop
  case assign =>
    rintro l pre ⟨xi, ⟨xm, hxm⟩⟩ W K hI hK
    have HK : Aside _ := hK
    have HI : Aside _ := hI
    clear hK hI
    obtain ⟨xx, xk, xn, xs, xA, xl, xc, xB, xm, xd⟩ := xm
    simp only [encM, encI] at *
    gi_wp2
    exact HK.out _ _ ((KeepsOthers.alloc _ _).from _) ⟨(Below.refl _ W).alloc HI.out.2.1.size _, (Below.heap_alloc W _ _ (by have := HI.out.2.2; omega))⟩
      ⟨⟨heapOld HI.out.1.1 _, World.ownsMap.alloc HI.out.1.2 _⟩, HI.out.2.1.alloc HI.out.2.1.size _, by rw [szAl]; have := HI.out.2.2; omega⟩ ⟨W.heap.size, heapNew W _, rfl⟩
  case body =>
    rintro l pre ⟨xi, ⟨xm, hxm⟩⟩ a' W hl ⟨r, hr⟩ ⟨⟨hb, hown⟩, hB, hS⟩ ⟨Bx, bX, rfl⟩ hlt
    have c0 : W.cell? ⟨w.heap.size + 1, 0, none⟩ = some (.map (some w.heap.size)) := by simp [World.cell?, hb]
    have c1 : W.cell? ⟨Bx, 0, none⟩ = some (.string (strOf xm.nm)) := by simp [World.cell?, bX, encM]
    have hkey := Go.WideMaps.keyOf_string_mk (P := Try.prog) (k := 9) Try.underlying9 (s := strOf xm.nm) (by rw [strOf_size]; exact hxm)
    rw [strOf_data] at hkey
    have HO : Aside _ := hown
    have HB : Aside _ := hB
    have HSS : Aside _ := hS
    have HBB : Aside _ := hb
    have HXI : Aside _ := xi.2
    obtain ⟨iv, hiv⟩ := xi
    simp only at *
    have hpl : pre.length < 9223372036854775807 := by have := HL.out; omega
    generalize hX : strOf xm.nm = X at *
    have HX := Lib.hid hX
    have HK := Lib.hid hkey
    clear hown hB hS hb bX hr hl hkey hX hlt
    gi_wp2_with (gi_at_mapUpdate; refine wpListIn_mapUpdate_own _ rfl _ _ _ 70 rfl 9 3 keyN Try.underlying70 _ w.heap.size pre.length _ rfl HO.out (by unfold maxLen; omega) _ _ _ rfl rfl HK.out _ [] (plainElem_int Try.underlying3 (WalkArith.wf_i64 (by omega))) ?_; intro w1 hown1 hgrow1)
    have hg := hgrow1
    exact ⟨KeepsFrom.of_grownBy hg (fun j e => by cases e; omega), ⟨(Below.refl _ W).grown hg HB.out.size (fun k e => by cases e; exact Nat.le_refl _), hg.block _ (by have := HSS.out; omega) (by simp)⟩,
      ⟨(hg.block _ (by have := HSS.out; omega) (by simp)).trans HBB.out, by rw [fsD_snoc, List.length_append]; exact hown1⟩, HB.out.grown hg HB.out.size (fun k e => by cases e; exact Nat.le_refl _), Nat.le_trans HSS.out hg.size⟩
  case done =>
    rintro D ys W hD rfl ⟨⟨hb, hown⟩, hB, hS⟩ hK
    have c0 : W.cell? ⟨w.heap.size + 1, 0, none⟩ = some (.map (some w.heap.size)) := by simp [World.cell?, hb]
    have HO : Aside _ := hown
    have HB : Aside _ := hB
    have HK : Aside _ := hK
    clear hown hB hS hb
    gi_wp2
    have hk := HK.out
    refine ⟨by simp, .inl ⟨_, _, rfl, run_takeDeferred hk, ?_⟩⟩
    have ho := HO.out
    rw [seqM_len, HL.out] at ho
    exact ⟨_, results_tmp rfl _ _ _, rfl, World.ownsMap.kept ho (grownBy_putObj' W D _) (fun e => by cases e; omega), HB.out.trans (belowK_b (w := w) (Nat.le_refl _) W D _ _ (by omega) hk rfl rfl)⟩
  case stop =>
    rintro D c pre W _ _ h _
    exact h.elim
theorem Firsts_any (A : Option Addr) (len cap : Nat) (d : List N6) (hlen : d.length = len) (hreach : len < 4611686018427387904) (w : World)
    (hA : 0 < d.length → ∃ b off, A = some ⟨b, off, none⟩ ∧ b < w.heap.size ∧ ∀ i (h : i < d.length), M6At w b (off + i * 6) d[i].1) :
    Calls Try.prog 44 #[.slice A len cap] w fun e W' => e = .returned (.map (some w.heap.size)) ∧ Plcs W' w.heap.size len (fsD (seqM 0 d)) ∧ Below w.heap.size w W' :=
  (callsIn_wide (n := 3)).1 (firsts_in Fence.wide 3 trivial trivial trivial rfl (Nat.le_refl _) A len cap d hlen hreach w hA)
end Go.Proofs.Ytbepnjgbkfidiaa.Tr
/- Being the same. -/
namespace Go.Proofs.Ytbepnjgbkfidiaa.Tr
open Go.Proofs Go.RowKit Go.Lib
open Go.Proofs.Ytbepnjgbkfidiaa.Utf
open Go.Proofs.Ytbepnjgbkfidiaa.Sc
open Go.Proofs.Ytbepnjgbkfidiaa.Re
open Go.Proofs.Ytbepnjgbkfidiaa.Em (Tells)

mutual
/-- are two values the same? -/
def same : V → V → Prop
  | .mk k n s l ns ms, b => k = b.k ∧ n = b.n ∧ s = b.s ∧ (k = 5 → sameL l b.l) ∧ (k = 6 → ms.length = b.ms.length ∧ sameM ns ms b.ns b.ms)
def sameL : List V → List V → Prop
  | [], r => r = []
  | x :: t, r => ∃ y u, r = y :: u ∧ same x y ∧ sameL t u
def sameM : List (List UInt8) → List V → List (List UInt8) → List V → Prop
  | _, [], _, _ => True
  | ns, v :: r, nb, mb => (∃ nm y, ns.head? = some nm ∧ nm ∈ nb ∧ mb[nb.idxOf nm]? = some y ∧ same v y) ∧ sameM ns.tail r nb mb
end
theorem sameL_iff : ∀ l r : List V, sameL l r ↔ l.length = r.length ∧ ∀ i (h1 : i < l.length) (h2 : i < r.length), same l[i] r[i]
  | [], r => by
    rw [sameL]
    exact ⟨fun e => by subst e; exact ⟨rfl, fun i h => by simp at h⟩, fun h => List.eq_nil_of_length_eq_zero h.1.symm⟩
  | x :: t, r => by
    rw [sameL]
    constructor
    · rintro ⟨y, u, rfl, h1, h2⟩
      obtain ⟨k1, k2⟩ := (sameL_iff t u).1 h2
      refine ⟨by simp [k1], fun i i1 i2 => ?_⟩
      cases i with
      | zero => exact h1
      | succ i => exact k2 i (by simpa using i1) (by simpa using i2)
    · rintro ⟨h1, h2⟩
      cases r with
      | nil => simp at h1
      | cons y u => exact ⟨y, u, rfl, h2 0 (by simp) (by simp), (sameL_iff t u).2 ⟨by simpa using h1, fun i i1 i2 => h2 (i + 1) (by simpa using i1) (by simpa using i2)⟩⟩
theorem sameM_iff : ∀ (ms : List V) (ns : List (List UInt8)) (nb : List (List UInt8)) (mb : List V), ns.length = ms.length → (sameM ns ms nb mb ↔ ∀ i (h : i < ms.length) (hn : i < ns.length), ns[i] ∈ nb ∧ ∃ y, mb[nb.idxOf ns[i]]? = some y ∧ same ms[i] y)
  | [], ns, nb, mb, _ => by rw [sameM]; exact ⟨fun _ i h => by simp at h, fun _ => trivial⟩
  | v :: r, ns, nb, mb, hn => by
    cases ns with
    | nil => simp at hn
    | cons x t =>
      rw [sameM]
      have ih := sameM_iff r t nb mb (by simpa using hn)
      constructor
      · rintro ⟨⟨nm, y, e, h1, h2, h3⟩, h4⟩ i hi hin
        cases i with
        | zero => simp at e; subst e; exact ⟨h1, y, h2, h3⟩
        | succ i => exact ih.1 h4 i (by simpa using hi) (by simpa using hin)
      · intro h
        obtain ⟨h1, y, h2, h3⟩ := h 0 (by simp) (by simp)
        exact ⟨⟨x, y, rfl, h1, h2, h3⟩, ih.2 fun i hi hin => h (i + 1) (by simpa using hi) (by simpa using hin)⟩
theorem inL_mk (k n : Int) (s : List UInt8) (l : List V) (ns : List (List UInt8)) (ms : List V) : inL (.mk k n s l ns ms) = if k = 5 then l else [] := rfl
theorem inN_mk (k n : Int) (s : List UInt8) (l : List V) (ns : List (List UInt8)) (ms : List V) : inN (.mk k n s l ns ms) = if k = 6 then ns else [] := rfl
theorem inM_mk (k n : Int) (s : List UInt8) (l : List V) (ns : List (List UInt8)) (ms : List V) : inM (.mk k n s l ns ms) = if k = 6 then ms else [] := rfl
theorem same_eq (a b : V) : same a b ↔ a.k = b.k ∧ a.n = b.n ∧ a.s = b.s ∧ sameL (inL a) (inL b) ∧ (inM a).length = (inM b).length ∧ sameM (inN a) (inM a) (inN b) (inM b) := by
  obtain ⟨k, n, s, l, ns, ms⟩ := a
  obtain ⟨k', n', s', l', ns', ms'⟩ := b
  rw [same, inL_mk, inL_mk, inM_mk, inM_mk, inN_mk, inN_mk]
  show (k = k' ∧ n = n' ∧ s = s' ∧ (k = 5 → sameL l l') ∧ (k = 6 → ms.length = ms'.length ∧ sameM ns ms ns' ms')) ↔ (k = k' ∧ n = n' ∧ s = s' ∧ _ ∧ _ ∧ _)
  constructor
  · rintro ⟨rfl, rfl, rfl, h1, h2⟩
    refine ⟨rfl, rfl, rfl, ?_, ?_⟩
    · by_cases hk : k = 5
      · rw [if_pos hk, if_pos hk]; exact h1 hk
      · rw [if_neg hk, if_neg hk, sameL]
    · by_cases hk : k = 6
      · simp only [if_pos hk]; exact h2 hk
      · simp only [if_neg hk]; exact ⟨trivial, by rw [sameM]; trivial⟩
  · rintro ⟨rfl, rfl, rfl, h1, h2⟩
    refine ⟨rfl, rfl, rfl, fun hk => ?_, fun hk => ?_⟩
    · simp only [if_pos hk] at h1; exact h1
    · simp only [if_pos hk] at h2; exact h2

/-- a callee that tells whether two values are the same -/
def SameCon (q : V) : Prop := ∀ (b : V) (ca cb : List Value) (w : World), szA 4611686018427387904 b → RdA w 0 w.heap.size q ca → RdA w 0 w.heap.size b cb → Calls Try.prog 20 #[.agg ca.toArray, .agg cb.toArray] w (Tells (same q b) w)
theorem loadBox (w : World) (o : Obj) : (w.alloc o).heap[w.heap.size]? = some o := heapNew w o

set_option maxRecDepth 100000 in
set_option maxHeartbeats 16000000 in
theorem EqualFunc_any (A B : Option Addr) (c c2 : Nat) (al bl : List V) (w : World) (hla : al.length < 4611686018427387904) (hIH : ∀ v ∈ al, SameCon v) (hzb : szAL 4611686018427387904 bl)
    (hA : 0 < al.length → ∃ g o, A = some ⟨g, o, none⟩ ∧ 0 ≤ g ∧ g < w.heap.size ∧ RdAL w 0 w.heap.size g o al) (hB : 0 < bl.length → ∃ g o, B = some ⟨g, o, none⟩ ∧ 0 ≤ g ∧ g < w.heap.size ∧ RdAL w 0 w.heap.size g o bl) :
    Calls Try.prog 33 #[.slice A al.length c, .slice B bl.length c2, .func (.func 20) #[] #[]] w (Tells (sameL al bl) w) := by
  have hE := sameL_iff al bl
  generalize (sameL al bl) = Q at hE ⊢
  have HE := Lib.hid hE; clear hE
  have e20 : ∀ args w, (callFunc 20 args).run Try.prog w = .ok (.enter 20 args) w := enters_of Try.func20 (by kernel_rfl) rfl
  have IH := Lib.hid hIH; clear hIH
  have HA := Lib.hid hA; clear hA
  have HB := Lib.hid hB; clear hB
  have HZ := Lib.hid hzb; clear hzb
  by_cases hl : al.length = bl.length
  · obtain ⟨n, hn⟩ : ∃ n, al.length = n := ⟨_, rfl⟩
    have hn2 : bl.length = n := by omega
    have HL1 := Lib.hid hn
    have HL2 := Lib.hid hn2
    rw [hn, hn2]
    rw [hn] at hla
    clear hl hn hn2
    go_enter Try.func33, Try.ntmps33
    go_wp2_with fail
    go_loopw [17] (fun i wr => ∃ k : Nat, i = .int .i64 k ∧ k ≤ n ∧ Aside (∀ j (h1 : j < al.length) (h2 : j < bl.length), j < k → same al[j] bl[j]) ∧ Aside (Below w.heap.size w wr)) (fun i _ => n - (intOf i).toNat)
    case atStart => exact ⟨0, rfl, by omega, (show ∀ _ _ _ _, _ from fun j _ _ h => by omega), (show Below _ _ _ from Below.refl _ _)⟩
    case round =>
      obtain ⟨k, rfl, hk, hall, hbel⟩ := hrel
      by_cases hlt : k < n
      · have t1 : decide ((k : Int) < (n : Int)) = true := decide_eq_true (by omega)
        have t2 : decide (k < n) = true := decide_eq_true hlt
        have k0 : (0 : Int) ≤ (k : Int) := by omega
        have k1 : (k : Int) < (n : Int) := by omega
        have k2 : ((k : Int)).toNat = k := by omega
        have hka : k < al.length := by rw [HL1.out]; exact hlt
        have hkb : k < bl.length := by rw [HL2.out]; exact hlt
        obtain ⟨g, o, rfl, _, hg, hR⟩ := HA.out (by omega)
        obtain ⟨g2, o2, rfl, _, hg2, hR2⟩ := HB.out (by omega)
        obtain ⟨xa, hxa, hva⟩ := RdAL.at_ _ o hR k hka
        obtain ⟨xb, hxb, hvb⟩ := RdAL.at_ _ o2 hR2 k hkb
        have hsb : szA 4611686018427387904 bl[k] := szAL_mem HZ.out (List.getElem_mem hkb)
        have hc := fun w0 (hw : Below w.heap.size w w0) => IH.out _ (List.getElem_mem hka) bl[k] xa xb w0 hsb (hva.below hw (Nat.le_refl _) hw.size) (hvb.below hw (Nat.le_refl _) hw.size)
        obtain ⟨p1, p2, p3, p4, ea, _⟩ := hva.cells
        obtain ⟨r1, r2, r3, r4, eb, _⟩ := hvb.cells
        rw [ea] at hc hxa
        rw [eb] at hc hxb
        have hw := hbel.out
        have a0 := (hw.cell (p := ⟨g, o + k * 5, none⟩) hg).trans (hxa 0 _ rfl)
        have a1 := (hw.cell (p := ⟨g, o + k * 5 + 1, none⟩) hg).trans (hxa 1 _ rfl)
        have a2 := (hw.cell (p := ⟨g, o + k * 5 + 2, none⟩) hg).trans (hxa 2 _ rfl)
        have a3 := (hw.cell (p := ⟨g, o + k * 5 + 3, none⟩) hg).trans (hxa 3 _ rfl)
        have a4 := (hw.cell (p := ⟨g, o + k * 5 + 4, none⟩) hg).trans (hxa 4 _ rfl)
        have hw1 : ∀ ob, Below w.heap.size w (wr.alloc ob) := fun ob => hw.alloc hw.size ob
        have b0 := fun ob => ((hw1 ob).cell (p := ⟨g2, o2 + k * 5, none⟩) hg2).trans (hxb 0 _ rfl)
        have b1 := fun ob => ((hw1 ob).cell (p := ⟨g2, o2 + k * 5 + 1, none⟩) hg2).trans (hxb 1 _ rfl)
        have b2 := fun ob => ((hw1 ob).cell (p := ⟨g2, o2 + k * 5 + 2, none⟩) hg2).trans (hxb 2 _ rfl)
        have b3 := fun ob => ((hw1 ob).cell (p := ⟨g2, o2 + k * 5 + 3, none⟩) hg2).trans (hxb 3 _ rfl)
        have b4 := fun ob => ((hw1 ob).cell (p := ⟨g2, o2 + k * 5 + 4, none⟩) hg2).trans (hxb 4 _ rfl)
        have hw2 : ∀ ob ob2, Below w.heap.size w ((wr.alloc ob).alloc ob2) := fun ob ob2 => (hw1 ob).alloc (hw1 ob).size ob2
        have HW2 := Lib.hid hw2
        have HC := Lib.hid hc
        have hq : (same al[k] bl[k]) = (same al[k] bl[k]) := rfl
        obtain ⟨q, hqq⟩ : ∃ q, same al[k] bl[k] = q := ⟨_, rfl⟩
        rw [hqq] at HC
        have HQ := Lib.hid hqq
        generalize al[k].k = x1 at *
        generalize al[k].n = y1 at *
        generalize strOf al[k].s = S1 at *
        generalize al[k].l.length = l1 at *
        generalize al[k].ms.length = m1 at *
        generalize bl[k].k = x2 at *
        generalize bl[k].n = y2 at *
        generalize strOf bl[k].s = S2 at *
        generalize bl[k].l.length = l2 at *
        generalize bl[k].ms.length = m2 at *
        clear hc hw hw1 hw2 hva hvb hR hR2 hxa hxb ea eb hq hqq hsb
        go_wp2_with fail
        refine (HC.out _ (HW2.out _ _)).mono ?_
        rintro e w5 ⟨⟨b, rfl, hb⟩, hb5⟩
        have HB5 := Lib.hid ((HW2.out _ _).trans (hb5.mono (HW2.out _ _).size))
        clear hb5
        cases b
        · have HF := Lib.hid (show ¬ q from fun h => by have := hb.2 h; cases this)
          clear hb
          go_wp2
          go_ret
          exact ⟨⟨false, rfl, by simp, fun h => by
            have := ((HE.out.1 h).2 k hka hkb)
            rw [HQ.out] at this
            exact absurd this HF.out⟩, HB5.out⟩
        · have HF := Lib.hid (show q from hb.1 rfl)
          clear hb
          go_wp2
          go_roundw
          case rel =>
            refine ⟨k + 1, by go_num, by omega, (show ∀ _ _ _ _, _ from fun j h1 h2 hj => ?_), HB5.out⟩
            rcases Nat.lt_or_ge j k with hjk | hjk
            · exact hall.out j h1 h2 hjk
            · obtain rfl : j = k := by omega
              rw [HQ.out]
              exact HF.out
          case measure => simp [intOf]; omega
      · have t1 : decide ((k : Int) < (n : Int)) = false := decide_eq_false (by omega)
        have t2 : decide (k < n) = false := decide_eq_false hlt
        go_wp2
        go_ret
        exact ⟨⟨true, rfl, fun _ => HE.out.2 ⟨by rw [HL1.out, HL2.out], fun i i1 i2 => hall.out i i1 i2 (by have := HL1.out; omega)⟩, fun _ => rfl⟩, hbel.out⟩
  · have t1 : ((al.length : Int) != (bl.length : Int)) = true := by rw [bne_iff_ne]; omega
    have HL := Lib.hid hl
    clear hl
    go_enter Try.func33, Try.ntmps33
    go_wp2
    go_ret
    exact ⟨⟨false, rfl, by simp, fun h => absurd (HE.out.1 h).1 HL.out⟩, Below.refl _ _⟩
end Go.Proofs.Ytbepnjgbkfidiaa.Tr
/- Being the same: members. -/
namespace Go.Proofs.Ytbepnjgbkfidiaa.Tr
open Go.Proofs Go.RowKit Go.Lib
open Go.Maps (Keyed atKey_of_not_has)
open Go.Proofs.Ytbepnjgbkfidiaa.Utf
open Go.Proofs.Ytbepnjgbkfidiaa.Sc
open Go.Proofs.Ytbepnjgbkfidiaa.Re
open Go.Proofs.Ytbepnjgbkfidiaa.Em (Tells)

section
variable {H : Type} {P : Program} (w : World) {ops : Array Oper} {rest : List Oper} {o : Oper} {a : Act} {Q : Exit → Act → World → Prop}
/-- 'v, ok := m[k]' where both are known -/
theorem wpList_lookup_known (hg : o.guard = none) (m x : Operand) (t : TypeId) (hop : o.op = Op.lookup t m x true)
    (k e : TypeId) (q : IntKind) (K : Keyed P k) (ht : P.underlying t = some (.map k e)) (he : P.underlying e = some (.int q)) (hz : (zeroValue e).run P w = .ok (.int q 0) w) (b n : Nat) (D : DataW H)
    (hm : a.eval m = .map (some b)) (hown : w.ownsMap P k (plainElem P e) b n D) (key : Value) (kl : Lit) (hx : a.eval x = key) (hkey : keyOf P k key = some kl) (v : Int) (bb : Bool)
    (hat : D.atKey kl (.lit (.int q 0)) = .lit (.int q v)) (hh : Maps.has D kl = bb)
    (hK : wpList P ops Q rest (a.put o.dst (.tuple #[.int q v, .bool bb])) w) : wpList P ops Q (o :: rest) a w :=
  wpList_lookup_own_ok_int w hg m x t hop k e q K ht he hz b n D hm hown key kl hx hkey (fun c hc _ => by
    rw [hat] at hc
    injection hc with hc
    injection hc with _ hc
    subst hc
    rw [hh]
    exact hK)
end
theorem n6_of : ∀ d : List M6, (∀ x ∈ d, x.nm.length ≤ 9223372036854775807) → ∃ e : List N6, e.map Subtype.val = d
  | [], _ => ⟨[], rfl⟩
  | x :: r, h => by
    obtain ⟨e, he⟩ := n6_of r (fun y hy => h y (by simp [hy]))
    exact ⟨⟨x, h x (by simp)⟩ :: e, by simp [he]⟩
theorem grown_of_below {w w' : World} (h : Below w.heap.size w w') : w.grownBy w' none := ⟨h.os, h.tape, h.output, h.size, fun k hk _ => h.block k hk⟩
theorem zeroInt (w : World) : (zeroValue 3).run Try.prog w = .ok (.int .i64 0) w := by kernel_rfl

set_option maxRecDepth 100000 in
set_option maxHeartbeats 16000000 in
theorem areSame_any (A B : Option Addr) (c c2 : Nat) (ns nb : List (List UInt8)) (ms mb : List V) (w : World) (hn : ns.length = ms.length) (hnb : nb.length = mb.length) (hla : ms.length < 4611686018427387904) (hIH : ∀ v ∈ ms, SameCon v) (hzb : szAL 4611686018427387904 mb)
    (hsa : ∀ x ∈ ns, x.length ≤ 4611686018427387904) (hsb : ∀ x ∈ nb, x.length ≤ 4611686018427387904)
    (hA : 0 < ms.length → ∃ g o, A = some ⟨g, o, none⟩ ∧ 0 ≤ g ∧ g < w.heap.size ∧ RdAM w 0 w.heap.size g o ns ms) (hB : 0 < mb.length → ∃ g o, B = some ⟨g, o, none⟩ ∧ 0 ≤ g ∧ g < w.heap.size ∧ RdAM w 0 w.heap.size g o nb mb) :
    Calls Try.prog 34 #[.slice A ms.length c, .slice B mb.length c2] w (Tells (ms.length = mb.length ∧ sameM ns ms nb mb) w) := by
  have mixed : Try.prog.follows .mixedOrders = true := by kernel_rfl
  have hE := sameM_iff ms ns nb mb hn
  generalize (sameM ns ms nb mb) = Q at hE ⊢
  have HE := Lib.hid hE; clear hE
  obtain ⟨da, hda⟩ := mems_of hn hA
  obtain ⟨db, hdb⟩ := mems_of hnb hB
  obtain ⟨eb, heb⟩ := n6_of db (fun x hx => by
    have := hsb x.nm (by rw [← hdb.2.1]; exact List.mem_map.2 ⟨x, hx, rfl⟩)
    omega)
  have heb2 : eb.map (fun x => x.1.nm) = nb := by rw [← hdb.2.1, ← heb, List.map_map]; rfl
  have hel : eb.length = mb.length := by rw [← hdb.1, ← heb]; simp
  have HEB := Lib.hid heb
  have HEB2 := Lib.hid heb2
  have HDA := Lib.hid hda
  have HDB := Lib.hid hdb
  have IH := Lib.hid hIH
  have HZ := Lib.hid hzb
  have HSA := Lib.hid hsa
  have HN := Lib.hid hn
  have HNB := Lib.hid hnb
  clear hda hdb heb heb2 hIH hzb hsa hsb hA hB hn hnb
  by_cases hl : ms.length = mb.length
  · obtain ⟨n, hn⟩ : ∃ n, ms.length = n := ⟨_, rfl⟩
    have hn2 : mb.length = n := by omega
    have HL1 := Lib.hid hn
    have HL2 := Lib.hid hn2
    have HFS := Lib.hid (Firsts_any B n c2 eb (hel.trans hn2) (by omega) w (fun h => by
      obtain ⟨g, o, e, _, g2, hr⟩ := HDB.out.2.2.1 (by rw [HDB.out.1, ← hel]; exact h)
      refine ⟨g, o, e, g2, fun i hi => ?_⟩
      have h1 : i < db.length := by rw [HDB.out.1, ← hel]; exact hi
      have h2 : eb[i].1 = db[i] := by
        have := HEB.out
        have k1 : (eb.map Subtype.val)[i]? = db[i]? := by rw [this]
        rw [List.getElem?_map, List.getElem?_eq_getElem hi, List.getElem?_eq_getElem h1] at k1
        simpa using k1
      rw [h2]
      exact hr i h1))
    have HEL := Lib.hid hel
    rw [hn, hn2]
    rw [hn] at hla
    clear hl hn hn2 hel
    go_enter Try.func34, Try.ntmps34
    go_wp2_with fail
    refine HFS.out.mono ?_
    rintro e w1 ⟨rfl, hpl, hb1⟩
    have HPL := Lib.hid hpl
    have HB1 := Lib.hid hb1
    have hsz1 : w.heap.size ≤ w1.heap.size := hb1.size
    clear hpl hb1 HFS
    go_wp2_with fail
    go_loopw [19] (fun i wr => ∃ k : Nat, i = .int .i64 k ∧ k ≤ n ∧ Aside (∀ i (h : i < ms.length) (hn : i < ns.length), i < k → ns[i] ∈ nb ∧ ∃ y, mb[nb.idxOf ns[i]]? = some y ∧ same ms[i] y) ∧ Aside (Below w1.heap.size w1 wr)) (fun i _ => n - (intOf i).toNat)
    case atStart => exact ⟨0, rfl, by omega, (show ∀ _ _ _ _, _ from fun j _ _ h => by omega), (show Below _ _ _ from Below.refl _ _)⟩
    case round =>
      obtain ⟨k, rfl, hk, hall, hbel⟩ := hrel
      by_cases hlt : k < n
      · have t1 : decide ((k : Int) < (n : Int)) = true := decide_eq_true (by omega)
        have t2 : decide (k < n) = true := decide_eq_true hlt
        have k0 : (0 : Int) ≤ (k : Int) := by omega
        have k1 : (k : Int) < (n : Int) := by omega
        have k2 : ((k : Int)).toNat = k := by omega
        have hka : k < ms.length := by rw [HL1.out]; exact hlt
        have hkn : k < ns.length := by rw [HN.out]; exact hka
        have hkd : k < da.length := by rw [HDA.out.1]; exact hka
        have hbw : Below w.heap.size w wr := HB1.out.trans (hbel.out.mono hsz1)
        obtain ⟨g, o, rfl, _, hg, hr⟩ := HDA.out.2.2.1 (by omega)
        have hx := (hr k hkd).keep (W' := wr) (fun j => hbw.cell (p := ⟨g, j, none⟩) hg)
        have hva := HDA.out.2.2.2 k hkd hka
        have hmm : ms[k] ∈ ms := List.getElem_mem hka
        have hnm : da[k].nm = ns[k] := by
          have := HDA.out.2.1
          have q : (da.map M6.nm)[k]? = ns[k]? := by rw [this]
          rw [List.getElem?_map, List.getElem?_eq_getElem hkd, List.getElem?_eq_getElem hkn] at q
          simpa using q
        have hln := HSA.out ns[k] (List.getElem_mem hkn)
        rw [← hnm] at hln
        have hkey := Go.WideMaps.keyOf_string_mk (P := Try.prog) (k := 9) Try.underlying9 (s := strOf da[k].nm) (by rw [strOf_size]; unfold maxLen; omega)
        rw [strOf_data] at hkey
        have hhas := fsD_has da[k].nm eb 0
        have hat := fsD_at da[k].nm (.lit (.int .i64 0)) eb 0 (by have := HEL.out; have := HL2.out; omega)
        rw [HEB2.out] at hhas hat
        obtain ⟨D, hD⟩ : ∃ D, fsD (seqM 0 eb) = D := ⟨_, rfl⟩
        rw [hD] at hhas hat
        have HPW := Lib.hid (fun ob => World.ownsMap.alloc (World.ownsMap.kept (show w1.ownsMap Try.prog 9 (plainElem (H := Unit) Try.prog 3) w.heap.size n D from by rw [← hD]; exact HPL.out) (grown_of_below hbel.out) (by simp)) ob)
        have HBW := Lib.hid hbw
        have HNM := Lib.hid hnm
        have HALL := Lib.hid hall.out
        have HBEL := Lib.hid hbel.out
        generalize da[k] = x at *
        obtain ⟨xx, xk, xn, xs, xA, xl, xc, xB, xm, xd⟩ := x
        simp only [M6At] at hx
        simp only [m6tail] at hva
        obtain ⟨a0, a1, a2, a3, a4, a5⟩ := hx
        by_cases hin : xx ∈ nb
        · -- the name is there
          have hh : Maps.has D (pK xx) = true := by rw [hhas]; exact decide_eq_true hin
          have ha2 := hat hin
          obtain ⟨j, hj⟩ : ∃ j, nb.idxOf xx = j := ⟨_, rfl⟩
          have hjl : j < mb.length := by rw [← hj, ← HNB.out]; exact List.idxOf_lt_length_of_mem hin
          rw [Nat.zero_add, hj] at ha2
          have hjd : j < db.length := by rw [HDB.out.1]; exact hjl
          obtain ⟨g2, o2, rfl, _, hg2, hr2⟩ := HDB.out.2.2.1 (by omega)
          have hbx := hr2 j hjd
          have hvb := HDB.out.2.2.2 j hjd hjl
          have hcon := fun (W : World) (hw : Below w.heap.size w W) => IH.out _ hmm mb[j] _ _ W (szAL_mem HZ.out (List.getElem_mem hjl)) (hva.below hw (Nat.le_refl _) hw.size) (hvb.below hw (Nat.le_refl _) hw.size)
          have hw1 : ∀ ob, Below w.heap.size w (wr.alloc ob) := fun ob => hbw.alloc hbw.size ob
          have hbx2 := fun ob => (hbx).keep (W' := wr.alloc ob) (fun j => (hw1 ob).cell (p := ⟨g2, j, none⟩) hg2)
          generalize db[j] = y at *
          obtain ⟨yx, yk, yn, ys, yA, yl, yc, yB, ym, yd⟩ := y
          simp only [M6At] at hbx2
          simp only [m6tail] at hcon
          have HCON := Lib.hid hcon
          have HK := Lib.hid hkey
          have HH := Lib.hid hh
          have HAT := Lib.hid ha2
          have HIN := Lib.hid hin
          have HJ := Lib.hid hj
          have j0 : (0 : Int) ≤ (j : Int) := by omega
          have j1 : (j : Int) < (n : Int) := by have := HL2.out; omega
          have j2 : ((j : Int)).toNat = j := by omega
          generalize strOf xx = X at *
          clear hcon hkey hh ha2 hin hj hjd hbx hvb hr2 hr hva hmm hnm hln hhas hat hall hbel hD hw1 hbw
          obtain ⟨W, hW⟩ : ∃ W, W = wr.alloc (.cells #[.string X, .int .i64 xk, .int .i64 xn, .string xs, .slice xA xl xc, .slice xB xm xd] 50) := ⟨_, rfl⟩
          have bW := hbx2 (.cells #[.string X, .int .i64 xk, .int .i64 xn, .string xs, .slice xA xl xc, .slice xB xm xd] 50)
          rw [← hW] at bW
          obtain ⟨_, b0, b1, b2, b3, b4⟩ := bW
          have hWr : W.heap[wr.heap.size]? = some (.cells #[.string X, .int .i64 xk, .int .i64 xn, .string xs, .slice xA xl xc, .slice xB xm xd] 50 (0, 0)) := by rw [hW]; exact heapNew wr _
          have c1 : W.cell? ⟨wr.heap.size, 1, none⟩ = some (.int .i64 xk) := by simp [World.cell?, hWr]
          have c2 : W.cell? ⟨wr.heap.size, 2, none⟩ = some (.int .i64 xn) := by simp [World.cell?, hWr]
          have c3 : W.cell? ⟨wr.heap.size, 3, none⟩ = some (.string xs) := by simp [World.cell?, hWr]
          have c4 : W.cell? ⟨wr.heap.size, 4, none⟩ = some (.slice xA xl xc) := by simp [World.cell?, hWr]
          have c5 : W.cell? ⟨wr.heap.size, 5, none⟩ = some (.slice xB xm xd) := by simp [World.cell?, hWr]
          have HW := Lib.hid hW
          have HWB := Lib.hid (show Below w.heap.size w W from by rw [hW]; exact HBW.out.alloc HBW.out.size _)
          have hlw : wr.heap.size < W.heap.size := by rw [hW]; simp
          have hgw : g2 < W.heap.size := Nat.lt_of_lt_of_le hg2 (by rw [hW]; simp; have := HBW.out.size; omega)
          have HWB1 := Lib.hid (show Below w1.heap.size w1 W from by rw [hW]; exact HBEL.out.alloc HBEL.out.size _)
          clear hW hWr hbx2
          go_wp2_with (at_lookup; refine wpList_lookup_known _ rfl _ _ 70 rfl 9 3 .i64 keyN Try.underlying70 Try.underlying3 (zeroInt _) w.heap.size n D rfl (HPW.out _) _ _ rfl HK.out _ _ HAT.out HH.out ?_)
          rw [← HW.out]
          have HDR := Lib.hid (show ∀ w0 : World, w0 = W.drew → Below w.heap.size w w0 from fun w0 h => by rw [h]; exact HWB.out.drew)
          go_region_held3 (fun w' => w'.cell? ⟨wr.heap.size, 1, none⟩ = some (.int .i64 xk) ∧ w'.cell? ⟨wr.heap.size, 2, none⟩ = some (.int .i64 xn) ∧ w'.cell? ⟨wr.heap.size, 3, none⟩ = some (.string xs) ∧ w'.cell? ⟨wr.heap.size, 4, none⟩ = some (.slice xA xl xc) ∧ w'.cell? ⟨wr.heap.size, 5, none⟩ = some (.slice xB xm xd) ∧ w'.cell? ⟨g2, o2 + j * 6 + 1, none⟩ = some (.int .i64 yk) ∧ w'.cell? ⟨g2, o2 + j * 6 + 2, none⟩ = some (.int .i64 yn) ∧ w'.cell? ⟨g2, o2 + j * 6 + 3, none⟩ = some (.string ys) ∧ w'.cell? ⟨g2, o2 + j * 6 + 4, none⟩ = some (.slice yA yl yc) ∧ w'.cell? ⟨g2, o2 + j * 6 + 5, none⟩ = some (.slice yB ym yd))
            (first | go_keep | exact ⟨(hb5.cell (p := ⟨wr.heap.size, 1, none⟩) (by show wr.heap.size < _; simp; omega)).trans c1, (hb5.cell (p := ⟨wr.heap.size, 2, none⟩) (by show wr.heap.size < _; simp; omega)).trans c2, (hb5.cell (p := ⟨wr.heap.size, 3, none⟩) (by show wr.heap.size < _; simp; omega)).trans c3, (hb5.cell (p := ⟨wr.heap.size, 4, none⟩) (by show wr.heap.size < _; simp; omega)).trans c4, (hb5.cell (p := ⟨wr.heap.size, 5, none⟩) (by show wr.heap.size < _; simp; omega)).trans c5, (hb5.cell (p := ⟨g2, o2 + j * 6 + 1, none⟩) (by show g2 < _; simp; omega)).trans b0, (hb5.cell (p := ⟨g2, o2 + j * 6 + 2, none⟩) (by show g2 < _; simp; omega)).trans b1, (hb5.cell (p := ⟨g2, o2 + j * 6 + 3, none⟩) (by show g2 < _; simp; omega)).trans b2, (hb5.cell (p := ⟨g2, o2 + j * 6 + 4, none⟩) (by show g2 < _; simp; omega)).trans b3, (hb5.cell (p := ⟨g2, o2 + j * 6 + 5, none⟩) (by show g2 < _; simp; omega)).trans b4⟩)
            ((go_at_call 20; refine (HCON.out _ (HDR.out _ rfl)).mono ?_; rintro e w5 ⟨⟨b, rfl, hb⟩, hb5⟩))
          have HB5 := Lib.hid (HWB1.out.drew.trans (hb5.mono (by have := HWB1.out.size; simpa using this)))
          obtain ⟨q, hqq⟩ : ∃ q, same ms[k] mb[j] = q := ⟨_, rfl⟩
          rw [hqq] at hb
          have HQ := Lib.hid hqq
          have HY := Lib.hid (show mb[nb.idxOf ns[k]]? = some mb[j] by rw [← HNM.out, HJ.out]; exact List.getElem?_eq_getElem hjl)
          clear hb5 hqq
          cases b
          · have HF := Lib.hid (show ¬ q from fun h => by have := hb.2 h; cases this)
            clear hb
            go_wp2
            go_ret
            exact ⟨⟨false, rfl, by simp, fun h => by
              obtain ⟨_, y, e1, e2⟩ := HE.out.1 h.2 k hka hkn
              rw [HY.out] at e1
              injection e1 with e1
              rw [← e1, HQ.out] at e2
              exact absurd e2 HF.out⟩, HB1.out.trans (HB5.out.mono hsz1)⟩
          · have HF := Lib.hid (show q from hb.1 rfl)
            clear hb
            go_wp2
            go_roundw
            case rel =>
              refine ⟨k + 1, by go_num, by omega, (show ∀ _ _ _ _, _ from fun i h1 h2 hj => ?_), HB5.out⟩
              rcases Nat.lt_or_ge i k with hjk | hjk
              · exact HALL.out i h1 h2 hjk
              · obtain rfl : i = k := by omega
                exact ⟨by rw [← HNM.out]; exact HIN.out, mb[j], HY.out, by rw [HQ.out]; exact HF.out⟩
            case measure => simp [intOf]; omega
        · have hh : Maps.has D (pK xx) = false := by rw [hhas]; exact decide_eq_false hin
          have ha2 := atKey_of_not_has hh (.lit (.int .i64 0))
          have HK := Lib.hid hkey
          have HH := Lib.hid hh
          have HAT := Lib.hid ha2
          have HIN := Lib.hid hin
          generalize strOf xx = X at *
          clear hkey hh ha2 hin hr hva hmm hnm hln hhas hat hall hbel hD
          have HWB := Lib.hid (hbw.alloc hbw.size (.cells #[.string X, .int .i64 xk, .int .i64 xn, .string xs, .slice xA xl xc, .slice xB xm xd] 50))
          clear hbw
          go_wp2_with (at_lookup; refine wpList_lookup_known _ rfl _ _ 70 rfl 9 3 .i64 keyN Try.underlying70 Try.underlying3 (zeroInt _) w.heap.size n D rfl (HPW.out _) _ _ rfl HK.out _ _ HAT.out HH.out ?_)
          go_quiet ((fail))
          go_wp2
          go_ret
          exact ⟨⟨false, rfl, by simp, fun h => by
            have := (HE.out.1 h.2 k hka hkn).1
            rw [← HNM.out] at this
            exact absurd this HIN.out⟩, bDrewN HWB.out _⟩
      · have t1 : decide ((k : Int) < (n : Int)) = false := decide_eq_false (by omega)
        have t2 : decide (k < n) = false := decide_eq_false hlt
        go_wp2
        go_ret
        exact ⟨⟨true, rfl, fun _ => ⟨trivial, HE.out.2 fun i i1 i2 => hall.out i i1 i2 (by have := HL1.out; omega)⟩, fun _ => rfl⟩, HB1.out.trans (hbel.out.mono hsz1)⟩
  · have t1 : ((ms.length : Int) != (mb.length : Int)) = true := by rw [bne_iff_ne]; omega
    have HL := Lib.hid hl
    clear hl
    go_enter Try.func34, Try.ntmps34
    go_wp2
    go_ret
    exact ⟨⟨false, rfl, by simp, fun h => absurd h.1 HL.out⟩, Below.refl _ _⟩
end Go.Proofs.Ytbepnjgbkfidiaa.Tr
/- Being the same: whole values. -/
namespace Go.Proofs.Ytbepnjgbkfidiaa.Tr
open Go.Proofs Go.RowKit Go.Lib
open Go.Proofs.Ytbepnjgbkfidiaa.Utf
open Go.Proofs.Ytbepnjgbkfidiaa.Sc
open Go.Proofs.Ytbepnjgbkfidiaa.Re
open Go.Proofs.Ytbepnjgbkfidiaa.Em (Tells)

theorem inL_mem {v x : V} (h : x ∈ inL v) : x ∈ v.l := by
  unfold inL at h
  split at h
  · exact h
  · cases h
theorem inM_mem {v x : V} (h : x ∈ inM v) : x ∈ v.ms := by
  unfold inM at h
  split at h
  · exact h
  · cases h
theorem inN_mem {v : V} {x : List UInt8} (h : x ∈ inN v) : x ∈ v.ns := by
  unfold inN at h
  split at h
  · exact h
  · cases h
theorem inL_le (v : V) : (inL v).length ≤ v.l.length := by unfold inL; split <;> simp
theorem inM_le (v : V) : (inM v).length ≤ v.ms.length := by unfold inM; split <;> simp
theorem szAL_sub {B : Nat} {l r : List V} (h : szAL B l) (hs : ∀ x ∈ r, x ∈ l) : szAL B r := szAL_of fun v hv => szAL_mem h (hs v hv)
theorem slL_keep {w w' : World} {lo hi : Nat} {A : Option Addr} {l : List V} (h : 0 < l.length → ∃ g o, A = some ⟨g, o, none⟩ ∧ lo ≤ g ∧ g < hi ∧ RdAL w lo hi g o l) (hb : Below hi w w') (hs : hi ≤ w'.heap.size) :
    0 < l.length → ∃ g o, A = some ⟨g, o, none⟩ ∧ 0 ≤ g ∧ g < w'.heap.size ∧ RdAL w' 0 w'.heap.size g o l := fun h0 => by
  obtain ⟨g, o, e, g1, g2, hr⟩ := h h0
  exact ⟨g, o, e, Nat.zero_le _, by omega, RdAL.keep (fun p _ hp => hb.cell (p := p) hp) (Nat.zero_le _) hs l g o g1 g2 hr⟩
theorem slM_keep {w w' : World} {lo hi : Nat} {A : Option Addr} {ns : List (List UInt8)} {l : List V} (h : 0 < l.length → ∃ g o, A = some ⟨g, o, none⟩ ∧ lo ≤ g ∧ g < hi ∧ RdAM w lo hi g o ns l) (hb : Below hi w w') (hs : hi ≤ w'.heap.size) :
    0 < l.length → ∃ g o, A = some ⟨g, o, none⟩ ∧ 0 ≤ g ∧ g < w'.heap.size ∧ RdAM w' 0 w'.heap.size g o ns l := fun h0 => by
  obtain ⟨g, o, e, g1, g2, hr⟩ := h h0
  exact ⟨g, o, e, Nat.zero_le _, by omega, RdAM.keep (fun p _ hp => hb.cell (p := p) hp) (Nat.zero_le _) hs l ns g o g1 g2 hr⟩

set_option maxRecDepth 100000 in
set_option maxHeartbeats 16000000 in
theorem Same_any (h : Nat) : ∀ (v : V), ht v ≤ h → szA 4611686018427387904 v → v.l.length < 4611686018427387904 → v.ms.length < 4611686018427387904 → SameCon v := by
  induction h with
  | zero => intro v hh; rw [ht_eq] at hh; omega
  | succ h ih =>
    intro a hh hza hal ham b ca cb w hzb ra rb
    have hE := same_eq a b
    generalize (same a b) = Q at hE ⊢
    have HE := Lib.hid hE; clear hE
    obtain ⟨-, -, -, -, za5, za6, za7, za8⟩ := (szA_eq _ a).1 hza
    obtain ⟨-, -, -, -, zb5, zb6, zb7, zb8⟩ := (szA_eq _ b).1 hzb
    have hht := ht_eq a
    have len_of : ∀ v : V, szA 4611686018427387904 v → v.l.length < 4611686018427387904 ∧ v.ms.length < 4611686018427387904 := fun v hv => by
      have := (szA_eq _ v).1 hv
      omega
    have IHL := Lib.hid (show ∀ v ∈ inL a, SameCon v from fun v hv => by
      have hv' := inL_mem hv
      have hz := szAL_mem za7 hv'
      exact ih v (by have := htL_mem hv'; omega) hz (len_of v hz).1 (len_of v hz).2)
    have IHM := Lib.hid (show ∀ v ∈ inM a, SameCon v from fun v hv => by
      have hv' := inM_mem hv
      have hz := szAL_mem za8 hv'
      exact ih v (by have := htL_mem hv'; omega) hz (len_of v hz).1 (len_of v hz).2)
    have HZL := Lib.hid (szAL_sub zb7 (fun x hx => inL_mem (v := b) hx))
    have HZM := Lib.hid (szAL_sub zb8 (fun x hx => inM_mem (v := b) hx))
    have HNA := Lib.hid (fun x (hx : x ∈ inN a) => za6 x (inN_mem hx))
    have HNB := Lib.hid (fun x (hx : x ∈ inN b) => zb6 x (inN_mem hx))
    have HIA := Lib.hid (fun (W : World) (hW : Below w.heap.size w W) => inside_any a ca 0 w.heap.size W (ra.below hW (Nat.le_refl _) (Nat.le_refl _)))
    have HIB := Lib.hid (fun (W : World) (hW : Below w.heap.size w W) => inside_any b cb 0 w.heap.size W (rb.below hW (Nat.le_refl _) (Nat.le_refl _)))
    have HLA := Lib.hid (in_len ra)
    have HLB := Lib.hid (in_len rb)
    have hLa := inL_le a
    have hMa := inM_le a
    obtain ⟨A1, c1, A2, c2, rfl, -⟩ := ra.cells
    obtain ⟨B1, d1, B2, d2, rfl, -⟩ := rb.cells
    have HSS := Lib.hid (show (strOf a.s).toList = (strOf b.s).toList ↔ a.s = b.s by rw [strOf_list, strOf_list])
    have HKK := Lib.hid (show a.k = a.k ∧ b.k = b.k from ⟨rfl, rfl⟩)
    clear ih ra rb hza hzb za5 za6 za7 za8 zb5 zb6 zb7 zb8 hht len_of
    obtain ⟨ak, hak⟩ : ∃ x, a.k = x := ⟨_, rfl⟩
    obtain ⟨an, han⟩ : ∃ x, a.n = x := ⟨_, rfl⟩
    obtain ⟨bk, hbk⟩ : ∃ x, b.k = x := ⟨_, rfl⟩
    obtain ⟨bn, hbn⟩ : ∃ x, b.n = x := ⟨_, rfl⟩
    rw [hak, han] at HIA ⊢
    rw [hbk, hbn] at HIB ⊢
    rw [hak, hbk, han, hbn] at HE
    generalize strOf a.s = X at *
    generalize strOf b.s = Y at *
    clear hak han hbk hbn HKK
    obtain ⟨la, hla⟩ : ∃ x, a.l.length = x := ⟨_, rfl⟩
    obtain ⟨lb, hlb⟩ : ∃ x, b.l.length = x := ⟨_, rfl⟩
    obtain ⟨ma, hma⟩ : ∃ x, a.ms.length = x := ⟨_, rfl⟩
    obtain ⟨mb, hmb⟩ : ∃ x, b.ms.length = x := ⟨_, rfl⟩
    rw [hla, hma] at HIA ⊢
    rw [hlb, hmb] at HIB ⊢
    rw [hla] at hal hLa
    rw [hma] at ham hMa
    clear hla hlb hma hmb
    have hLa2 : (inL a).length < 4611686018427387904 := by omega
    have hMa2 : (inM a).length < 4611686018427387904 := by omega
    clear hLa hMa hal ham hh
    have hb0 : Below w.heap.size w ((w.alloc (.cells #[.int .i64 ak, .int .i64 an, .string X, .slice A1 la c1, .slice A2 ma c2] 25)).alloc (.cells #[.int .i64 bk, .int .i64 bn, .string Y, .slice B1 lb d1, .slice B2 mb d2] 25)) := ((Below.refl _ _).alloc (Nat.le_refl _) _).alloc (by simp) _
    have HB0 := Lib.hid hb0
    clear hb0
    by_cases e1 : ak = bk
    · subst e1
      have t1 : (ak != ak) = false := by simp
      by_cases e2 : an = bn
      · subst e2
        have t2 : (an != an) = false := by simp
        by_cases e3 : X.toList = Y.toList
        · have t3 : (X.toList != Y.toList) = false := by rw [bne_eq_false_iff_eq]; exact e3
          have t3b : (X.toList == Y.toList) = true := by rw [beq_iff_eq]; exact e3
          have HES := Lib.hid (HSS.out.1 e3)
          clear e3
          go_enter Try.func20, Try.ntmps20
          go_wp2_with fail
          have HZ := Lib.hid (show ((w.alloc (.cells #[.int .i64 ak, .int .i64 an, .string X, .slice A1 la c1, .slice A2 ma c2] 25)).alloc (.cells #[.int .i64 ak, .int .i64 an, .string Y, .slice B1 lb d1, .slice B2 mb d2] 25)).heap[w.heap.size + 1]? = some (.cells #[.int .i64 ak, .int .i64 an, .string Y, .slice B1 lb d1, .slice B2 mb d2] 25 (0, 0)) from by
            have := heapNew (w.alloc (.cells #[.int .i64 ak, .int .i64 an, .string X, .slice A1 la c1, .slice A2 ma c2] 25)) (.cells #[.int .i64 ak, .int .i64 an, .string Y, .slice B1 lb d1, .slice B2 mb d2] 25)
            rwa [szAl] at this)
          have HS := Lib.hid (show ((w.alloc (.cells #[.int .i64 ak, .int .i64 an, .string X, .slice A1 la c1, .slice A2 ma c2] 25)).alloc (.cells #[.int .i64 ak, .int .i64 an, .string Y, .slice B1 lb d1, .slice B2 mb d2] 25)).heap.size = w.heap.size + 2 from by rw [szAl, szAl])
          generalize ((w.alloc (.cells #[.int .i64 ak, .int .i64 an, .string X, .slice A1 la c1, .slice A2 ma c2] 25)).alloc (.cells #[.int .i64 ak, .int .i64 an, .string Y, .slice B1 lb d1, .slice B2 mb d2] 25)) = w0 at HZ HS HB0 ⊢
          refine (HIA.out _ HB0.out).mono ?_
          rintro e w1 ⟨⟨A, c, A', c', rfl, hL, hM⟩, hb1⟩
          have HB1 := Lib.hid (HB0.out.trans (hb1.mono HB0.out.size))
          have HLa := Lib.hid (fun (W : World) (hW : Below w.heap.size w W) (hw : Below w.heap.size w0 W) => slL_keep hL hw hW.size)
          have HMa := Lib.hid (fun (W : World) (hW : Below w.heap.size w W) (hw : Below w.heap.size w0 W) => slM_keep hM hw hW.size)
          have hz1 := (hb1.block (w.heap.size + 1) (by rw [HS.out]; omega)).trans HZ.out
          have HS1 := Lib.hid (show w.heap.size + 2 ≤ w1.heap.size by have := hb1.size; rw [HS.out] at this; exact this)
          have HB01 := Lib.hid (show Below w.heap.size w0 w1 from hb1.mono HB0.out.size)
          obtain ⟨⟨z0, z1, z2, z3, z4⟩, _⟩ := row5 hz1
          clear hL hM hb1 hz1 HZ HS HIA
          obtain ⟨nl, hnl⟩ : ∃ x, (inL a).length = x := ⟨_, rfl⟩
          obtain ⟨nm, hnm⟩ : ∃ x, (inM a).length = x := ⟨_, rfl⟩
          have HNL := Lib.hid hnl
          have HNM := Lib.hid hnm
          rw [hnl, hnm]
          clear hnl hnm
          go_wp2_with fail
          refine (HIB.out _ HB1.out).mono ?_
          rintro e w2 ⟨⟨B, d, B', d', rfl, hL, hM⟩, hb2⟩
          have HB2 := Lib.hid (HB1.out.trans (hb2.mono HB1.out.size))
          have HB02 := Lib.hid (HB01.out.trans (hb2.mono HB1.out.size))
          have HLb := Lib.hid (fun (W : World) (hW : Below w.heap.size w W) (hw : Below w.heap.size w1 W) => slL_keep hL hw hW.size)
          have HMb := Lib.hid (fun (W : World) (hW : Below w.heap.size w W) (hw : Below w.heap.size w1 W) => slM_keep hM hw hW.size)
          have HB12 := Lib.hid (show Below w.heap.size w1 w2 from hb2.mono HB1.out.size)
          have HEQ := Lib.hid (EqualFunc_any A B c d (inL a) (inL b) w2 hLa2 IHL.out HZL.out (HLa.out _ HB2.out HB02.out) (HLb.out _ HB2.out HB12.out))
          have hmb : (inM b).length = (inM b).length := rfl
          obtain ⟨nl2, hnl⟩ : ∃ x, (inL b).length = x := ⟨_, rfl⟩
          obtain ⟨nm2, hnm⟩ : ∃ x, (inM b).length = x := ⟨_, rfl⟩
          have HNL2 := Lib.hid hnl
          have HNM2 := Lib.hid hnm
          rw [HNL.out, hnl] at HEQ
          rw [hnl, hnm]
          clear hnl hnm hL hM hb2 hmb z0 z1 z2 z3 z4 HIB HS1
          go_wp2_with fail
          refine HEQ.out.mono ?_
          rintro e w3 ⟨⟨x, rfl, hx⟩, hb3⟩
          have HB3 := Lib.hid (HB2.out.trans (hb3.mono HB2.out.size))
          have HB03 := Lib.hid (HB02.out.trans (hb3.mono HB2.out.size))
          have HB13 := Lib.hid (HB12.out.trans (hb3.mono HB2.out.size))
          clear hb3 HEQ
          cases x
          · have HF := Lib.hid (show ¬ sameL (inL a) (inL b) from fun h => by have := hx.2 h; cases this)
            clear hx
            go_wp2
            go_ret
            exact ⟨⟨false, rfl, by simp, fun h => absurd (HE.out.1 h).2.2.2.1 HF.out⟩, HB3.out⟩
          · have HF := Lib.hid (show sameL (inL a) (inL b) from hx.1 rfl)
            clear hx
            have HAS := Lib.hid (areSame_any A' B' c' d' (inN a) (inN b) (inM a) (inM b) w3 HLA.out HLB.out hMa2 IHM.out HZM.out HNA.out HNB.out (HMa.out _ HB3.out HB03.out) (HMb.out _ HB3.out HB13.out))
            rw [HNM.out, HNM2.out] at HAS
            go_wp2_with fail
            refine HAS.out.mono ?_
            rintro e w4 ⟨⟨x, rfl, hx⟩, hb4⟩
            have HB4 := Lib.hid (HB3.out.trans (hb4.mono HB3.out.size))
            have HX := Lib.hid hx
            clear hb4 HAS hx
            go_wp2
            go_ret
            refine ⟨⟨x, rfl, HX.out.trans ?_⟩, HB4.out⟩
            exact ⟨fun h => HE.out.2 ⟨trivial, trivial, HES.out, HF.out, by rw [HNM.out, HNM2.out]; exact h.1, h.2⟩, fun h => ⟨by have := (HE.out.1 h).2.2.2.2.1; rw [HNM.out, HNM2.out] at this; exact this, (HE.out.1 h).2.2.2.2.2⟩⟩
        · have t3 : (X.toList != Y.toList) = true := by rw [bne_iff_ne]; exact e3
          have t3b : (X.toList == Y.toList) = false := by rw [beq_eq_false_iff_ne]; exact e3
          have HES := Lib.hid (show ¬ a.s = b.s from fun h => e3 (HSS.out.2 h))
          clear e3
          go_enter Try.func20, Try.ntmps20
          go_wp2
          go_ret
          exact ⟨⟨false, rfl, by simp, fun h => absurd (HE.out.1 h).2.2.1 HES.out⟩, HB0.out⟩
      · have t2 : (an != bn) = true := by rw [bne_iff_ne]; exact e2
        have H2 := Lib.hid e2
        clear e2
        go_enter Try.func20, Try.ntmps20
        go_wp2
        go_ret
        exact ⟨⟨false, rfl, by simp, fun h => absurd (HE.out.1 h).2.1 H2.out⟩, HB0.out⟩
    · have t1 : (ak != bk) = true := by rw [bne_iff_ne]; exact e1
      have H1 := Lib.hid e1
      clear e1
      go_enter Try.func20, Try.ntmps20
      go_wp2
      go_ret
      exact ⟨⟨false, rfl, by simp, fun h => absurd (HE.out.1 h).1 H1.out⟩, HB0.out⟩
end Go.Proofs.Ytbepnjgbkfidiaa.Tr
/- Rows of cells; a copy under way. No run of the program in this text. -/
namespace Go.Proofs.Ytbepnjgbkfidiaa.Tr
open Go.Proofs Go.RowKit Go.Lib
open Go.Proofs.Ytbepnjgbkfidiaa.Utf
open Go.Proofs.Ytbepnjgbkfidiaa.Sc
open Go.Proofs.Ytbepnjgbkfidiaa.Re

theorem flat_len (s : Nat) : ∀ rows : List (List Value), (∀ r ∈ rows, r.length = s) → rows.flatten.length = rows.length * s
  | [], _ => by simp
  | r :: t, h => by
    rw [List.flatten_cons, List.length_append, h r (by simp), flat_len s t (fun x hx => h x (by simp [hx])), List.length_cons, Nat.succ_mul]
    omega
theorem flat_get (s : Nat) : ∀ (rows : List (List Value)), (∀ r ∈ rows, r.length = s) → ∀ k t (hk : k < rows.length), t < s → rows.flatten[k * s + t]? = rows[k][t]?
  | [], _, k, _, hk, _ => by simp at hk
  | r :: rest, h, k, t, hk, ht => by
    have hr := h r (by simp)
    rw [List.flatten_cons]
    cases k with
    | zero => rw [Nat.zero_mul, Nat.zero_add, List.getElem?_append_left (by omega)]; rfl
    | succ k =>
      have e : (k + 1) * s + t = r.length + (k * s + t) := by rw [Nat.succ_mul, hr]; omega
      rw [e, List.getElem?_append_right (by omega), Nat.add_sub_cancel_left, flat_get s rest (fun x hx => h x (by simp [hx])) k t (by simpa using hk) ht]
      rfl
/-- rows that lie one behind the other -/
def RowsAt (w : World) (g o s : Nat) (rows : List (List Value)) : Prop := (∀ r ∈ rows, r.length = s) ∧ ∀ k (h : k < rows.length) t u, rows[k][t]? = some u → w.cell? ⟨g, o + k * s + t, none⟩ = some u
theorem rows_flat {w : World} {g o s : Nat} {rows : List (List Value)} (hs : 0 < s) (h : RowsAt w g o s rows) : ∀ j u, rows.flatten[j]? = some u → w.cell? ⟨g, o + j, none⟩ = some u := fun j u hu => by
  have hj : j < rows.length * s := by
    have := (List.getElem?_eq_some_iff.1 hu).1
    rwa [flat_len s rows h.1] at this
  have hk : j / s < rows.length := Nat.div_lt_of_lt_mul (by rwa [Nat.mul_comm] at hj)
  have ht : j % s < s := Nat.mod_lt _ hs
  have e : j = j / s * s + j % s := by rw [Nat.mul_comm]; exact (Nat.div_add_mod j s).symm
  rw [e, flat_get s rows h.1 _ _ hk ht] at hu
  have := h.2 _ hk _ _ hu
  rw [e, ← Nat.add_assoc]
  exact this
theorem rows_one {s : Nat} {rows : List (List Value)} (h : ∀ r ∈ rows, ∀ u ∈ r, u.oneCell' = true) : ∀ u ∈ rows.flatten, u.oneCell' = true := fun u hu => by
  obtain ⟨r, h1, h2⟩ := List.mem_flatten.1 hu
  have := s
  exact h r h1 u h2
theorem rd_one {w : World} {lo hi : Nat} {v : V} {cs : List Value} (h : RdA w lo hi v cs) : cs.length = 5 ∧ ∀ u ∈ cs, u.oneCell' = true := by
  obtain ⟨A, c, A2, c2, rfl, _⟩ := h.cells
  refine ⟨rfl, fun u hu => ?_⟩
  simp only [List.mem_cons, List.not_mem_nil, or_false] at hu
  rcases hu with rfl | rfl | rfl | rfl | rfl <;> rfl
/-- a list's values as rows of cells -/
theorem rowsL {w : World} {lo hi g o : Nat} {l : List V} (h : RdAL w lo hi g o l) : ∃ rows : List (List Value), rows.length = l.length ∧ RowsAt w g o 5 rows ∧ (∀ r ∈ rows, ∀ u ∈ r, u.oneCell' = true) ∧ ∀ k (h1 : k < l.length) (h2 : k < rows.length), RdA w lo hi l[k] rows[k] := by
  induction l generalizing o with
  | nil => exact ⟨[], rfl, ⟨(fun r h => by cases h), (fun k h => by simp at h)⟩, (fun r h => by cases h), (fun k h => by simp at h)⟩
  | cons v r ih =>
    rw [RdAL] at h
    obtain ⟨⟨cs, hc, hv⟩, hr⟩ := h
    obtain ⟨rows, e1, ⟨e2, e3⟩, e4, e5⟩ := ih hr
    obtain ⟨o1, o2⟩ := rd_one hv
    refine ⟨cs :: rows, by simp [e1], ⟨fun x hx => ?_, fun k hk t u hu => ?_⟩, fun x hx => ?_, fun k h1 h2 => ?_⟩
    · rcases List.mem_cons.1 hx with rfl | hx
      · exact o1
      · exact e2 x hx
    · cases k with
      | zero => have := hc t u (by simpa using hu); simpa using this
      | succ k =>
        have := e3 k (by simpa using hk) t u (by simpa using hu)
        rw [show o + (k + 1) * 5 + t = o + 5 + k * 5 + t by omega]
        exact this
    · rcases List.mem_cons.1 hx with rfl | hx
      · exact o2
      · exact e4 x hx
    · cases k with
      | zero => exact hv
      | succ k => exact e5 k (by simpa using h1) (by simpa using h2)
/-- a map's members as rows of cells -/
theorem rowsM {w : World} {lo hi g o : Nat} {ms : List V} {ns : List (List UInt8)} (hn : ns.length = ms.length) (h : RdAM w lo hi g o ns ms) : ∃ rows : List (List Value), rows.length = ms.length ∧ RowsAt w g o 6 rows ∧ (∀ r ∈ rows, ∀ u ∈ r, u.oneCell' = true) ∧ ∀ k (h1 : k < ms.length) (h2 : k < rows.length) (h3 : k < ns.length), ∃ cs, rows[k] = .string (strOf ns[k]) :: cs ∧ RdA w lo hi ms[k] cs := by
  induction ms generalizing o ns with
  | nil => exact ⟨[], rfl, ⟨(fun r h => by cases h), (fun k h => by simp at h)⟩, (fun r h => by cases h), (fun k h => by simp at h)⟩
  | cons v r ih =>
    rw [RdAM] at h
    obtain ⟨nm, ns', rfl, h0, ⟨cs, hc, hv⟩, hr⟩ := h
    obtain ⟨rows, e1, ⟨e2, e3⟩, e4, e5⟩ := ih (by simpa using hn) hr
    obtain ⟨o1, o2⟩ := rd_one hv
    refine ⟨(.string (strOf nm) :: cs) :: rows, by simp [e1], ⟨fun x hx => ?_, fun k hk t u hu => ?_⟩, fun x hx => ?_, fun k h1 h2 h3 => ?_⟩
    · rcases List.mem_cons.1 hx with rfl | hx
      · simp [o1]
      · exact e2 x hx
    · cases k with
      | zero =>
        cases t with
        | zero => simp at hu; subst hu; simpa using h0
        | succ t =>
          have := hc t u (by simpa using hu)
          rw [show o + 0 * 6 + (t + 1) = o + 1 + t by omega]
          exact this
      | succ k =>
        have := e3 k (by simpa using hk) t u (by simpa using hu)
        rw [show o + (k + 1) * 6 + t = o + 6 + k * 6 + t by omega]
        exact this
    · rcases List.mem_cons.1 hx with rfl | hx
      · intro u hu
        rcases List.mem_cons.1 hu with rfl | hu
        · rfl
        · exact o2 u hu
      · exact e4 x hx
    · cases k with
      | zero => exact ⟨cs, rfl, hv⟩
      | succ k => exact e5 k (by simpa using h1) (by simpa using h2) (by simpa using h3)
/-- a row of the call's own -/
theorem own_at {w : World} {base T s n : Nat} {A : Option Addr} {c : Nat} {xs : List Value} (h : w.ownsRow base T s (.slice A n c) n xs) (hn : 0 < n) : ∃ g, A = some ⟨g, 0, none⟩ ∧ base ≤ g ∧ g < w.heap.size ∧ CellsAt w g 0 xs := by
  obtain ⟨hl, h⟩ := h
  rcases h with ⟨e, rfl⟩ | ⟨g, cap, cur, e, hb, hh, hnc, _, hcur, htake⟩
  · omega
  · injection e with e1 e2 e3
    refine ⟨g, e1, hb, (Array.getElem?_eq_some_iff.1 hh).1, fun j u hu => ?_⟩
    rw [← htake] at hu
    have hcj : cur[j]? = some u := by
      rw [List.getElem?_take] at hu
      split at hu
      · simpa using hu
      · cases hu
    rw [Nat.zero_add]
    exact ⟨by simp [World.cell?, hh, hcj], by simp [World.frozen?, hh]⟩
theorem CellsAt.sub {w : World} {g o s : Nat} {rows : List (List Value)} (hr : ∀ r ∈ rows, r.length = s) (h : CellsAt w g o rows.flatten) (k : Nat) (hk : k < rows.length) : CellsAt w g (o + k * s) rows[k] := fun t u hu => by
  have ht : t < s := by
    have := (List.getElem?_eq_some_iff.1 hu).1
    rwa [hr _ (List.getElem_mem hk)] at this
  have := h (k * s + t) u (by rw [flat_get s rows hr k t hk ht]; exact hu)
  rw [Nat.add_assoc]
  exact this

/-! ### five cells written at a place -/
def st5o (w : World) (g o : Nat) (v0 v1 v2 v3 v4 : Value) : World := ((((w.setCell ⟨g, o, none⟩ v0).setCell ⟨g, o + 1, none⟩ v1).setCell ⟨g, o + 2, none⟩ v2).setCell ⟨g, o + 3, none⟩ v3).setCell ⟨g, o + 4, none⟩ v4
theorem setOff {w : World} {g o o' : Nat} (v : Value) (h : o ≠ o') : (w.setCell ⟨g, o, none⟩ v).cell? ⟨g, o', none⟩ = w.cell? ⟨g, o', none⟩ := World.cell?_setCell_other w _ _ v (fun e => h (congrArg Addr.off e))
section
variable {w : World} {g o : Nat} {v0 v1 v2 v3 v4 : Value}
theorem st5o_off {o' : Nat} (h : o' < o ∨ o + 5 ≤ o') : (st5o w g o v0 v1 v2 v3 v4).cell? ⟨g, o', none⟩ = w.cell? ⟨g, o', none⟩ := by
  unfold st5o
  rw [setOff _ (by omega), setOff _ (by omega), setOff _ (by omega), setOff _ (by omega), setOff _ (by omega)]
theorem st5o_frozen (p : Addr) : (st5o w g o v0 v1 v2 v3 v4).frozen? p = w.frozen? p := by
  unfold st5o
  rw [World.frozen?_setCell, World.frozen?_setCell, World.frozen?_setCell, World.frozen?_setCell, World.frozen?_setCell]
theorem st5o_other {k : Nat} (hk : k ≠ g) : (st5o w g o v0 v1 v2 v3 v4).heap[k]? = w.heap[k]? := by
  unfold st5o
  rw [Below.heap_setCell _ _ _ k hk, Below.heap_setCell _ _ _ k hk, Below.heap_setCell _ _ _ k hk, Below.heap_setCell _ _ _ k hk, Below.heap_setCell _ _ _ k hk]
theorem st5o_size : (st5o w g o v0 v1 v2 v3 v4).heap.size = w.heap.size := by simp [st5o]
theorem grown_set (w : World) (g o : Nat) (v : Value) : w.grownBy (w.setCell ⟨g, o, none⟩ v) (some g) := ⟨rfl, rfl, rfl, by simp, fun k _ hk => Below.heap_setCell _ _ _ k (fun e => hk (by rw [e]))⟩
theorem grown_trans {w w1 w2 : World} {pb : Option Nat} (h1 : w.grownBy w1 pb) (h2 : w1.grownBy w2 pb) : w.grownBy w2 pb :=
  ⟨h2.os.trans h1.os, h2.tape.trans h1.tape, h2.output.trans h1.output, Nat.le_trans h1.size h2.size, fun k hk hne => (h2.block k (Nat.lt_of_lt_of_le hk h1.size) hne).trans (h1.block k hk hne)⟩
theorem st5o_grown : w.grownBy (st5o w g o v0 v1 v2 v3 v4) (some g) :=
  grown_trans (grown_trans (grown_trans (grown_trans (grown_set w g o v0) (grown_set _ g _ v1)) (grown_set _ g _ v2)) (grown_set _ g _ v3)) (grown_set _ g _ v4)
theorem grown_below {w w' : World} {pb : Nat} (h : Below w.heap.size w w') : w.grownBy w' (some pb) := ⟨h.os, h.tape, h.output, h.size, fun k hk _ => h.block k hk⟩
theorem below_grown {w w' : World} {pb B : Nat} (h : w.grownBy w' (some pb)) (hB : B ≤ pb) (hs : B ≤ w.heap.size) : Below B w w' := ⟨h.os, h.tape, h.output, h.size, fun k hk => h.block k (by omega) (fun e => by injection e with e; omega)⟩
theorem st5o_at {cs : List Value} (hl : cs.length = 5) (h : CellsAt w g o cs) : CellsAt (st5o w g o v0 v1 v2 v3 v4) g o [v0, v1, v2, v3, v4] := by
  have f := fun j (hj : j < 5) => (h j cs[j] (List.getElem?_eq_getElem (by omega)))
  have s : ∀ j, j < 5 → (w.cell? ⟨g, o + j, none⟩).isSome = true := fun j hj => by rw [(f j hj).1]; rfl
  have S : ∀ (W : World) (p : Nat) (v : Value), (W.cell? ⟨g, p, none⟩).isSome = true → (W.setCell ⟨g, p, none⟩ v).cell? ⟨g, p, none⟩ = some v := fun W p v hs => World.cell?_setCell_same' W ⟨g, p, none⟩ v hs
  have fz := fun j (hj : j < 5) => (st5o_frozen (w := w) (g := g) (o := o) (v0 := v0) (v1 := v1) (v2 := v2) (v3 := v3) (v4 := v4) ⟨g, o + j, none⟩).trans (f j hj).2
  obtain ⟨W1, e1⟩ : ∃ W1, W1 = w.setCell ⟨g, o, none⟩ v0 := ⟨_, rfl⟩
  have a1 : W1.cell? ⟨g, o, none⟩ = some v0 := by rw [e1]; exact S w o v0 (s 0 (by omega))
  have r1 : ∀ q, q ≠ o → W1.cell? ⟨g, q, none⟩ = w.cell? ⟨g, q, none⟩ := fun q hq => by rw [e1]; exact setOff v0 (Ne.symm hq)
  obtain ⟨W2, e2⟩ : ∃ W2, W2 = W1.setCell ⟨g, o + 1, none⟩ v1 := ⟨_, rfl⟩
  have a2 : W2.cell? ⟨g, o + 1, none⟩ = some v1 := by rw [e2]; exact S W1 (o + 1) v1 (by rw [r1 _ (by omega)]; exact s 1 (by omega))
  have r2 : ∀ q, q ≠ o + 1 → W2.cell? ⟨g, q, none⟩ = W1.cell? ⟨g, q, none⟩ := fun q hq => by rw [e2]; exact setOff v1 (Ne.symm hq)
  obtain ⟨W3, e3⟩ : ∃ W3, W3 = W2.setCell ⟨g, o + 2, none⟩ v2 := ⟨_, rfl⟩
  have a3 : W3.cell? ⟨g, o + 2, none⟩ = some v2 := by rw [e3]; exact S W2 (o + 2) v2 (by rw [r2 _ (by omega)]; rw [r1 _ (by omega)]; exact s 2 (by omega))
  have r3 : ∀ q, q ≠ o + 2 → W3.cell? ⟨g, q, none⟩ = W2.cell? ⟨g, q, none⟩ := fun q hq => by rw [e3]; exact setOff v2 (Ne.symm hq)
  obtain ⟨W4, e4⟩ : ∃ W4, W4 = W3.setCell ⟨g, o + 3, none⟩ v3 := ⟨_, rfl⟩
  have a4 : W4.cell? ⟨g, o + 3, none⟩ = some v3 := by rw [e4]; exact S W3 (o + 3) v3 (by rw [r3 _ (by omega)]; rw [r2 _ (by omega)]; rw [r1 _ (by omega)]; exact s 3 (by omega))
  have r4 : ∀ q, q ≠ o + 3 → W4.cell? ⟨g, q, none⟩ = W3.cell? ⟨g, q, none⟩ := fun q hq => by rw [e4]; exact setOff v3 (Ne.symm hq)
  obtain ⟨W5, e5⟩ : ∃ W5, W5 = W4.setCell ⟨g, o + 4, none⟩ v4 := ⟨_, rfl⟩
  have a5 : W5.cell? ⟨g, o + 4, none⟩ = some v4 := by rw [e5]; exact S W4 (o + 4) v4 (by rw [r4 _ (by omega)]; rw [r3 _ (by omega)]; rw [r2 _ (by omega)]; rw [r1 _ (by omega)]; exact s 4 (by omega))
  have r5 : ∀ q, q ≠ o + 4 → W5.cell? ⟨g, q, none⟩ = W4.cell? ⟨g, q, none⟩ := fun q hq => by rw [e5]; exact setOff v4 (Ne.symm hq)
  have hst : st5o w g o v0 v1 v2 v3 v4 = W5 := by unfold st5o; rw [← e1, ← e2, ← e3, ← e4, ← e5]
  rw [hst] at fz ⊢
  clear e1 e2 e3 e4 e5 hst
  intro j u hu
  have hj : j < 5 := by have := (List.getElem?_eq_some_iff.1 hu).1; simpa using this
  refine ⟨?_, fz j hj⟩
  have hjj : j = 0 ∨ j = 1 ∨ j = 2 ∨ j = 3 ∨ j = 4 := by omega
  rcases hjj with rfl | rfl | rfl | rfl | rfl
  · injection hu with hu; subst hu; rw [Nat.add_zero, r5 _ (by omega), r4 _ (by omega), r3 _ (by omega), r2 _ (by omega)]; exact a1
  · injection hu with hu; subst hu; rw [r5 _ (by omega), r4 _ (by omega), r3 _ (by omega)]; exact a2
  · injection hu with hu; subst hu; rw [r5 _ (by omega), r4 _ (by omega)]; exact a3
  · injection hu with hu; subst hu; rw [r5 _ (by omega)]; exact a4
  · injection hu with hu; subst hu; exact a5
theorem st5o_far {o' : Nat} {cs : List Value} (h : o' + cs.length ≤ o ∨ o + 5 ≤ o') (hc : CellsAt w g o' cs) : CellsAt (st5o w g o v0 v1 v2 v3 v4) g o' cs := fun j u hu => by
  have hj := (List.getElem?_eq_some_iff.1 hu).1
  exact ⟨(st5o_off (by omega)).trans (hc j u hu).1, by rw [st5o_frozen]; exact (hc j u hu).2⟩
end
end Go.Proofs.Ytbepnjgbkfidiaa.Tr
/- Members told anew: laws, words. -/
namespace Go.Proofs.Ytbepnjgbkfidiaa.Tr
open Go.Proofs Go.RowKit Go.Lib
open Go.Proofs.Ytbepnjgbkfidiaa.Utf
open Go.Proofs.Ytbepnjgbkfidiaa.Sc
open Go.Proofs.Ytbepnjgbkfidiaa.Re

theorem run_copy_rows {P : Program} (w : World) (dT sT ty elem : TypeId) (s n g o dLen dCap : Nat) (a : Addr) (sLen sCap : Nat) (cur : Array Value) (t : TypeId) (cs : List Value)
    (hu : P.underlying dT = some (.slice elem)) (hs : (P.info? elem).map (·.size) = some s)
    (hg : w.heap[g]? = some (.cells cur t (0, 0))) (hn : n = Nat.min sLen dLen) (hl : cs.length = n * s)
    (hsrc : ∀ j v, cs[j]? = some v → w.cell? (a.add j) = some v) (hfit : o + cs.length ≤ cur.size) (h1 : ∀ v ∈ cs, v.oneCell' = true) :
    (Builtin.copy_ #[dT, sT] ty #[.slice (some ⟨g, o, none⟩) dLen dCap, .slice (some a) sLen sCap]).run P w =
      .ok (goInt n) (w.setRow g (cur.toList.take o ++ cs ++ cur.toList.drop (o + cs.length)).toArray) := by
  have hld := run_loadCells_list (P := P) w a cs hsrc
  have hst := run_storeCells_at P g o t cs 0 cur w hg (by simpa using hfit) h1
  cases hq : P.info? elem with
  | none => simp [hq] at hs
  | some i =>
    have hi : i.size = s := by simpa [hq] using hs
    simp [Builtin.copy_, run_underlying hu, Builtin.lenOf, Builtin.firstCells, sizeOf, typeInfo, hq, hi, ← hn, ← hl, hld, hst]
theorem run_copy_zero {P : Program} (w : World) (dT sT ty elem : TypeId) (d a : Option Addr) (dLen dCap sLen sCap : Nat) (hu : P.underlying dT = some (.slice elem)) (hs : ((P.info? elem).map (·.size)).isSome = true) (hn : Nat.min sLen dLen = 0) :
    (Builtin.copy_ #[dT, sT] ty #[.slice d dLen dCap, .slice a sLen sCap]).run P w = .ok (goInt 0) w := by
  cases hq : P.info? elem with
  | none => simp [hq] at hs
  | some i =>
    have hl : ∀ (x : Addr), (loadCells x 0).run P w = .ok #[] w := fun x => by simpa using run_loadCells_list (P := P) w x [] (by simp)
    cases d <;> cases a <;> simp [Builtin.copy_, run_underlying hu, Builtin.lenOf, Builtin.firstCells, sizeOf, typeInfo, hq, hn, storeCells, hl]
/-- a copy of some rows, or of none, into a new slice -/
theorem wpList_copy_rows {P : Program} {w : World} {ops : Array Oper} {rest : List Oper} {o : Oper} {a : Act} {Q : Exit → Act → World → Prop} (hgd : o.guard = none) (d s : Operand) (dT sT : TypeId)
    (ho : o.op = .call { callee := .builtin .copy, args := #[d, s], argTypes := #[dT, sT] }) (elem : TypeId) (hu : P.underlying dT = some (.slice elem)) (sz n g cap : Nat) (hsz : (P.info? elem).map (·.size) = some sz)
    (A : Option Addr) (sCap : Nat) (hd : a.eval d = .slice (some ⟨g, 0, none⟩) n cap) (hs : a.eval s = .slice A n sCap)
    (cur : Array Value) (t : TypeId) (hg : w.heap[g]? = some (.cells cur t (0, 0))) (cs : List Value) (hl : cs.length = n * sz)
    (hA : 0 < n → ∃ ad, A = some ad ∧ ∀ j v, cs[j]? = some v → w.cell? (ad.add j) = some v) (hfit : cs.length ≤ cur.size) (h1 : ∀ v ∈ cs, v.oneCell' = true)
    (h : wpList P ops Q rest (a.put o.dst (goInt n)) (w.setRow g (cs ++ cur.toList.drop cs.length).toArray)) : wpList P ops Q (o :: rest) a w := by
  refine wpList_plain hgd fun K hK => ?_
  have hrun : (Builtin.copy_ #[dT, sT] o.type #[.slice (some ⟨g, 0, none⟩) n cap, .slice A n sCap]).run P w = .ok (goInt n) (w.setRow g (cs ++ cur.toList.drop cs.length).toArray) := by
    by_cases h0 : 0 < n
    · obtain ⟨ad, rfl, hsrc⟩ := hA h0
      have := run_copy_rows (P := P) w dT sT o.type elem sz n g 0 n cap ad n sCap cur t cs hu hsz hg (by simp) hl hsrc (by omega) h1
      simpa using this
    · have hn : n = 0 := by omega
      subst hn
      have hcs : cs = [] := List.eq_nil_of_length_eq_zero (by omega)
      subst hcs
      rw [run_copy_zero w dT sT o.type elem _ A 0 cap 0 sCap hu (by rw [hsz]; rfl) (by simp)]
      simp only [List.length_nil, List.drop_zero, List.nil_append, Array.toArray_toList]
      rw [setRow_self w g cur t (0, 0) hg]
      rfl
  unfold Oper.wp
  simp [execOp, ho, resolve, invoke, builtin, hd, hs, hrun, Result.andThen]
  exact hK _ _ h

/-- members one by one, out of what lies in a block -/
theorem RdAM.of_items {w : World} {lo hi g : Nat} : ∀ (ms : List V) (ns : List (List UInt8)) (o : Nat), ns.length = ms.length → (∀ k (h1 : k < ms.length) (h2 : k < ns.length), ∃ cs, CellsAt w g (o + k * 6) (.string (strOf ns[k]) :: cs) ∧ RdA w lo hi ms[k] cs) → RdAM w lo hi g o ns ms
  | [], ns, o, _, _ => by rw [RdAM]; trivial
  | v :: r, ns, o, hn, h => by
    cases ns with
    | nil => simp at hn
    | cons nm ns =>
      obtain ⟨cs, h1, h2⟩ := h 0 (by simp) (by simp)
      rw [RdAM]
      rw [Nat.zero_mul, Nat.add_zero] at h1
      refine ⟨nm, ns, rfl, (h1 0 _ rfl).1, ⟨cs, fun j u hu => ?_, h2⟩, RdAM.of_items r ns (o + 6) (by simpa using hn) fun k k1 k2 => ?_⟩
      · have := (h1 (j + 1) u (by simpa using hu)).1
        rwa [show o + (j + 1) = o + 1 + j by omega] at this
      · have := h (k + 1) (by simpa using k1) (by simpa using k2)
        rw [show o + 6 + k * 6 = o + (k + 1) * 6 by omega]
        exact this
/-- a map told anew: its list of members is new memory, its values may be a caller's -/
def GivesM (ns : List (List UInt8)) (ms : List V) (w : World) (e : Ending) (w' : World) : Prop :=
  (∃ A c, e = .returned (.agg #[.int .i64 6, .int .i64 0, .string ⟨#[]⟩, .slice none 0 0, .slice A ms.length c]) ∧ ns.length = ms.length ∧ (0 < ms.length → ∃ g, A = some ⟨g, 0, none⟩ ∧ w.heap.size ≤ g ∧ g < w'.heap.size ∧
    ∀ k (h1 : k < ms.length) (h2 : k < ns.length), ∃ cs, CellsAt w' g (k * 6) (.string (strOf ns[k]) :: cs) ∧ RdA w' 0 w.heap.size ms[k] cs)) ∧ Below w.heap.size w w'
theorem GivesM.rd {ns : List (List UInt8)} {ms : List V} {w w' : World} {A : Option Addr} {c : Nat} (hn : ns.length = ms.length) (hb : w.heap.size ≤ w'.heap.size) (h : 0 < ms.length → ∃ g, A = some ⟨g, 0, none⟩ ∧ w.heap.size ≤ g ∧ g < w'.heap.size ∧
    ∀ k (h1 : k < ms.length) (h2 : k < ns.length), ∃ cs, CellsAt w' g (k * 6) (.string (strOf ns[k]) :: cs) ∧ RdA w' 0 w.heap.size ms[k] cs) : RdA w' 0 w'.heap.size (mpV (ns, ms)) [.int .i64 6, .int .i64 0, .string ⟨#[]⟩, .slice none 0 0, .slice A ms.length c] := by
  unfold mpV
  rw [RdA]
  refine ⟨none, 0, A, c, rfl, hn, fun h => by simp at h, fun h0 => ?_⟩
  obtain ⟨g, e, g1, g2, hk⟩ := h h0
  refine ⟨g, 0, e, Nat.zero_le _, g2, RdAM.of_items ms ns 0 hn fun k k1 k2 => ?_⟩
  obtain ⟨cs, p1, p2⟩ := hk k k1 k2
  rw [Nat.zero_add]
  exact ⟨cs, p1, RdA.keep (fun _ _ _ => rfl) (Nat.le_refl _) hb _ _ p2⟩
/-- With, Without in plain words -/
def withN (v : V) (nm : List UInt8) : List (List UInt8) := if nm ∈ inN v then inN v else inN v ++ [nm]
def withM (v : V) (nm : List UInt8) (x : V) : List V := if nm ∈ inN v then (inM v).set ((inN v).idxOf nm) x else inM v ++ [x]
def woN (v : V) (nm : List UInt8) : List (List UInt8) := (((inN v).zip (inM v)).filter fun p => p.1 ≠ nm).map Prod.fst
def woM (v : V) (nm : List UInt8) : List V := (((inN v).zip (inM v)).filter fun p => p.1 ≠ nm).map Prod.snd
end Go.Proofs.Ytbepnjgbkfidiaa.Tr
/- Contract of Copy. -/
namespace Go.Proofs.Ytbepnjgbkfidiaa.Tr
open Go.Proofs Go.RowKit Go.Lib
open Go.Proofs.Ytbepnjgbkfidiaa.Utf
open Go.Proofs.Ytbepnjgbkfidiaa.Sc
open Go.Proofs.Ytbepnjgbkfidiaa.Re

def GivesCopy (v : V) (w : World) (e : Ending) (w' : World) : Prop :=
  (∃ (cs : List Value) (F : List Nat), e = .returned (.agg cs.toArray) ∧ RdF w' v cs F ∧ F.Nodup ∧ ∀ x ∈ F, w.heap.size ≤ x ∧ x < w'.heap.size) ∧ Below w.heap.size w w'
/-- what a copy asks of a callee -/
def CopyCon (v : V) : Prop := ∀ (cs : List Value) (w : World), RdA w 0 w.heap.size v cs → Calls Try.prog 22 #[.agg cs.toArray] w (GivesCopy v w)
/-- an element that has been copied -/
def Fin_ (w : World) (g o : Nat) (v : V) (F : List Nat) : Prop := ∃ cs, CellsAt w g o cs ∧ RdF w v cs F
/-- one that has not -/
def Org (w : World) (n0 g o : Nat) (v : V) : Prop := ∃ cs, CellsAt w g o cs ∧ RdA w 0 n0 v cs
/-- a list of values in block g, the first k of which are copies of their own -/
structure LsAt (s o0 n0 N g k : Nat) (l : List V) (Fs : List (List Nat)) (w : World) : Prop where
  len : Fs.length = k
  fin : ∀ j (h1 : j < l.length) (h2 : j < Fs.length), Fin_ w g (j * s + o0) l[j] Fs[j]
  org : ∀ j (h1 : j < l.length), k ≤ j → Org w n0 g (j * s + o0) l[j]
  nod : Fs.flatten.Nodup
  rng : ∀ x ∈ Fs.flatten, N ≤ x ∧ x < w.heap.size
theorem Fin_.keep {w w' : World} {g o : Nat} {v : V} {F : List Nat} (h : Fin_ w g o v F) (hg : w'.heap[g]? = w.heap[g]?) (hF : ∀ k ∈ F, w'.heap[k]? = w.heap[k]?) : Fin_ w' g o v F := by
  obtain ⟨cs, h1, h2⟩ := h
  exact ⟨cs, h1.keep hg, RdF.keep v cs F hF h2⟩
theorem Org.keep {w w' : World} {n0 g o : Nat} {v : V} (h : Org w n0 g o v) (hg : w'.heap[g]? = w.heap[g]?) (hk : ∀ k, k < n0 → w'.heap[k]? = w.heap[k]?) : Org w' n0 g o v := by
  obtain ⟨cs, h1, h2⟩ := h
  exact ⟨cs, h1.keep hg, RdA.keep (fun p _ hp => cell_of_blk (hk p.block hp)) (Nat.le_refl _) (Nat.le_refl _) v cs h2⟩
/-- it stays under growth -/
theorem LsAt.keep {s o0 n0 N g k : Nat} {l : List V} {Fs : List (List Nat)} {w w' : World} (h : LsAt s o0 n0 N g k l Fs w) (hb : Below w.heap.size w w') (hg : g < w.heap.size) (hn : n0 ≤ w.heap.size) : LsAt s o0 n0 N g k l Fs w' where
  len := h.len
  fin := fun j h1 h2 => (h.fin j h1 h2).keep (hb.block g hg) (fun x hx => hb.block x (h.rng x (List.mem_flatten.2 ⟨_, List.getElem_mem h2, hx⟩)).2)
  org := fun j h1 h2 => (h.org j h1 h2).keep (hb.block g hg) (fun k hk => hb.block k (by omega))
  nod := h.nod
  rng := fun x hx => ⟨(h.rng x hx).1, Nat.lt_of_lt_of_le (h.rng x hx).2 hb.size⟩
theorem flatten_snoc (Fs : List (List Nat)) (F : List Nat) : (Fs ++ [F]).flatten = Fs.flatten ++ F := by simp
/-- the next one is stored -/
theorem LsAt.step {s o0 n0 N g k M : Nat} {l : List V} {Fs : List (List Nat)} {w : World} (h : LsAt s o0 n0 N g k l Fs w) (hs : 5 ≤ s) (hk : k < l.length) (hgN : g < N) (hn : n0 ≤ g) (hM : ∀ x ∈ Fs.flatten, x < M) {v0 v1 v2 v3 v4 : Value} {F : List Nat} (hNM : N ≤ M)
    (hF : RdF w l[k] [v0, v1, v2, v3, v4] F) (hnd : F.Nodup) (hr : ∀ x ∈ F, M ≤ x ∧ x < w.heap.size) : LsAt s o0 n0 N g (k + 1) l (Fs ++ [F]) (st5o w g (k * s + o0) v0 v1 v2 v3 v4) where
  len := by simp [h.len]
  fin := fun j h1 h2 => by
    have hl := h.len
    rcases Nat.lt_or_ge j k with c | c
    · have e : (Fs ++ [F])[j] = Fs[j]'(by omega) := List.getElem_append_left (by omega)
      rw [e]
      obtain ⟨cs, p1, p2⟩ := h.fin j h1 (by omega)
      have hcl : cs.length = 5 := by obtain ⟨_, _, _, _, _, _, e, _⟩ := p2.cells; rw [e]; rfl
      have hmul := Nat.mul_le_mul_right s (show j + 1 ≤ k by omega)
      rw [Nat.succ_mul] at hmul
      exact ⟨cs, st5o_far (by omega) p1, RdF.keep _ cs _ (fun x hx => st5o_other (by have := (h.rng x (List.mem_flatten.2 ⟨_, List.getElem_mem (show j < Fs.length by omega), hx⟩)).1; omega)) p2⟩
    · have hjk : j = k := by simp [hl] at h2; omega
      subst hjk
      have e : (Fs ++ [F])[j]'h2 = F := by rw [List.getElem_append_right (by omega)]; simp [hl]
      rw [e]
      obtain ⟨cs, p1, p2⟩ := h.org j h1 (Nat.le_refl _)
      obtain ⟨o1, _⟩ := rd_one p2
      exact ⟨_, st5o_at o1 p1, RdF.keep _ _ _ (fun x hx => st5o_other (by have := (hr x hx).1; omega)) hF⟩
  org := fun j h1 h2 => by
    obtain ⟨cs, p1, p2⟩ := h.org j h1 (by omega)
    obtain ⟨o1, _⟩ := rd_one p2
    have hmul := Nat.mul_le_mul_right s (show k + 1 ≤ j by omega)
    rw [Nat.succ_mul] at hmul
    exact ⟨cs, st5o_far (by omega) p1, RdA.keep (fun p _ hp => cell_of_blk (st5o_other (by omega))) (Nat.le_refl _) (Nat.le_refl _) _ cs p2⟩
  nod := by
    rw [flatten_snoc, List.nodup_append]
    exact ⟨h.nod, hnd, fun a ha b hb e => by subst e; have := hM a ha; have := (hr a hb).1; omega⟩
  rng := fun x hx => by
    rw [flatten_snoc, List.mem_append] at hx
    rw [st5o_size]
    rcases hx with hx | hx
    · exact h.rng x hx
    · have := hr x hx; omega
/-- the names of members in block g -/
def NmAt (g : Nat) (ns : List (List UInt8)) (w : World) : Prop := ∀ j (h : j < ns.length), CellsAt w g (j * 6) [.string (strOf ns[j])]
theorem NmAt.keep {g : Nat} {ns : List (List UInt8)} {w w' : World} (h : NmAt g ns w) (hg : w'.heap[g]? = w.heap[g]?) : NmAt g ns w' := fun j hj => (h j hj).keep hg
theorem NmAt.step {g k : Nat} {ns : List (List UInt8)} {w : World} (h : NmAt g ns w) {v0 v1 v2 v3 v4 : Value} : NmAt g ns (st5o w g (k * 6 + 1) v0 v1 v2 v3 v4) := fun j hj => st5o_far (by simp; omega) (h j hj)
theorem cells_cons {w : World} {g o : Nat} {u : Value} {cs : List Value} : CellsAt w g o (u :: cs) ↔ CellsAt w g o [u] ∧ CellsAt w g (o + 1) cs := by
  constructor
  · refine fun h => ⟨fun j x hx => ?_, fun j x hx => ?_⟩
    · cases j with
      | zero => exact h 0 x (by simpa using hx)
      | succ j => simp at hx
    · have := h (j + 1) x (by simpa using hx)
      rwa [show o + (j + 1) = o + 1 + j by omega] at this
  · rintro ⟨h1, h2⟩ j x hx
    cases j with
    | zero => exact h1 0 x (by simpa using hx)
    | succ j =>
      have := h2 j x (by simpa using hx)
      rwa [show o + 1 + j = o + (j + 1) by omega] at this
/-- nothing copied yet: what a call of its own has laid of a caller's list -/
theorem ls_start {w0 w : World} {g o0 n0 N lo hi go : Nat} {l : List V} (hr : RdAL w0 lo hi go o0 l) (hh : hi ≤ n0) (hk : ∀ p : Addr, p.block < hi → w.cell? p = w0.cell? p) (rows : List (List Value)) (hrl : rows.length = l.length) (hr5 : ∀ r ∈ rows, r.length = 5) (hrv : ∀ k (h1 : k < l.length) (h2 : k < rows.length), RdA w0 lo hi l[k] rows[k]) (hc : CellsAt w g 0 rows.flatten) : LsAt 5 0 n0 N g 0 l [] w where
  len := rfl
  fin := fun j _ h => by simp at h
  org := fun j h _ => by
    have := hr
    have := hc.sub hr5 j (by omega)
    rw [Nat.zero_add] at this
    exact ⟨rows[j]'(by omega), this, RdA.keep (fun p _ hp => hk p hp) (Nat.zero_le _) hh _ _ (hrv j h (by omega))⟩
  nod := by simp
  rng := fun x hx => by simp at hx
theorem ms_start {w0 w : World} {g n0 N lo hi : Nat} {ns : List (List UInt8)} {l : List V} (hn : ns.length = l.length) (hh : hi ≤ n0) (hk : ∀ p : Addr, p.block < hi → w.cell? p = w0.cell? p) (rows : List (List Value)) (hrl : rows.length = l.length) (hr6 : ∀ r ∈ rows, r.length = 6) (hrv : ∀ k (h1 : k < l.length) (h2 : k < rows.length) (h3 : k < ns.length), ∃ cs, rows[k] = .string (strOf ns[k]) :: cs ∧ RdA w0 lo hi l[k] cs) (hc : CellsAt w g 0 rows.flatten) : LsAt 6 1 n0 N g 0 l [] w ∧ NmAt g ns w := by
  refine ⟨⟨rfl, fun j _ h => by simp at h, fun j h _ => ?_, by simp, fun x hx => by simp at hx⟩, fun j hj => ?_⟩
  · have := hc.sub hr6 j (by omega)
    obtain ⟨cs, e, hv⟩ := hrv j h (by omega) (by omega)
    rw [Nat.zero_add, e] at this
    exact ⟨cs, (cells_cons.1 this).2, RdA.keep (fun p _ hp => hk p hp) (Nat.zero_le _) hh _ _ hv⟩
  · have := hc.sub hr6 j (by omega)
    obtain ⟨cs, e, hv⟩ := hrv j (by omega) (by omega) hj
    rw [Nat.zero_add, e] at this
    exact (cells_cons.1 this).1
theorem ls_end {n0 N g : Nat} {l : List V} {Fs : List (List Nat)} {w : World} (h : LsAt 5 0 n0 N g l.length l Fs w) : RdFL w g 0 l Fs.flatten :=
  RdFL.of_items l Fs 0 h.len fun j h1 h2 => by
    have := h.fin j h1 h2
    rw [Nat.zero_add]
    exact this
theorem ms_end {n0 N g : Nat} {ns : List (List UInt8)} {l : List V} {Fs : List (List Nat)} {w : World} (hn : ns.length = l.length) (h : LsAt 6 1 n0 N g l.length l Fs w) (h2 : NmAt g ns w) : RdFM w g 0 ns l Fs.flatten :=
  RdFM.of_items l ns Fs 0 h.len hn fun j j1 j2 j3 => by
    obtain ⟨cs, p1, p2⟩ := h.fin j j1 j2
    rw [Nat.zero_add]
    exact ⟨cs, cells_cons.2 ⟨h2 j j3, p1⟩, p2⟩
end Go.Proofs.Ytbepnjgbkfidiaa.Tr
