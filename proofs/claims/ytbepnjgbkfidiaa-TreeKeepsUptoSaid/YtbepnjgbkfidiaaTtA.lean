import Derived.Test.YtbepnjgbkfidiaaBase
import Derived.Shelf.SlSortCmp.KitK
import Derived.Lib.Bytealg
import Derived.Sort.LotA
import Derived.RangeFuncNested
import Derived.RangeFuncBound
import Derived.RangeFuncCalls
import Derived.RangeFuncLeaves
import Derived.Shelf.Abstract
import Derived.WalkKit
import Derived.OwnWalkIn
import Derived.TacticsInMore
import Derived.LoopNIn
import Derived.LoopIn
import Derived.Maps.OwnIn
import Derived.Maps.OwnSet
import Derived.WalkArith
import Derived.Test.YtbepnjgbkfidiaaRaOpen
import Derived.BigQuiet
import Derived.IntWalk
import Derived.Deep.RegionHeld3
import Derived.Maps.AppendAt
import Derived.Lib.Walk
import Derived.Lib.SliceRun
/- Members of a map as elements of six cells; the comparison of two by their names. -/
namespace Go.Proofs.Ytbepnjgbkfidiaa.Tr
open Go.Proofs Go.RowKit Go.Sort Go.Shelf Go.Lib
open Go.Proofs.Ytbepnjgbkfidiaa.Utf

/-- a member's cells -/
structure M6 where
  nm : List UInt8
  k : Int
  n : Int
  s : ByteArray
  A : Option Addr
  l : Nat
  c : Nat
  A2 : Option Addr
  m : Nat
  c2 : Nat
instance : Inhabited M6 := ⟨⟨[], 0, 0, ⟨#[]⟩, none, 0, 0, none, 0, 0⟩⟩
def encM (x : M6) : List Value := [.string (strOf x.nm), .int .i64 x.k, .int .i64 x.n, .string x.s, .slice x.A x.l x.c, .slice x.A2 x.m x.c2]
theorem encM_len (x : M6) : (encM x).length = 6 := rfl
theorem encM_one (x : M6) : ∀ v ∈ encM x, v.oneCell' = true := by
  intro v h
  simp only [encM, List.mem_cons, List.not_mem_nil, or_false] at h
  rcases h with rfl | rfl | rfl | rfl | rfl | rfl <;> rfl
def cfM (x y : M6) : Int := Lib.compareBytes x.nm y.nm

/-! the order of names -/
theorem cmpB_self : ∀ a : List UInt8, Lib.compareBytes a a = 0
  | [] => by simp [Lib.compareBytes]
  | x :: r => by rw [Lib.compareBytes, if_neg (UInt8.lt_irrefl x), if_neg (UInt8.lt_irrefl x)]; exact cmpB_self r
theorem cmpB_anti : ∀ a b : List UInt8, Lib.compareBytes b a = - Lib.compareBytes a b
  | [], [] => by simp [Lib.compareBytes]
  | [], _ :: _ => by simp [Lib.compareBytes]
  | _ :: _, [] => by simp [Lib.compareBytes]
  | x :: r, y :: t => by
    rw [Lib.compareBytes, Lib.compareBytes]
    by_cases h1 : x < y
    · rw [if_pos h1, if_neg (UInt8.lt_asymm h1), if_pos h1]; rfl
    · by_cases h2 : y < x
      · rw [if_pos h2, if_neg h1, if_pos h2]
      · rw [if_neg h2, if_neg h1, if_neg h1, if_neg h2]; exact cmpB_anti r t
theorem cmpB_eq : ∀ a b : List UInt8, Lib.compareBytes a b = 0 → a = b
  | [], [], _ => rfl
  | [], _ :: _, h => by simp [Lib.compareBytes] at h
  | _ :: _, [], h => by simp [Lib.compareBytes] at h
  | x :: r, y :: t, h => by
    rw [Lib.compareBytes] at h
    by_cases h1 : x < y
    · rw [if_pos h1] at h; exact absurd h (by decide)
    · rw [if_neg h1] at h
      by_cases h2 : y < x
      · rw [if_pos h2] at h; exact absurd h (by decide)
      · rw [if_neg h2] at h
        rw [UInt8.le_antisymm (UInt8.not_lt.1 h2) (UInt8.not_lt.1 h1), cmpB_eq r t h]
theorem cmpB_trans : ∀ a b c : List UInt8, Lib.compareBytes a b < 0 → Lib.compareBytes b c < 0 → Lib.compareBytes a c < 0
  | [], [], _, h, _ => by simp [Lib.compareBytes] at h
  | [], _ :: _, [], _, h => by simp [Lib.compareBytes] at h
  | [], _ :: _, _ :: _, _, _ => by simp [Lib.compareBytes]
  | _ :: _, [], _, h, _ => by simp [Lib.compareBytes] at h
  | _ :: _, _ :: _, [], _, h => by simp [Lib.compareBytes] at h
  | x :: r, y :: t, z :: u, h, h' => by
    rw [Lib.compareBytes] at h h' ⊢
    by_cases h1 : x < y
    · by_cases h2 : y < z
      · rw [if_pos (UInt8.lt_trans h1 h2)]; decide
      · rw [if_neg h2] at h'
        by_cases h3 : z < y
        · rw [if_pos h3] at h'; exact absurd h' (by decide)
        · have e := UInt8.le_antisymm (UInt8.not_lt.1 h3) (UInt8.not_lt.1 h2)
          subst e
          rw [if_pos h1]; decide
    · rw [if_neg h1] at h
      by_cases h2 : y < x
      · rw [if_pos h2] at h; exact absurd h (by decide)
      · rw [if_neg h2] at h
        have e := UInt8.le_antisymm (UInt8.not_lt.1 h2) (UInt8.not_lt.1 h1)
        subst e
        by_cases h3 : x < z
        · rw [if_pos h3]; decide
        · rw [if_neg h3] at h' ⊢
          by_cases h4 : z < x
          · rw [if_pos h4] at h'; exact absurd h' (by decide)
          · rw [if_neg h4] at h' ⊢
            exact cmpB_trans r t u h h'
/-- is a name less than another one -/
abbrev ltN (a b : List UInt8) : Bool := decide (Lib.compareBytes a b < 0)
theorem ltN_swo : SWO ltN where
  irrefl x := by unfold ltN; rw [cmpB_self]; rfl
  trans x y z h1 h2 := by
    unfold ltN at *
    exact decide_eq_true (cmpB_trans x y z (of_decide_eq_true h1) (of_decide_eq_true h2))
  ntrans x y z h1 h2 := by
    unfold ltN at *
    have a := of_decide_eq_false h1
    have b := of_decide_eq_false h2
    refine decide_eq_false fun h => ?_
    by_cases c : Lib.compareBytes x y = 0
    · rw [cmpB_eq x y c] at h; exact b h
    · have a' : Lib.compareBytes y x < 0 := by rw [cmpB_anti]; omega
      exact b (cmpB_trans y x z a' h)
theorem ltN_eq {x y : List UInt8} (h1 : ltN x y = false) (h2 : ltN y x = false) : x = y := by
  unfold ltN at *
  have a := of_decide_eq_false h1
  have b := of_decide_eq_false h2
  rw [cmpB_anti] at b
  exact cmpB_eq x y (by omega)
theorem ltM_eq (x y : M6) : ltOf cfM x y = ltN x.nm y.nm := rfl
theorem ltM_swo : SWO (ltOf cfM) where
  irrefl x := ltN_swo.irrefl x.nm
  trans _ _ _ h1 h2 := ltN_swo.trans _ _ _ h1 h2
  ntrans _ _ _ h1 h2 := ltN_swo.ntrans _ _ _ h1 h2

set_option maxRecDepth 100000 in
theorem cmpString_any (a b : ByteArray) (w : World) : Calls Try.prog 60 #[.string a, .string b] w fun e w' => e = .returned (.int .i64 (Lib.compareBytes a.data.toList b.data.toList)) ∧ w' = w := by
  go_enter Try.func60, Try.ntmps60
  go_wp2
  rw [run_callFunc_extern Try.func67 (by kernel_rfl) (by kernel_rfl) (by kernel_rfl) (e := Extern.BytealgCompare.compare) (by kernel_rfl), Lib.run_compareString]
  simp only [Result.andThen]
  rw [Oper.upon_value]
  go_wp2
  go_ret
  exact ⟨rfl, rfl⟩
set_option maxRecDepth 100000 in
theorem compare_any (a b : ByteArray) (w : World) : Calls Try.prog 49 #[.string a, .string b] w fun e w' => e = .returned (.int .i64 (Lib.compareBytes a.data.toList b.data.toList)) ∧ w' = w := by
  go_enter Try.func49, Try.ntmps49
  go_wp2_with (go_at_call 60; refine (cmpString_any _ _ _).mono ?_; rintro e w' ⟨rfl, rfl⟩)
  go_ret
  exact ⟨rfl, rfl⟩
set_option maxRecDepth 100000 in
set_option maxHeartbeats 1000000 in
theorem byName_any (x y : M6) (W : World) : Calls Try.prog 42 #[.agg (encM x).toArray, .agg (encM y).toArray] W fun e w' => e = .returned (.int .i64 (cfM x y)) ∧ ∃ q os', w' = grow (W.drewN q) os' := by
  have hcon := fun W' => compare_any (strOf x.nm) (strOf y.nm) W'
  obtain ⟨xm, xk, xn, xs, xA, xl, xc, xA2, xm2, xc2⟩ := x
  obtain ⟨ym, yk, yn, ys, yA, yl, yc, yA2, ym2, yc2⟩ := y
  simp only [encM, cfM] at *
  rw [strOf_data, strOf_data] at hcon
  generalize Lib.compareBytes xm ym = r at *
  generalize strOf xm = X at *
  generalize strOf ym = Y at *
  go_enter Try.func42, Try.ntmps42
  go_wp2_with (go_at_call 49; refine (hcon _).mono ?_; rintro e w' ⟨rfl, rfl⟩)
  go_ret
  exact ⟨rfl, 0, _, by rw [alloc_eq_grow, alloc_eq_grow, grow_grow]; rfl⟩
theorem byName_lays (blk off size : Nat) (w : World) : CmpLays Try.prog 42 #[] encM 6 cfM blk off size w :=
  fun _ _ _ _ x y => byName_any x y _
end Go.Proofs.Ytbepnjgbkfidiaa.Tr
/- The library's way through a slice from its end; the places of names, as a map. -/
namespace Go.Proofs.Ytbepnjgbkfidiaa.Tr
open Go.Proofs Go.RowKit Go.Shelf
open Go.Proofs.Ytbepnjgbkfidiaa.Utf
theorem szAl (w : World) (o : Obj) : (w.alloc o).heap.size = w.heap.size + 1 := by simp
theorem heapOld {w : World} {k : Nat} {x : Obj} (h : w.heap[k]? = some x) (o : Obj) : (w.alloc o).heap[k]? = some x := (Below.heap_alloc w o k (Array.getElem?_eq_some_iff.1 h).1).trans h
theorem heapNew (w : World) (o : Obj) : (w.alloc o).heap[w.heap.size]? = some o := World.alloc_heap_new w o
attribute [local go_sem] Oper.semAt_some

/-- a member's cells in memory -/
def M6At (W : World) (b o : Nat) (x : M6) : Prop :=
  W.cell? ⟨b, o, none⟩ = some (.string (strOf x.nm)) ∧ W.cell? ⟨b, o + 1, none⟩ = some (.int .i64 x.k) ∧ W.cell? ⟨b, o + 2, none⟩ = some (.int .i64 x.n) ∧ W.cell? ⟨b, o + 3, none⟩ = some (.string x.s) ∧ W.cell? ⟨b, o + 4, none⟩ = some (.slice x.A x.l x.c) ∧ W.cell? ⟨b, o + 5, none⟩ = some (.slice x.A2 x.m x.c2)
theorem M6At.keep {W W' : World} {b o : Nat} {x : M6} (h : M6At W b o x) (hk : ∀ j, W'.cell? ⟨b, j, none⟩ = W.cell? ⟨b, j, none⟩) : M6At W' b o x := by
  unfold M6At at *
  simp only [hk]
  exact h

/-- a member whose name isn't longer than texts may be -/
abbrev N6 := { x : M6 // x.nm.length ≤ 9223372036854775807 }
/-- an index -/
abbrev Ix := { i : Nat // i < 4611686018427387904 }
def ix (i : Nat) : Ix := ⟨min i 4611686018427387903, by omega⟩
theorem ix_val {i : Nat} (h : i < 4611686018427387904) : (ix i).1 = i := by unfold ix; simp only; omega
/-- the members from the last one on, with their places -/
def seqM : Nat → List N6 → List (Ix × N6)
  | _, [] => []
  | o, x :: r => seqM (o + 1) r ++ [(ix o, x)]
theorem seqM_len : ∀ (d : List N6) (o : Nat), (seqM o d).length = d.length
  | [], _ => rfl
  | x :: r, o => by rw [seqM, List.length_append, seqM_len r]; rfl
theorem seqM_step {d : List N6} {k : Nat} (h : k < d.length) : seqM (k + 1) (d.drop (k + 1)) ++ [(ix k, d[k])] = seqM k (d.drop k) := by
  rw [List.drop_eq_getElem_cons h, seqM]
def encI (x : Ix × N6) : Array Value := #[.int .i64 x.1.1, .agg (encM x.2.1).toArray]
/-- what lay below n₀, and block B, stays -/
def KB (n₀ B : Nat) (W W' : World) : Prop := Below n₀ W W' ∧ W'.heap[B]? = W.heap[B]?
theorem KB.refl (n₀ B : Nat) (W : World) : KB n₀ B W W := ⟨Below.refl _ _, rfl⟩
theorem KB.trans {n₀ B : Nat} {W W1 W2 : World} (h : KB n₀ B W W1) (k : KB n₀ B W1 W2) : KB n₀ B W W2 := ⟨h.1.trans k.1, k.2.trans h.2⟩
theorem cell_of_blk {W W' : World} {p : Addr} (h : W'.heap[p.block]? = W.heap[p.block]?) : W'.cell? p = W.cell? p := by unfold World.cell?; rw [h]

set_option maxRecDepth 100000 in
set_option maxHeartbeats 4000000 in
theorem back1_in (F : Fence) (n : Nat) (h64 : F.fn 64) (hro : F.round = none) (hn : 1 ≤ n) (l Bs n₀ cap : Nat) (A : Option Addr) (d : List N6) (hreach : d.length < 4611686018427387904) (J Jx : List (Ix × N6) → World → Prop)
    (hY : ∀ pre x W, J pre W → pre.length < d.length → YieldAt F (n - 1) Try.prog l (encI x) W fun e W' =>
      (e = .returned (.bool true) ∧ J (pre ++ [x]) W' ∧ KB n₀ Bs W W') ∨ (e = .returned (.bool false) ∧ Jx (pre ++ [x]) W'))
    (W : World) (hBs : W.cell? ⟨Bs, 0, none⟩ = some (.slice A d.length cap)) (hA : 0 < d.length → ∃ b off, A = some ⟨b, off, none⟩ ∧ b < n₀ ∧ ∀ i (h : i < d.length), M6At W b (off + i * 6) d[i].1) (h0 : J [] W) :
    CallsIn F n Try.prog 64 #[.func (.yield l) #[] #[], .pointer (some ⟨Bs, 0, none⟩)] W fun e W' => (∃ v, e = .returned v) ∧
      ((∃ ys, ys = seqM 0 d ∧ J ys W') ∨ (∃ pre, True ∧ Jx pre W')) := by
  refine callsIn_of_wp Try.func64 rfl h64 ?_ hro
  simp only [Try.ntmps64, List.size_toArray, List.length_cons, List.length_nil, Nat.reduceAdd, Nat.reduceSub, Array.replicate_succ, Array.replicate_zero, List.push_toArray, List.append_toArray, List.nil_append, List.cons_append]
  obtain ⟨len, hlen⟩ : ∃ len, d.length = len := ⟨_, rfl⟩
  rw [hlen] at hBs hreach
  have HL : Aside (d.length = len) := hlen
  have HA : Aside _ := hA
  have HY : Aside _ := hY
  have H0 : Aside (J [] W) := h0
  clear hlen hA hY h0
  gi_wp2
  gi_loopw [3] (fun i wr => ∃ k : Nat, k ≤ len ∧ i = .int .i64 ((k : Int) - 1) ∧ Aside (J (seqM k (d.drop k)) wr) ∧ Aside (KB n₀ Bs W wr)) (fun i _ => (intOf i + 1).toNat)
  case atStart => exact ⟨len, Nat.le_refl _, by go_num, (show J _ _ by rw [List.drop_eq_nil_of_le (by have := HL.out; omega)]; exact H0.out), KB.refl _ _ _⟩
  case round =>
    obtain ⟨k, hk, rfl, hJs, hnx⟩ := hrel
    cases k with
    | zero =>
      gi_wp2
      go_end0
      exact ⟨⟨_, rfl⟩, .inl ⟨_, rfl, hJs.out⟩⟩
    | succ k =>
      have ek : ((k + 1 : Nat) : Int) - 1 = (k : Int) := by omega
      rw [ek]
      have hkl : k < d.length := by have := HL.out; omega
      obtain ⟨b, off, rfl, hb, hc⟩ := HA.out (by omega)
      have hx := (hc k hkl).keep (W' := wr) (fun j => hnx.out.1.cell (p := ⟨b, j, none⟩) hb)
      have hBs2 : wr.cell? ⟨Bs, 0, none⟩ = some (.slice (some ⟨b, off, none⟩) len cap) := (cell_of_blk (p := ⟨Bs, 0, none⟩) hnx.out.2).trans hBs
      obtain ⟨fn, tmps, assign, body, hy, hR⟩ := HY.out _ (ix k, d[k]) wr hJs.out (by rw [seqM_len, List.length_drop]; have := HL.out; omega)
      rw [encI, ix_val (by omega)] at hy
      have HJ : Aside _ := hJs
      rw [seqM_step hkl] at hR
      generalize d[k] = xn at hy hx
      clear hJs hc hkl
      obtain ⟨x, hxn⟩ := xn
      obtain ⟨xx, xk, xn, xs, xA, xl, xc, xB, xm, xd⟩ := x
      simp only [M6At] at hx
      simp only [encM] at hy
      generalize strOf xx = X at *
      obtain ⟨a0, a1, a2, a3, a4, a5⟩ := hx
      have k0 : (0 : Int) ≤ (k : Int) := by omega
      have k1 : (k : Int) < (len : Int) := by omega
      have k2 : ((k : Int)).toNat = k := by omega
      gi_wp2
      refine hR.mono ?_
      rintro e W3 (⟨rfl, hJ3, hk3⟩ | ⟨rfl, hJx3⟩)
      · gi_wp2
        go_roundw
        case rel => exact ⟨k, by omega, by simp, hJ3, (show KB _ _ _ _ from hnx.out.trans hk3)⟩
        case measure => simp [intOf]
      · gi_wp2
        refine bodyPost_ret (results_none rfl _ _ _) rfl ?_
        exact ⟨⟨_, rfl⟩, .inr ⟨_, trivial, hJx3⟩⟩

set_option maxRecDepth 100000 in
set_option maxHeartbeats 1000000 in
theorem back_in (F : Fence) (n : Nat) (h56 : F.fn 56) (hro : F.round = none) (a : Option Addr) (len cap : Nat) (w : World) :
    CallsIn F n Try.prog 56 #[.slice a len cap] w fun e w' => e = .returned (.func (.func 64) #[] #[.pointer (some ⟨w.heap.size, 0, none⟩)]) ∧ w' = w.alloc (.cells #[.slice a len cap] 23) := by
  refine callsIn_of_wp Try.func56 rfl h56 ?_ hro
  simp only [Try.ntmps56, List.size_toArray, List.length_cons, List.length_nil, Nat.reduceAdd, Nat.reduceSub, Array.replicate_succ, Array.replicate_zero, List.push_toArray, List.append_toArray, List.nil_append, List.cons_append]
  gi_wp2
  go_ret
  exact ⟨rfl, rfl⟩
theorem back_stops (F : Fence) (n : Nat) (h64 : F.fn 64) (hro : F.round = none) (hn : 1 ≤ n) (Bs n₀ cap : Nat) (A : Option Addr) (d : List N6) (hreach : d.length < 4611686018427387904) (w : World) (hBl : Bs < w.heap.size) (hn₀ : n₀ ≤ w.heap.size)
    (hBs : w.cell? ⟨Bs, 0, none⟩ = some (.slice A d.length cap)) (hA : 0 < d.length → ∃ b off, A = some ⟨b, off, none⟩ ∧ b < n₀ ∧ ∀ i (h : i < d.length), M6At w b (off + i * 6) d[i].1) :
    SeqStopsK F n Try.prog 64 #[.pointer (some ⟨Bs, 0, none⟩)] encI (KB n₀ Bs) (fun ys => ys = seqM 0 d) (fun _ => True) d.length w := fun l J Jx W hW _ _ hY h0 =>
  back1_in F n h64 hro hn l Bs n₀ cap A d hreach J Jx hY W ((hW.cell (p := ⟨Bs, 0, none⟩) hBl).trans hBs) (fun h => by
    obtain ⟨b, off, e, hb, hc⟩ := hA h
    exact ⟨b, off, e, hb, fun i hi => (hc i hi).keep fun j => hW.cell (p := ⟨b, j, none⟩) (by show b < _; omega)⟩) h0
end Go.Proofs.Ytbepnjgbkfidiaa.Tr
/- What stands in a value: its values, its members; the place of a name; Get. -/
namespace Go.Proofs.Ytbepnjgbkfidiaa.Tr
open Go.Proofs Go.RowKit Go.Lib
open Go.Proofs.Ytbepnjgbkfidiaa.Utf
open Go.Proofs.Ytbepnjgbkfidiaa.Sc
open Go.Proofs.Ytbepnjgbkfidiaa.Re

/-! ### plain -/
def inL (v : V) : List V := if v.k = 5 then v.l else []
def inN (v : V) : List (List UInt8) := if v.k = 6 then v.ns else []
def inM (v : V) : List V := if v.k = 6 then v.ms else []
/-- where the first member of a name stands, or -1 -/
def plc (ns : List (List UInt8)) (nm : List UInt8) : Int := if nm ∈ ns then (ns.idxOf nm : Int) else -1
/-- the member of a name; nothing: the zero value -/
def getV (v : V) (nm : List UInt8) : V := (inM v).getD ((inN v).idxOf nm) V0
theorem idx_first {ns : List (List UInt8)} {nm : List UInt8} {k : Nat} (hk : k < ns.length) (h1 : ∀ j (h : j < ns.length), j < k → ns[j] ≠ nm) (h2 : ns[k] = nm) : ns.idxOf nm = k := by
  induction ns generalizing k with
  | nil => simp at hk
  | cons a r ih =>
    cases k with
    | zero => simp at h2; subst h2; simp
    | succ k =>
      have ha : a ≠ nm := h1 0 (by simp) (by omega)
      rw [List.idxOf_cons]
      have : (a == nm) = false := by rw [beq_eq_false_iff_ne]; exact ha
      rw [this]
      simp
      exact ih (by simpa using hk) (fun j h hj => by have := h1 (j + 1) (by simpa using h) (by omega); simpa using this) (by simpa using h2)
theorem plc_at {ns : List (List UInt8)} {nm : List UInt8} {k : Nat} (hk : k < ns.length) (h1 : ∀ j (h : j < ns.length), j < k → ns[j] ≠ nm) (h2 : ns[k] = nm) : plc ns nm = (k : Int) := by
  unfold plc
  rw [if_pos (by rw [← h2]; exact List.getElem_mem hk), idx_first hk h1 h2]
theorem plc_none {ns : List (List UInt8)} {nm : List UInt8} (h1 : ∀ j (h : j < ns.length), ns[j] ≠ nm) : plc ns nm = -1 := by
  unfold plc
  rw [if_neg]
  intro h
  obtain ⟨j, hj, e⟩ := List.getElem_of_mem h
  exact h1 j hj e

/-! ### members in memory -/
def m6tail (x : M6) : List Value := [.int .i64 x.k, .int .i64 x.n, .string x.s, .slice x.A x.l x.c, .slice x.A2 x.m x.c2]
def Mems (w : World) (lo hi : Nat) (A : Option Addr) (ns : List (List UInt8)) (ms : List V) (d : List M6) : Prop :=
  d.length = ms.length ∧ d.map M6.nm = ns ∧ (0 < d.length → ∃ g o, A = some ⟨g, o, none⟩ ∧ lo ≤ g ∧ g < hi ∧ ∀ i (h : i < d.length), M6At w g (o + i * 6) d[i]) ∧ (∀ i (h1 : i < d.length) (h2 : i < ms.length), RdA w lo hi ms[i] (m6tail d[i]))
theorem mems_build {w : World} {lo hi g : Nat} : ∀ (ms : List V) (ns : List (List UInt8)) (o : Nat), RdAM w lo hi g o ns ms → ns.length = ms.length → ∃ d : List M6, d.length = ms.length ∧ d.map M6.nm = ns ∧ (∀ i (h : i < d.length), M6At w g (o + i * 6) d[i]) ∧ (∀ i (h1 : i < d.length) (h2 : i < ms.length), RdA w lo hi ms[i] (m6tail d[i]))
  | [], ns, o, _, hn => ⟨[], rfl, by rw [List.eq_nil_of_length_eq_zero hn]; rfl, (fun i h => by simp at h), fun i h => by simp at h⟩
  | v :: r, ns, o, h, hn => by
    rw [RdAM] at h
    obtain ⟨nm, ns', rfl, h0, ⟨cs, hcs, hv⟩, hr⟩ := h
    obtain ⟨d, d1, d2, d3, d4⟩ := mems_build r ns' (o + 6) hr (by simpa using hn)
    obtain ⟨A, c, A2, c2, rfl, _⟩ := hv.cells
    refine ⟨⟨nm, v.k, v.n, strOf v.s, A, v.l.length, c, A2, v.ms.length, c2⟩ :: d, by simp [d1], by simp [d2], fun i hi => ?_, fun i hi h2 => ?_⟩
    · cases i with
      | zero =>
        have e := fun j u (hu : ([Value.int .i64 v.k, .int .i64 v.n, .string (strOf v.s), .slice A v.l.length c, .slice A2 v.ms.length c2] : List Value)[j]? = some u) => hcs j u hu
        rw [show o + 0 * 6 = o by omega]
        exact ⟨h0, e 0 _ rfl, e 1 _ rfl, e 2 _ rfl, e 3 _ rfl, e 4 _ rfl⟩
      | succ i =>
        have := d3 i (by simpa using hi)
        rw [show o + (i + 1) * 6 = o + 6 + i * 6 by omega]
        exact this
    · cases i with
      | zero => exact hv
      | succ i => exact d4 i (by simpa using hi) (by simpa using h2)
theorem mems_of {w : World} {lo hi : Nat} {A : Option Addr} {ns : List (List UInt8)} {ms : List V} (hn : ns.length = ms.length) (h : 0 < ms.length → ∃ g o, A = some ⟨g, o, none⟩ ∧ lo ≤ g ∧ g < hi ∧ RdAM w lo hi g o ns ms) : ∃ d, Mems w lo hi A ns ms d := by
  by_cases h0 : 0 < ms.length
  · obtain ⟨g, o, e, g1, g2, hr⟩ := h h0
    obtain ⟨d, d1, d2, d3, d4⟩ := mems_build ms ns o hr hn
    exact ⟨d, d1, d2, fun _ => ⟨g, o, e, g1, g2, d3⟩, d4⟩
  · have e : ms = [] := List.eq_nil_of_length_eq_zero (by omega)
    subst e
    exact ⟨[], rfl, by rw [List.eq_nil_of_length_eq_zero hn]; rfl, (fun h => by simp at h), fun i h => by simp at h⟩
theorem Mems.below {w w' : World} {lo hi B : Nat} {A : Option Addr} {ns : List (List UInt8)} {ms : List V} {d : List M6} (h : Mems w lo hi A ns ms d) (hb : Below B w w') (hB : hi ≤ B) : Mems w' lo hi A ns ms d :=
  ⟨h.1, h.2.1, fun h0 => by
    obtain ⟨g, o, e, g1, g2, hr⟩ := h.2.2.1 h0
    exact ⟨g, o, e, g1, g2, fun i hi => (hr i hi).keep fun j => hb.cell (p := ⟨g, j, none⟩) (by show g < B; omega)⟩, fun i h1 h2 => (h.2.2.2 i h1 h2).below hb hB (Nat.le_refl _)⟩

theorem bDrewN {B : Nat} {a w : World} (h : Below B a w) (n : Nat) : Below B a (w.drewN n) := ⟨h.os, h.tape, h.output, h.size, h.block⟩
/-! ### inside -/
def GivesIn (v : V) (lo hi : Nat) (w : World) (e : Ending) (w' : World) : Prop :=
  (∃ A c A2 c2, e = .returned (.tuple #[.slice A (inL v).length c, .slice A2 (inM v).length c2]) ∧ (0 < (inL v).length → ∃ g o, A = some ⟨g, o, none⟩ ∧ lo ≤ g ∧ g < hi ∧ RdAL w lo hi g o (inL v)) ∧ (0 < (inM v).length → ∃ g o, A2 = some ⟨g, o, none⟩ ∧ lo ≤ g ∧ g < hi ∧ RdAM w lo hi g o (inN v) (inM v))) ∧ Below w.heap.size w w'
set_option maxRecDepth 100000 in
set_option maxHeartbeats 4000000 in
/-- the slices of a value's cells, of its kind alone -/
theorem inside_cells (k n : Int) (S : ByteArray) (A A2 : Option Addr) (l c l2 c2 : Nat) (w : World) :
    Calls Try.prog 28 #[.agg #[.int .i64 k, .int .i64 n, .string S, .slice A l c, .slice A2 l2 c2]] w fun e w' =>
      (∃ A' l' c' A2' l2' c2', e = .returned (.tuple #[.slice A' l' c', .slice A2' l2' c2']) ∧ (k = 5 → A' = A ∧ l' = l ∧ c' = c) ∧ (k ≠ 5 → A' = none ∧ l' = 0 ∧ c' = 0) ∧ (k = 6 → A2' = A2 ∧ l2' = l2 ∧ c2' = c2) ∧ (k ≠ 6 → A2' = none ∧ l2' = 0 ∧ c2' = 0)) ∧ Below w.heap.size w w' := by
  have mixed : Try.prog.follows .mixedOrders = true := by kernel_rfl
  by_cases h5 : k = 5
  · subst h5
    go_enter Try.func28, Try.ntmps28
    go_wp2
    go_ret2
    exact ⟨⟨_, _, _, _, _, _, rfl, fun _ => ⟨rfl, rfl, rfl⟩, fun h => absurd rfl h, fun h => absurd h (by decide), fun _ => ⟨rfl, rfl, rfl⟩⟩, (Below.refl _ _).alloc (Nat.le_refl _) _⟩
  by_cases h6 : k = 6
  · subst h6
    clear h5
    go_enter Try.func28, Try.ntmps28
    go_wp2_with fail
    go_quiet ((fail))
    go_wp2
    go_ret2
    exact ⟨⟨_, _, _, _, _, _, rfl, fun h => absurd h (by decide), fun _ => ⟨rfl, rfl, rfl⟩, fun _ => ⟨rfl, rfl, rfl⟩, fun h => absurd rfl h⟩, bDrewN ((Below.refl _ _).alloc (Nat.le_refl _) _) _⟩
  · have t1 : (k == 5) = false := by rw [beq_eq_false_iff_ne]; exact h5
    have t2 : (k == 6) = false := by rw [beq_eq_false_iff_ne]; exact h6
    go_enter Try.func28, Try.ntmps28
    go_wp2
    go_ret2
    exact ⟨⟨_, _, _, _, _, _, rfl, fun h => absurd h h5, fun _ => ⟨rfl, rfl, rfl⟩, fun h => absurd h h6, fun _ => ⟨rfl, rfl, rfl⟩⟩, (Below.refl _ _).alloc (Nat.le_refl _) _⟩
theorem in_len {w : World} {lo hi : Nat} {v : V} {cs : List Value} (h : RdA w lo hi v cs) : (inN v).length = (inM v).length := by
  obtain ⟨_, _, _, _, _, hn, _⟩ := h.cells
  unfold inN inM
  split
  · exact hn
  · rfl
theorem inside_any (v : V) (cs : List Value) (lo hi : Nat) (w : World) (h : RdA w lo hi v cs) : Calls Try.prog 28 #[.agg cs.toArray] w (GivesIn v lo hi w) := by
  obtain ⟨A, c, A2, c2, rfl, hn, hl, hm⟩ := h.cells
  refine (inside_cells v.k v.n (strOf v.s) A A2 v.l.length c v.ms.length c2 w).mono ?_
  rintro e w' ⟨⟨A', l', c', A2', l2', c2', rfl, q1, q2, q3, q4⟩, hb⟩
  refine ⟨⟨A', c', A2', c2', ?_, ?_, ?_⟩, hb⟩
  · have e1 : l' = (inL v).length := by
      unfold inL
      by_cases hk : v.k = 5
      · rw [if_pos hk]; exact (q1 hk).2.1
      · rw [if_neg hk]; exact (q2 hk).2.1
    have e2 : l2' = (inM v).length := by
      unfold inM
      by_cases hk : v.k = 6
      · rw [if_pos hk]; exact (q3 hk).2.1
      · rw [if_neg hk]; exact (q4 hk).2.1
    rw [e1, e2]
  · unfold inL
    by_cases hk : v.k = 5
    · rw [if_pos hk, (q1 hk).1]; exact hl
    · rw [if_neg hk]; intro h; simp at h
  · unfold inM inN
    by_cases hk : v.k = 6
    · rw [if_pos hk, if_pos hk, (q3 hk).1]; exact hm
    · rw [if_neg hk]; intro h; simp at h

/-! ### the place of a name -/
set_option maxRecDepth 100000 in
theorem placeFn_any (x : M6) (B : Nat) (nm : List UInt8) (W : World) (hB : W.cell? ⟨B, 0, none⟩ = some (.string (strOf nm))) (hBl : B < W.heap.size) :
    Calls Try.prog 39 #[.agg (encM x).toArray, .pointer (some ⟨B, 0, none⟩)] W fun e w' => e = .returned (.bool (decide (x.nm = nm))) ∧ Below W.heap.size W w' := by
  have hE : (strOf x.nm).toList == (strOf nm).toList ↔ x.nm = nm := by rw [strOf_list, strOf_list, beq_iff_eq]
  have hD : decide (x.nm = nm) = ((strOf x.nm).toList == (strOf nm).toList) := by rw [Bool.eq_iff_iff, decide_eq_true_iff, hE]
  rw [hD]
  obtain ⟨xx, xk, xn, xs, xA, xl, xc, xB, xm, xd⟩ := x
  simp only [encM] at *
  clear hE hD
  generalize strOf xx = X at *
  generalize strOf nm = Y at *
  have hc : (W.alloc (.cells #[.string X, .int .i64 xk, .int .i64 xn, .string xs, .slice xA xl xc, .slice xB xm xd] 50)).cell? ⟨B, 0, none⟩ = some (.string Y) := (cell_of_blk (p := ⟨B, 0, none⟩) (Below.heap_alloc W _ _ hBl)).trans hB
  generalize hq : (X.toList == Y.toList) = q
  go_enter Try.func39, Try.ntmps39
  go_wp2
  go_ret
  exact ⟨rfl, (Below.refl _ _).alloc (Nat.le_refl _) _⟩

set_option maxRecDepth 100000 in
set_option maxHeartbeats 4000000 in
theorem IndexFunc_any (A : Option Addr) (len cap : Nat) (d : List M6) (hlen : d.length = len) (hreach : len < 4611686018427387904) (nm : List UInt8) (B : Nat) (w : World) (hB : w.cell? ⟨B, 0, none⟩ = some (.string (strOf nm))) (hBl : B < w.heap.size)
    (hA : 0 < d.length → ∃ b off, A = some ⟨b, off, none⟩ ∧ b < w.heap.size ∧ ∀ i (h : i < d.length), M6At w b (off + i * 6) d[i]) :
    Calls Try.prog 38 #[.slice A len cap, .func (.func 39) #[] #[.pointer (some ⟨B, 0, none⟩)]] w fun e w' => e = .returned (.int .i64 (plc (d.map M6.nm) nm)) ∧ Below w.heap.size w w' := by
  have HA : Aside _ := hA
  have HL : Aside (d.length = len) := hlen
  have e39 : ∀ args w, (callFunc 39 args).run Try.prog w = .ok (.enter 39 args) w := enters_of Try.func39 (by kernel_rfl) rfl
  clear hA hlen
  obtain ⟨r, hr⟩ : ∃ r, plc (d.map M6.nm) nm = r := ⟨_, rfl⟩
  rw [hr]
  have HR := Lib.hid hr; clear hr
  have HB : Aside _ := hB
  clear hB
  go_enter Try.func38, Try.ntmps38
  go_wp2_with fail
  go_loopw [8] (fun i wr => ∃ k : Nat, i = .int .i64 k ∧ k ≤ len ∧ Aside (∀ j (h : j < (d.map M6.nm).length), j < k → (d.map M6.nm)[j] ≠ nm) ∧ Aside (Below w.heap.size w wr)) (fun i _ => len - (intOf i).toNat)
  case atStart => exact ⟨0, rfl, by omega, (show ∀ _ _ _, _ from fun j h hj => by omega), (show Below _ _ _ from Below.refl _ _)⟩
  case round =>
    obtain ⟨k, rfl, hk, hne, hbel⟩ := hrel
    by_cases hlt : k < len
    · have t1 : decide ((k : Int) < (len : Int)) = true := decide_eq_true (by omega)
      have t2 : decide (k < len) = true := decide_eq_true hlt
      have k0 : (0 : Int) ≤ (k : Int) := by omega
      have k1 : (k : Int) < (len : Int) := by omega
      have k2 : ((k : Int)).toNat = k := by omega
      have hkl : k < d.length := by have := HL.out; omega
      obtain ⟨b, off, rfl, hb, hc⟩ := HA.out (by omega)
      have hx := (hc k hkl).keep (W' := wr) (fun j => hbel.out.cell (p := ⟨b, j, none⟩) hb)
      have hcon := Lib.hid (placeFn_any d[k] B nm wr ((hbel.out.cell (p := ⟨B, 0, none⟩) hBl).trans HB.out) (Nat.lt_of_lt_of_le hBl hbel.out.size))
      have hmp : (d.map M6.nm)[k]'(by simpa using hkl) = d[k].nm := by simp
      have HMP := Lib.hid hmp
      clear hmp
      by_cases hxn : d[k].nm = nm
      · rw [decide_eq_true hxn] at hcon
        have HXN := Lib.hid hxn
        clear hxn
        generalize d[k] = x at hx hcon HXN HMP
        obtain ⟨xx, xk, xn, xs, xA, xl, xc, xB, xm, xd⟩ := x
        simp only [M6At] at hx
        simp only [encM] at hcon
        obtain ⟨a0, a1, a2, a3, a4, a5⟩ := hx
        generalize strOf xx = X at *
        clear hc
        go_wp2_with fail
        refine hcon.out.mono ?_
        rintro e w1 ⟨rfl, hb1⟩
        go_wp2
        go_ret
        exact ⟨by rw [← HR.out, plc_at (by simpa using hkl) (fun j h hj => hne.out j h hj) (HMP.out.trans HXN.out)]; rfl, hbel.out.trans (hb1.mono hbel.out.size)⟩
      · rw [decide_eq_false hxn] at hcon
        have HXN := Lib.hid hxn
        clear hxn
        generalize d[k] = x at hx hcon HXN HMP
        obtain ⟨xx, xk, xn, xs, xA, xl, xc, xB, xm, xd⟩ := x
        simp only [M6At] at hx
        simp only [encM] at hcon
        obtain ⟨a0, a1, a2, a3, a4, a5⟩ := hx
        generalize strOf xx = X at *
        clear hc
        go_wp2_with fail
        refine hcon.out.mono ?_
        rintro e w1 ⟨rfl, hb1⟩
        have HB1 : Aside _ := hb1
        clear hb1
        go_wp2
        go_roundw
        case rel =>
          refine ⟨k + 1, by go_num, by omega, ?_, (show Below _ _ _ from hbel.out.trans (HB1.out.mono hbel.out.size))⟩
          refine (show ∀ _ _ _, _ from fun j h hj => ?_)
          rcases Nat.lt_or_ge j k with c | c
          · exact hne.out j h c
          · obtain rfl : j = k := by omega
            rw [HMP.out]
            exact HXN.out
        case measure => simp [intOf]; omega
    · have t1 : decide ((k : Int) < (len : Int)) = false := decide_eq_false (by omega)
      have t2 : decide (k < len) = false := decide_eq_false hlt
      go_wp2
      go_ret
      exact ⟨by rw [← HR.out, plc_none (fun j h => hne.out j h (by have := HL.out; simp at h; omega))]; rfl, hbel.out⟩

set_option maxRecDepth 100000 in
set_option maxHeartbeats 4000000 in
theorem place_any (A : Option Addr) (len cap : Nat) (d : List M6) (hlen : d.length = len) (hreach : len < 4611686018427387904) (nm : List UInt8) (w : World)
    (hA : 0 < d.length → ∃ b off, A = some ⟨b, off, none⟩ ∧ b < w.heap.size ∧ ∀ i (h : i < d.length), M6At w b (off + i * 6) d[i]) :
    Calls Try.prog 29 #[.slice A len cap, .string (strOf nm)] w fun e w' => e = .returned (.int .i64 (plc (d.map M6.nm) nm)) ∧ Below w.heap.size w w' := by
  have HCC := Lib.hid (fun (W : World) (hW : W = w.alloc (.cells #[.string (strOf nm)] 9)) => IndexFunc_any A len cap d hlen hreach nm w.heap.size W (by subst hW; unfold World.cell?; rw [heapNew]; rfl) (by subst hW; simp) (fun h => by
    obtain ⟨b, off, e, hb, hc⟩ := hA h
    subst hW
    have hb2 : Below w.heap.size w (w.alloc (.cells #[.string (strOf nm)] 9)) := (Below.refl _ _).alloc (Nat.le_refl _) _
    exact ⟨b, off, e, by simp; omega, fun i hi => (hc i hi).keep fun j => hb2.cell (p := ⟨b, j, none⟩) hb⟩))
  clear hA
  generalize plc (d.map M6.nm) nm = r at *
  generalize strOf nm = Y at *
  go_enter Try.func29, Try.ntmps29
  go_wp2_with fail
  refine (HCC.out _ rfl).mono ?_
  rintro e w1 ⟨rfl, hb⟩
  go_wp2
  go_ret
  exact ⟨rfl, ((Below.refl _ _).alloc (Nat.le_refl _) _).trans (hb.mono (by simp))⟩
end Go.Proofs.Ytbepnjgbkfidiaa.Tr
/- A value of five cells in a variable of its own. No run of the program in this text but results. -/
namespace Go.Proofs.Ytbepnjgbkfidiaa.Tr
open Go.Proofs Go.RowKit Go.Lib
open Go.Proofs.Ytbepnjgbkfidiaa.Utf
open Go.Proofs.Ytbepnjgbkfidiaa.Sc
open Go.Proofs.Ytbepnjgbkfidiaa.Re

theorem rowSet (w : World) (b i : Nat) (cs : Array Value) (t : TypeId) (v : Value) (h : w.heap[b]? = some (.cells cs t (0, 0))) : (w.setCell ⟨b, i, none⟩ v).heap[b]? = some (.cells (cs.setIfInBounds i v) t (0, 0)) := by
  obtain ⟨hlt, hk⟩ := Array.getElem?_eq_some_iff.1 h
  show (w.heap.modify b _)[b]? = _
  rw [Array.getElem?_eq_getElem (by rw [Array.size_modify]; exact hlt), Array.getElem_modify_self, hk]
  rfl
/-- five cells written -/
def st5 (w : World) (b : Nat) (v0 v1 v2 v3 v4 : Value) : World := ((((w.setCell ⟨b, 0, none⟩ v0).setCell ⟨b, 1, none⟩ v1).setCell ⟨b, 2, none⟩ v2).setCell ⟨b, 3, none⟩ v3).setCell ⟨b, 4, none⟩ v4
section
variable {w : World} {b t : Nat} {u0 u1 u2 u3 u4 : Value}
theorem st5_row (h : w.heap[b]? = some (.cells #[u0, u1, u2, u3, u4] t (0, 0))) (v0 v1 v2 v3 v4 : Value) : (st5 w b v0 v1 v2 v3 v4).heap[b]? = some (.cells #[v0, v1, v2, v3, v4] t (0, 0)) :=
  rowSet _ b 4 _ _ v4 (rowSet _ b 3 _ _ v3 (rowSet _ b 2 _ _ v2 (rowSet _ b 1 _ _ v1 (rowSet w b 0 _ _ v0 h))))
theorem st5_other {k : Nat} (hk : k ≠ b) (v0 v1 v2 v3 v4 : Value) : (st5 w b v0 v1 v2 v3 v4).heap[k]? = w.heap[k]? := by
  unfold st5
  rw [Below.heap_setCell _ _ _ k hk, Below.heap_setCell _ _ _ k hk, Below.heap_setCell _ _ _ k hk, Below.heap_setCell _ _ _ k hk, Below.heap_setCell _ _ _ k hk]
theorem st5_size (v0 v1 v2 v3 v4 : Value) : (st5 w b v0 v1 v2 v3 v4).heap.size = w.heap.size := by simp [st5]
theorem st5_below {B : Nat} {a : World} (h : Below B a w) (hb : B ≤ b) (v0 v1 v2 v3 v4 : Value) : Below B a (st5 w b v0 v1 v2 v3 v4) :=
  ((((h.setCell (p := ⟨b, 0, none⟩) hb v0).setCell (p := ⟨b, 1, none⟩) hb v1).setCell (p := ⟨b, 2, none⟩) hb v2).setCell (p := ⟨b, 3, none⟩) hb v3).setCell (p := ⟨b, 4, none⟩) hb v4
/-- the cells of a row of five, and that they may be written -/
theorem row5 (h : w.heap[b]? = some (.cells #[u0, u1, u2, u3, u4] t (0, 0))) :
    (w.cell? ⟨b, 0, none⟩ = some u0 ∧ w.cell? ⟨b, 1, none⟩ = some u1 ∧ w.cell? ⟨b, 2, none⟩ = some u2 ∧ w.cell? ⟨b, 3, none⟩ = some u3 ∧ w.cell? ⟨b, 4, none⟩ = some u4) ∧
    (w.frozen? ⟨b, 0, none⟩ = false ∧ w.frozen? ⟨b, 1, none⟩ = false ∧ w.frozen? ⟨b, 2, none⟩ = false ∧ w.frozen? ⟨b, 3, none⟩ = false ∧ w.frozen? ⟨b, 4, none⟩ = false) := by
  refine ⟨⟨?_, ?_, ?_, ?_, ?_⟩, ⟨?_, ?_, ?_, ?_, ?_⟩⟩ <;> simp [World.cell?, World.frozen?, h]
end
section
variable {fn : Func} {s b z : Nat} {tmps : Array Value} {w : World} {fr : Nat × Nat} {v0 v1 v2 v3 v4 : Value}
theorem res5 (hf : fn.results = #[.cell s 25]) (ht : tmps.getD s undef = .pointer (some ⟨b, 0, none⟩))
    (h : w.heap[b]? = some (.cells #[v0, v1, v2, v3, v4] 25 fr)) : (results fn tmps).run Try.prog w = .ok (.agg #[v0, v1, v2, v3, v4]) w := by
  have c0 : w.cell? ⟨b, 0, none⟩ = some v0 := by simp [World.cell?, h]
  have c1 : w.cell? ⟨b, 1, none⟩ = some v1 := by simp [World.cell?, h]
  have c2 : w.cell? ⟨b, 2, none⟩ = some v2 := by simp [World.cell?, h]
  have c3 : w.cell? ⟨b, 3, none⟩ = some v3 := by simp [World.cell?, h]
  have c4 : w.cell? ⟨b, 4, none⟩ = some v4 := by simp [World.cell?, h]
  rw [Array.getD_eq_getD_getElem?] at ht
  simp [results, hf, ht, c0, c1, c2, c3, c4, go_sem]
theorem res5b {x : Value} (hf : fn.results = #[.cell s 25, .tmp z]) (ht : tmps.getD s undef = .pointer (some ⟨b, 0, none⟩)) (hx : tmps.getD z undef = x)
    (h : w.heap[b]? = some (.cells #[v0, v1, v2, v3, v4] 25 fr)) : (results fn tmps).run Try.prog w = .ok (.tuple #[.agg #[v0, v1, v2, v3, v4], x]) w := by
  have c0 : w.cell? ⟨b, 0, none⟩ = some v0 := by simp [World.cell?, h]
  have c1 : w.cell? ⟨b, 1, none⟩ = some v1 := by simp [World.cell?, h]
  have c2 : w.cell? ⟨b, 2, none⟩ = some v2 := by simp [World.cell?, h]
  have c3 : w.cell? ⟨b, 3, none⟩ = some v3 := by simp [World.cell?, h]
  have c4 : w.cell? ⟨b, 4, none⟩ = some v4 := by simp [World.cell?, h]
  rw [Array.getD_eq_getD_getElem?] at ht hx
  simp [results, hf, ht, hx, c0, c1, c2, c3, c4, go_sem]
end
end Go.Proofs.Ytbepnjgbkfidiaa.Tr
/- Contracts of slices.Clone at values and at members. Written by tools/genTrI.py. -/
namespace Go.Proofs.Ytbepnjgbkfidiaa.Tr
open Go.Proofs Go.RowKit Go.Lib
open Go.Proofs.Ytbepnjgbkfidiaa.Utf
open Go.Proofs.Ytbepnjgbkfidiaa.Sc
open Go.Proofs.Ytbepnjgbkfidiaa.Re

theorem infoVal : (Try.prog.info? 25).map (fun i => (i.zero, i.size, i.bytes)) = some (some (.agg #[.int .i64 0, .int .i64 0, .string ByteArray.empty, .slice none 0 0, .slice none 0 0]), 5, 80) := by kernel_rfl
theorem infoMember : (Try.prog.info? 50).map (fun i => (i.zero, i.size, i.bytes)) = some (some (.agg #[.string ByteArray.empty, .int .i64 0, .int .i64 0, .string ByteArray.empty, .slice none 0 0, .slice none 0 0]), 6, 96) := by kernel_rfl
theorem own_is_slice {w : World} {base E s n : Nat} {v : Value} {xs : List Value} (h : w.ownsRow base E s v n xs) : ∃ A c, v = .slice A n c := by
  obtain ⟨_, h⟩ := h
  rcases h with ⟨rfl, rfl⟩ | ⟨g, cap, cur, rfl, _⟩
  · exact ⟨none, 0, rfl⟩
  · exact ⟨_, _, rfl⟩

set_option maxRecDepth 100000 in
set_option maxHeartbeats 2000000 in
theorem CloneV_any (A : Option Addr) (n c : Nat) (news : List Value) (w : World) (hl : news.length = n * 5) (hbig : n * 80 ≤ 140737488355328)
    (hc : 0 < n → ∃ g o, A = some ⟨g, o, none⟩ ∧ ∀ j u, news[j]? = some u → w.cell? ⟨g, o + j, none⟩ = some u) (h1 : ∀ u ∈ news, u.oneCell' = true) :
    Calls Try.prog 35 #[.slice A n c] w fun e w' => ∃ A' c', e = .returned (.slice A' n c') ∧ w'.ownsRow w.heap.size 25 5 (.slice A' n c') n news ∧ Below w.heap.size w w' := by
  obtain ⟨i0, hi, hz0, hz1, hz2⟩ := info_parts infoVal
  have q22 : ∀ (w : World) (a : Option Addr) (n c n' c' : Nat), (binOp .eql 22 (.slice a n c) (.slice none n' c')).run Try.prog w = .ok (.bool a.isNone) w := fun w a n c n' c' => Lib.run_eql_slice_nil w _ _ a n c n' c' Try.underlying22
  cases A with
  | none =>
    have hn : n = 0 := by
      rcases Nat.eq_zero_or_pos n with h | h
      · exact h
      · obtain ⟨g, o, e, _⟩ := hc h
        cases e
    subst hn
    have hnw : news = [] := List.eq_nil_of_length_eq_zero (by omega)
    subst hnw
    clear hc hl
    go_enter Try.func35, Try.ntmps35
    go_wp2
    go_ret
    exact ⟨none, 0, rfl, World.ownsRow_nil _ _ _ _, Below.refl _ _⟩
  | some ad =>
    have HC : Aside _ := hc
    clear hc
    go_enter Try.func35, Try.ntmps35
    go_wp2_with (at_builtin; refine wpList_append_own _ rfl _ _ 22 rfl w.heap.size 25 i0 _ 5 80 Try.underlying22 hi hz0 hz1 hz2 rfl (by decide) _ _ _ rfl (World.ownsRow_made w #[] 0 (Nat.le_refl _) (Nat.zero_le _) (by simp)) ad n c news rfl ?qc1 ?qc2 ?qc3 ?qc4 ?qc5 ?qc6 ?_)
    case qc1 => exact hl
    case qc2 =>
      intro j u hj
      have hn : 0 < n := by
        rcases Nat.eq_zero_or_pos n with h | h
        · subst h
          have hnw : news = [] := List.eq_nil_of_length_eq_zero (by omega)
          rw [hnw] at hj
          simp at hj
        · exact h
      obtain ⟨g, o, e, hx⟩ := HC.out hn
      injection e with e
      subst e
      rw [Addr.add_lit]
      exact Lib.cell?_alloc_some _ (hx j u hj)
    case qc3 => exact h1
    case qc4 => unfold maxLen; omega
    case qc5 => omega
    case qc6 => simp
    intro v' w1 hown hgrow hnil
    have hown' : w1.ownsRow w.heap.size 25 5 v' n news := by simpa using hown
    obtain ⟨A', c', rfl⟩ := own_is_slice hown'
    have HO := Lib.hid hown'
    have HG := Lib.hid hgrow
    clear hown hown' hgrow hnil
    go_wp2
    go_ret
    exact ⟨A', c', rfl, HO.out, ((Below.refl _ w).alloc (Nat.le_refl _) _).grown HG.out (by simp) (by intro k hk; simp [Value.ownBlock] at hk; omega)⟩

set_option maxRecDepth 100000 in
set_option maxHeartbeats 2000000 in
theorem CloneM_any (A : Option Addr) (n c : Nat) (news : List Value) (w : World) (hl : news.length = n * 6) (hbig : n * 96 ≤ 140737488355328)
    (hc : 0 < n → ∃ g o, A = some ⟨g, o, none⟩ ∧ ∀ j u, news[j]? = some u → w.cell? ⟨g, o + j, none⟩ = some u) (h1 : ∀ u ∈ news, u.oneCell' = true) :
    Calls Try.prog 36 #[.slice A n c] w fun e w' => ∃ A' c', e = .returned (.slice A' n c') ∧ w'.ownsRow w.heap.size 50 6 (.slice A' n c') n news ∧ Below w.heap.size w w' := by
  obtain ⟨i0, hi, hz0, hz1, hz2⟩ := info_parts infoMember
  have q22 : ∀ (w : World) (a : Option Addr) (n c n' c' : Nat), (binOp .eql 23 (.slice a n c) (.slice none n' c')).run Try.prog w = .ok (.bool a.isNone) w := fun w a n c n' c' => Lib.run_eql_slice_nil w _ _ a n c n' c' Try.underlying23
  cases A with
  | none =>
    have hn : n = 0 := by
      rcases Nat.eq_zero_or_pos n with h | h
      · exact h
      · obtain ⟨g, o, e, _⟩ := hc h
        cases e
    subst hn
    have hnw : news = [] := List.eq_nil_of_length_eq_zero (by omega)
    subst hnw
    clear hc hl
    go_enter Try.func36, Try.ntmps36
    go_wp2
    go_ret
    exact ⟨none, 0, rfl, World.ownsRow_nil _ _ _ _, Below.refl _ _⟩
  | some ad =>
    have HC : Aside _ := hc
    clear hc
    go_enter Try.func36, Try.ntmps36
    go_wp2_with (at_builtin; refine wpList_append_own _ rfl _ _ 23 rfl w.heap.size 50 i0 _ 6 96 Try.underlying23 hi hz0 hz1 hz2 rfl (by decide) _ _ _ rfl (World.ownsRow_made w #[] 0 (Nat.le_refl _) (Nat.zero_le _) (by simp)) ad n c news rfl ?qc1 ?qc2 ?qc3 ?qc4 ?qc5 ?qc6 ?_)
    case qc1 => exact hl
    case qc2 =>
      intro j u hj
      have hn : 0 < n := by
        rcases Nat.eq_zero_or_pos n with h | h
        · subst h
          have hnw : news = [] := List.eq_nil_of_length_eq_zero (by omega)
          rw [hnw] at hj
          simp at hj
        · exact h
      obtain ⟨g, o, e, hx⟩ := HC.out hn
      injection e with e
      subst e
      rw [Addr.add_lit]
      exact Lib.cell?_alloc_some _ (hx j u hj)
    case qc3 => exact h1
    case qc4 => unfold maxLen; omega
    case qc5 => omega
    case qc6 => simp
    intro v' w1 hown hgrow hnil
    have hown' : w1.ownsRow w.heap.size 50 6 v' n news := by simpa using hown
    obtain ⟨A', c', rfl⟩ := own_is_slice hown'
    have HO := Lib.hid hown'
    have HG := Lib.hid hgrow
    clear hown hown' hgrow hnil
    go_wp2
    go_ret
    exact ⟨A', c', rfl, HO.out, ((Below.refl _ w).alloc (Nat.le_refl _) _).grown HG.out (by simp) (by intro k hk; simp [Value.ownBlock] at hk; omega)⟩
end Go.Proofs.Ytbepnjgbkfidiaa.Tr
/- Values in blocks of their own. No run of the program in this text. -/
namespace Go.Proofs.Ytbepnjgbkfidiaa.Tr
open Go.Proofs Go.RowKit Go.Lib
open Go.Proofs.Ytbepnjgbkfidiaa.Utf
open Go.Proofs.Ytbepnjgbkfidiaa.Sc
open Go.Proofs.Ytbepnjgbkfidiaa.Re

/-- n cells at a place, that may be written -/
def CellsAt (w : World) (g o : Nat) (cs : List Value) : Prop := ∀ j u, cs[j]? = some u → w.cell? ⟨g, o + j, none⟩ = some u ∧ w.frozen? ⟨g, o + j, none⟩ = false
theorem CellsAt.keep {w w' : World} {g o : Nat} {cs : List Value} (h : CellsAt w g o cs) (hk : w'.heap[g]? = w.heap[g]?) : CellsAt w' g o cs := fun j u hu =>
  ⟨(cell_of_blk (p := ⟨g, o + j, none⟩) hk).trans (h j u hu).1, by have := (h j u hu).2; unfold World.frozen? at *; rw [show w'.heap[(⟨g, o + j, none⟩ : Addr).block]? = _ from hk]; exact this⟩
mutual
/-- In w the five cells cs read as v; its blocks are F, in their order -/
def RdF (w : World) : V → List Value → List Nat → Prop
  | .mk k n s l ns ms, cs, F => ∃ (A : Option Addr) (c : Nat) (A2 : Option Addr) (c2 : Nat) (FL FM : List Nat), cs = [.int .i64 k, .int .i64 n, .string (strOf s), .slice A l.length c, .slice A2 ms.length c2] ∧ ns.length = ms.length ∧ F = FL ++ FM ∧
      ((l.length = 0 ∧ FL = []) ∨ ∃ g T, 0 < l.length ∧ A = some ⟨g, 0, none⟩ ∧ FL = g :: T ∧ RdFL w g 0 l T) ∧ ((ms.length = 0 ∧ FM = []) ∨ ∃ g T, 0 < ms.length ∧ A2 = some ⟨g, 0, none⟩ ∧ FM = g :: T ∧ RdFM w g 0 ns ms T)
def RdFL (w : World) : Nat → Nat → List V → List Nat → Prop
  | _, _, [], F => F = []
  | g, i, v :: r, F => ∃ cs F1 F2, F = F1 ++ F2 ∧ CellsAt w g (i * 5) cs ∧ RdF w v cs F1 ∧ RdFL w g (i + 1) r F2
def RdFM (w : World) : Nat → Nat → List (List UInt8) → List V → List Nat → Prop
  | _, _, _, [], F => F = []
  | g, i, ns, v :: r, F => ∃ nm ns' cs F1 F2, ns = nm :: ns' ∧ F = F1 ++ F2 ∧ CellsAt w g (i * 6) (.string (strOf nm) :: cs) ∧ RdF w v cs F1 ∧ RdFM w g (i + 1) ns' r F2
end
theorem RdF.cells {w : World} {v : V} {cs : List Value} {F : List Nat} (h : RdF w v cs F) : ∃ (A : Option Addr) (c : Nat) (A2 : Option Addr) (c2 : Nat) (FL FM : List Nat), cs = [.int .i64 v.k, .int .i64 v.n, .string (strOf v.s), .slice A v.l.length c, .slice A2 v.ms.length c2] ∧ v.ns.length = v.ms.length ∧ F = FL ++ FM ∧
      ((v.l.length = 0 ∧ FL = []) ∨ ∃ g T, 0 < v.l.length ∧ A = some ⟨g, 0, none⟩ ∧ FL = g :: T ∧ RdFL w g 0 v.l T) ∧ ((v.ms.length = 0 ∧ FM = []) ∨ ∃ g T, 0 < v.ms.length ∧ A2 = some ⟨g, 0, none⟩ ∧ FM = g :: T ∧ RdFM w g 0 v.ns v.ms T) := by
  obtain ⟨k, n, s, l, ns, ms⟩ := v
  rw [RdF] at h
  exact h
theorem RdF.of_cells {w : World} {v : V} {cs : List Value} {F : List Nat} (h : ∃ (A : Option Addr) (c : Nat) (A2 : Option Addr) (c2 : Nat) (FL FM : List Nat), cs = [.int .i64 v.k, .int .i64 v.n, .string (strOf v.s), .slice A v.l.length c, .slice A2 v.ms.length c2] ∧ v.ns.length = v.ms.length ∧ F = FL ++ FM ∧
      ((v.l.length = 0 ∧ FL = []) ∨ ∃ g T, 0 < v.l.length ∧ A = some ⟨g, 0, none⟩ ∧ FL = g :: T ∧ RdFL w g 0 v.l T) ∧ ((v.ms.length = 0 ∧ FM = []) ∨ ∃ g T, 0 < v.ms.length ∧ A2 = some ⟨g, 0, none⟩ ∧ FM = g :: T ∧ RdFM w g 0 v.ns v.ms T)) : RdF w v cs F := by
  obtain ⟨k, n, s, l, ns, ms⟩ := v
  rw [RdF]
  exact h
section
variable {w w' : World}
mutual
theorem RdF.keep : ∀ (v : V) (cs : List Value) (F : List Nat), (∀ k ∈ F, w'.heap[k]? = w.heap[k]?) → RdF w v cs F → RdF w' v cs F
  | .mk k n s l ns ms, cs, F, hk, h => by
    rw [RdF] at h ⊢
    obtain ⟨A, c, A2, c2, FL, FM, e1, e2, rfl, h1, h2⟩ := h
    refine ⟨A, c, A2, c2, FL, FM, e1, e2, rfl, ?_, ?_⟩
    · rcases h1 with h1 | ⟨g, T, p1, p2, rfl, p4⟩
      · exact .inl h1
      · exact .inr ⟨g, T, p1, p2, rfl, RdFL.keep l g 0 T (hk g (by simp)) (fun k hh => hk k (by simp [hh])) p4⟩
    · rcases h2 with h2 | ⟨g, T, p1, p2, rfl, p4⟩
      · exact .inl h2
      · exact .inr ⟨g, T, p1, p2, rfl, RdFM.keep ms g 0 ns T (hk g (by simp)) (fun k hh => hk k (by simp [hh])) p4⟩
theorem RdFL.keep : ∀ (l : List V) (g i : Nat) (F : List Nat), w'.heap[g]? = w.heap[g]? → (∀ k ∈ F, w'.heap[k]? = w.heap[k]?) → RdFL w g i l F → RdFL w' g i l F
  | [], g, i, F, _, _, h => by rw [RdFL] at h ⊢; exact h
  | v :: r, g, i, F, hg, hk, h => by
    rw [RdFL] at h ⊢
    obtain ⟨cs, F1, F2, rfl, h1, h2, h3⟩ := h
    exact ⟨cs, F1, F2, rfl, h1.keep hg, RdF.keep v cs F1 (fun k hh => hk k (by simp [hh])) h2, RdFL.keep r g (i + 1) F2 hg (fun k hh => hk k (by simp [hh])) h3⟩
theorem RdFM.keep : ∀ (ms : List V) (g i : Nat) (ns : List (List UInt8)) (F : List Nat), w'.heap[g]? = w.heap[g]? → (∀ k ∈ F, w'.heap[k]? = w.heap[k]?) → RdFM w g i ns ms F → RdFM w' g i ns ms F
  | [], g, i, ns, F, _, _, h => by rw [RdFM] at h ⊢; exact h
  | v :: r, g, i, ns, F, hg, hk, h => by
    rw [RdFM] at h ⊢
    obtain ⟨nm, ns', cs, F1, F2, e, rfl, h1, h2, h3⟩ := h
    exact ⟨nm, ns', cs, F1, F2, e, rfl, h1.keep hg, RdF.keep v cs F1 (fun k hh => hk k (by simp [hh])) h2, RdFM.keep r g (i + 1) ns' F2 hg (fun k hh => hk k (by simp [hh])) h3⟩
end
variable {lo hi : Nat}
mutual
/-- .. as it reads in a caller's memory -/
theorem RdF.toA : ∀ (v : V) (cs : List Value) (F : List Nat), (∀ k ∈ F, lo ≤ k ∧ k < hi) → RdF w v cs F → RdA w lo hi v cs
  | .mk k n s l ns ms, cs, F, hk, h => by
    rw [RdF] at h
    rw [RdA]
    obtain ⟨A, c, A2, c2, FL, FM, e1, e2, rfl, h1, h2⟩ := h
    refine ⟨A, c, A2, c2, e1, e2, fun h0 => ?_, fun h0 => ?_⟩
    · rcases h1 with h1 | ⟨g, T, p1, p2, rfl, p4⟩
      · omega
      · exact ⟨g, 0, p2, (hk g (by simp)).1, (hk g (by simp)).2, by have := RdFL.toA l g 0 T (fun k hh => hk k (by simp [hh])) p4; simpa using this⟩
    · rcases h2 with h2 | ⟨g, T, p1, p2, rfl, p4⟩
      · omega
      · exact ⟨g, 0, p2, (hk g (by simp)).1, (hk g (by simp)).2, by have := RdFM.toA ms g 0 ns T (fun k hh => hk k (by simp [hh])) p4; simpa using this⟩
theorem RdFL.toA : ∀ (l : List V) (g i : Nat) (F : List Nat), (∀ k ∈ F, lo ≤ k ∧ k < hi) → RdFL w g i l F → RdAL w lo hi g (i * 5) l
  | [], g, i, F, _, _ => by rw [RdAL]; trivial
  | v :: r, g, i, F, hk, h => by
    rw [RdFL] at h
    rw [RdAL]
    obtain ⟨cs, F1, F2, rfl, h1, h2, h3⟩ := h
    refine ⟨⟨cs, fun j u hu => (h1 j u hu).1, RdF.toA v cs F1 (fun k hh => hk k (by simp [hh])) h2⟩, ?_⟩
    have := RdFL.toA r g (i + 1) F2 (fun k hh => hk k (by simp [hh])) h3
    rwa [show (i + 1) * 5 = i * 5 + 5 by omega] at this
theorem RdFM.toA : ∀ (ms : List V) (g i : Nat) (ns : List (List UInt8)) (F : List Nat), (∀ k ∈ F, lo ≤ k ∧ k < hi) → RdFM w g i ns ms F → RdAM w lo hi g (i * 6) ns ms
  | [], g, i, ns, F, _, _ => by rw [RdAM]; trivial
  | v :: r, g, i, ns, F, hk, h => by
    rw [RdFM] at h
    rw [RdAM]
    obtain ⟨nm, ns', cs, F1, F2, e, rfl, h1, h2, h3⟩ := h
    refine ⟨nm, ns', e, (h1 0 _ rfl).1, ⟨cs, fun j u hu => by have := (h1 (j + 1) u (by simpa using hu)).1; rwa [show i * 6 + (j + 1) = i * 6 + 1 + j by omega] at this, RdF.toA v cs F1 (fun k hh => hk k (by simp [hh])) h2⟩, ?_⟩
    have := RdFM.toA r g (i + 1) ns' F2 (fun k hh => hk k (by simp [hh])) h3
    rwa [show (i + 1) * 6 = i * 6 + 6 by omega] at this
end

/-! ### item by item -/
/-- values one by one: each its cells, and its blocks -/
theorem RdFL.of_items {g : Nat} : ∀ (l : List V) (Fs : List (List Nat)) (i : Nat), Fs.length = l.length → (∀ j (h1 : j < l.length) (h2 : j < Fs.length), ∃ cs, CellsAt w g ((i + j) * 5) cs ∧ RdF w l[j] cs Fs[j]) → RdFL w g i l Fs.flatten
  | [], Fs, i, hl, _ => by rw [List.eq_nil_of_length_eq_zero hl, RdFL]; rfl
  | v :: r, Fs, i, hl, h => by
    cases Fs with
    | nil => simp at hl
    | cons F Fs =>
      obtain ⟨cs, h1, h2⟩ := h 0 (by simp) (by simp)
      rw [RdFL]
      refine ⟨cs, F, Fs.flatten, by simp, by simpa using h1, h2, RdFL.of_items r Fs (i + 1) (by simpa using hl) fun j j1 j2 => ?_⟩
      have := h (j + 1) (by simpa using j1) (by simpa using j2)
      rw [show i + 1 + j = i + (j + 1) by omega]
      exact this
theorem RdFL.items {g : Nat} : ∀ (l : List V) (F : List Nat) (i : Nat), RdFL w g i l F → ∃ Fs : List (List Nat), Fs.length = l.length ∧ F = Fs.flatten ∧ (∀ j (h1 : j < l.length) (h2 : j < Fs.length), ∃ cs, CellsAt w g ((i + j) * 5) cs ∧ RdF w l[j] cs Fs[j])
  | [], F, i, h => by rw [RdFL] at h; exact ⟨[], rfl, by rw [h]; rfl, fun j h => by simp at h⟩
  | v :: r, F, i, h => by
    rw [RdFL] at h
    obtain ⟨cs, F1, F2, rfl, h1, h2, h3⟩ := h
    obtain ⟨Fs, q1, rfl, q3⟩ := RdFL.items r F2 (i + 1) h3
    refine ⟨F1 :: Fs, by simp [q1], by simp, fun j j1 j2 => ?_⟩
    cases j with
    | zero => exact ⟨cs, by simpa using h1, h2⟩
    | succ j =>
      have := q3 j (by simpa using j1) (by simpa using j2)
      rw [show i + 1 + j = i + (j + 1) by omega] at this
      exact this
theorem RdFM.of_items {g : Nat} : ∀ (ms : List V) (ns : List (List UInt8)) (Fs : List (List Nat)) (i : Nat), Fs.length = ms.length → ns.length = ms.length → (∀ j (h1 : j < ms.length) (h2 : j < Fs.length) (h3 : j < ns.length), ∃ cs, CellsAt w g ((i + j) * 6) (.string (strOf ns[j]) :: cs) ∧ RdF w ms[j] cs Fs[j]) → RdFM w g i ns ms Fs.flatten
  | [], ns, Fs, i, hl, _, _ => by rw [List.eq_nil_of_length_eq_zero hl, RdFM]; rfl
  | v :: r, ns, Fs, i, hl, hn, h => by
    cases Fs with
    | nil => simp at hl
    | cons F Fs =>
      cases ns with
      | nil => simp at hn
      | cons nm ns =>
        obtain ⟨cs, h1, h2⟩ := h 0 (by simp) (by simp) (by simp)
        rw [RdFM]
        refine ⟨nm, ns, cs, F, Fs.flatten, rfl, by simp, by simpa using h1, h2, RdFM.of_items r ns Fs (i + 1) (by simpa using hl) (by simpa using hn) fun j j1 j2 j3 => ?_⟩
        have := h (j + 1) (by simpa using j1) (by simpa using j2) (by simpa using j3)
        rw [show i + 1 + j = i + (j + 1) by omega]
        exact this
theorem RdFM.items {g : Nat} : ∀ (ms : List V) (ns : List (List UInt8)) (F : List Nat) (i : Nat), RdFM w g i ns ms F → ns.length = ms.length → ∃ Fs : List (List Nat), Fs.length = ms.length ∧ F = Fs.flatten ∧ (∀ j (h1 : j < ms.length) (h2 : j < Fs.length) (h3 : j < ns.length), ∃ cs, CellsAt w g ((i + j) * 6) (.string (strOf ns[j]) :: cs) ∧ RdF w ms[j] cs Fs[j])
  | [], ns, F, i, h, _ => by rw [RdFM] at h; exact ⟨[], rfl, by rw [h]; rfl, fun j h => by simp at h⟩
  | v :: r, ns, F, i, h, hn => by
    rw [RdFM] at h
    obtain ⟨nm, ns', cs, F1, F2, rfl, rfl, h1, h2, h3⟩ := h
    obtain ⟨Fs, q1, rfl, q3⟩ := RdFM.items r ns' F2 (i + 1) h3 (by simpa using hn)
    refine ⟨F1 :: Fs, by simp [q1], by simp, fun j j1 j2 j3 => ?_⟩
    cases j with
    | zero => exact ⟨cs, by simpa using h1, h2⟩
    | succ j =>
      have := q3 j (by simpa using j1) (by simpa using j2) (by simpa using j3)
      rw [show i + 1 + j = i + (j + 1) by omega] at this
      exact this
end
end Go.Proofs.Ytbepnjgbkfidiaa.Tr
/- The member of a name. -/
namespace Go.Proofs.Ytbepnjgbkfidiaa.Tr
open Go.Proofs Go.RowKit Go.Lib
open Go.Proofs.Ytbepnjgbkfidiaa.Utf
open Go.Proofs.Ytbepnjgbkfidiaa.Sc
open Go.Proofs.Ytbepnjgbkfidiaa.Re

theorem rd_zero (w : World) (lo hi : Nat) : RdA w lo hi V0 [.int .i64 0, .int .i64 0, .string ⟨#[]⟩, .slice none 0 0, .slice none 0 0] := by
  rw [V0, RdA]
  exact ⟨none, 0, none, 0, rfl, rfl, fun h => by simp at h, fun h => by simp at h⟩
theorem getV_at {v : V} {nm : List UInt8} {k : Nat} (hl : k < (inM v).length) (e : (inN v).idxOf nm = k) : getV v nm = (inM v)[k] := by
  unfold getV
  rw [e, List.getD_eq_getElem?_getD, List.getElem?_eq_getElem hl]
  rfl
theorem getV_none {v : V} {nm : List UInt8} (hl : (inN v).length = (inM v).length) (h : nm ∉ inN v) : getV v nm = V0 := by
  unfold getV
  rw [List.idxOf_eq_length h, hl, List.getD_eq_getElem?_getD, List.getElem?_eq_none (Nat.le_refl _)]
  rfl
def GivesGet (v : V) (nm : List UInt8) (w : World) (e : Ending) (w' : World) : Prop :=
  (∃ cs : List Value, e = .returned (.tuple #[.agg cs.toArray, .bool (decide (nm ∈ inN v))]) ∧ RdA w 0 w.heap.size (getV v nm) cs) ∧ Below w.heap.size w w'

set_option maxRecDepth 100000 in
set_option maxHeartbeats 4000000 in
theorem Get_any (v : V) (cs : List Value) (nm : List UInt8) (w : World) (hv : RdA w 0 w.heap.size v cs) (hz : szA 4611686018427387904 v) :
    Calls Try.prog 10 #[.agg cs.toArray, .string (strOf nm)] w (GivesGet v nm w) := by
  have hlen := in_len hv
  have hms : (inM v).length < 4611686018427387904 := by
    have := ((szA_eq _ v).1 hz).2.2.2.2.1
    unfold inM; split
    · omega
    · simp
  have HI := Lib.hid (fun (W : World) (hW : Below w.heap.size w W) => inside_any v cs 0 w.heap.size W (hv.below hW (Nat.le_refl _) (Nat.le_refl _)))
  obtain ⟨A0, c0, A20, c20, rfl, _⟩ := hv.cells
  clear hv hz
  generalize v.k = k at *
  generalize v.n = n at *
  generalize strOf v.s = S at *
  generalize v.l.length = l at *
  generalize v.ms.length = m at *
  have HLEN := Lib.hid hlen; clear hlen
  have hz : ((w.alloc (.cells #[.int .i64 k, .int .i64 n, .string S, .slice A0 l c0, .slice A20 m c20] 25)).alloc (.cells #[.int .i64 0, .int .i64 0, .string ⟨#[]⟩, .slice none 0 0, .slice none 0 0] 25)).heap[w.heap.size + 1]? = some (.cells #[.int .i64 0, .int .i64 0, .string ⟨#[]⟩, .slice none 0 0, .slice none 0 0] 25 (0, 0)) := by
    have := heapNew (w.alloc (.cells #[.int .i64 k, .int .i64 n, .string S, .slice A0 l c0, .slice A20 m c20] 25)) (.cells #[.int .i64 0, .int .i64 0, .string ⟨#[]⟩, .slice none 0 0, .slice none 0 0] 25)
    rwa [szAl] at this
  have hb0 : Below w.heap.size w ((w.alloc (.cells #[.int .i64 k, .int .i64 n, .string S, .slice A0 l c0, .slice A20 m c20] 25)).alloc (.cells #[.int .i64 0, .int .i64 0, .string ⟨#[]⟩, .slice none 0 0, .slice none 0 0] 25)) := ((Below.refl _ _).alloc (Nat.le_refl _) _).alloc (by simp) _
  have hs0 : ((w.alloc (.cells #[.int .i64 k, .int .i64 n, .string S, .slice A0 l c0, .slice A20 m c20] 25)).alloc (.cells #[.int .i64 0, .int .i64 0, .string ⟨#[]⟩, .slice none 0 0, .slice none 0 0] 25)).heap.size = w.heap.size + 2 := by rw [szAl, szAl]
  have HZ := Lib.hid hz
  have HB0 := Lib.hid hb0
  have HS0 := Lib.hid hs0
  clear hz hb0 hs0
  go_enter Try.func10, Try.ntmps10
  go_wp2_with fail
  generalize ((w.alloc (.cells #[.int .i64 k, .int .i64 n, .string S, .slice A0 l c0, .slice A20 m c20] 25)).alloc (.cells #[.int .i64 0, .int .i64 0, .string ⟨#[]⟩, .slice none 0 0, .slice none 0 0] 25)) = w0 at HZ HB0 HS0 ⊢
  refine (HI.out _ HB0.out).mono ?_
  rintro e w1 ⟨⟨A, c, A2, c2, rfl, _, hM⟩, hb1⟩
  have hb1' := hb1
  obtain ⟨d, hd⟩ := mems_of HLEN.out hM
  have HD := Lib.hid (hd.below (hb1.mono HB0.out.size) (Nat.le_refl _))
  have HB1 := Lib.hid (HB0.out.trans (hb1.mono HB0.out.size))
  have HZ1 := Lib.hid ((hb1.block (w.heap.size + 1) (by rw [HS0.out]; omega)).trans HZ.out)
  have HSZ := Lib.hid (show w.heap.size + 2 ≤ w1.heap.size by have := hb1.size; rw [HS0.out] at this; omega)
  have HPL := Lib.hid (place_any A2 (inM v).length c2 d hd.1 hms nm w1 (fun h => by
    obtain ⟨g, o, e, _, g2, hr⟩ := HD.out.2.2.1 h
    exact ⟨g, o, e, by have := HB1.out.size; omega, hr⟩))
  clear hd hM hb1 hb1' HZ HB0 HS0 HI
  generalize hln : (inM v).length = len at *
  have HLN := Lib.hid hln; clear hln
  generalize (inL v).length = ll at *
  go_wp2_with fail
  refine HPL.out.mono ?_
  rintro e w2 ⟨rfl, hb2⟩
  have HB2 := Lib.hid hb2
  have hz2 := (hb2.block (w.heap.size + 1) (by have := HSZ.out; omega)).trans HZ1.out
  have HZ2 := Lib.hid hz2
  obtain ⟨⟨z0, z1, z2, z3, z4⟩, ⟨y0, y1, y2, y3, y4⟩⟩ := row5 hz2
  clear hb2 hz2 HPL
  have hns : d.map M6.nm = inN v := HD.out.2.1
  by_cases hin : nm ∈ inN v
  · have hlt := List.idxOf_lt_length_of_mem hin
    obtain ⟨i, hi⟩ : ∃ i, (inN v).idxOf nm = i := ⟨_, rfl⟩
    have hp : plc (d.map M6.nm) nm = (i : Int) := by rw [hns]; unfold plc; rw [if_pos hin, hi]
    rw [hp]
    have HDC := Lib.hid (decide_eq_true hin)
    have hil : i < len := by rw [hi, HLEN.out] at hlt; exact hlt
    have hid : i < d.length := by rw [HD.out.1, HLN.out]; exact hil
    obtain ⟨g, o, rfl, _, g2, hr⟩ := HD.out.2.2.1 (by omega)
    have hx := (hr i hid).keep (W' := w2) (fun j => HB2.out.cell (p := ⟨g, j, none⟩) (by show g < _; have := HB1.out.size; omega))
    have hrd := HD.out.2.2.2 i hid (by rw [HLN.out]; exact hil)
    have hge := getV_at (nm := nm) (by rw [HLN.out]; exact hil) hi
    have HRD := Lib.hid hrd
    have HGE := Lib.hid hge
    generalize d[i] = x at hx HRD
    clear hr hrd hge hi hp hns hin hlt hid
    obtain ⟨xx, xk, xn, xs, xA, xl, xc, xB, xm, xd⟩ := x
    simp only [M6At] at hx
    obtain ⟨a0, a1, a2, a3, a4, a5⟩ := hx
    generalize strOf xx = X at *
    have t1 : decide ((i : Int) < 0) = false := decide_eq_false (by omega)
    have t1b : ¬ ((i : Int) < 0) := by omega
    have k0 : (0 : Int) ≤ (i : Int) := by omega
    have k1 : (i : Int) < (len : Int) := by omega
    have k2 : ((i : Int)).toNat = i := by omega
    go_wp2
    refine bodyPost_ret (res5b rfl rfl rfl (st5_row HZ2.out (.int .i64 xk) (.int .i64 xn) (.string xs) (.slice xA xl xc) (.slice xB xm xd))) rfl ?_
    have hbb := HB1.out.trans (HB2.out.mono HB1.out.size)
    refine ⟨⟨[.int .i64 xk, .int .i64 xn, .string xs, .slice xA xl xc, .slice xB xm xd], by rw [HDC.out]; rfl, ?_⟩, st5_below hbb (by omega) _ _ _ _ _⟩
    rw [HGE.out]
    exact RdA.keep (fun p _ hp => (HB1.out.cell (p := p) hp).symm) (Nat.le_refl _) (Nat.le_refl _) _ _ HRD.out
  · have hp : plc (d.map M6.nm) nm = -1 := by rw [hns]; unfold plc; rw [if_neg hin]
    rw [hp]
    have HDC := Lib.hid (decide_eq_false hin)
    have hge := getV_none (HLEN.out.trans HLN.out.symm) hin
    have HGE := Lib.hid hge
    clear hns hin hp hge
    go_wp2
    refine bodyPost_ret (res5b rfl rfl rfl (st5_row HZ2.out (.int .i64 0) (.int .i64 0) (.string ⟨#[]⟩) (.slice none 0 0) (.slice none 0 0))) rfl ?_
    have hbb := HB1.out.trans (HB2.out.mono HB1.out.size)
    refine ⟨⟨[.int .i64 0, .int .i64 0, .string ⟨#[]⟩, .slice none 0 0, .slice none 0 0], by rw [HDC.out]; rfl, ?_⟩, st5_below hbb (by omega) _ _ _ _ _⟩
    rw [HGE.out]
    exact rd_zero _ _ _
end Go.Proofs.Ytbepnjgbkfidiaa.Tr
