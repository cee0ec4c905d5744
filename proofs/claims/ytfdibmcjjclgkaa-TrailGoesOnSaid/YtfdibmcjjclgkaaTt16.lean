/- Merged: TlH. -/
import Derived.RangeFuncNested
import Derived.RangeFuncBound
import Derived.RangeFuncCalls
import Derived.RangeFuncLeaves
import Derived.Shelf.Abstract
import Derived.WalkKit
import Derived.OwnWalkIn
import Derived.TacticsInMore
import Derived.LoopNIn
import Derived.LoopIn
import Derived.Maps.OwnIn
import Derived.Maps.OwnSet
import Derived.WalkArith
import Derived.Test.YtfdibmcjjclgkaaTt15
import Derived.Test.YtfdibmcjjclgkaaTt9
namespace Go.Proofs.Ytfdibmcjjclgkaa.Tl
open Go.Proofs Go.RowKit Go.Shelf
open Go.Proofs.Ytfdibmcjjclgkaa.Utf
attribute [local go_sem] Oper.semAt_some

abbrev NE := { x : En // x.2.1.length ≤ 9223372036854775807 }
def seqX {α : Type} : Nat → List α → List (Tr.Ix × α)
  | _, [] => []
  | o, x :: r => seqX (o + 1) r ++ [(Tr.ix o, x)]
theorem seqX_len {α : Type} : ∀ (d : List α) (o : Nat), (seqX o d).length = d.length
  | [], _ => rfl
  | x :: r, o => by rw [seqX, List.length_append, seqX_len r]; rfl
theorem seqX_step {α : Type} {d : List α} {k : Nat} (h : k < d.length) : seqX (k + 1) (d.drop (k + 1)) ++ [(Tr.ix k, d[k])] = seqX k (d.drop k) := by
  rw [List.drop_eq_getElem_cons h, seqX]
theorem seqX_val {α : Type} : ∀ (d : List α) (o : Nat), ((seqX o d).map (·.2)).reverse = d
  | [], _ => rfl
  | x :: r, o => by
    have ih := seqX_val r (o + 1)
    rw [seqX, List.map_append, List.reverse_append, ih]; rfl
def AtE (W : World) (b o : Nat) (x : NE) : Prop :=
  W.cell? ⟨b, o, none⟩ = some (.int .i64 x.1.1) ∧ W.cell? ⟨b, o + 1, none⟩ = some (.string (strOf x.1.2.1)) ∧ W.cell? ⟨b, o + 2, none⟩ = some (.int .i64 x.1.2.2)
theorem AtE.keep {W W' : World} {b o : Nat} {x : NE} (h : AtE W b o x) (hk : ∀ j, W'.cell? ⟨b, j, none⟩ = W.cell? ⟨b, j, none⟩) : AtE W' b o x := by
  unfold AtE at *
  simp only [hk]
  exact h
def encIE (x : Tr.Ix × NE) : Array Value := #[.int .i64 x.1.1, .agg (enR x.2.1).toArray]
abbrev ptrV (x : Nat) : Value := .pointer (some ⟨x, 0, none⟩)
abbrev QE (O : List (Nat × Pa)) := { x : Nat × Pa // x ∈ O }
section
variable {O : List (Nat × Pa)}
def AtQ (W : World) (b o : Nat) (x : QE O) : Prop := W.cell? ⟨b, o, none⟩ = some (ptrV x.1.1)
theorem AtQ.keep {W W' : World} {b o : Nat} {x : QE O} (h : AtQ W b o x) (hk : ∀ j, W'.cell? ⟨b, j, none⟩ = W.cell? ⟨b, j, none⟩) : AtQ W' b o x := by
  unfold AtQ at *
  rw [hk]
  exact h
def encIQ (x : Tr.Ix × QE O) : Array Value := #[.int .i64 x.1.1, ptrV x.2.1.1]
end

set_option maxRecDepth 100000 in
set_option maxHeartbeats 4000000 in
theorem back1E_in (F : Fence) (n : Nat) (h64 : F.fn 26) (hro : F.round = none) (hn : 1 ≤ n) (l Bs n₀ cap : Nat) (A : Option Addr) (d : List NE) (hreach : d.length < 4611686018427387904) (J Jx : List (Tr.Ix × NE) → World → Prop)
    (hY : ∀ pre x W, J pre W → pre.length < d.length → YieldAt F (n - 1) Try.prog l (encIE x) W fun e W' =>
      (e = .returned (.bool true) ∧ J (pre ++ [x]) W' ∧ Tr.KB n₀ Bs W W') ∨ (e = .returned (.bool false) ∧ Jx (pre ++ [x]) W'))
    (W : World) (hBs : W.cell? ⟨Bs, 0, none⟩ = some (.slice A d.length cap)) (hA : 0 < d.length → ∃ b off, A = some ⟨b, off, none⟩ ∧ b < n₀ ∧ ∀ i (h : i < d.length), AtE W b (off + i * 3) d[i]) (h0 : J [] W) :
    CallsIn F n Try.prog 26 #[.func (.yield l) #[] #[], .pointer (some ⟨Bs, 0, none⟩)] W fun e W' => (∃ v, e = .returned v) ∧
      ((∃ ys, ys = seqX 0 d ∧ J ys W') ∨ (∃ pre, True ∧ Jx pre W')) := by
  refine callsIn_of_wp Try.func26 rfl h64 ?_ hro
  simp only [Try.ntmps26, List.size_toArray, List.length_cons, List.length_nil, Nat.reduceAdd, Nat.reduceSub, Array.replicate_succ, Array.replicate_zero, List.push_toArray, List.append_toArray, List.nil_append, List.cons_append]
  obtain ⟨len, hlen⟩ : ∃ len, d.length = len := ⟨_, rfl⟩
  rw [hlen] at hBs hreach
  have HL : Aside (d.length = len) := hlen
  have HA : Aside _ := hA
  have HY : Aside _ := hY
  have H0 : Aside (J [] W) := h0
  clear hlen hA hY h0
  gi_wp2
  gi_loopw [3] (fun i wr => ∃ k : Nat, k ≤ len ∧ i = .int .i64 ((k : Int) - 1) ∧ Aside (J (seqX k (d.drop k)) wr) ∧ Aside (Tr.KB n₀ Bs W wr)) (fun i _ => (intOf i + 1).toNat)
  case atStart => exact ⟨len, Nat.le_refl _, by go_num, (show J _ _ by rw [List.drop_eq_nil_of_le (by have := HL.out; omega)]; exact H0.out), Tr.KB.refl _ _ _⟩
  case round =>
    obtain ⟨k, hk, rfl, hJs, hnx⟩ := hrel
    cases k with
    | zero =>
      gi_wp2
      go_end0
      exact ⟨⟨_, rfl⟩, .inl ⟨_, rfl, hJs.out⟩⟩
    | succ k =>
      have ek : ((k + 1 : Nat) : Int) - 1 = (k : Int) := by omega
      rw [ek]
      have hkl : k < d.length := by have := HL.out; omega
      obtain ⟨b, off, rfl, hb, hc⟩ := HA.out (by omega)
      have hx := (hc k hkl).keep (W' := wr) (fun j => hnx.out.1.cell (p := ⟨b, j, none⟩) hb)
      have hBs2 : wr.cell? ⟨Bs, 0, none⟩ = some (.slice (some ⟨b, off, none⟩) len cap) := (Tr.cell_of_blk (p := ⟨Bs, 0, none⟩) hnx.out.2).trans hBs
      obtain ⟨fn, tmps, assign, body, hy, hR⟩ := HY.out _ (Tr.ix k, d[k]) wr hJs.out (by rw [seqX_len, List.length_drop]; have := HL.out; omega)
      rw [encIE, Tr.ix_val (by omega)] at hy
      have HJ : Aside _ := hJs
      rw [seqX_step hkl] at hR
      generalize d[k] = xn at hy hx
      clear hJs hc hkl
      obtain ⟨⟨xq, xi, xa⟩, hxn⟩ := xn
      simp only [AtE] at hx
      simp only [enR] at hy
      generalize strOf xi = X at *
      obtain ⟨a0, a1, a2⟩ := hx
      have k0 : (0 : Int) ≤ (k : Int) := by omega
      have k1 : (k : Int) < (len : Int) := by omega
      have k2 : ((k : Int)).toNat = k := by omega
      gi_wp2
      refine hR.mono ?_
      rintro e W3 (⟨rfl, hJ3, hk3⟩ | ⟨rfl, hJx3⟩)
      · gi_wp2
        go_roundw
        case rel => exact ⟨k, by omega, by simp, hJ3, (show Tr.KB _ _ _ _ from hnx.out.trans hk3)⟩
        case measure => simp [intOf]
      · gi_wp2
        refine bodyPost_ret (results_none rfl _ _ _) rfl ?_
        exact ⟨⟨_, rfl⟩, .inr ⟨_, trivial, hJx3⟩⟩

set_option maxRecDepth 100000 in
set_option maxHeartbeats 1000000 in
theorem backE_in (F : Fence) (n : Nat) (h56 : F.fn 23) (hro : F.round = none) (a : Option Addr) (len cap : Nat) (w : World) :
    CallsIn F n Try.prog 23 #[.slice a len cap] w fun e w' => e = .returned (.func (.func 26) #[] #[.pointer (some ⟨w.heap.size, 0, none⟩)]) ∧ w' = w.alloc (.cells #[.slice a len cap] 22) := by
  refine callsIn_of_wp Try.func23 rfl h56 ?_ hro
  simp only [Try.ntmps23, List.size_toArray, List.length_cons, List.length_nil, Nat.reduceAdd, Nat.reduceSub, Array.replicate_succ, Array.replicate_zero, List.push_toArray, List.append_toArray, List.nil_append, List.cons_append]
  gi_wp2
  go_ret
  exact ⟨rfl, rfl⟩
theorem backE_stops (F : Fence) (n : Nat) (h64 : F.fn 26) (hro : F.round = none) (hn : 1 ≤ n) (Bs n₀ cap : Nat) (A : Option Addr) (d : List NE) (hreach : d.length < 4611686018427387904) (w : World) (hBl : Bs < w.heap.size) (hn₀ : n₀ ≤ w.heap.size)
    (hBs : w.cell? ⟨Bs, 0, none⟩ = some (.slice A d.length cap)) (hA : 0 < d.length → ∃ b off, A = some ⟨b, off, none⟩ ∧ b < n₀ ∧ ∀ i (h : i < d.length), AtE w b (off + i * 3) d[i]) :
    SeqStopsK F n Try.prog 26 #[.pointer (some ⟨Bs, 0, none⟩)] encIE (Tr.KB n₀ Bs) (fun ys => ys = seqX 0 d) (fun _ => True) d.length w := fun l J Jx W hW _ _ hY h0 =>
  back1E_in F n h64 hro hn l Bs n₀ cap A d hreach J Jx hY W ((hW.cell (p := ⟨Bs, 0, none⟩) hBl).trans hBs) (fun h => by
    obtain ⟨b, off, e, hb, hc⟩ := hA h
    exact ⟨b, off, e, hb, fun i hi => (hc i hi).keep fun j => hW.cell (p := ⟨b, j, none⟩) (by show b < _; omega)⟩) h0
set_option maxRecDepth 100000 in
set_option maxHeartbeats 4000000 in
theorem back1Q_in {O : List (Nat × Pa)} (F : Fence) (n : Nat) (h64 : F.fn 31) (hro : F.round = none) (hn : 1 ≤ n) (l Bs n₀ cap : Nat) (A : Option Addr) (d : List (QE O)) (hreach : d.length < 4611686018427387904) (J Jx : List (Tr.Ix × (QE O)) → World → Prop)
    (hY : ∀ pre x W, J pre W → pre.length < d.length → YieldAt F (n - 1) Try.prog l (encIQ x) W fun e W' =>
      (e = .returned (.bool true) ∧ J (pre ++ [x]) W' ∧ Tr.KB n₀ Bs W W') ∨ (e = .returned (.bool false) ∧ Jx (pre ++ [x]) W'))
    (W : World) (hBs : W.cell? ⟨Bs, 0, none⟩ = some (.slice A d.length cap)) (hA : 0 < d.length → ∃ b off, A = some ⟨b, off, none⟩ ∧ b < n₀ ∧ ∀ i (h : i < d.length), AtQ W b (off + i) d[i]) (h0 : J [] W) :
    CallsIn F n Try.prog 31 #[.func (.yield l) #[] #[], .pointer (some ⟨Bs, 0, none⟩)] W fun e W' => (∃ v, e = .returned v) ∧
      ((∃ ys, ys = seqX 0 d ∧ J ys W') ∨ (∃ pre, True ∧ Jx pre W')) := by
  refine callsIn_of_wp Try.func31 rfl h64 ?_ hro
  simp only [Try.ntmps31, List.size_toArray, List.length_cons, List.length_nil, Nat.reduceAdd, Nat.reduceSub, Array.replicate_succ, Array.replicate_zero, List.push_toArray, List.append_toArray, List.nil_append, List.cons_append]
  obtain ⟨len, hlen⟩ : ∃ len, d.length = len := ⟨_, rfl⟩
  rw [hlen] at hBs hreach
  have HL : Aside (d.length = len) := hlen
  have HA : Aside _ := hA
  have HY : Aside _ := hY
  have H0 : Aside (J [] W) := h0
  clear hlen hA hY h0
  gi_wp2
  gi_loopw [3] (fun i wr => ∃ k : Nat, k ≤ len ∧ i = .int .i64 ((k : Int) - 1) ∧ Aside (J (seqX k (d.drop k)) wr) ∧ Aside (Tr.KB n₀ Bs W wr)) (fun i _ => (intOf i + 1).toNat)
  case atStart => exact ⟨len, Nat.le_refl _, by go_num, (show J _ _ by rw [List.drop_eq_nil_of_le (by have := HL.out; omega)]; exact H0.out), Tr.KB.refl _ _ _⟩
  case round =>
    obtain ⟨k, hk, rfl, hJs, hnx⟩ := hrel
    cases k with
    | zero =>
      gi_wp2
      go_end0
      exact ⟨⟨_, rfl⟩, .inl ⟨_, rfl, hJs.out⟩⟩
    | succ k =>
      have ek : ((k + 1 : Nat) : Int) - 1 = (k : Int) := by omega
      rw [ek]
      have hkl : k < d.length := by have := HL.out; omega
      obtain ⟨b, off, rfl, hb, hc⟩ := HA.out (by omega)
      have hx := (hc k hkl).keep (W' := wr) (fun j => hnx.out.1.cell (p := ⟨b, j, none⟩) hb)
      have hBs2 : wr.cell? ⟨Bs, 0, none⟩ = some (.slice (some ⟨b, off, none⟩) len cap) := (Tr.cell_of_blk (p := ⟨Bs, 0, none⟩) hnx.out.2).trans hBs
      obtain ⟨fn, tmps, assign, body, hy, hR⟩ := HY.out _ (Tr.ix k, d[k]) wr hJs.out (by rw [seqX_len, List.length_drop]; have := HL.out; omega)
      rw [encIQ, Tr.ix_val (by omega)] at hy
      have HJ : Aside _ := hJs
      rw [seqX_step hkl] at hR
      generalize d[k] = xn at hy hx
      clear hJs hc hkl
      obtain ⟨⟨xb, xp⟩, hxn⟩ := xn
      simp only [AtQ, ptrV] at hx
      simp only [ptrV] at hy
      have k0 : (0 : Int) ≤ (k : Int) := by omega
      have k1 : (k : Int) < (len : Int) := by omega
      have k2 : ((k : Int)).toNat = k := by omega
      gi_wp2
      refine hR.mono ?_
      rintro e W3 (⟨rfl, hJ3, hk3⟩ | ⟨rfl, hJx3⟩)
      · gi_wp2
        go_roundw
        case rel => exact ⟨k, by omega, by simp, hJ3, (show Tr.KB _ _ _ _ from hnx.out.trans hk3)⟩
        case measure => simp [intOf]
      · gi_wp2
        refine bodyPost_ret (results_none rfl _ _ _) rfl ?_
        exact ⟨⟨_, rfl⟩, .inr ⟨_, trivial, hJx3⟩⟩

set_option maxRecDepth 100000 in
set_option maxHeartbeats 1000000 in
theorem backQ_in (F : Fence) (n : Nat) (h56 : F.fn 27) (hro : F.round = none) (a : Option Addr) (len cap : Nat) (w : World) :
    CallsIn F n Try.prog 27 #[.slice a len cap] w fun e w' => e = .returned (.func (.func 31) #[] #[.pointer (some ⟨w.heap.size, 0, none⟩)]) ∧ w' = w.alloc (.cells #[.slice a len cap] 48) := by
  refine callsIn_of_wp Try.func27 rfl h56 ?_ hro
  simp only [Try.ntmps27, List.size_toArray, List.length_cons, List.length_nil, Nat.reduceAdd, Nat.reduceSub, Array.replicate_succ, Array.replicate_zero, List.push_toArray, List.append_toArray, List.nil_append, List.cons_append]
  gi_wp2
  go_ret
  exact ⟨rfl, rfl⟩
theorem backQ_stops {O : List (Nat × Pa)} (F : Fence) (n : Nat) (h64 : F.fn 31) (hro : F.round = none) (hn : 1 ≤ n) (Bs n₀ cap : Nat) (A : Option Addr) (d : List (QE O)) (hreach : d.length < 4611686018427387904) (w : World) (hBl : Bs < w.heap.size) (hn₀ : n₀ ≤ w.heap.size)
    (hBs : w.cell? ⟨Bs, 0, none⟩ = some (.slice A d.length cap)) (hA : 0 < d.length → ∃ b off, A = some ⟨b, off, none⟩ ∧ b < n₀ ∧ ∀ i (h : i < d.length), AtQ w b (off + i) d[i]) :
    SeqStopsK F n Try.prog 31 #[.pointer (some ⟨Bs, 0, none⟩)] encIQ (Tr.KB n₀ Bs) (fun ys => ys = seqX 0 d) (fun _ => True) d.length w := fun l J Jx W hW _ _ hY h0 =>
  back1Q_in F n h64 hro hn l Bs n₀ cap A d hreach J Jx hY W ((hW.cell (p := ⟨Bs, 0, none⟩) hBl).trans hBs) (fun h => by
    obtain ⟨b, off, e, hb, hc⟩ := hA h
    exact ⟨b, off, e, hb, fun i hi => (hc i hi).keep fun j => hW.cell (p := ⟨b, j, none⟩) (by show b < _; omega)⟩) h0
end Go.Proofs.Ytfdibmcjjclgkaa.Tl
