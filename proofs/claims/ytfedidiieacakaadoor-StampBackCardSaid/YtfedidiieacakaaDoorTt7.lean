/- Merged: StJ0 StJ. -/
import Derived.Test.YtfedidiieacakaaDoorTt6
import Derived.Test.YtfedidiieacakaaDoorTt2
import Derived.Lib.LazyBuf
import Derived.Lib.SlBytesConst
namespace Go.Proofs.YtfedidiieacakaaDoor.St
open Go.RowKit
open Go.Proofs.YtfedidiieacakaaDoor.Utf
open Go.Proofs.YtfedidiieacakaaDoor.Nu

theorem put_nat (a : Nat) : putL (a : Int) = digN a := by unfold putL; rw [if_neg (by omega), Int.natAbs_natCast]
theorem dg_0 {n : Nat} (h : n = 0) : dg n = 48 := by subst h; rfl
theorem put_2 {a : Nat} (h : a ≤ 99) : (putL (a : Int) = [dg a] ∧ dg (a / 10) = 48) ∨ putL (a : Int) = [dg (a / 10), dg a] := by
  rw [put_nat]
  by_cases h1 : a < 10
  · exact .inl ⟨digN_one h1, dg_0 (by omega)⟩
  · right
    rw [digN_step h1 (by omega), digN_one (by omega)]
    rfl
theorem put_4 {a : Nat} (h : a ≤ 9999) : (putL (a : Int) = [dg a] ∧ dg (a / 10) = 48 ∧ dg (a / 100) = 48 ∧ dg (a / 1000) = 48) ∨ (putL (a : Int) = [dg (a / 10), dg a] ∧ dg (a / 100) = 48 ∧ dg (a / 1000) = 48) ∨
    (putL (a : Int) = [dg (a / 100), dg (a / 10), dg a] ∧ dg (a / 1000) = 48) ∨ putL (a : Int) = [dg (a / 1000), dg (a / 100), dg (a / 10), dg a] := by
  rw [put_nat]
  by_cases h1 : a < 10
  · exact .inl ⟨digN_one h1, dg_0 (by omega), dg_0 (by omega), dg_0 (by omega)⟩
  right
  have e2 : a / 10 / 10 = a / 100 := by omega
  have e3 : a / 100 / 10 = a / 1000 := by omega
  by_cases h2 : a < 100
  · left
    rw [digN_step h1 (by omega), digN_one (by omega)]
    exact ⟨rfl, dg_0 (by omega), dg_0 (by omega)⟩
  right
  by_cases h3 : a < 1000
  · left
    rw [digN_step h1 (by omega), digN_step (m := a / 10) (by omega) (by omega), e2, digN_one (by omega)]
    exact ⟨rfl, dg_0 (by omega)⟩
  · right
    rw [digN_step h1 (by omega), digN_step (m := a / 10) (by omega) (by omega), e2, digN_step (m := a / 100) (by omega) (by omega), e3, digN_one (by omega)]
    rfl

def bufL (y m d h i s : Nat) (k : Nat) : List UInt8 :=
  [if 0 < k then dg (y / 1000) else 48, if 0 < k then dg (y / 100) else 48, if 0 < k then dg (y / 10) else 48, if 0 < k then dg y else 48, 45, if 1 < k then dg (m / 10) else 48, if 1 < k then dg m else 48, 45, if 2 < k then dg (d / 10) else 48, if 2 < k then dg d else 48, 84, if 3 < k then dg (h / 10) else 48, if 3 < k then dg h else 48, 58, if 4 < k then dg (i / 10) else 48, if 4 < k then dg i else 48, 58, if 5 < k then dg (s / 10) else 48, if 5 < k then dg s else 48, 90]
theorem bufL_6 (y m d h i s : Nat) : bufL y m d h i s 6 = txt19 y m d h i s ++ [90] := rfl
def bufC (y m d h i s : Nat) (k : Nat) : Array Value := (Lib.byteCells (bufL y m d h i s k)).toArray
theorem bufC_size (y m d h i s : Nat) (k : Nat) : (bufC y m d h i s k).size = 20 := rfl
theorem stSet' (w : World) (b i : Nat) (cs : Array Value) (t : TypeId) (fr : Nat × Nat) (v : Value) (h : w.heap[b]? = some (.cells cs t fr)) : (w.setCell ⟨b, i, none⟩ v).heap[b]? = some (.cells (cs.setIfInBounds i v) t fr) := by
  obtain ⟨hlt, hk⟩ := Array.getElem?_eq_some_iff.1 h
  show (w.heap.modify b _)[b]? = _
  rw [Array.getElem?_eq_getElem (by rw [Array.size_modify]; exact hlt), Array.getElem_modify_self, hk]
  rfl
theorem setCells_other {b b' : Nat} (hne : b' ≠ b) : ∀ (vs : List Value) (o : Nat) (w : World), (w.setCells b o vs).heap[b']? = w.heap[b']?
  | [], _, _ => rfl
  | v :: r, o, w => (setCells_other hne r (o + 1) (w.setCell ⟨b, o, none⟩ v)).trans (Below.heap_setCell w ⟨b, o, none⟩ v b' hne)
theorem below_cells {B b : Nat} {a : World} (hb : B ≤ b) : ∀ (vs : List Value) (o : Nat) (w : World), Below B a w → Below B a (w.setCells b o vs)
  | [], _, _, h => h
  | v :: r, o, _, h => below_cells hb r (o + 1) _ (h.setCell (p := ⟨b, o, none⟩) hb v)
def bvs (l : List UInt8) : List Value := l.map fun x => Value.int .u8 (x.toNat : Int)
def laidP (y m d h i s : Nat) (k o : Nat) (l : List UInt8) : Prop :=
  ∀ (w : World) (b : Nat) (t : TypeId) (fr : Nat × Nat), w.heap[b]? = some (.cells (bufC y m d h i s k) t fr) → (w.setCells b o (bvs l)).heap[b]? = some (.cells (bufC y m d h i s (k + 1)) t fr)
theorem laid_0_1 (y m d h i s : Nat) (h10 : dg (y / 10) = 48) (h100 : dg (y / 100) = 48) (h1000 : dg (y / 1000) = 48) : laidP y m d h i s 0 3 [dg y] := by
  intro _ b t fr hr
  have e : bufC y m d h i s 1 = (bufC y m d h i s 0).setIfInBounds 3 (.int .u8 ((dg y).toNat : Int)) := by
    unfold bufC bufL
    rw [h10, h100, h1000]
    rfl
  rw [e]
  exact stSet' _ b 3 _ _ _ _ (hr)
theorem laid_0_2 (y m d h i s : Nat) (h100 : dg (y / 100) = 48) (h1000 : dg (y / 1000) = 48) : laidP y m d h i s 0 2 [dg (y / 10), dg y] := by
  intro _ b t fr hr
  have e : bufC y m d h i s 1 = ((bufC y m d h i s 0).setIfInBounds 2 (.int .u8 ((dg (y / 10)).toNat : Int))).setIfInBounds 3 (.int .u8 ((dg y).toNat : Int)) := by
    unfold bufC bufL
    rw [h100, h1000]
    rfl
  rw [e]
  exact stSet' _ b 3 _ _ _ _ (stSet' _ b 2 _ _ _ _ (hr))
theorem laid_0_3 (y m d h i s : Nat) (h1000 : dg (y / 1000) = 48) : laidP y m d h i s 0 1 [dg (y / 100), dg (y / 10), dg y] := by
  intro _ b t fr hr
  have e : bufC y m d h i s 1 = (((bufC y m d h i s 0).setIfInBounds 1 (.int .u8 ((dg (y / 100)).toNat : Int))).setIfInBounds 2 (.int .u8 ((dg (y / 10)).toNat : Int))).setIfInBounds 3 (.int .u8 ((dg y).toNat : Int)) := by
    unfold bufC bufL
    rw [h1000]
    rfl
  rw [e]
  exact stSet' _ b 3 _ _ _ _ (stSet' _ b 2 _ _ _ _ (stSet' _ b 1 _ _ _ _ (hr)))
theorem laid_0_4 (y m d h i s : Nat)  : laidP y m d h i s 0 0 [dg (y / 1000), dg (y / 100), dg (y / 10), dg y] := by
  intro _ b t fr hr
  have e : bufC y m d h i s 1 = ((((bufC y m d h i s 0).setIfInBounds 0 (.int .u8 ((dg (y / 1000)).toNat : Int))).setIfInBounds 1 (.int .u8 ((dg (y / 100)).toNat : Int))).setIfInBounds 2 (.int .u8 ((dg (y / 10)).toNat : Int))).setIfInBounds 3 (.int .u8 ((dg y).toNat : Int)) := by
    unfold bufC bufL
    rfl
  rw [e]
  exact stSet' _ b 3 _ _ _ _ (stSet' _ b 2 _ _ _ _ (stSet' _ b 1 _ _ _ _ (stSet' _ b 0 _ _ _ _ (hr))))
theorem laid_1_1 (y m d h i s : Nat) (h10 : dg (m / 10) = 48) : laidP y m d h i s 1 6 [dg m] := by
  intro _ b t fr hr
  have e : bufC y m d h i s 2 = (bufC y m d h i s 1).setIfInBounds 6 (.int .u8 ((dg m).toNat : Int)) := by
    unfold bufC bufL
    rw [h10]
    rfl
  rw [e]
  exact stSet' _ b 6 _ _ _ _ (hr)
theorem laid_1_2 (y m d h i s : Nat)  : laidP y m d h i s 1 5 [dg (m / 10), dg m] := by
  intro _ b t fr hr
  have e : bufC y m d h i s 2 = ((bufC y m d h i s 1).setIfInBounds 5 (.int .u8 ((dg (m / 10)).toNat : Int))).setIfInBounds 6 (.int .u8 ((dg m).toNat : Int)) := by
    unfold bufC bufL
    rfl
  rw [e]
  exact stSet' _ b 6 _ _ _ _ (stSet' _ b 5 _ _ _ _ (hr))
theorem laid_2_1 (y m d h i s : Nat) (h10 : dg (d / 10) = 48) : laidP y m d h i s 2 9 [dg d] := by
  intro _ b t fr hr
  have e : bufC y m d h i s 3 = (bufC y m d h i s 2).setIfInBounds 9 (.int .u8 ((dg d).toNat : Int)) := by
    unfold bufC bufL
    rw [h10]
    rfl
  rw [e]
  exact stSet' _ b 9 _ _ _ _ (hr)
theorem laid_2_2 (y m d h i s : Nat)  : laidP y m d h i s 2 8 [dg (d / 10), dg d] := by
  intro _ b t fr hr
  have e : bufC y m d h i s 3 = ((bufC y m d h i s 2).setIfInBounds 8 (.int .u8 ((dg (d / 10)).toNat : Int))).setIfInBounds 9 (.int .u8 ((dg d).toNat : Int)) := by
    unfold bufC bufL
    rfl
  rw [e]
  exact stSet' _ b 9 _ _ _ _ (stSet' _ b 8 _ _ _ _ (hr))
theorem laid_3_1 (y m d h i s : Nat) (h10 : dg (h / 10) = 48) : laidP y m d h i s 3 12 [dg h] := by
  intro _ b t fr hr
  have e : bufC y m d h i s 4 = (bufC y m d h i s 3).setIfInBounds 12 (.int .u8 ((dg h).toNat : Int)) := by
    unfold bufC bufL
    rw [h10]
    rfl
  rw [e]
  exact stSet' _ b 12 _ _ _ _ (hr)
theorem laid_3_2 (y m d h i s : Nat)  : laidP y m d h i s 3 11 [dg (h / 10), dg h] := by
  intro _ b t fr hr
  have e : bufC y m d h i s 4 = ((bufC y m d h i s 3).setIfInBounds 11 (.int .u8 ((dg (h / 10)).toNat : Int))).setIfInBounds 12 (.int .u8 ((dg h).toNat : Int)) := by
    unfold bufC bufL
    rfl
  rw [e]
  exact stSet' _ b 12 _ _ _ _ (stSet' _ b 11 _ _ _ _ (hr))
theorem laid_4_1 (y m d h i s : Nat) (h10 : dg (i / 10) = 48) : laidP y m d h i s 4 15 [dg i] := by
  intro _ b t fr hr
  have e : bufC y m d h i s 5 = (bufC y m d h i s 4).setIfInBounds 15 (.int .u8 ((dg i).toNat : Int)) := by
    unfold bufC bufL
    rw [h10]
    rfl
  rw [e]
  exact stSet' _ b 15 _ _ _ _ (hr)
theorem laid_4_2 (y m d h i s : Nat)  : laidP y m d h i s 4 14 [dg (i / 10), dg i] := by
  intro _ b t fr hr
  have e : bufC y m d h i s 5 = ((bufC y m d h i s 4).setIfInBounds 14 (.int .u8 ((dg (i / 10)).toNat : Int))).setIfInBounds 15 (.int .u8 ((dg i).toNat : Int)) := by
    unfold bufC bufL
    rfl
  rw [e]
  exact stSet' _ b 15 _ _ _ _ (stSet' _ b 14 _ _ _ _ (hr))
theorem laid_5_1 (y m d h i s : Nat) (h10 : dg (s / 10) = 48) : laidP y m d h i s 5 18 [dg s] := by
  intro _ b t fr hr
  have e : bufC y m d h i s 6 = (bufC y m d h i s 5).setIfInBounds 18 (.int .u8 ((dg s).toNat : Int)) := by
    unfold bufC bufL
    rw [h10]
    rfl
  rw [e]
  exact stSet' _ b 18 _ _ _ _ (hr)
theorem laid_5_2 (y m d h i s : Nat)  : laidP y m d h i s 5 17 [dg (s / 10), dg s] := by
  intro _ b t fr hr
  have e : bufC y m d h i s 6 = ((bufC y m d h i s 5).setIfInBounds 17 (.int .u8 ((dg (s / 10)).toNat : Int))).setIfInBounds 18 (.int .u8 ((dg s).toNat : Int)) := by
    unfold bufC bufL
    rfl
  rw [e]
  exact stSet' _ b 18 _ _ _ _ (stSet' _ b 17 _ _ _ _ (hr))
end Go.Proofs.YtfedidiieacakaaDoor.St
namespace Go.Proofs.YtfedidiieacakaaDoor.St
open Go.RowKit
open Go.Proofs.YtfedidiieacakaaDoor.Utf
open Go.Proofs.YtfedidiieacakaaDoor.Nu

def GivesM (n : Int) (w : World) (e : Ending) (w' : World) : Prop := ∃ l, MkOf n l ∧ e = .returned (.string (strOf l)) ∧ Below w.heap.size w w'
theorem conv_buf {w : World} {b : Nat} {l : List UInt8} {t : TypeId} {fr : Nat × Nat} (h : w.heap[b]? = some (.cells (Lib.byteCells l).toArray t fr)) (n : Nat) (hn : n = l.length) :
    (convert 34 9 (.slice (some ⟨b, 0, none⟩) n n)).run Tryd.prog w = .ok (.string (strOf l)) w := by
  subst hn
  have hr : Rd w (b + 1) (.slice (some ⟨b, 0, none⟩) l.length l.length) (Lib.byteCells l) := ⟨some ⟨b, 0, none⟩, l.length, by rw [Lib.byteCells_length], fun _ => ⟨_, rfl, by show b < b + 1; omega, fun j u hu => by
    have hp : (⟨b, 0, none⟩ : Addr).add j = ⟨b, j, none⟩ := by unfold Addr.add; split <;> simp_all
    rw [hp, cell_of_row _ _ j _ _ _ h]
    simpa using hu⟩⟩
  exact hr.conv (P := Tryd.prog) Tryd.underlying34 Tryd.underlying5 Tryd.underlying9
theorem unfrozen_mark {w : World} {b : Nat} {cs : Array Value} {t : TypeId} (h : w.heap[b]? = some (.cells cs t (20, 21))) (j : Nat) (hj : j < 20) : w.frozen? ⟨b, j, none⟩ = false := by
  unfold World.frozen?
  rw [h]
  show (decide (20 ≤ j) && decide (j < 21)) = false
  rw [decide_eq_false (by omega), Bool.false_and]
theorem infoB : ∀ w, (Go.sizeOf 5).run Tryd.prog w = .ok 1 w := fun w => by simp [go_sem]

set_option maxRecDepth 100000 in
set_option maxHeartbeats 4000000 in
theorem stMake_any (n : Int) (w : World) (T : Tab w) (hn0 : -9223372036854775808 ≤ n) (hn1 : n ≤ 9223372036854775807) : Calls Tryd.prog 15 #[.int .i64 n] w (GivesM n w) := by
  by_cases c1 : n < -62167219200
  case pos =>
    have t1 : decide (n < -62167219200) = true := decide_eq_true c1
    have HM := Lib.hid (show MkOf n [] from .inr ⟨.inl c1, rfl⟩)
    clear c1
    go_enter Tryd.func15, Tryd.ntmps15
    go_wp2_with fail
    go_ret
    exact ⟨_, HM.out, rfl, Below.refl _ _⟩
  have t1 : decide (n < -62167219200) = false := decide_eq_false c1
  by_cases c2 : 253402300800 ≤ n
  case pos =>
    have t2 : decide (253402300800 ≤ n) = true := decide_eq_true c2
    have HM := Lib.hid (show MkOf n [] from .inr ⟨.inr (by omega), rfl⟩)
    clear c1 c2
    go_enter Tryd.func15, Tryd.ntmps15
    go_wp2_with fail
    go_ret
    exact ⟨_, HM.out, rfl, Below.refl _ _⟩
  have t2 : decide (253402300800 ≤ n) = false := decide_eq_false c2
  have HMK := Lib.hid (show ∀ y m d, isDay y m d → day0 y m d = (n + 62167219200) / 86400 → MkOf n (txt y m d ((n + 62167219200) % 86400) ++ [90]) from fun y m d h1 h2 => .inl ⟨by omega, by omega, y, m, d, h1, h2, rfl⟩)
  have b0 : 0 ≤ n + 62167219200 ∧ n + 62167219200 < 315569520000 := by omega
  obtain ⟨N, hN⟩ : ∃ N, n + 62167219200 = N := ⟨_, rfl⟩
  rw [hN] at HMK b0
  have e1 := tdiv_pos b0.1 86400
  have e2 := tmod_pos b0.1 86400
  have CD := Lib.hid (dayOf_any (N / 86400) w T (by omega) (by omega))
  have bR : 0 ≤ N % 86400 ∧ N % 86400 < 86400 := by omega
  have bD : 0 ≤ N / 86400 ∧ N / 86400 < 3652425 := by omega
  obtain ⟨D, hD⟩ : ∃ D, N / 86400 = D := ⟨_, rfl⟩
  obtain ⟨R, hR⟩ : ∃ R, N % 86400 = R := ⟨_, rfl⟩
  rw [hD] at HMK CD bD e1
  rw [hR] at HMK bR e2
  have e3 := tdiv_pos bR.1 3600
  have e4 := tdiv_pos bR.1 60
  have e5 := tmod_pos (y := R / 60) (by omega) 60
  have e6 := tmod_pos bR.1 60
  obtain ⟨h, hh⟩ : ∃ h : Nat, R / 3600 = h := ⟨(R / 3600).toNat, by omega⟩
  obtain ⟨i, hi⟩ : ∃ i : Nat, R / 60 % 60 = i := ⟨(R / 60 % 60).toNat, by omega⟩
  obtain ⟨s, hs⟩ : ∃ s : Nat, R % 60 = s := ⟨(R % 60).toNat, by omega⟩
  have bh : h ≤ 23 := by omega
  have bi : i ≤ 59 := by omega
  have bs : s ≤ 59 := by omega
  have HTX := Lib.hid (show ∀ y m d : Nat, txt y m d R = txt19 y m d h i s from fun y m d => by unfold txt; rw [hh, hi, hs]; rfl)
  rw [hh] at e3
  rw [hi] at e5
  rw [hs] at e6
  clear hh hi hs hD hR c1 c2
  go_enter Tryd.func15, Tryd.ntmps15
  go_wp2_with fail
  refine CD.out.mono ?_
  rintro e w1 ⟨⟨y, m, d, rfl, hday, hd0⟩, rfl⟩
  have HM := Lib.hid (HMK.out y m d hday hd0)
  obtain ⟨d1, d2, d3, d4, d5, d6⟩ := hday
  have dm := (mlen_bd y m).2
  obtain ⟨y, rfl⟩ : ∃ y' : Nat, y = y' := ⟨y.toNat, by omega⟩
  obtain ⟨m, rfl⟩ : ∃ m' : Nat, m = m' := ⟨m.toNat, by omega⟩
  obtain ⟨d, rfl⟩ : ∃ d' : Nat, d = d' := ⟨d.toNat, by omega⟩
  have by_ : y ≤ 9999 := by omega
  have bm : m ≤ 12 := by omega
  have bd : d ≤ 31 := by omega
  rw [HTX.out] at HM
  clear d1 d2 d3 d4 d5 d6 dm hd0
  obtain ⟨W1, hW1⟩ : ∃ W1, W1 = w.alloc (.cells #[.int .i64 (y : Int), .int .i64 (m : Int), .int .i64 (d : Int), .int .i64 (h : Int), .int .i64 (i : Int), .int .i64 (s : Int)] 36) := ⟨_, rfl⟩
  have hs1 : W1.heap.size = w.heap.size + 1 := by rw [hW1]; simp
  have hcv := conv_lit W1 (formL ++ [90]) 20
  have hrow1 : W1.heap[w.heap.size]? = some (.cells #[.int .i64 (y : Int), .int .i64 (m : Int), .int .i64 (d : Int), .int .i64 (h : Int), .int .i64 (i : Int), .int .i64 (s : Int)] 36 (0, 0)) := by rw [hW1]; exact heap_alloc_new _ _
  obtain ⟨W2, hW2⟩ : ∃ W2, W2 = litW W1 (formL ++ [90]) := ⟨_, rfl⟩
  have hb1 : Below w.heap.size w W1 := by rw [hW1]; exact (Below.refl _ _).alloc (Nat.le_refl _) _
  have hb12 : Below W1.heap.size W1 W2 := by rw [hW2]; exact litW_below _ _
  have hbuf : W2.heap[W1.heap.size]? = some (.cells (bufC y m d h i s 0) 5 (20, 21)) := by rw [hW2]; exact heap_alloc_new _ _
  rw [hs1] at hbuf
  have HB02 := Lib.hid (hb1.trans (hb12.mono hb1.size))
  have HR2 := Lib.hid (show W2.heap[w.heap.size]? = _ from (hb12.block _ (by omega)).trans hrow1)
  have HBUF := Lib.hid hbuf
  have HT2 := Lib.hid (T.below HB02.out)
  rw [← hW2, hs1, hW1] at hcv
  replace hcv : (convert 34 34 (.slice (some ⟨w.heap.size + 1, 0, none⟩) 20 20)).run Tryd.prog ((w.alloc (.cells #[.int .i64 (y : Int), .int .i64 (m : Int), .int .i64 (d : Int), .int .i64 (h : Int), .int .i64 (i : Int), .int .i64 (s : Int)] 36)).alloc (.cells #[.int .u8 48, .int .u8 48, .int .u8 48, .int .u8 48, .int .u8 45, .int .u8 48, .int .u8 48, .int .u8 45, .int .u8 48, .int .u8 48, .int .u8 84, .int .u8 48, .int .u8 48, .int .u8 58, .int .u8 48, .int .u8 48, .int .u8 58, .int .u8 48, .int .u8 48, .int .u8 90] 5)) = .ok (.slice (some ⟨w.heap.size + 1, 0, none⟩) 20 20) W2 := hcv
  clear hW1 hW2 hs1 hrow1 hb1 hb12 hbuf
  have q0 : W2.cell? ⟨0, 0, none⟩ = some (.int .i64 0) := (HT2.out).2 0 (by omega)
  have q1 : W2.cell? ⟨0, 1, none⟩ = some (.int .i64 4) := (HT2.out).2 1 (by omega)
  have q2 : W2.cell? ⟨0, 2, none⟩ = some (.int .i64 5) := (HT2.out).2 2 (by omega)
  have q3 : W2.cell? ⟨0, 3, none⟩ = some (.int .i64 7) := (HT2.out).2 3 (by omega)
  have q4 : W2.cell? ⟨0, 4, none⟩ = some (.int .i64 8) := (HT2.out).2 4 (by omega)
  have q5 : W2.cell? ⟨0, 5, none⟩ = some (.int .i64 10) := (HT2.out).2 5 (by omega)
  have q6 : W2.cell? ⟨0, 6, none⟩ = some (.int .i64 11) := (HT2.out).2 6 (by omega)
  have q7 : W2.cell? ⟨0, 7, none⟩ = some (.int .i64 13) := (HT2.out).2 7 (by omega)
  have q8 : W2.cell? ⟨0, 8, none⟩ = some (.int .i64 14) := (HT2.out).2 8 (by omega)
  have q9 : W2.cell? ⟨0, 9, none⟩ = some (.int .i64 16) := (HT2.out).2 9 (by omega)
  have q10 : W2.cell? ⟨0, 10, none⟩ = some (.int .i64 17) := (HT2.out).2 10 (by omega)
  have q11 : W2.cell? ⟨0, 11, none⟩ = some (.int .i64 19) := (HT2.out).2 11 (by omega)
  go_wp2_with fail
  go_loopw [42] (fun j wr => ∃ k : Nat, j = .int .i64 k ∧ k ≤ 6 ∧ Aside (wr.heap[w.heap.size + 1]? = some (.cells (bufC y m d h i s k) 5 (20, 21))) ∧ Aside (wr.heap[w.heap.size]? = some (.cells #[.int .i64 (y : Int), .int .i64 (m : Int), .int .i64 (d : Int), .int .i64 (h : Int), .int .i64 (i : Int), .int .i64 (s : Int)] 36 (0, 0))) ∧ Aside (Below w.heap.size w wr)) (fun j _ => 6 - (intOf j).toNat)
  case atStart => exact ⟨0, rfl, by omega, HBUF.out, HR2.out, HB02.out⟩
  case round =>
    obtain ⟨k, rfl, hk, hbuf, hrow, hbel⟩ := hrel
    have HBF := Lib.hid hbuf.out
    have HRW := Lib.hid hrow.out
    have HBL := Lib.hid hbel.out
    have HLT := Lib.hid (blk_lt HBF.out)
    clear hbuf hrow hbel q0 q1 q2 q3 q4 q5 q6 q7 q8 q9 q10 q11 hcv
    by_cases hlt : k < 6
    · have tk : decide ((k : Int) < 6) = true := decide_eq_true (by omega)
      have key : k = 0 ∨ k = 1 ∨ k = 2 ∨ k = 3 ∨ k = 4 ∨ k = 5 := by omega
      clear hlt hk
      rcases key with rfl | rfl | rfl | rfl | rfl | rfl
      · have hc : (wr.alloc (.cells #[.int .i64 0, .int .i64 4] 38)).cell? ⟨w.heap.size, 0, none⟩ = some (.int .i64 (y : Int)) :=
          (cell_of_row _ _ 0 _ _ _ ((Below.heap_alloc wr _ w.heap.size (by have := HLT.out; omega)).trans HRW.out)).trans rfl
        obtain ⟨W4, hW4⟩ : ∃ W4, W4 = wr.alloc (.cells #[.int .i64 0, .int .i64 4] 38) := ⟨_, rfl⟩
        have HB4 := Lib.hid (show Below wr.heap.size wr W4 by rw [hW4]; exact (Below.refl _ _).alloc (Nat.le_refl _) _)
        have HX4 := Lib.hid (show W4.heap[wr.heap.size]? = some (.cells #[.int .i64 0, .int .i64 4] 38 (0, 0)) by rw [hW4]; exact heap_alloc_new _ _)
        have HW4 := Lib.hid hW4
        clear hW4
        rw [show ((0 : Nat) : Int) = 0 from rfl]
        have ix : ∀ wx, (Instr.index 39 (.agg #[.int .i64 0, .int .i64 4, .int .i64 5, .int .i64 7, .int .i64 8, .int .i64 10, .int .i64 11, .int .i64 13, .int .i64 14, .int .i64 16, .int .i64 17, .int .i64 19]) (.int .i64 0)).run Tryd.prog wx = .ok (.agg #[.int .i64 0, .int .i64 4]) wx := fun wx => by kernel_rfl
        have PUT := Lib.hid (fun wx => Nu.Put_any (y : Int) wx (by omega) (by omega))
        obtain ⟨X, hX⟩ : ∃ X, strOf (putL (y : Int)) = X := ⟨_, rfl⟩
        have hXl : X.data.toList = putL (y : Int) := by rw [← hX]; rfl
        rw [hX] at PUT
        have HXL := Lib.hid hXl
        clear hX hXl
        go_wp2_with fail
        refine (PUT.out _).mono ?_
        rintro e w5 ⟨rfl, hb5⟩
        rw [← HW4.out] at hb5
        have HB5 := Lib.hid (HB4.out.trans (hb5.mono HB4.out.size))
        have HX5 := Lib.hid (blk_below HX4.out hb5 (blk_lt HX4.out))
        have HF5 := Lib.hid (blk_below HBF.out HB5.out HLT.out)
        have HR5 := Lib.hid (blk_below HRW.out HB5.out (by have := HLT.out; omega))
        have cb : w5.cell? ⟨wr.heap.size, 1, none⟩ = some (.int .i64 4) := cell_of_row _ _ 1 _ _ _ HX5.out
        clear hb5
        rcases put_4 by_ with ⟨hp, p10, p100, p1000⟩ | ⟨hp, p100, p1000⟩ | ⟨hp, p1000⟩ | hp
        · have HP := Lib.hid (show laidP y m d h i s 0 3 [dg y] from laid_0_1 y m d h i s p10 p100 p1000)
          have hsz : X.size = 1 := by rw [← len_data, HXL.out, hp]; rfl
          have hszi : (X.size : Int) = 1 := by omega
          have hdat : X.data.toList = [dg y] := by rw [HXL.out, hp]
          obtain ⟨W6, hW6⟩ : ∃ W6, W6 = w5.setCells (w.heap.size + 1) 3 (bvs X.data.toList) := ⟨_, rfl⟩
          have HF6 := Lib.hid (show W6.heap[w.heap.size + 1]? = some (.cells (bufC y m d h i s 1) 5 (20, 21)) by rw [hW6, hdat]; exact HP.out w5 _ _ _ HF5.out)
          have HR6 := Lib.hid ((show W6.heap[w.heap.size]? = w5.heap[w.heap.size]? by rw [hW6, setCells_other (by omega)]).trans HR5.out)
          have HB6 := Lib.hid (show Below w.heap.size w W6 by rw [hW6]; exact below_cells (by omega) _ _ _ (HBL.out.trans (HB5.out.mono HBL.out.size)))
          have hcp : (Builtin.copy_ #[34, 9] 3 #[.slice (some ⟨w.heap.size + 1, 3, none⟩) 1 17, .string X]).run Tryd.prog w5 = .ok (.int .i64 1) W6 := by
            have := run_copy_string (P := Tryd.prog) w5 34 9 3 5 (w.heap.size + 1) 3 1 17 X Tryd.underlying34 infoB (by omega)
              (fun j hj => by rw [cell_of_row _ _ _ _ _ _ HF5.out, Array.getElem?_eq_getElem (by rw [bufC_size]; omega)]; rfl) (fun j hj => unfrozen_mark HF5.out _ (by omega))
            rw [hsz] at this
            rw [hW6]
            exact this
          have HSZ := Lib.hid hsz
          clear hp p10 p100 p1000 hsz hdat hW6
          go_wp2_with fail
          go_roundw
          case rel => exact ⟨1, by go_num, by omega, HF6.out, HR6.out, HB6.out⟩
          case measure => simp [intOf]
        · have HP := Lib.hid (show laidP y m d h i s 0 2 [dg (y / 10), dg y] from laid_0_2 y m d h i s p100 p1000)
          have hsz : X.size = 2 := by rw [← len_data, HXL.out, hp]; rfl
          have hszi : (X.size : Int) = 2 := by omega
          have hdat : X.data.toList = [dg (y / 10), dg y] := by rw [HXL.out, hp]
          obtain ⟨W6, hW6⟩ : ∃ W6, W6 = w5.setCells (w.heap.size + 1) 2 (bvs X.data.toList) := ⟨_, rfl⟩
          have HF6 := Lib.hid (show W6.heap[w.heap.size + 1]? = some (.cells (bufC y m d h i s 1) 5 (20, 21)) by rw [hW6, hdat]; exact HP.out w5 _ _ _ HF5.out)
          have HR6 := Lib.hid ((show W6.heap[w.heap.size]? = w5.heap[w.heap.size]? by rw [hW6, setCells_other (by omega)]).trans HR5.out)
          have HB6 := Lib.hid (show Below w.heap.size w W6 by rw [hW6]; exact below_cells (by omega) _ _ _ (HBL.out.trans (HB5.out.mono HBL.out.size)))
          have hcp : (Builtin.copy_ #[34, 9] 3 #[.slice (some ⟨w.heap.size + 1, 2, none⟩) 2 18, .string X]).run Tryd.prog w5 = .ok (.int .i64 2) W6 := by
            have := run_copy_string (P := Tryd.prog) w5 34 9 3 5 (w.heap.size + 1) 2 2 18 X Tryd.underlying34 infoB (by omega)
              (fun j hj => by rw [cell_of_row _ _ _ _ _ _ HF5.out, Array.getElem?_eq_getElem (by rw [bufC_size]; omega)]; rfl) (fun j hj => unfrozen_mark HF5.out _ (by omega))
            rw [hsz] at this
            rw [hW6]
            exact this
          have HSZ := Lib.hid hsz
          clear hp p100 p1000 hsz hdat hW6
          go_wp2_with fail
          go_roundw
          case rel => exact ⟨1, by go_num, by omega, HF6.out, HR6.out, HB6.out⟩
          case measure => simp [intOf]
        · have HP := Lib.hid (show laidP y m d h i s 0 1 [dg (y / 100), dg (y / 10), dg y] from laid_0_3 y m d h i s p1000)
          have hsz : X.size = 3 := by rw [← len_data, HXL.out, hp]; rfl
          have hszi : (X.size : Int) = 3 := by omega
          have hdat : X.data.toList = [dg (y / 100), dg (y / 10), dg y] := by rw [HXL.out, hp]
          obtain ⟨W6, hW6⟩ : ∃ W6, W6 = w5.setCells (w.heap.size + 1) 1 (bvs X.data.toList) := ⟨_, rfl⟩
          have HF6 := Lib.hid (show W6.heap[w.heap.size + 1]? = some (.cells (bufC y m d h i s 1) 5 (20, 21)) by rw [hW6, hdat]; exact HP.out w5 _ _ _ HF5.out)
          have HR6 := Lib.hid ((show W6.heap[w.heap.size]? = w5.heap[w.heap.size]? by rw [hW6, setCells_other (by omega)]).trans HR5.out)
          have HB6 := Lib.hid (show Below w.heap.size w W6 by rw [hW6]; exact below_cells (by omega) _ _ _ (HBL.out.trans (HB5.out.mono HBL.out.size)))
          have hcp : (Builtin.copy_ #[34, 9] 3 #[.slice (some ⟨w.heap.size + 1, 1, none⟩) 3 19, .string X]).run Tryd.prog w5 = .ok (.int .i64 3) W6 := by
            have := run_copy_string (P := Tryd.prog) w5 34 9 3 5 (w.heap.size + 1) 1 3 19 X Tryd.underlying34 infoB (by omega)
              (fun j hj => by rw [cell_of_row _ _ _ _ _ _ HF5.out, Array.getElem?_eq_getElem (by rw [bufC_size]; omega)]; rfl) (fun j hj => unfrozen_mark HF5.out _ (by omega))
            rw [hsz] at this
            rw [hW6]
            exact this
          have HSZ := Lib.hid hsz
          clear hp p1000 hsz hdat hW6
          go_wp2_with fail
          go_roundw
          case rel => exact ⟨1, by go_num, by omega, HF6.out, HR6.out, HB6.out⟩
          case measure => simp [intOf]
        · have HP := Lib.hid (show laidP y m d h i s 0 0 [dg (y / 1000), dg (y / 100), dg (y / 10), dg y] from laid_0_4 y m d h i s )
          have hsz : X.size = 4 := by rw [← len_data, HXL.out, hp]; rfl
          have hszi : (X.size : Int) = 4 := by omega
          have hdat : X.data.toList = [dg (y / 1000), dg (y / 100), dg (y / 10), dg y] := by rw [HXL.out, hp]
          obtain ⟨W6, hW6⟩ : ∃ W6, W6 = w5.setCells (w.heap.size + 1) 0 (bvs X.data.toList) := ⟨_, rfl⟩
          have HF6 := Lib.hid (show W6.heap[w.heap.size + 1]? = some (.cells (bufC y m d h i s 1) 5 (20, 21)) by rw [hW6, hdat]; exact HP.out w5 _ _ _ HF5.out)
          have HR6 := Lib.hid ((show W6.heap[w.heap.size]? = w5.heap[w.heap.size]? by rw [hW6, setCells_other (by omega)]).trans HR5.out)
          have HB6 := Lib.hid (show Below w.heap.size w W6 by rw [hW6]; exact below_cells (by omega) _ _ _ (HBL.out.trans (HB5.out.mono HBL.out.size)))
          have hcp : (Builtin.copy_ #[34, 9] 3 #[.slice (some ⟨w.heap.size + 1, 0, none⟩) 4 20, .string X]).run Tryd.prog w5 = .ok (.int .i64 4) W6 := by
            have := run_copy_string (P := Tryd.prog) w5 34 9 3 5 (w.heap.size + 1) 0 4 20 X Tryd.underlying34 infoB (by omega)
              (fun j hj => by rw [cell_of_row _ _ _ _ _ _ HF5.out, Array.getElem?_eq_getElem (by rw [bufC_size]; omega)]; rfl) (fun j hj => unfrozen_mark HF5.out _ (by omega))
            rw [hsz] at this
            rw [hW6]
            exact this
          have HSZ := Lib.hid hsz
          clear hp  hsz hdat hW6
          go_wp2_with fail
          go_roundw
          case rel => exact ⟨1, by go_num, by omega, HF6.out, HR6.out, HB6.out⟩
          case measure => simp [intOf]
      · have hc : (wr.alloc (.cells #[.int .i64 5, .int .i64 7] 38)).cell? ⟨w.heap.size, 1, none⟩ = some (.int .i64 (m : Int)) :=
          (cell_of_row _ _ 1 _ _ _ ((Below.heap_alloc wr _ w.heap.size (by have := HLT.out; omega)).trans HRW.out)).trans rfl
        obtain ⟨W4, hW4⟩ : ∃ W4, W4 = wr.alloc (.cells #[.int .i64 5, .int .i64 7] 38) := ⟨_, rfl⟩
        have HB4 := Lib.hid (show Below wr.heap.size wr W4 by rw [hW4]; exact (Below.refl _ _).alloc (Nat.le_refl _) _)
        have HX4 := Lib.hid (show W4.heap[wr.heap.size]? = some (.cells #[.int .i64 5, .int .i64 7] 38 (0, 0)) by rw [hW4]; exact heap_alloc_new _ _)
        have HW4 := Lib.hid hW4
        clear hW4
        rw [show ((1 : Nat) : Int) = 1 from rfl]
        have ix : ∀ wx, (Instr.index 39 (.agg #[.int .i64 0, .int .i64 4, .int .i64 5, .int .i64 7, .int .i64 8, .int .i64 10, .int .i64 11, .int .i64 13, .int .i64 14, .int .i64 16, .int .i64 17, .int .i64 19]) (.int .i64 1)).run Tryd.prog wx = .ok (.agg #[.int .i64 5, .int .i64 7]) wx := fun wx => by kernel_rfl
        have PUT := Lib.hid (fun wx => Nu.Put_any (m : Int) wx (by omega) (by omega))
        obtain ⟨X, hX⟩ : ∃ X, strOf (putL (m : Int)) = X := ⟨_, rfl⟩
        have hXl : X.data.toList = putL (m : Int) := by rw [← hX]; rfl
        rw [hX] at PUT
        have HXL := Lib.hid hXl
        clear hX hXl
        go_wp2_with fail
        refine (PUT.out _).mono ?_
        rintro e w5 ⟨rfl, hb5⟩
        rw [← HW4.out] at hb5
        have HB5 := Lib.hid (HB4.out.trans (hb5.mono HB4.out.size))
        have HX5 := Lib.hid (blk_below HX4.out hb5 (blk_lt HX4.out))
        have HF5 := Lib.hid (blk_below HBF.out HB5.out HLT.out)
        have HR5 := Lib.hid (blk_below HRW.out HB5.out (by have := HLT.out; omega))
        have cb : w5.cell? ⟨wr.heap.size, 1, none⟩ = some (.int .i64 7) := cell_of_row _ _ 1 _ _ _ HX5.out
        clear hb5
        rcases put_2 (show m ≤ 99 by omega) with ⟨hp, p10⟩ | hp
        · have HP := Lib.hid (show laidP y m d h i s 1 6 [dg m] from laid_1_1 y m d h i s p10)
          have hsz : X.size = 1 := by rw [← len_data, HXL.out, hp]; rfl
          have hszi : (X.size : Int) = 1 := by omega
          have hdat : X.data.toList = [dg m] := by rw [HXL.out, hp]
          obtain ⟨W6, hW6⟩ : ∃ W6, W6 = w5.setCells (w.heap.size + 1) 6 (bvs X.data.toList) := ⟨_, rfl⟩
          have HF6 := Lib.hid (show W6.heap[w.heap.size + 1]? = some (.cells (bufC y m d h i s 2) 5 (20, 21)) by rw [hW6, hdat]; exact HP.out w5 _ _ _ HF5.out)
          have HR6 := Lib.hid ((show W6.heap[w.heap.size]? = w5.heap[w.heap.size]? by rw [hW6, setCells_other (by omega)]).trans HR5.out)
          have HB6 := Lib.hid (show Below w.heap.size w W6 by rw [hW6]; exact below_cells (by omega) _ _ _ (HBL.out.trans (HB5.out.mono HBL.out.size)))
          have hcp : (Builtin.copy_ #[34, 9] 3 #[.slice (some ⟨w.heap.size + 1, 6, none⟩) 1 14, .string X]).run Tryd.prog w5 = .ok (.int .i64 1) W6 := by
            have := run_copy_string (P := Tryd.prog) w5 34 9 3 5 (w.heap.size + 1) 6 1 14 X Tryd.underlying34 infoB (by omega)
              (fun j hj => by rw [cell_of_row _ _ _ _ _ _ HF5.out, Array.getElem?_eq_getElem (by rw [bufC_size]; omega)]; rfl) (fun j hj => unfrozen_mark HF5.out _ (by omega))
            rw [hsz] at this
            rw [hW6]
            exact this
          have HSZ := Lib.hid hsz
          clear hp p10 hsz hdat hW6
          go_wp2_with fail
          go_roundw
          case rel => exact ⟨2, by go_num, by omega, HF6.out, HR6.out, HB6.out⟩
          case measure => simp [intOf]
        · have HP := Lib.hid (show laidP y m d h i s 1 5 [dg (m / 10), dg m] from laid_1_2 y m d h i s )
          have hsz : X.size = 2 := by rw [← len_data, HXL.out, hp]; rfl
          have hszi : (X.size : Int) = 2 := by omega
          have hdat : X.data.toList = [dg (m / 10), dg m] := by rw [HXL.out, hp]
          obtain ⟨W6, hW6⟩ : ∃ W6, W6 = w5.setCells (w.heap.size + 1) 5 (bvs X.data.toList) := ⟨_, rfl⟩
          have HF6 := Lib.hid (show W6.heap[w.heap.size + 1]? = some (.cells (bufC y m d h i s 2) 5 (20, 21)) by rw [hW6, hdat]; exact HP.out w5 _ _ _ HF5.out)
          have HR6 := Lib.hid ((show W6.heap[w.heap.size]? = w5.heap[w.heap.size]? by rw [hW6, setCells_other (by omega)]).trans HR5.out)
          have HB6 := Lib.hid (show Below w.heap.size w W6 by rw [hW6]; exact below_cells (by omega) _ _ _ (HBL.out.trans (HB5.out.mono HBL.out.size)))
          have hcp : (Builtin.copy_ #[34, 9] 3 #[.slice (some ⟨w.heap.size + 1, 5, none⟩) 2 15, .string X]).run Tryd.prog w5 = .ok (.int .i64 2) W6 := by
            have := run_copy_string (P := Tryd.prog) w5 34 9 3 5 (w.heap.size + 1) 5 2 15 X Tryd.underlying34 infoB (by omega)
              (fun j hj => by rw [cell_of_row _ _ _ _ _ _ HF5.out, Array.getElem?_eq_getElem (by rw [bufC_size]; omega)]; rfl) (fun j hj => unfrozen_mark HF5.out _ (by omega))
            rw [hsz] at this
            rw [hW6]
            exact this
          have HSZ := Lib.hid hsz
          clear hp  hsz hdat hW6
          go_wp2_with fail
          go_roundw
          case rel => exact ⟨2, by go_num, by omega, HF6.out, HR6.out, HB6.out⟩
          case measure => simp [intOf]
      · have hc : (wr.alloc (.cells #[.int .i64 8, .int .i64 10] 38)).cell? ⟨w.heap.size, 2, none⟩ = some (.int .i64 (d : Int)) :=
          (cell_of_row _ _ 2 _ _ _ ((Below.heap_alloc wr _ w.heap.size (by have := HLT.out; omega)).trans HRW.out)).trans rfl
        obtain ⟨W4, hW4⟩ : ∃ W4, W4 = wr.alloc (.cells #[.int .i64 8, .int .i64 10] 38) := ⟨_, rfl⟩
        have HB4 := Lib.hid (show Below wr.heap.size wr W4 by rw [hW4]; exact (Below.refl _ _).alloc (Nat.le_refl _) _)
        have HX4 := Lib.hid (show W4.heap[wr.heap.size]? = some (.cells #[.int .i64 8, .int .i64 10] 38 (0, 0)) by rw [hW4]; exact heap_alloc_new _ _)
        have HW4 := Lib.hid hW4
        clear hW4
        rw [show ((2 : Nat) : Int) = 2 from rfl]
        have ix : ∀ wx, (Instr.index 39 (.agg #[.int .i64 0, .int .i64 4, .int .i64 5, .int .i64 7, .int .i64 8, .int .i64 10, .int .i64 11, .int .i64 13, .int .i64 14, .int .i64 16, .int .i64 17, .int .i64 19]) (.int .i64 2)).run Tryd.prog wx = .ok (.agg #[.int .i64 8, .int .i64 10]) wx := fun wx => by kernel_rfl
        have PUT := Lib.hid (fun wx => Nu.Put_any (d : Int) wx (by omega) (by omega))
        obtain ⟨X, hX⟩ : ∃ X, strOf (putL (d : Int)) = X := ⟨_, rfl⟩
        have hXl : X.data.toList = putL (d : Int) := by rw [← hX]; rfl
        rw [hX] at PUT
        have HXL := Lib.hid hXl
        clear hX hXl
        go_wp2_with fail
        refine (PUT.out _).mono ?_
        rintro e w5 ⟨rfl, hb5⟩
        rw [← HW4.out] at hb5
        have HB5 := Lib.hid (HB4.out.trans (hb5.mono HB4.out.size))
        have HX5 := Lib.hid (blk_below HX4.out hb5 (blk_lt HX4.out))
        have HF5 := Lib.hid (blk_below HBF.out HB5.out HLT.out)
        have HR5 := Lib.hid (blk_below HRW.out HB5.out (by have := HLT.out; omega))
        have cb : w5.cell? ⟨wr.heap.size, 1, none⟩ = some (.int .i64 10) := cell_of_row _ _ 1 _ _ _ HX5.out
        clear hb5
        rcases put_2 (show d ≤ 99 by omega) with ⟨hp, p10⟩ | hp
        · have HP := Lib.hid (show laidP y m d h i s 2 9 [dg d] from laid_2_1 y m d h i s p10)
          have hsz : X.size = 1 := by rw [← len_data, HXL.out, hp]; rfl
          have hszi : (X.size : Int) = 1 := by omega
          have hdat : X.data.toList = [dg d] := by rw [HXL.out, hp]
          obtain ⟨W6, hW6⟩ : ∃ W6, W6 = w5.setCells (w.heap.size + 1) 9 (bvs X.data.toList) := ⟨_, rfl⟩
          have HF6 := Lib.hid (show W6.heap[w.heap.size + 1]? = some (.cells (bufC y m d h i s 3) 5 (20, 21)) by rw [hW6, hdat]; exact HP.out w5 _ _ _ HF5.out)
          have HR6 := Lib.hid ((show W6.heap[w.heap.size]? = w5.heap[w.heap.size]? by rw [hW6, setCells_other (by omega)]).trans HR5.out)
          have HB6 := Lib.hid (show Below w.heap.size w W6 by rw [hW6]; exact below_cells (by omega) _ _ _ (HBL.out.trans (HB5.out.mono HBL.out.size)))
          have hcp : (Builtin.copy_ #[34, 9] 3 #[.slice (some ⟨w.heap.size + 1, 9, none⟩) 1 11, .string X]).run Tryd.prog w5 = .ok (.int .i64 1) W6 := by
            have := run_copy_string (P := Tryd.prog) w5 34 9 3 5 (w.heap.size + 1) 9 1 11 X Tryd.underlying34 infoB (by omega)
              (fun j hj => by rw [cell_of_row _ _ _ _ _ _ HF5.out, Array.getElem?_eq_getElem (by rw [bufC_size]; omega)]; rfl) (fun j hj => unfrozen_mark HF5.out _ (by omega))
            rw [hsz] at this
            rw [hW6]
            exact this
          have HSZ := Lib.hid hsz
          clear hp p10 hsz hdat hW6
          go_wp2_with fail
          go_roundw
          case rel => exact ⟨3, by go_num, by omega, HF6.out, HR6.out, HB6.out⟩
          case measure => simp [intOf]
        · have HP := Lib.hid (show laidP y m d h i s 2 8 [dg (d / 10), dg d] from laid_2_2 y m d h i s )
          have hsz : X.size = 2 := by rw [← len_data, HXL.out, hp]; rfl
          have hszi : (X.size : Int) = 2 := by omega
          have hdat : X.data.toList = [dg (d / 10), dg d] := by rw [HXL.out, hp]
          obtain ⟨W6, hW6⟩ : ∃ W6, W6 = w5.setCells (w.heap.size + 1) 8 (bvs X.data.toList) := ⟨_, rfl⟩
          have HF6 := Lib.hid (show W6.heap[w.heap.size + 1]? = some (.cells (bufC y m d h i s 3) 5 (20, 21)) by rw [hW6, hdat]; exact HP.out w5 _ _ _ HF5.out)
          have HR6 := Lib.hid ((show W6.heap[w.heap.size]? = w5.heap[w.heap.size]? by rw [hW6, setCells_other (by omega)]).trans HR5.out)
          have HB6 := Lib.hid (show Below w.heap.size w W6 by rw [hW6]; exact below_cells (by omega) _ _ _ (HBL.out.trans (HB5.out.mono HBL.out.size)))
          have hcp : (Builtin.copy_ #[34, 9] 3 #[.slice (some ⟨w.heap.size + 1, 8, none⟩) 2 12, .string X]).run Tryd.prog w5 = .ok (.int .i64 2) W6 := by
            have := run_copy_string (P := Tryd.prog) w5 34 9 3 5 (w.heap.size + 1) 8 2 12 X Tryd.underlying34 infoB (by omega)
              (fun j hj => by rw [cell_of_row _ _ _ _ _ _ HF5.out, Array.getElem?_eq_getElem (by rw [bufC_size]; omega)]; rfl) (fun j hj => unfrozen_mark HF5.out _ (by omega))
            rw [hsz] at this
            rw [hW6]
            exact this
          have HSZ := Lib.hid hsz
          clear hp  hsz hdat hW6
          go_wp2_with fail
          go_roundw
          case rel => exact ⟨3, by go_num, by omega, HF6.out, HR6.out, HB6.out⟩
          case measure => simp [intOf]
      · have hc : (wr.alloc (.cells #[.int .i64 11, .int .i64 13] 38)).cell? ⟨w.heap.size, 3, none⟩ = some (.int .i64 (h : Int)) :=
          (cell_of_row _ _ 3 _ _ _ ((Below.heap_alloc wr _ w.heap.size (by have := HLT.out; omega)).trans HRW.out)).trans rfl
        obtain ⟨W4, hW4⟩ : ∃ W4, W4 = wr.alloc (.cells #[.int .i64 11, .int .i64 13] 38) := ⟨_, rfl⟩
        have HB4 := Lib.hid (show Below wr.heap.size wr W4 by rw [hW4]; exact (Below.refl _ _).alloc (Nat.le_refl _) _)
        have HX4 := Lib.hid (show W4.heap[wr.heap.size]? = some (.cells #[.int .i64 11, .int .i64 13] 38 (0, 0)) by rw [hW4]; exact heap_alloc_new _ _)
        have HW4 := Lib.hid hW4
        clear hW4
        rw [show ((3 : Nat) : Int) = 3 from rfl]
        have ix : ∀ wx, (Instr.index 39 (.agg #[.int .i64 0, .int .i64 4, .int .i64 5, .int .i64 7, .int .i64 8, .int .i64 10, .int .i64 11, .int .i64 13, .int .i64 14, .int .i64 16, .int .i64 17, .int .i64 19]) (.int .i64 3)).run Tryd.prog wx = .ok (.agg #[.int .i64 11, .int .i64 13]) wx := fun wx => by kernel_rfl
        have PUT := Lib.hid (fun wx => Nu.Put_any (h : Int) wx (by omega) (by omega))
        obtain ⟨X, hX⟩ : ∃ X, strOf (putL (h : Int)) = X := ⟨_, rfl⟩
        have hXl : X.data.toList = putL (h : Int) := by rw [← hX]; rfl
        rw [hX] at PUT
        have HXL := Lib.hid hXl
        clear hX hXl
        go_wp2_with fail
        refine (PUT.out _).mono ?_
        rintro e w5 ⟨rfl, hb5⟩
        rw [← HW4.out] at hb5
        have HB5 := Lib.hid (HB4.out.trans (hb5.mono HB4.out.size))
        have HX5 := Lib.hid (blk_below HX4.out hb5 (blk_lt HX4.out))
        have HF5 := Lib.hid (blk_below HBF.out HB5.out HLT.out)
        have HR5 := Lib.hid (blk_below HRW.out HB5.out (by have := HLT.out; omega))
        have cb : w5.cell? ⟨wr.heap.size, 1, none⟩ = some (.int .i64 13) := cell_of_row _ _ 1 _ _ _ HX5.out
        clear hb5
        rcases put_2 (show h ≤ 99 by omega) with ⟨hp, p10⟩ | hp
        · have HP := Lib.hid (show laidP y m d h i s 3 12 [dg h] from laid_3_1 y m d h i s p10)
          have hsz : X.size = 1 := by rw [← len_data, HXL.out, hp]; rfl
          have hszi : (X.size : Int) = 1 := by omega
          have hdat : X.data.toList = [dg h] := by rw [HXL.out, hp]
          obtain ⟨W6, hW6⟩ : ∃ W6, W6 = w5.setCells (w.heap.size + 1) 12 (bvs X.data.toList) := ⟨_, rfl⟩
          have HF6 := Lib.hid (show W6.heap[w.heap.size + 1]? = some (.cells (bufC y m d h i s 4) 5 (20, 21)) by rw [hW6, hdat]; exact HP.out w5 _ _ _ HF5.out)
          have HR6 := Lib.hid ((show W6.heap[w.heap.size]? = w5.heap[w.heap.size]? by rw [hW6, setCells_other (by omega)]).trans HR5.out)
          have HB6 := Lib.hid (show Below w.heap.size w W6 by rw [hW6]; exact below_cells (by omega) _ _ _ (HBL.out.trans (HB5.out.mono HBL.out.size)))
          have hcp : (Builtin.copy_ #[34, 9] 3 #[.slice (some ⟨w.heap.size + 1, 12, none⟩) 1 8, .string X]).run Tryd.prog w5 = .ok (.int .i64 1) W6 := by
            have := run_copy_string (P := Tryd.prog) w5 34 9 3 5 (w.heap.size + 1) 12 1 8 X Tryd.underlying34 infoB (by omega)
              (fun j hj => by rw [cell_of_row _ _ _ _ _ _ HF5.out, Array.getElem?_eq_getElem (by rw [bufC_size]; omega)]; rfl) (fun j hj => unfrozen_mark HF5.out _ (by omega))
            rw [hsz] at this
            rw [hW6]
            exact this
          have HSZ := Lib.hid hsz
          clear hp p10 hsz hdat hW6
          go_wp2_with fail
          go_roundw
          case rel => exact ⟨4, by go_num, by omega, HF6.out, HR6.out, HB6.out⟩
          case measure => simp [intOf]
        · have HP := Lib.hid (show laidP y m d h i s 3 11 [dg (h / 10), dg h] from laid_3_2 y m d h i s )
          have hsz : X.size = 2 := by rw [← len_data, HXL.out, hp]; rfl
          have hszi : (X.size : Int) = 2 := by omega
          have hdat : X.data.toList = [dg (h / 10), dg h] := by rw [HXL.out, hp]
          obtain ⟨W6, hW6⟩ : ∃ W6, W6 = w5.setCells (w.heap.size + 1) 11 (bvs X.data.toList) := ⟨_, rfl⟩
          have HF6 := Lib.hid (show W6.heap[w.heap.size + 1]? = some (.cells (bufC y m d h i s 4) 5 (20, 21)) by rw [hW6, hdat]; exact HP.out w5 _ _ _ HF5.out)
          have HR6 := Lib.hid ((show W6.heap[w.heap.size]? = w5.heap[w.heap.size]? by rw [hW6, setCells_other (by omega)]).trans HR5.out)
          have HB6 := Lib.hid (show Below w.heap.size w W6 by rw [hW6]; exact below_cells (by omega) _ _ _ (HBL.out.trans (HB5.out.mono HBL.out.size)))
          have hcp : (Builtin.copy_ #[34, 9] 3 #[.slice (some ⟨w.heap.size + 1, 11, none⟩) 2 9, .string X]).run Tryd.prog w5 = .ok (.int .i64 2) W6 := by
            have := run_copy_string (P := Tryd.prog) w5 34 9 3 5 (w.heap.size + 1) 11 2 9 X Tryd.underlying34 infoB (by omega)
              (fun j hj => by rw [cell_of_row _ _ _ _ _ _ HF5.out, Array.getElem?_eq_getElem (by rw [bufC_size]; omega)]; rfl) (fun j hj => unfrozen_mark HF5.out _ (by omega))
            rw [hsz] at this
            rw [hW6]
            exact this
          have HSZ := Lib.hid hsz
          clear hp  hsz hdat hW6
          go_wp2_with fail
          go_roundw
          case rel => exact ⟨4, by go_num, by omega, HF6.out, HR6.out, HB6.out⟩
          case measure => simp [intOf]
      · have hc : (wr.alloc (.cells #[.int .i64 14, .int .i64 16] 38)).cell? ⟨w.heap.size, 4, none⟩ = some (.int .i64 (i : Int)) :=
          (cell_of_row _ _ 4 _ _ _ ((Below.heap_alloc wr _ w.heap.size (by have := HLT.out; omega)).trans HRW.out)).trans rfl
        obtain ⟨W4, hW4⟩ : ∃ W4, W4 = wr.alloc (.cells #[.int .i64 14, .int .i64 16] 38) := ⟨_, rfl⟩
        have HB4 := Lib.hid (show Below wr.heap.size wr W4 by rw [hW4]; exact (Below.refl _ _).alloc (Nat.le_refl _) _)
        have HX4 := Lib.hid (show W4.heap[wr.heap.size]? = some (.cells #[.int .i64 14, .int .i64 16] 38 (0, 0)) by rw [hW4]; exact heap_alloc_new _ _)
        have HW4 := Lib.hid hW4
        clear hW4
        rw [show ((4 : Nat) : Int) = 4 from rfl]
        have ix : ∀ wx, (Instr.index 39 (.agg #[.int .i64 0, .int .i64 4, .int .i64 5, .int .i64 7, .int .i64 8, .int .i64 10, .int .i64 11, .int .i64 13, .int .i64 14, .int .i64 16, .int .i64 17, .int .i64 19]) (.int .i64 4)).run Tryd.prog wx = .ok (.agg #[.int .i64 14, .int .i64 16]) wx := fun wx => by kernel_rfl
        have PUT := Lib.hid (fun wx => Nu.Put_any (i : Int) wx (by omega) (by omega))
        obtain ⟨X, hX⟩ : ∃ X, strOf (putL (i : Int)) = X := ⟨_, rfl⟩
        have hXl : X.data.toList = putL (i : Int) := by rw [← hX]; rfl
        rw [hX] at PUT
        have HXL := Lib.hid hXl
        clear hX hXl
        go_wp2_with fail
        refine (PUT.out _).mono ?_
        rintro e w5 ⟨rfl, hb5⟩
        rw [← HW4.out] at hb5
        have HB5 := Lib.hid (HB4.out.trans (hb5.mono HB4.out.size))
        have HX5 := Lib.hid (blk_below HX4.out hb5 (blk_lt HX4.out))
        have HF5 := Lib.hid (blk_below HBF.out HB5.out HLT.out)
        have HR5 := Lib.hid (blk_below HRW.out HB5.out (by have := HLT.out; omega))
        have cb : w5.cell? ⟨wr.heap.size, 1, none⟩ = some (.int .i64 16) := cell_of_row _ _ 1 _ _ _ HX5.out
        clear hb5
        rcases put_2 (show i ≤ 99 by omega) with ⟨hp, p10⟩ | hp
        · have HP := Lib.hid (show laidP y m d h i s 4 15 [dg i] from laid_4_1 y m d h i s p10)
          have hsz : X.size = 1 := by rw [← len_data, HXL.out, hp]; rfl
          have hszi : (X.size : Int) = 1 := by omega
          have hdat : X.data.toList = [dg i] := by rw [HXL.out, hp]
          obtain ⟨W6, hW6⟩ : ∃ W6, W6 = w5.setCells (w.heap.size + 1) 15 (bvs X.data.toList) := ⟨_, rfl⟩
          have HF6 := Lib.hid (show W6.heap[w.heap.size + 1]? = some (.cells (bufC y m d h i s 5) 5 (20, 21)) by rw [hW6, hdat]; exact HP.out w5 _ _ _ HF5.out)
          have HR6 := Lib.hid ((show W6.heap[w.heap.size]? = w5.heap[w.heap.size]? by rw [hW6, setCells_other (by omega)]).trans HR5.out)
          have HB6 := Lib.hid (show Below w.heap.size w W6 by rw [hW6]; exact below_cells (by omega) _ _ _ (HBL.out.trans (HB5.out.mono HBL.out.size)))
          have hcp : (Builtin.copy_ #[34, 9] 3 #[.slice (some ⟨w.heap.size + 1, 15, none⟩) 1 5, .string X]).run Tryd.prog w5 = .ok (.int .i64 1) W6 := by
            have := run_copy_string (P := Tryd.prog) w5 34 9 3 5 (w.heap.size + 1) 15 1 5 X Tryd.underlying34 infoB (by omega)
              (fun j hj => by rw [cell_of_row _ _ _ _ _ _ HF5.out, Array.getElem?_eq_getElem (by rw [bufC_size]; omega)]; rfl) (fun j hj => unfrozen_mark HF5.out _ (by omega))
            rw [hsz] at this
            rw [hW6]
            exact this
          have HSZ := Lib.hid hsz
          clear hp p10 hsz hdat hW6
          go_wp2_with fail
          go_roundw
          case rel => exact ⟨5, by go_num, by omega, HF6.out, HR6.out, HB6.out⟩
          case measure => simp [intOf]
        · have HP := Lib.hid (show laidP y m d h i s 4 14 [dg (i / 10), dg i] from laid_4_2 y m d h i s )
          have hsz : X.size = 2 := by rw [← len_data, HXL.out, hp]; rfl
          have hszi : (X.size : Int) = 2 := by omega
          have hdat : X.data.toList = [dg (i / 10), dg i] := by rw [HXL.out, hp]
          obtain ⟨W6, hW6⟩ : ∃ W6, W6 = w5.setCells (w.heap.size + 1) 14 (bvs X.data.toList) := ⟨_, rfl⟩
          have HF6 := Lib.hid (show W6.heap[w.heap.size + 1]? = some (.cells (bufC y m d h i s 5) 5 (20, 21)) by rw [hW6, hdat]; exact HP.out w5 _ _ _ HF5.out)
          have HR6 := Lib.hid ((show W6.heap[w.heap.size]? = w5.heap[w.heap.size]? by rw [hW6, setCells_other (by omega)]).trans HR5.out)
          have HB6 := Lib.hid (show Below w.heap.size w W6 by rw [hW6]; exact below_cells (by omega) _ _ _ (HBL.out.trans (HB5.out.mono HBL.out.size)))
          have hcp : (Builtin.copy_ #[34, 9] 3 #[.slice (some ⟨w.heap.size + 1, 14, none⟩) 2 6, .string X]).run Tryd.prog w5 = .ok (.int .i64 2) W6 := by
            have := run_copy_string (P := Tryd.prog) w5 34 9 3 5 (w.heap.size + 1) 14 2 6 X Tryd.underlying34 infoB (by omega)
              (fun j hj => by rw [cell_of_row _ _ _ _ _ _ HF5.out, Array.getElem?_eq_getElem (by rw [bufC_size]; omega)]; rfl) (fun j hj => unfrozen_mark HF5.out _ (by omega))
            rw [hsz] at this
            rw [hW6]
            exact this
          have HSZ := Lib.hid hsz
          clear hp  hsz hdat hW6
          go_wp2_with fail
          go_roundw
          case rel => exact ⟨5, by go_num, by omega, HF6.out, HR6.out, HB6.out⟩
          case measure => simp [intOf]
      · have hc : (wr.alloc (.cells #[.int .i64 17, .int .i64 19] 38)).cell? ⟨w.heap.size, 5, none⟩ = some (.int .i64 (s : Int)) :=
          (cell_of_row _ _ 5 _ _ _ ((Below.heap_alloc wr _ w.heap.size (by have := HLT.out; omega)).trans HRW.out)).trans rfl
        obtain ⟨W4, hW4⟩ : ∃ W4, W4 = wr.alloc (.cells #[.int .i64 17, .int .i64 19] 38) := ⟨_, rfl⟩
        have HB4 := Lib.hid (show Below wr.heap.size wr W4 by rw [hW4]; exact (Below.refl _ _).alloc (Nat.le_refl _) _)
        have HX4 := Lib.hid (show W4.heap[wr.heap.size]? = some (.cells #[.int .i64 17, .int .i64 19] 38 (0, 0)) by rw [hW4]; exact heap_alloc_new _ _)
        have HW4 := Lib.hid hW4
        clear hW4
        rw [show ((5 : Nat) : Int) = 5 from rfl]
        have ix : ∀ wx, (Instr.index 39 (.agg #[.int .i64 0, .int .i64 4, .int .i64 5, .int .i64 7, .int .i64 8, .int .i64 10, .int .i64 11, .int .i64 13, .int .i64 14, .int .i64 16, .int .i64 17, .int .i64 19]) (.int .i64 5)).run Tryd.prog wx = .ok (.agg #[.int .i64 17, .int .i64 19]) wx := fun wx => by kernel_rfl
        have PUT := Lib.hid (fun wx => Nu.Put_any (s : Int) wx (by omega) (by omega))
        obtain ⟨X, hX⟩ : ∃ X, strOf (putL (s : Int)) = X := ⟨_, rfl⟩
        have hXl : X.data.toList = putL (s : Int) := by rw [← hX]; rfl
        rw [hX] at PUT
        have HXL := Lib.hid hXl
        clear hX hXl
        go_wp2_with fail
        refine (PUT.out _).mono ?_
        rintro e w5 ⟨rfl, hb5⟩
        rw [← HW4.out] at hb5
        have HB5 := Lib.hid (HB4.out.trans (hb5.mono HB4.out.size))
        have HX5 := Lib.hid (blk_below HX4.out hb5 (blk_lt HX4.out))
        have HF5 := Lib.hid (blk_below HBF.out HB5.out HLT.out)
        have HR5 := Lib.hid (blk_below HRW.out HB5.out (by have := HLT.out; omega))
        have cb : w5.cell? ⟨wr.heap.size, 1, none⟩ = some (.int .i64 19) := cell_of_row _ _ 1 _ _ _ HX5.out
        clear hb5
        rcases put_2 (show s ≤ 99 by omega) with ⟨hp, p10⟩ | hp
        · have HP := Lib.hid (show laidP y m d h i s 5 18 [dg s] from laid_5_1 y m d h i s p10)
          have hsz : X.size = 1 := by rw [← len_data, HXL.out, hp]; rfl
          have hszi : (X.size : Int) = 1 := by omega
          have hdat : X.data.toList = [dg s] := by rw [HXL.out, hp]
          obtain ⟨W6, hW6⟩ : ∃ W6, W6 = w5.setCells (w.heap.size + 1) 18 (bvs X.data.toList) := ⟨_, rfl⟩
          have HF6 := Lib.hid (show W6.heap[w.heap.size + 1]? = some (.cells (bufC y m d h i s 6) 5 (20, 21)) by rw [hW6, hdat]; exact HP.out w5 _ _ _ HF5.out)
          have HR6 := Lib.hid ((show W6.heap[w.heap.size]? = w5.heap[w.heap.size]? by rw [hW6, setCells_other (by omega)]).trans HR5.out)
          have HB6 := Lib.hid (show Below w.heap.size w W6 by rw [hW6]; exact below_cells (by omega) _ _ _ (HBL.out.trans (HB5.out.mono HBL.out.size)))
          have hcp : (Builtin.copy_ #[34, 9] 3 #[.slice (some ⟨w.heap.size + 1, 18, none⟩) 1 2, .string X]).run Tryd.prog w5 = .ok (.int .i64 1) W6 := by
            have := run_copy_string (P := Tryd.prog) w5 34 9 3 5 (w.heap.size + 1) 18 1 2 X Tryd.underlying34 infoB (by omega)
              (fun j hj => by rw [cell_of_row _ _ _ _ _ _ HF5.out, Array.getElem?_eq_getElem (by rw [bufC_size]; omega)]; rfl) (fun j hj => unfrozen_mark HF5.out _ (by omega))
            rw [hsz] at this
            rw [hW6]
            exact this
          have HSZ := Lib.hid hsz
          clear hp p10 hsz hdat hW6
          go_wp2_with fail
          go_roundw
          case rel => exact ⟨6, by go_num, by omega, HF6.out, HR6.out, HB6.out⟩
          case measure => simp [intOf]
        · have HP := Lib.hid (show laidP y m d h i s 5 17 [dg (s / 10), dg s] from laid_5_2 y m d h i s )
          have hsz : X.size = 2 := by rw [← len_data, HXL.out, hp]; rfl
          have hszi : (X.size : Int) = 2 := by omega
          have hdat : X.data.toList = [dg (s / 10), dg s] := by rw [HXL.out, hp]
          obtain ⟨W6, hW6⟩ : ∃ W6, W6 = w5.setCells (w.heap.size + 1) 17 (bvs X.data.toList) := ⟨_, rfl⟩
          have HF6 := Lib.hid (show W6.heap[w.heap.size + 1]? = some (.cells (bufC y m d h i s 6) 5 (20, 21)) by rw [hW6, hdat]; exact HP.out w5 _ _ _ HF5.out)
          have HR6 := Lib.hid ((show W6.heap[w.heap.size]? = w5.heap[w.heap.size]? by rw [hW6, setCells_other (by omega)]).trans HR5.out)
          have HB6 := Lib.hid (show Below w.heap.size w W6 by rw [hW6]; exact below_cells (by omega) _ _ _ (HBL.out.trans (HB5.out.mono HBL.out.size)))
          have hcp : (Builtin.copy_ #[34, 9] 3 #[.slice (some ⟨w.heap.size + 1, 17, none⟩) 2 3, .string X]).run Tryd.prog w5 = .ok (.int .i64 2) W6 := by
            have := run_copy_string (P := Tryd.prog) w5 34 9 3 5 (w.heap.size + 1) 17 2 3 X Tryd.underlying34 infoB (by omega)
              (fun j hj => by rw [cell_of_row _ _ _ _ _ _ HF5.out, Array.getElem?_eq_getElem (by rw [bufC_size]; omega)]; rfl) (fun j hj => unfrozen_mark HF5.out _ (by omega))
            rw [hsz] at this
            rw [hW6]
            exact this
          have HSZ := Lib.hid hsz
          clear hp  hsz hdat hW6
          go_wp2_with fail
          go_roundw
          case rel => exact ⟨6, by go_num, by omega, HF6.out, HR6.out, HB6.out⟩
          case measure => simp [intOf]
    · obtain rfl : k = 6 := by omega
      have tk : decide (((6 : Nat) : Int) < 6) = false := by decide
      have hc := conv_buf HBF.out 20 rfl
      rw [bufL_6] at hc
      clear hlt hk
      go_wp2_with fail
      go_ret
      exact ⟨_, HM.out, rfl, HBL.out⟩
end Go.Proofs.YtfedidiieacakaaDoor.St
