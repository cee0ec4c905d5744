/- Merged: TlG. -/
import Derived.Test.YtfdibmcjjclgkaaTt7
import Derived.Test.YtfdibmcjjclgkaaTt6
import Derived.Test.YtfdibmcjjclgkaaTt1
import Derived.Shelf.Spec.SlicesGrow
import Derived.Laws.AppendOwnNone
import Derived.Deep.RegionHeld3
namespace Go.Proofs.Ytfdibmcjjclgkaa.Tl
open Go.Proofs Go.RowKit Go.Shelf Go.Lib
open Go.Proofs.Ytfdibmcjjclgkaa.Utf
open Go.Proofs.Ytfdibmcjjclgkaa.Ro

def grwRenE : Ren where
  f := fun _ => 25
  t := fun k => if k = 0 then 0 else if k = 3 then 3 else if k = 4 then 4 else if k = 9 then 9 else if k = 20 then 20 else if k = 22 then 22 else 26
  g := fun k => k
set_option maxRecDepth 100000 in
theorem grwLaysE : Lays8.n4 Try.prog grwRenE where
  mixed := by kernel_rfl
  f4 := ⟨Try.f25.name, by kernel_rfl, Try.func25.trans (congrArg some (by kernel_rfl))⟩
  t0 := by kernel_rfl
  a0 := fun _ => by kernel_rfl
  z0 := fun _ => by kernel_rfl
  v0 := fun _ => by kernel_rfl
  t3 := by kernel_rfl
  a3 := fun _ => by kernel_rfl
  z3 := fun _ => by kernel_rfl
  v3 := fun _ => by kernel_rfl
  t4 := by kernel_rfl
  a4 := fun _ => by kernel_rfl
  z4 := fun _ => by kernel_rfl
  v4 := fun _ => by kernel_rfl
  t9 := by kernel_rfl
  a9 := fun _ => by kernel_rfl
  z9 := fun _ => by kernel_rfl
  v9 := fun _ => by kernel_rfl
  t20 := by kernel_rfl
  a20 := fun _ => by kernel_rfl
  z20 := fun _ => by kernel_rfl
  v20 := fun _ => by kernel_rfl
  t22 := by kernel_rfl
  a22 := fun _ => by kernel_rfl
  z22 := fun _ => by kernel_rfl
  v22 := fun _ => by kernel_rfl
theorem growE_any (n : Nat) (w : World) (h0 : 0 < n) (h1 : n ≤ 4398046511104) :
    Calls Try.prog 25 #[.slice none 0 0, .int .i64 n] w fun e w' => ∃ v, e = .returned v ∧ w'.ownsRow w.heap.size 26 3 v 0 [] ∧ Below w.heap.size w w' := by
  obtain ⟨i0, hi, hz0, hz1, hz2⟩ := info_parts infoEn
  have h := Any8.slices_Grow_grow grwLaysE i0 _ hi hz0 (by rw [hz1]; decide) none 0 0 n [] w (Nat.le_refl _) (by omega) (by rw [hz2]; omega) (by omega) (by simp) (fun _ => rfl) (fun a e => by cases e)
  refine h.mono ?_
  rintro e w' ⟨rfl, rfl⟩
  refine ⟨_, rfl, World.ownsRow_made _ _ _ (Nat.le_refl _) ?_ ?_, (Below.refl _ _).drew.alloc (Nat.le_refl _) _⟩
  · exact grownCap_le_maxLen w _ _ _ (by unfold maxLen; omega)
  · have hge := grownCap_ge w n 0 (grwRenE.t 25)
    simp only [Array.size_append, List.size_toArray, size_zeroCells, List.length_nil, Nat.zero_add, Nat.sub_zero, Value.cells, List.length_cons]
    omega
theorem enC_fl (l : List En) : (enC l).flatten.length = l.length * 3 := by
  rw [flat_len (s := 3) (enC l) (fun r hr => by obtain ⟨q, -, rfl⟩ := List.mem_map.1 hr; rfl), enC_len]
theorem enC_ones (l : List En) : ∀ u ∈ (enC l).flatten, u.oneCell' = true := by
  intro u hu
  rw [List.mem_flatten] at hu
  obtain ⟨r, hr, hu⟩ := hu
  obtain ⟨e, -, rfl⟩ := List.mem_map.1 hr
  simp only [enR, List.mem_cons, List.not_mem_nil, or_false] at hu
  rcases hu with rfl | rfl | rfl <;> rfl
theorem enC_apps (a b : List En) : enC (a ++ b) = enC a ++ enC b := List.map_append
def GivesEs (L : List En) (w : World) (e : Ending) (w' : World) : Prop := ∃ v, e = .returned v ∧ w'.ownsRow w.heap.size 26 3 v L.length (enC L).flatten ∧ Below w.heap.size w w'
theorem rde_open {w : World} {A : Option Addr} {n c : Nat} {l : List En} {B : Nat} (h : RdE w B (.slice A n c) l) : n = l.length ∧ (A = none → n = 0) ∧ ∀ ad, A = some ad → ∀ j u, (enC l).flatten[j]? = some u → w.cell? (ad.add j) = some u := by
  obtain ⟨hs, A', c', e, hA⟩ := h
  injection e with e1 e2 e3
  subst e1 e2
  rw [enC_len]
  refine ⟨rfl, fun e => ?_, fun ad e j u hu => ?_⟩
  · rcases Nat.eq_zero_or_pos l.length with h0 | h0
    · exact h0
    · obtain ⟨g, o, e2, -⟩ := hA (by rw [enC_len]; exact h0)
      rw [e] at e2; cases e2
  · have hj := (List.getElem?_eq_some_iff.1 hu).1
    rw [enC_fl] at hj
    have h0 : 0 < l.length := by omega
    obtain ⟨g, o, e2, -, hx⟩ := hA (by rw [enC_len]; exact h0)
    rw [e] at e2
    injection e2 with e2
    subst e2
    have hk : j / 3 < (enC l).length := by rw [enC_len]; omega
    have h2 := flat_at (enC l) hs (j / 3) hk (j % 3) (by omega)
    rw [show j / 3 * 3 + j % 3 = j by omega, hu] at h2
    have h3 := hx (j / 3) hk (j % 3) u h2.symm
    rw [show o + j / 3 * 3 + j % 3 = o + j by omega] at h3
    have e3 : (⟨g, o, none⟩ : Addr).add j = ⟨g, o + j, none⟩ := by unfold Addr.add; split <;> simp_all
    rw [e3]; exact h3

set_option maxRecDepth 100000 in
set_option maxHeartbeats 600000 in
theorem concatE_any (g cap n1 n2 c1 c2 : Nat) (A1 A2 : Option Addr) (L1 L2 : List En) (w : World) (r1 : RdE w w.heap.size (.slice A1 n1 c1) L1) (r2 : RdE w w.heap.size (.slice A2 n2 c2) L2)
    (q1 : w.cell? ⟨g, 0, none⟩ = some (.slice A1 n1 c1)) (q2 : w.cell? ⟨g, 1, none⟩ = some (.slice A2 n2 c2)) (hg : g < w.heap.size) (hn : 0 < n1 + n2) (hs1 : n1 + n2 ≤ 4398046511104) :
    Calls Try.prog 22 #[.slice (some ⟨g, 0, none⟩) 2 cap] w (GivesEs (L1 ++ L2) w) := by
  obtain ⟨i0, hi, hz0, hz1, hz2⟩ := info_parts infoEn
  have R1 := Lib.hid r1
  have R2 := Lib.hid r2
  have HN1 := Lib.hid (rde_open r1)
  have HN2 := Lib.hid (rde_open r2)
  have HG := Lib.hid (fun n h0 h1 => growE_any n w h0 h1)
  clear r1 r2
  have hn' := hn
  have hq1 := q1
  have hq2 := q2
  have hgl := hg
  have z1 : ((2 : Nat) : Int) = 2 := rfl
  go_enter Try.func22, Try.ntmps22
  go_wp2_with fail
  go_loopw [3, 11] (fun s i wr => ∃ (k : Nat) (z : Int), i = .int .i64 (k : Int) ∧ s = .int .i64 z ∧ (k = 0 ∧ z = 0 ∨ k = 1 ∧ z = n1 ∨ k = 2 ∧ z = n1 + n2) ∧ Aside (w = wr)) (fun _ i _ => 2 - (RowKit.intOf i).toNat)
  case atStart => exact ⟨0, 0, rfl, rfl, .inl ⟨rfl, rfl⟩, (show _ = _ from rfl)⟩
  case round =>
    obtain ⟨k, z, rfl, rfl, hkk, hw⟩ := hrel
    obtain rfl : w = wr := hw.out
    clear hw
    rcases hkk with ⟨rfl, rfl⟩ | ⟨rfl, rfl⟩ | ⟨rfl, rfl⟩
    · have t3 : decide ((n1 : Int) < 0) = false := decide_eq_false (by omega)
      go_wp2_with fail
      go_roundw
      case rel => exact ⟨1, n1, rfl, by go_num, .inr (.inl ⟨rfl, rfl⟩), (show True from trivial)⟩
      case measure => simp [RowKit.intOf]
    · have t3 : decide ((n1 : Int) + (n2 : Int) < 0) = false := decide_eq_false (by omega)
      go_wp2_with fail
      go_roundw
      case rel => exact ⟨2, n1 + n2, rfl, by go_num, .inr (.inr ⟨rfl, rfl⟩), (show True from trivial)⟩
      case measure => simp [RowKit.intOf]
    · obtain ⟨n, hnn⟩ : ∃ n, n = n1 + n2 := ⟨_, rfl⟩
      have HC := Lib.hid (HG.out n (by omega) (by omega))
      rw [show ((n1 : Int) + (n2 : Int)) = (n : Int) by omega]
      clear hnn q1 q2 hg
      have Q1 := Lib.hid hq1
      have Q2 := Lib.hid hq2
      have HGL := Lib.hid hgl
      clear hq1 hq2 hgl
      go_wp2_with fail
      refine HC.out.mono ?_
      rintro e w1 ⟨v, rfl, hown, hb⟩
      have HO := Lib.hid hown
      have HB := Lib.hid hb
      clear hown hb HC HG
      go_wp2_with fail
      go_loopw [6, 27] (fun s i wr => ∃ (k m : Nat) (xs : List Value), i = .int .i64 (k : Int) ∧ (k = 0 ∧ m = 0 ∧ xs = [] ∨ k = 1 ∧ m = n1 ∧ xs = (enC L1).flatten ∨ k = 2 ∧ m = n1 + n2 ∧ xs = (enC (L1 ++ L2)).flatten) ∧ Aside (wr.ownsRow w.heap.size 26 3 s m xs) ∧ Aside (Below w.heap.size w wr)) (fun _ i _ => 2 - (RowKit.intOf i).toNat)
      case atStart => exact ⟨0, 0, [], rfl, .inl ⟨rfl, rfl, rfl⟩, HO.out, HB.out⟩
      case round =>
        obtain ⟨k, m, xs, rfl, hkk, hrow, hbel⟩ := hrel
        have HR := Lib.hid hrow.out
        have HE := Lib.hid hbel.out
        clear hrow hbel
        rcases hkk with ⟨rfl, rfl, rfl⟩ | ⟨rfl, rfl, rfl⟩ | ⟨rfl, rfl, rfl⟩
        · have q := (HE.out.cell (p := ⟨g, 0, none⟩) HGL.out).trans Q1.out
          have HN := Lib.hid (rde_open (R1.out.below HE.out))
          go_wp2_with (at_builtin; refine append_any_g rfl _ _ 22 rfl w.heap.size 26 i0 _ 3 32 Try.underlying22 hi hz0 hz1 hz2 (by rfl) (by decide) u6 0 [] rfl HR.out A1 n1 c1 (enC L1).flatten rfl (by rw [enC_fl, HN.out.1]) HN.out.2.1 HN.out.2.2 (enC_ones _) ?q1 ?q2 HE.out.size ?_)
          case q1 => unfold maxLen; omega
          case q2 => omega
          intro v2 w2 hown2 hg2
          have HB2 := Lib.hid (show Below w.heap.size w w2 from HE.out.grown hg2 HE.out.size (fun k hk => (HR.out.lt k hk).1))
          have HO2 := Lib.hid hown2
          clear hown2 hg2
          go_wp2_with fail
          go_roundw
          case rel => exact ⟨1, n1, (enC L1).flatten, rfl, .inr (.inl ⟨rfl, rfl, rfl⟩), (show World.ownsRow _ _ _ _ _ _ _ from by have := HO2.out; simpa using this), HB2.out⟩
          case measure => simp [RowKit.intOf]
        · have q := (HE.out.cell (p := ⟨g, 1, none⟩) HGL.out).trans Q2.out
          have HN := Lib.hid (rde_open (R2.out.below HE.out))
          go_wp2_with (at_builtin; refine append_any_g rfl _ _ 22 rfl w.heap.size 26 i0 _ 3 32 Try.underlying22 hi hz0 hz1 hz2 (by rfl) (by decide) u6 m (enC L1).flatten rfl HR.out A2 n2 c2 (enC L2).flatten rfl (by rw [enC_fl, HN.out.1]) HN.out.2.1 HN.out.2.2 (enC_ones _) ?q1 ?q2 HE.out.size ?_)
          case q1 => unfold maxLen; omega
          case q2 => omega
          intro v2 w2 hown2 hg2
          have HB2 := Lib.hid (show Below w.heap.size w w2 from HE.out.grown hg2 HE.out.size (fun k hk => (HR.out.lt k hk).1))
          have HO2 := Lib.hid hown2
          clear hown2 hg2
          go_wp2_with fail
          go_roundw
          case rel => exact ⟨2, m + n2, (enC (L1 ++ L2)).flatten, rfl, .inr (.inr ⟨rfl, rfl, rfl⟩), (show World.ownsRow _ _ _ _ _ _ _ from by have := HO2.out; rw [enC_apps, List.flatten_append]; exact this), HB2.out⟩
          case measure => simp [RowKit.intOf]
        · have HE2 := Lib.hid (show n1 + n2 = (L1 ++ L2).length by rw [List.length_append, HN1.out.1, HN2.out.1])
          go_wp2_with fail
          go_ret
          refine ⟨_, rfl, ?_, HE.out⟩
          rw [← HE2.out]
          exact HR.out
theorem rde_drop {w : World} {B n c G : Nat} {A : Option Addr} {l : List En} (h : RdE w B (.slice A n c) l) (hG : G ≤ n) (A' : Option Addr) (c' : Nat) (hA : ∀ ad, A = some ad → G < n → A' = some (ad.add (G * 3))) : RdE w B (.slice A' (n - G) c') (l.drop G) := by
  obtain ⟨hs, A0, c0, e, hx⟩ := h
  injection e with e1 e2 e3
  subst e1
  rw [enC_len] at e2
  refine ⟨fun r hr => by obtain ⟨q, -, rfl⟩ := List.mem_map.1 hr; rfl, A', c', by rw [enC_len, List.length_drop, e2], fun h0 => ?_⟩
  rw [enC_len, List.length_drop] at h0
  obtain ⟨g, o, e, h1, h2⟩ := hx (by rw [enC_len]; omega)
  refine ⟨g, o + G * 3, by rw [hA _ e (by omega)]; unfold Addr.add; simp, h1, fun k hk j u hu => ?_⟩
  rw [enC_len, List.length_drop] at hk
  have e4 : (enC (l.drop G))[k]'(by rw [enC_len, List.length_drop]; exact hk) = (enC l)[G + k]'(by rw [enC_len]; omega) := by simp [enC]
  rw [e4] at hu
  have := h2 (G + k) (by rw [enC_len]; omega) j u hu
  rwa [show o + (G + k) * 3 + j = o + G * 3 + k * 3 + j by omega] at this
abbrev SA3 (W : World) (b : Nat) (v0 v1 v2 : Value) (u : World) : Prop := Below W.heap.size W u ∧ u.cell? ⟨b, 0, none⟩ = some v0 ∧ u.cell? ⟨b, 1, none⟩ = some v1 ∧ u.cell? ⟨b, 2, none⟩ = some v2
theorem sa3 {W u : World} {b : Nat} {v0 v1 v2 : Value} {ob : Obj} (h : SA3 W b v0 v1 v2 u) (hb : b < W.heap.size) : SA3 W b v0 v1 v2 (u.alloc ob) := by
  obtain ⟨h0, h1, h2, h3⟩ := h
  have hs := h0.size
  have k : ∀ j, (u.alloc ob).cell? ⟨b, j, none⟩ = u.cell? ⟨b, j, none⟩ := fun j => ((Below.refl u.heap.size u).alloc (Nat.le_refl _) ob).cell (p := ⟨b, j, none⟩) (by show b < _; omega)
  exact ⟨h0.alloc hs _, (k 0).trans h1, (k 1).trans h2, (k 2).trans h3⟩
theorem sa3n {W u w' : World} {b : Nat} {v0 v1 v2 : Value} (h : SA3 W b v0 v1 v2 u) (hn : Below u.heap.size u w') (hb : b < W.heap.size) : SA3 W b v0 v1 v2 w' := by
  obtain ⟨h0, h1, h2, h3⟩ := h
  have hs := h0.size
  have k : ∀ j, w'.cell? ⟨b, j, none⟩ = u.cell? ⟨b, j, none⟩ := fun j => hn.cell (p := ⟨b, j, none⟩) (by show b < _; omega)
  exact ⟨h0.trans (hn.mono hs), (k 0).trans h1, (k 1).trans h2, (k 2).trans h3⟩
set_option maxRecDepth 100000 in
set_option maxHeartbeats 4000000 in
theorem pAdd_any (v : Value) (l : List En) (f keep : Int) (e : En) (w : World) (hl : RdE w w.heap.size v l) (hn : l.length ≤ 4398046510976) (hkw : -9223372036854775808 ≤ keep ∧ keep ≤ 9223372036854775807) (hcp : ∀ A m c, v = .slice A m c → m ≤ c) :
    Calls Try.prog 12 #[v, .int .i64 f, .int .i64 keep, .agg (enR e).toArray] w (GivesAd l f keep e w) := by
  obtain ⟨A, c, rfl⟩ := RdE.form hl
  have HL := Lib.hid hl
  clear hl
  obtain ⟨n, hn'⟩ : ∃ n, l.length = n := ⟨_, rfl⟩
  have HN := Lib.hid hn'
  rw [hn'] at hn HL ⊢
  have hnc : n ≤ c := by have := hcp _ _ _ rfl; omega
  clear hn' hcp
  obtain ⟨eq, heq⟩ : ∃ z, e.1 = z := ⟨_, rfl⟩
  obtain ⟨XE, hXE⟩ : ∃ z, strOf e.2.1 = z := ⟨_, rfl⟩
  obtain ⟨ea, hea⟩ : ∃ z, e.2.2 = z := ⟨_, rfl⟩
  have HXE := Lib.hid (show ([.int .i64 e.1, .string (strOf e.2.1), .int .i64 e.2.2] : List Value) = [.int .i64 eq, .string XE, .int .i64 ea] by rw [heq, hXE, hea])
  have HQE := Lib.hid heq
  unfold enR
  rw [HXE.out]
  clear heq hXE hea
  obtain ⟨W0, hW0⟩ : ∃ W0, W0 = w.alloc (.cells #[.int .i64 eq, .string XE, .int .i64 ea] 26) := ⟨_, rfl⟩
  have HB0 := Lib.hid (show Below w.heap.size w W0 by rw [hW0]; exact (Below.refl _ _).alloc (Nat.le_refl _) _)
  have HS0 := Lib.hid (show W0.heap.size = w.heap.size + 1 by rw [hW0]; simp)
  have HR0 := Lib.hid (show W0.heap[w.heap.size]? = some (.cells #[.int .i64 eq, .string XE, .int .i64 ea] 26 (0, 0)) by rw [hW0]; exact heap_alloc_new _ _)
  have HW0 := Lib.hid hW0
  clear hW0
  by_cases hk : keep ≤ 0
  · have p1 : decide (keep ≤ 0) = true := decide_eq_true hk
    have hc : cutS l keep = n + 1 := by unfold cutS; rw [HN.out]; omega
    have HO := Lib.hid (show outS l keep e = [] by unfold outS; rw [hc]; exact List.drop_eq_nil_of_le (by rw [List.length_append, HN.out]; exact Nat.le_refl _))
    have HF := Lib.hid (show flrS l f keep e = eq by
      unfold flrS
      rw [hc, if_neg (by omega), List.getD_eq_getElem?_getD, show n + 1 - 1 = n by omega, List.getElem?_append_right (by rw [HN.out]; exact Nat.le_refl _), HN.out, Nat.sub_self]
      exact HQE.out)
    clear hk hc
    obtain ⟨y0, y1, y2⟩ := row3 HR0.out
    go_enter Try.func12, Try.ntmps12
    go_upto_region 2 with (rw [← HW0.out])
    go_quiet (fail)
    go_wp2_with fail
    go_ret2
    exact ⟨_, by rw [HF.out]; rfl, by rw [HO.out]; exact World.ownsRow_nil _ _ _ _, bdN HB0.out _⟩
  · have p1 : decide (keep ≤ 0) = false := decide_eq_false hk
    obtain ⟨G, hG⟩ : ∃ G, cutS l keep = G := ⟨_, rfl⟩
    have hGn : G ≤ n := by rw [← hG]; unfold cutS; rw [HN.out]; omega
    have hG2 : G = n + 1 - keep.toNat := by rw [← hG]; unfold cutS; rw [HN.out]
    have HG := Lib.hid hG
    have HOUT := Lib.hid (show l.drop G ++ [e] = outS l keep e by unfold outS; rw [hG, List.drop_append_of_le_length (by rw [HN.out]; exact hGn)])
    have mx : max (0 : Int) ((n : Int) + 1 - keep) = (G : Int) := by omega
    have k1 : 0 < keep := by omega
    clear hG
    have m1 : (n : Int) + 1 - keep ≤ (G : Int) := by omega
    have HCC := Lib.hid (fun (X : World) (g1 g2 c' : Nat) (A' : Option Addr) (hX : Below w.heap.size w X) (hA : ∀ ad, A = some ad → G < n → A' = some (ad.add (G * 3)))
      (h1 : X.heap[g1]? = some (.cells #[.int .i64 eq, .string XE, .int .i64 ea] 26 (0, 0))) (h2 : X.heap[g2]? = some (.cells #[.slice A' (n - G) c', .slice (some ⟨g1, 0, none⟩) 1 1] 22 (0, 0))) =>
      (concatE_any g2 2 (n - G) 1 c' 1 A' (some ⟨g1, 0, none⟩) (l.drop G) [e] X (rde_drop (RdR.more (HL.out.below hX) hX.size) hGn A' c' hA)
        (rd_block (rows := enC [e]) h1 (fun r hr => by obtain ⟨q, -, rfl⟩ := List.mem_map.1 hr; rfl) (by rw [show enC [e] = [[.int .i64 eq, .string XE, .int .i64 ea]] from congrArg (fun z => [z]) HXE.out]; rfl) (Array.getElem?_eq_some_iff.1 h1).1) ((cell_of_row X g2 0 _ _ _ h2).trans rfl) ((cell_of_row X g2 1 _ _ _ h2).trans rfl) (Array.getElem?_eq_some_iff.1 h2).1 (by omega) (by omega)))
    rw [HOUT.out] at HCC
    by_cases hg0 : 0 < G
    · have p2 : decide ((G : Int) > 0) = true := decide_eq_true (by omega)
      have p3 : decide (0 < G) = true := decide_eq_true hg0
      obtain ⟨q, hq⟩ : ∃ q, G = q + 1 := ⟨G - 1, by omega⟩
      have i2 : (G : Int) - 1 = (q : Int) := by omega
      have i4 : (0 : Int) ≤ (q : Int) := by omega
      have i5 : (q : Int) < (n : Int) := by omega
      have i3 : ((q : Int)).toNat = q := by omega
      have hql : q < l.length := by rw [HN.out]; omega
      obtain ⟨g, o, c', e1, hgl, a0, -⟩ := RdE.at_ HL.out HB0.out hql
      injection e1 with e1 z1 z2
      subst e1 z2
      clear z1
      have HF := Lib.hid (show flrS l f keep e = l[q].1 by
        unfold flrS
        rw [HG.out, if_neg (by omega), List.getD_eq_getElem?_getD, show G - 1 = q by omega, List.getElem?_append_left hql, List.getElem?_eq_getElem hql]; rfl)
      generalize l[q].1 = fz at a0 HF
      clear hg0 hG2 hq hql
      go_enter Try.func12, Try.ntmps12
      obtain ⟨y0, y1, y2⟩ := row3 HR0.out
      have hlb : w.heap.size < W0.heap.size := by rw [HS0.out]; omega
      have hbd : Below W0.heap.size W0 W0.drew := (Below.refl _ _).drew
      have hbx : ∀ o1 o2, Below w.heap.size w ((W0.alloc o1).alloc o2).drew := fun o1 o2 => ((HB0.out.alloc HB0.out.size _).alloc (by have := HB0.out.size; simp; omega) _).drew
      have hx1 : ∀ o1 o2, ((W0.alloc o1).alloc o2).drew.heap[W0.heap.size]? = some o1 := fun o1 o2 => (Below.heap_alloc _ _ _ (by simp)).trans (heap_alloc_new W0 o1)
      have hx2 : ∀ o1 o2, ((W0.alloc o1).alloc o2).drew.heap[W0.heap.size + 1]? = some o2 := fun o1 o2 => by have h := heap_alloc_new (W0.alloc o1) o2; rw [World.size_alloc] at h; exact h
      by_cases hcG : c = G
      · go_upto_region 5 with (rw [← HW0.out])
        go_wp2_with fail
        go_region_held3 (SA3 W0 w.heap.size (.int .i64 eq) (.string XE) (.int .i64 ea)) (first | exact sa3 (by assumption) hlb | exact sa3n (by assumption) hb hlb | exact ⟨hbd, y0, y1, y2⟩ | go_keep) ((go_at_call 22; refine (HCC.out _ W0.heap.size (W0.heap.size + 1) _ _ (hbx _ _) (fun ad h1 h2 => by first | omega | (rw [h1]; rfl) | (injection h1 with h1; subst h1; unfold Addr.add; simp; omega)) (hx1 _ _) (hx2 _ _)).mono ?_; rintro e' w1 ⟨v1, rfl, hown, hb⟩))
        go_wp2_with fail
        go_ret2
        exact ⟨_, by rw [HF.out]; rfl, own_dn3 hown (by have := (hbx (.cells #[] 0) (.cells #[] 0)).size; simpa using this), (hbx _ _).trans (hb.mono (hbx _ _).size)⟩
      · go_upto_region 5 with (rw [← HW0.out])
        go_wp2_with fail
        go_region_held3 (SA3 W0 w.heap.size (.int .i64 eq) (.string XE) (.int .i64 ea)) (first | exact sa3 (by assumption) hlb | exact sa3n (by assumption) hb hlb | exact ⟨hbd, y0, y1, y2⟩ | go_keep) ((go_at_call 22; refine (HCC.out _ W0.heap.size (W0.heap.size + 1) _ _ (hbx _ _) (fun ad h1 h2 => by first | omega | (rw [h1]; rfl) | (injection h1 with h1; subst h1; unfold Addr.add; simp; omega)) (hx1 _ _) (hx2 _ _)).mono ?_; rintro e' w1 ⟨v1, rfl, hown, hb⟩))
        go_wp2_with fail
        go_ret2
        exact ⟨_, by rw [HF.out]; rfl, own_dn3 hown (by have := (hbx (.cells #[] 0) (.cells #[] 0)).size; simpa using this), (hbx _ _).trans (hb.mono (hbx _ _).size)⟩
    · have p2 : decide ((G : Int) > 0) = false := decide_eq_false (by omega)
      have p3 : decide (0 < G) = false := decide_eq_false hg0
      have HF := Lib.hid (show flrS l f keep e = f by unfold flrS; rw [HG.out, if_pos (by omega)])
      clear hg0 hG2
      go_enter Try.func12, Try.ntmps12
      obtain ⟨y0, y1, y2⟩ := row3 HR0.out
      have hlb : w.heap.size < W0.heap.size := by rw [HS0.out]; omega
      have hbd : Below W0.heap.size W0 W0.drew := (Below.refl _ _).drew
      have hbx : ∀ o1 o2, Below w.heap.size w ((W0.alloc o1).alloc o2).drew := fun o1 o2 => ((HB0.out.alloc HB0.out.size _).alloc (by have := HB0.out.size; simp; omega) _).drew
      have hx1 : ∀ o1 o2, ((W0.alloc o1).alloc o2).drew.heap[W0.heap.size]? = some o1 := fun o1 o2 => (Below.heap_alloc _ _ _ (by simp)).trans (heap_alloc_new W0 o1)
      have hx2 : ∀ o1 o2, ((W0.alloc o1).alloc o2).drew.heap[W0.heap.size + 1]? = some o2 := fun o1 o2 => by have h := heap_alloc_new (W0.alloc o1) o2; rw [World.size_alloc] at h; exact h
      by_cases hcG : c = G
      · go_upto_region 6 with (rw [← HW0.out])
        go_region_held3 (SA3 W0 w.heap.size (.int .i64 eq) (.string XE) (.int .i64 ea)) (first | exact sa3 (by assumption) hlb | exact sa3n (by assumption) hb hlb | exact ⟨hbd, y0, y1, y2⟩ | go_keep) ((go_at_call 22; refine (HCC.out _ W0.heap.size (W0.heap.size + 1) _ _ (hbx _ _) (fun ad h1 h2 => by first | omega | (rw [h1]; rfl) | (injection h1 with h1; subst h1; unfold Addr.add; simp; omega)) (hx1 _ _) (hx2 _ _)).mono ?_; rintro e' w1 ⟨v1, rfl, hown, hb⟩))
        go_wp2_with fail
        go_ret2
        exact ⟨_, by rw [HF.out]; rfl, own_dn3 hown (by have := (hbx (.cells #[] 0) (.cells #[] 0)).size; simpa using this), (hbx _ _).trans (hb.mono (hbx _ _).size)⟩
      · go_upto_region 6 with (rw [← HW0.out])
        go_region_held3 (SA3 W0 w.heap.size (.int .i64 eq) (.string XE) (.int .i64 ea)) (first | exact sa3 (by assumption) hlb | exact sa3n (by assumption) hb hlb | exact ⟨hbd, y0, y1, y2⟩ | go_keep) ((go_at_call 22; refine (HCC.out _ W0.heap.size (W0.heap.size + 1) _ _ (hbx _ _) (fun ad h1 h2 => by first | omega | (rw [h1]; rfl) | (injection h1 with h1; subst h1; unfold Addr.add; simp; omega)) (hx1 _ _) (hx2 _ _)).mono ?_; rintro e' w1 ⟨v1, rfl, hown, hb⟩))
        go_wp2_with fail
        go_ret2
        exact ⟨_, by rw [HF.out]; rfl, own_dn3 hown (by have := (hbx (.cells #[] 0) (.cells #[] 0)).size; simpa using this), (hbx _ _).trans (hb.mono (hbx _ _).size)⟩
end Go.Proofs.Ytfdibmcjjclgkaa.Tl
