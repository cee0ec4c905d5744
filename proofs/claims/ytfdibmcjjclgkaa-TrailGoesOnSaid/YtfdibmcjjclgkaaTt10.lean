/- Merged: TlS2 TlS3 TlS4 TlS6. -/
import Derived.Test.YtfdibmcjjclgkaaTt3
import Derived.Sort.WalkB2
import Derived.Sort.WalkB12
import Derived.Deep.LoopGhost
import Derived.BigRegion
import Derived.BigQuiet
namespace Go.Proofs.Ytfdibmcjjclgkaa.Tl
open Go.Proofs Go.RowKit Go.Sort Go.Shelf Go.Lib
open Go.Proofs.Ytfdibmcjjclgkaa.Utf
open Go.Proofs.Ytfdibmcjjclgkaa.Tr

def C4 (W : World) (b o : Nat) (x : P4) : Prop :=
  (W.cell? ⟨b, o, none⟩ = some (.string (strOf x.nm)) ∧ W.cell? ⟨b, o + 1, none⟩ = some (.bool x.k) ∧ W.cell? ⟨b, o + 2, none⟩ = some (.bool x.n) ∧ W.cell? ⟨b, o + 3, none⟩ = some (.int .i64 x.s)) ∧
  (W.frozen? ⟨b, o, none⟩ = false ∧ W.frozen? ⟨b, o + 1, none⟩ = false ∧ W.frozen? ⟨b, o + 2, none⟩ = false ∧ W.frozen? ⟨b, o + 3, none⟩ = false)
theorem cells4 {w0 W : World} {blk off : Nat} {d0 dk : Array P4} (h : SWK encP 4 w0 blk off dk W) (R : RowK encP 4 w0 blk off d0) (hs : dk.size = d0.size) (i : Nat) (hi : i < dk.size) : C4 W blk (off + i * 4) dk[i]! := by
  have H := h.holds R.hblk R.hH hs
  have g := fun c (hc : c < 4) => H.cell hi hc
  exact ⟨⟨(g 0 (by omega)).1, (g 1 (by omega)).1, (g 2 (by omega)).1, (g 3 (by omega)).1⟩, ⟨(g 0 (by omega)).2, (g 1 (by omega)).2, (g 2 (by omega)).2, (g 3 (by omega)).2⟩⟩

def put4 (W : World) (b o : Nat) (x : P4) : World :=
  (((W.setCell ⟨b, o, none⟩ (.string (strOf x.nm))).setCell ⟨b, o + 1, none⟩ (.bool x.k)).setCell ⟨b, o + 2, none⟩ (.bool x.n)).setCell ⟨b, o + 3, none⟩ (.int .i64 x.s)
theorem put4_eq (W : World) (b o : Nat) (x : P4) : W.setCells b o (encP x) = put4 W b o x := rfl
theorem set_drew4 (w : World) (a : Addr) (v : Value) : w.drew.setCell a v = (w.setCell a v).drew := rfl
theorem put4_drew (W : World) (b o : Nat) (x : P4) : put4 W.drew b o x = (put4 W b o x).drew := by
  unfold put4
  rw [set_drew4, set_drew4, set_drew4, set_drew4]
theorem swp4 {w0 W : World} {blk off : Nat} {d0 dk : Array P4} (h : SWK encP 4 w0 blk off dk W) (R : RowK encP 4 w0 blk off d0) (i j : Nat) (hi : i < dk.size) (hj : j < dk.size) : SWK encP 4 w0 blk off (swp dk i j) (put4 (put4 W blk (off + i * 4) dk[j]!) blk (off + j * 4) dk[i]!).drew := by
  have := h.swapped R i j hi hj
  rw [put4_eq, put4_eq, put4_drew, put4_drew] at this
  exact this

set_option maxRecDepth 1000000 in
set_option maxHeartbeats 16000000 in
theorem swapRange_any4 (blk off cap a b n : Nat) (fv : Value) (d0 d : Array P4) (w0 w : World) (R : RowK encP 4 w0 blk off d0) (hs : d.size = d0.size) (S : SWK encP 4 w0 blk off d w) (h1 : a + n ≤ b) (h2 : b + n ≤ d.size) (hsz : d.size < 4611686018427387904) :
    Calls Try.prog 37 #[.slice (some ⟨blk, off, none⟩) d.size cap, .int .i64 a, .int .i64 b, .int .i64 n, fv] w fun e w' => e = .returned (.tuple #[]) ∧ SWK encP 4 w0 blk off (swapR d a b n) w' := by
  have S0 : Aside (SWK encP 4 w0 blk off d w) := S
  clear S
  go_enter Try.func37, Try.ntmps37
  go_wp2_with fail
  go_loopw [10] (fun i wr => ∃ (k : Nat) (dk : Array P4), i = .int .i64 k ∧ k ≤ n ∧ dk.size = d.size ∧ Aside (dk = swapR d a b k) ∧ Aside (SWK encP 4 w0 blk off dk wr)) (fun i _ => n - (intOf i).toNat)
  case atStart => exact ⟨0, d, rfl, by omega, rfl, (swapR_zero d a b).symm, S0⟩
  case round =>
    clear S0
    obtain ⟨k, dk, rfl, hk, hds, E, S⟩ := hrel
    by_cases hlt : k < n
    · have t1 : decide ((k : Int) < (n : Int)) = true := decide_eq_true (by omega)
      have t2 : decide (k < n) = true := decide_eq_true hlt
      obtain ⟨i, hi⟩ : ∃ i, i = a + k := ⟨_, rfl⟩
      obtain ⟨j, hj⟩ : ∃ i, i = b + k := ⟨_, rfl⟩
      have wi : IntKind.i64.wrap ((a : Int) + (k : Int)) = (i : Int) := by rw [IntKind.wrap_i64]; omega
      have wj : IntKind.i64.wrap ((b : Int) + (k : Int)) = (j : Int) := by rw [IntKind.wrap_i64]; omega
      have pi : (0 : Int) ≤ (i : Int) := by omega
      have pj : (0 : Int) ≤ (j : Int) := by omega
      have bi : (i : Int) < (d.size : Int) := by omega
      have bj : (j : Int) < (d.size : Int) := by omega
      have ei : ((i : Int)).toNat = i := by omega
      have ej : ((j : Int)).toNat = j := by omega
      obtain ⟨x, hx⟩ : ∃ x, x = dk[i]! := ⟨_, rfl⟩
      obtain ⟨y, hy⟩ : ∃ x, x = dk[j]! := ⟨_, rfl⟩
      have S2 := swp4 S.out R i j (by omega) (by omega)
      have kx := cells4 S.out R (by omega) i (by omega)
      have ky := cells4 S.out R (by omega) j (by omega)
      rw [← hx] at kx S2
      rw [← hy] at ky S2
      clear hx hy
      obtain ⟨xx, xk, xn, xs, xg⟩ := x
      obtain ⟨yx, yk, yn, ys, yg⟩ := y
      obtain ⟨w2, hw2⟩ : ∃ w2, w2 = (put4 (put4 wr blk (off + i * 4) ⟨yx, yk, yn, ys, yg⟩) blk (off + j * 4) ⟨xx, xk, xn, xs, xg⟩).drew := ⟨_, rfl⟩
      rw [← hw2] at S2
      simp only [C4, put4] at kx ky hw2
      generalize strOf xx = X at *
      generalize strOf yx = Y at *
      obtain ⟨⟨a0, a1, a2, a3⟩, ⟨f0, f1, f2, f3⟩⟩ := kx
      obtain ⟨⟨b0, b1, b2, b3⟩, ⟨g0, g1, g2, g3⟩⟩ := ky
      have S3 : Aside _ := S2
      have HW2 := Lib.hid hw2
      clear S2 S hw2
      have hij : i ≠ j := by omega
      have EI : Aside (i = a + k) := hi
      have EJ : Aside (j = b + k) := hj
      clear hi hj
      go_wp2_with fail
      go_big_region
      rw [← HW2.out]
      clear a0 a1 a2 a3 b0 b1 b2 b3 f0 f1 f2 f3 g0 g1 g2 g3
      go_wp2
      go_roundw
      case rel => exact ⟨k + 1, swp dk i j, by go_num, by omega, by rw [size_swp]; exact hds, (show _ = _ by rw [EI.out, EJ.out, E.out]; exact swapR_succ (by omega) (by omega)), S3.out⟩
      case measure => simp [intOf]; omega
    · have t1 : decide ((k : Int) < (n : Int)) = false := decide_eq_false (by omega)
      have t2 : decide (k < n) = false := decide_eq_false hlt
      obtain rfl : n = k := by omega
      go_wp2
      go_end0
      exact ⟨rfl, by rw [← E.out]; exact S.out⟩
end Go.Proofs.Ytfdibmcjjclgkaa.Tl
namespace Go.Proofs.Ytfdibmcjjclgkaa.Tl
open Go.Proofs Go.RowKit Go.Sort Go.Shelf Go.Lib
open Go.Proofs.Ytfdibmcjjclgkaa.Utf
open Go.Proofs.Ytfdibmcjjclgkaa.Tr

set_option maxRecDepth 1000000 in
set_option maxHeartbeats 16000000 in
theorem rotate_any4 (blk off cap a m b : Nat) (fv : Value) (d0 d : Array P4) (w0 w : World) (R : RowK encP 4 w0 blk off d0) (hs : d.size = d0.size) (S : SWK encP 4 w0 blk off d w) (h1 : a < m) (h2 : m < b) (h3 : b ≤ d.size) (hsz : d.size < 4611686018427387904) :
    Calls Try.prog 36 #[.slice (some ⟨blk, off, none⟩) d.size cap, .int .i64 a, .int .i64 m, .int .i64 b, fv] w fun e w' => e = .returned (.tuple #[]) ∧ SWK encP 4 w0 blk off (rotD d a m b) w' ∧ PermIn a b d (rotD d a m b) := by
  have HS : Aside _ := fun (dk : Array P4) (wr : World) (x y n : Nat) (hd : dk.size = d.size) (S : SWK encP 4 w0 blk off dk wr) (g1 : x + n ≤ y) (g2 : y + n ≤ d.size) =>
    (show Calls Try.prog 37 #[.slice (some ⟨blk, off, none⟩) d.size cap, .int .i64 x, .int .i64 y, .int .i64 n, fv] wr fun e w' => e = .returned (.tuple #[]) ∧ SWK encP 4 w0 blk off (swapR dk x y n) w' from by
      have := swapRange_any4 blk off cap x y n fv d0 dk w0 wr R (hd.trans hs) S g1 (by omega) (by omega)
      rw [hd] at this
      exact this)
  have S0 : Aside (SWK encP 4 w0 blk off d w) := S
  clear S hs R
  go_enter Try.func36, Try.ntmps36
  go_wp2_with fail
  go_loopw [10, 11] (fun si sj wr => ∃ (i j : Nat) (dk : Array P4), si = .int .i64 i ∧ sj = .int .i64 j ∧ 1 ≤ i ∧ i ≤ m - a ∧ 1 ≤ j ∧ j ≤ b - m ∧ dk.size = d.size ∧ Aside (rotD dk (m - i) m (m + j) = rotD d a m b) ∧ Aside (PermIn a b d dk) ∧ Aside (SWK encP 4 w0 blk off dk wr)) (fun si sj _ => (intOf si).toNat + (intOf sj).toNat)
  case atStart => exact ⟨m - a, b - m, d, by go_num, by go_num, by omega, by omega, by omega, by omega, rfl, (show _ = _ by rw [show m - (m - a) = a by omega, show m + (b - m) = b by omega]), permIn_refl d a b, S0⟩
  case round =>
    clear S0
    obtain ⟨i, j, dk, rfl, rfl, i1, i2, j1, j2, hds, E, Pm, S⟩ := hrel
    by_cases he : i = j
    · subst he
      have t1 : ((i : Int) != (i : Int)) = false := by simp
      have hc := HS.out dk wr (m - i) m i hds S.out (by omega) (by omega)
      obtain ⟨mi, hmi⟩ : ∃ z, z = m - i := ⟨_, rfl⟩
      have wm : IntKind.i64.wrap ((m : Int) - (i : Int)) = (mi : Int) := by rw [IntKind.wrap_i64]; omega
      rw [← hmi] at hc
      have HM : Aside (mi = m - i) := hmi
      clear hmi
      have HCC := Lib.hid hc; clear hc
      go_wp2_with fail
      refine HCC.out.mono ?_
      rintro e w' ⟨rfl, hS⟩
      have HSS := Lib.hid hS; clear hS
      go_wp2_with fail
      have hS := HSS.out
      go_end0
      rw [HM.out, ← rotD_end (by omega)] at hS
      have hp := permIn_trans _ _ _ _ _ Pm.out (swapR_perm (d := dk) (a := m - i) (b := m) (lo := a) (hi := b) i (by omega) (by omega) (by omega) (by omega))
      rw [← rotD_end (by omega), E.out] at hp
      rw [E.out] at hS
      exact ⟨rfl, hS, hp⟩
    · have t1 : ((i : Int) != (j : Int)) = true := by rw [bne_iff_ne]; omega
      by_cases hg : j < i
      · have t2 : decide ((j : Int) < (i : Int)) = true := decide_eq_true (by omega)
        have t3 : decide (j < i) = true := decide_eq_true hg
        have hc := HS.out dk wr (m - i) m j hds S.out (by omega) (by omega)
        obtain ⟨mi, hmi⟩ : ∃ z, z = m - i := ⟨_, rfl⟩
        have wm : IntKind.i64.wrap ((m : Int) - (i : Int)) = (mi : Int) := by rw [IntKind.wrap_i64]; omega
        rw [← hmi] at hc
        have HM : Aside (mi = m - i) := hmi
        clear hmi
        have HCC := Lib.hid hc; clear hc
        go_wp2_with fail
        refine HCC.out.mono ?_
        rintro e w' ⟨rfl, hS⟩
        have HSS := Lib.hid hS; clear hS
        go_wp2_with fail
        have hS := HSS.out
        rw [HM.out] at hS
        go_roundw
        case rel =>
          exact ⟨i - j, j, _, by go_num, rfl, by omega, by omega, by omega, by omega, by rw [swapR_size]; exact hds, (show _ = _ by rw [rotD_gt (by omega) (by omega) hg]; exact E.out),
            permIn_trans _ _ _ _ _ Pm.out (swapR_perm (d := dk) (a := m - i) (b := m) (lo := a) (hi := b) j (by omega) (by omega) (by omega) (by omega)), hS⟩
        case measure => simp [intOf]; omega
      · have t2 : decide ((j : Int) < (i : Int)) = false := decide_eq_false (by omega)
        have t3 : decide (j < i) = false := decide_eq_false hg
        have hc := HS.out dk wr (m - i) (m + j - i) i hds S.out (by omega) (by omega)
        obtain ⟨mi, hmi⟩ : ∃ z, z = m - i := ⟨_, rfl⟩
        obtain ⟨mj, hmj⟩ : ∃ z, z = m + j - i := ⟨_, rfl⟩
        obtain ⟨mk, hmk⟩ : ∃ z, z = m + j := ⟨_, rfl⟩
        have wm : IntKind.i64.wrap ((m : Int) - (i : Int)) = (mi : Int) := by rw [IntKind.wrap_i64]; omega
        have wk : IntKind.i64.wrap ((m : Int) + (j : Int)) = (mk : Int) := by rw [IntKind.wrap_i64]; omega
        have wj : IntKind.i64.wrap ((mk : Int) - (i : Int)) = (mj : Int) := by rw [IntKind.wrap_i64]; omega
        rw [← hmi, ← hmj] at hc
        have HM : Aside (mi = m - i) := hmi
        have HJ : Aside (mj = m + j - i) := hmj
        clear hmi hmj hmk
        have HCC := Lib.hid hc; clear hc
        go_wp2_with fail
        refine HCC.out.mono ?_
        rintro e w' ⟨rfl, hS⟩
        have HSS := Lib.hid hS; clear hS
        go_wp2_with fail
        have hS := HSS.out
        rw [HM.out, HJ.out] at hS
        go_roundw
        case rel =>
          exact ⟨i, j - i, _, rfl, by go_num, by omega, by omega, by omega, by omega, by rw [swapR_size]; exact hds, (show _ = _ by rw [rotD_lt (by omega) (by omega) (by omega)]; exact E.out),
            permIn_trans _ _ _ _ _ Pm.out (swapR_perm (d := dk) (a := m - i) (b := m + j - i) (lo := a) (hi := b) i (by omega) (by omega) (by omega) (by omega)), hS⟩
        case measure => simp [intOf]; omega
end Go.Proofs.Ytfdibmcjjclgkaa.Tl
namespace Go.Proofs.Ytfdibmcjjclgkaa.Tl
open Go.Proofs Go.RowKit Go.Sort Go.Shelf Go.Lib
open Go.Proofs.Ytfdibmcjjclgkaa.Utf
open Go.Proofs.Ytfdibmcjjclgkaa.Tr

def C4g (W : World) (b o : Nat) (x : P4) : Prop :=
  (∀ n os, (grow (W.drewN n) os).cell? ⟨b, o, none⟩ = some (.string (strOf x.nm))) ∧ (∀ n os, (grow (W.drewN n) os).cell? ⟨b, o + 1, none⟩ = some (.bool x.k)) ∧ (∀ n os, (grow (W.drewN n) os).cell? ⟨b, o + 2, none⟩ = some (.bool x.n)) ∧ (∀ n os, (grow (W.drewN n) os).cell? ⟨b, o + 3, none⟩ = some (.int .i64 x.s))
theorem cells4g {w0 W : World} {blk off : Nat} {d0 dk : Array P4} (h : SWK encP 4 w0 blk off dk W) (R : RowK encP 4 w0 blk off d0) (hs : dk.size = d0.size) (i : Nat) (hi : i < dk.size) : C4g W blk (off + i * 4) dk[i]! := by
  have g := fun n os => (cells4 (h.grown n os) R hs i hi).1
  exact ⟨fun n os => (g n os).1, fun n os => (g n os).2.1, fun n os => (g n os).2.2.1, fun n os => (g n os).2.2.2⟩
theorem mixedOrd4 : Try.prog.follows .mixedOrders = true := by kernel_rfl

set_option maxRecDepth 1000000 in
set_option maxHeartbeats 16000000 in
/-- ONE ELEMENT ON THE LEFT -/
theorem symMerge_a4 (blk off cap a m b : Nat) (d0 d : Array P4) (w0 w : World) (R : RowK encP 4 w0 blk off d0) (hs : d.size = d0.size) (S : SWK encP 4 w0 blk off d w) (_h1 : a < m) (h2 : m < b) (h3 : b ≤ d.size) (hsz : d.size < 4611686018427387904)
    (s1 : SortedIn ltL a m d) (s2 : SortedIn ltL m b d) (xc : Crs a m b d) (hm : m = a + 1) :
    Calls Try.prog 35 #[.slice (some ⟨blk, off, none⟩) d.size cap, .int .i64 a, .int .i64 m, .int .i64 b, .func (.func 29) #[] #[]] w fun e w' => e = .returned (.tuple #[]) ∧ ∃ d', SWK encP 4 w0 blk off d' w' ∧ PermIn a b d d' ∧ SortedIn ltL a b d' := by
  have mixed := mixedOrd4
  have HS0 : Aside (d.size = d0.size) := hs
  have S0 : Aside (SWK encP 4 w0 blk off d w) := S
  have Q1 : Aside _ := s1
  have Q2 : Aside _ := s2
  have XC : Aside _ := xc
  have e58 : ∀ args w, (callFunc 29 args).run Try.prog w = .ok (.enter 29 args) w := enters_of Try.func29 (by kernel_rfl) rfl
  clear S hs s1 s2 xc
  have t1 : (((m : Int) - (a : Int)) == 1) = true := by rw [beq_iff_eq]; omega
  have t1b : (m : Int) - (a : Int) = 1 := by omega
  have HM : Aside (m = a + 1) := hm
  have hma : a + 1 ≤ m := by omega
  clear hm
  go_enter Try.func35, Try.ntmps35
  go_wp2_with fail
  go_loopw [10, 11] (fun si sj wr => ∃ i j : Nat, si = .int .i64 i ∧ sj = .int .i64 j ∧ m ≤ i ∧ i ≤ j ∧ j ≤ b ∧ Aside (SWK encP 4 w0 blk off d wr) ∧ Aside ((∀ x, a + 1 ≤ x → x < i → ltL d[x]! d[a]! = true) ∧ (∀ x, j ≤ x → x < b → ltL d[x]! d[a]! = false))) (fun si sj _ => (intOf sj).toNat - (intOf si).toNat)
  case atStart => exact ⟨m, b, rfl, rfl, by omega, by omega, by omega, S0, (show _ ∧ _ from ⟨fun x g1 g2 => by have := HM.out; omega, fun x g1 g2 => by omega⟩)⟩
  case round =>
    clear S0
    obtain ⟨i, j, rfl, rfl, hmi, hij, hjb, S, I⟩ := hrel
    by_cases hlt : i < j
    · have t2 : decide ((i : Int) < (j : Int)) = true := decide_eq_true (by omega)
      have t3 : decide (i < j) = true := decide_eq_true hlt
      obtain ⟨h, hhh⟩ : ∃ z, z = (i + j) / 2 := ⟨_, rfl⟩
      have wh : ((i : Int) + (j : Int)) / 2 = (h : Int) := by omega
      have loh : i ≤ h := by omega
      have uph : h < j := by omega
      clear hhh
      have pih : (0 : Int) ≤ (h : Int) := by omega
      have bih : (h : Int) < (d.size : Int) := by omega
      have eih : ((h : Int)).toNat = h := by omega
      have pia : (0 : Int) ≤ (a : Int) := by omega
      have bia : (a : Int) < (d.size : Int) := by omega
      have eia : ((a : Int)).toNat = a := by omega
      have hds : d.size = d0.size := HS0.out
      have ha : a < h := by omega
      cases hG : ltL d[h]! d[a]! with
      | true =>
        have HG : Aside _ := hG
        obtain ⟨x8, hx8⟩ : ∃ x, x = d[h]! := ⟨_, rfl⟩
        obtain ⟨y8, hy8⟩ : ∃ x, x = d[a]! := ⟨_, rfl⟩
        have kx8 := cells4g S.out R HS0.out h (by omega)
        have ky8 := cells4g S.out R HS0.out a (by omega)
        have hc8 := SWK.cmp (P := Try.prog) S.out (byLast_lays blk off d0.size w0) HS0.out x8 y8
        rw [← hx8] at kx8
        rw [← hy8] at ky8
        have hv8 : cfP x8 y8 < 0 := by rw [hx8, hy8]; exact (lt_cross (XC.out _ _ (by omega) (by omega) (by omega) (by omega))).1 hG
        have hd8 : decide (cfP x8 y8 < 0) = true := decide_eq_true hv8
        clear hx8 hy8
        generalize cfP x8 y8 = r8 at hc8 hv8 hd8
        obtain ⟨xx8, xk8, xn8, xs8, xg8⟩ := x8
        obtain ⟨yx8, yk8, yn8, ys8, yg8⟩ := y8
        simp only [encP] at hc8
        simp only [C4g] at kx8 ky8
        generalize strOf xx8 = X8 at *
        generalize strOf yx8 = Y8 at *
        obtain ⟨a08, a18, a28, a38⟩ := kx8
        obtain ⟨b08, b18, b28, b38⟩ := ky8
        clear hG hds
        go_wp2_with fail
        go_quiet_grown (first | (go_at_fn 29; refine Calls.grown_of (hc8 _ _)))
        have S2 : Aside (SWK encP 4 w0 blk off d (grow (wr.drewN nq) osq)) := S.out.grown nq osq
        clear a08 a18 a28 a38 b08 b18 b28 b38 hc8 S
        generalize grow (wr.drewN nq) osq = w2 at S2 ⊢
        clear nq osq
        go_wp2
        go_roundw
        case rel =>
          refine ⟨h + 1, j, by go_num, rfl, by omega, by omega, hjb, S2, ?_⟩
          refine (show _ ∧ _ from ⟨fun x g1 g2 => ?_, I.out.2⟩)
          rcases Nat.lt_or_ge x h with c | c
          · have k := sorted_le ltL_swo Q2.out (show m ≤ x by have := HM.out; omega) (show x ≤ h by omega) (by omega)
            cases hq : ltL d[x]! d[a]! with
            | true => rfl
            | false => have := ltL_swo.ntrans _ _ _ k hq; rw [HG.out] at this; cases this
          · obtain rfl : x = h := by omega
            exact HG.out
        case measure => simp [intOf]; omega
      | false =>
        have HG : Aside _ := hG
        obtain ⟨x8, hx8⟩ : ∃ x, x = d[h]! := ⟨_, rfl⟩
        obtain ⟨y8, hy8⟩ : ∃ x, x = d[a]! := ⟨_, rfl⟩
        have kx8 := cells4g S.out R HS0.out h (by omega)
        have ky8 := cells4g S.out R HS0.out a (by omega)
        have hc8 := SWK.cmp (P := Try.prog) S.out (byLast_lays blk off d0.size w0) HS0.out x8 y8
        rw [← hx8] at kx8
        rw [← hy8] at ky8
        have hv8 : ¬ cfP x8 y8 < 0 := by rw [hx8, hy8]; exact ge_cross (XC.out _ _ (by omega) (by omega) (by omega) (by omega)) hG
        have hd8 : decide (cfP x8 y8 < 0) = false := decide_eq_false hv8
        clear hx8 hy8
        generalize cfP x8 y8 = r8 at hc8 hv8 hd8
        obtain ⟨xx8, xk8, xn8, xs8, xg8⟩ := x8
        obtain ⟨yx8, yk8, yn8, ys8, yg8⟩ := y8
        simp only [encP] at hc8
        simp only [C4g] at kx8 ky8
        generalize strOf xx8 = X8 at *
        generalize strOf yx8 = Y8 at *
        obtain ⟨a08, a18, a28, a38⟩ := kx8
        obtain ⟨b08, b18, b28, b38⟩ := ky8
        clear hG hds
        go_wp2_with fail
        go_quiet_grown (first | (go_at_fn 29; refine Calls.grown_of (hc8 _ _)))
        have S2 : Aside (SWK encP 4 w0 blk off d (grow (wr.drewN nq) osq)) := S.out.grown nq osq
        clear a08 a18 a28 a38 b08 b18 b28 b38 hc8 S
        generalize grow (wr.drewN nq) osq = w2 at S2 ⊢
        clear nq osq
        go_wp2
        go_roundw
        case rel =>
          refine ⟨i, h, rfl, rfl, hmi, by omega, by omega, S2, ?_⟩
          refine (show _ ∧ _ from ⟨I.out.1, fun x g1 g2 => ?_⟩)
          have k := sorted_le ltL_swo Q2.out (show m ≤ h by omega) g1 g2
          exact ltL_swo.ntrans _ _ _ k HG.out
        case measure => simp [intOf]; omega
    · obtain rfl : j = i := by omega
      have t2 : decide ((j : Int) < (j : Int)) = false := decide_eq_false (by omega)
      have t3 : decide (j < j) = false := decide_eq_false (by omega)
      have S1 : Aside _ := S
      clear S
      go_wp2_with fail
      go_loopw [13] (fun sk wr2 => ∃ (k : Nat) (dk : Array P4), sk = .int .i64 k ∧ a ≤ k ∧ k + 1 ≤ j ∧ dk.size = d.size ∧ Aside (dk = rotD d a (a + 1) (k + 1)) ∧ Aside (PermIn a b d dk) ∧ Aside (SWK encP 4 w0 blk off dk wr2)) (fun sk _ => j - (intOf sk).toNat)
      case atStart => exact ⟨a, d, rfl, by omega, by omega, rfl, (rotD_one d a).symm, permIn_refl d a b, S1⟩
      case round =>
        clear S1
        obtain ⟨k, dk, rfl, hak, hkj, hdk, E, Pm, S⟩ := hrel
        by_cases hlt2 : k + 1 < j
        · obtain ⟨c, hc⟩ : ∃ c, c = k + 1 := ⟨_, rfl⟩
          have wc : IntKind.i64.wrap ((k : Int) + 1) = (c : Int) := by rw [IntKind.wrap_i64]; omega
          have wc2 : (k : Int) + 1 = (c : Int) := by omega
          have t4 : decide ((k : Int) < (j : Int) - 1) = true := decide_eq_true (by omega)
          have t4b : (k : Int) < (j : Int) - 1 := by omega
          have hckl : k < c := by omega
          have hcj : c < j := by omega
          have EC : Aside (c = k + 1) := hc
          clear hc
          have pic : (0 : Int) ≤ (c : Int) := by omega
          have bic : (c : Int) < (d.size : Int) := by omega
          have eic : ((c : Int)).toNat = c := by omega
          have pik : (0 : Int) ≤ (k : Int) := by omega
          have bik : (k : Int) < (d.size : Int) := by omega
          have eik : ((k : Int)).toNat = k := by omega
          obtain ⟨x9, hx9⟩ : ∃ x, x = dk[k]! := ⟨_, rfl⟩
          obtain ⟨y9, hy9⟩ : ∃ x, x = dk[c]! := ⟨_, rfl⟩
          have SS9 := swp4 S.out R k c (by omega) (by omega)
          have kx9 := cells4 S.out R (by have := HS0.out; omega) k (by omega)
          have ky9 := cells4 S.out R (by have := HS0.out; omega) c (by omega)
          rw [← hx9] at kx9 SS9
          rw [← hy9] at ky9 SS9
          clear hx9 hy9
          obtain ⟨xx9, xk9, xn9, xs9, xg9⟩ := x9
          obtain ⟨yx9, yk9, yn9, ys9, yg9⟩ := y9
          obtain ⟨w2, hw9⟩ : ∃ w2, w2 = (put4 (put4 wr blk (off + k * 4) ⟨yx9, yk9, yn9, ys9, yg9⟩) blk (off + c * 4) ⟨xx9, xk9, xn9, xs9, xg9⟩).drew := ⟨_, rfl⟩
          rw [← hw9] at SS9
          simp only [C4, put4] at kx9 ky9 hw9
          generalize strOf xx9 = X9 at *
          generalize strOf yx9 = Y9 at *
          obtain ⟨⟨a09, a19, a29, a39⟩, ⟨f09, f19, f29, f39⟩⟩ := kx9
          obtain ⟨⟨b09, b19, b29, b39⟩, ⟨g09, g19, g29, g39⟩⟩ := ky9
          have S2 : Aside _ := SS9
          have HW9 := Lib.hid hw9
          clear SS9 S hw9
          have hij9 : k ≠ c := by omega
          have HDK : Aside (dk.size = d.size) := hdk
          clear hdk
          go_wp2_with fail
          go_big_region
          rw [← HW9.out]
          clear a09 a19 a29 a39 b09 b19 b29 b39 f09 f19 f29 f39 g09 g19 g29 g39 HW9
          go_wp2
          go_roundw
          case rel =>
            have hdk := HDK.out
            refine ⟨c, swp dk k c, by go_num, by omega, by omega, by rw [size_swp]; exact hdk, (show _ = _ by rw [EC.out, E.out]; exact rotD_up hak (by omega)), (show PermIn _ _ _ _ from permIn_trans _ _ _ _ _ Pm.out (swp_permIn dk a b k c (by omega) (by omega) (by omega) (by omega) (by omega))), S2⟩
          case measure => simp [intOf]; omega
        · have t4 : decide ((k : Int) < (j : Int) - 1) = false := decide_eq_false (by omega)
          have t4b : ¬ (k : Int) < (j : Int) - 1 := by omega
          have hkj2 : k + 1 = j := by omega
          have HKJ : Aside (k + 1 = j) := hkj2
          clear hkj2
          go_wp2
          (try simp only [Exit.inBlock, Exit.then]); refine bodyPost_ret (results_none rfl _ _ _) rfl ?_
          refine ⟨rfl, dk, S.out, Pm.out, ?_⟩
          rw [E.out, HKJ.out]
          exact sorted_up ltL_swo (by omega) (by omega) h3 (by rw [← HM.out]; exact Q2.out) I.out.1 I.out.2
end Go.Proofs.Ytfdibmcjjclgkaa.Tl
namespace Go.Proofs.Ytfdibmcjjclgkaa.Tl
open Go.Proofs Go.RowKit Go.Sort Go.Shelf Go.Lib
open Go.Proofs.Ytfdibmcjjclgkaa.Utf
open Go.Proofs.Ytfdibmcjjclgkaa.Tr

section
variable {lt : P4 → P4 → Bool}
theorem cut_done4 (hS : SWO lt) {d d2 d3 : Array P4} {a m b mid s0 r0 st : Nat} (hmid : mid = (a + b) / 2) (ham : a < m) (hmb : m < b) (hb : b ≤ d.size)
    (h1 : SortedIn lt a m d) (h2 : SortedIn lt m b d) (hs : (m ≤ mid ∧ s0 = a ∧ r0 = m) ∨ (mid < m ∧ s0 = mid + m - b ∧ r0 = mid)) (g1 : s0 ≤ st) (g2 : st ≤ r0)
    (f1 : ∀ c, s0 ≤ c → c < st → lt d[mid + m - 1 - c]! d[c]! = false) (f2 : ∀ c, st ≤ c → c < r0 → lt d[mid + m - 1 - c]! d[c]! = true)
    (p1 : PermIn st (mid + m - st) d (rotD d st m (mid + m - st))) (p2 : PermIn a mid (rotD d st m (mid + m - st)) d2) (c2 : SortedIn lt a mid d2 ∨ (d2 = rotD d st m (mid + m - st) ∧ (st ≤ a ∨ mid ≤ st)))
    (p3 : PermIn mid b d2 d3) (c3 : SortedIn lt mid b d3 ∨ (d3 = d2 ∧ (mid + m - st ≤ mid ∨ b ≤ mid + m - st))) : PermIn a b d d3 ∧ SortedIn lt a b d3 := by
  obtain ⟨x1, x2, x3, x4, hx⟩ := cut_turned hS hmid ham hmb hb h1 h2 hs g1 g2 f1 f2
  have hsz1 := rotD_size d st m (mid + m - st)
  have e2 := p2.1
  have e3 := p3.1
  have q2 : SortedIn lt a mid d2 := by
    rcases c2 with c | ⟨e, c⟩
    · exact c
    · rw [e]
      rcases c with c | c
      · obtain rfl : st = a := by omega
        exact x2
      · obtain rfl : st = mid := by omega
        exact x1
  have q3 : SortedIn lt mid b d3 := by
    rcases c3 with c | ⟨e, c⟩
    · exact c
    · rw [e]
      have k : ∀ i, mid ≤ i → i < b → d2[i]! = (rotD d st m (mid + m - st))[i]! := fun i i1 i2 => p2.2.1 i (by omega)
      rcases c with c | c
      · have ee : mid + m - st = mid := by omega
        rw [ee] at x4 k
        exact sorted_congr x4 k
      · have ee : mid + m - st = b := by omega
        rw [ee] at x3 k
        exact sorted_congr x3 k
  exact ⟨permIn_trans _ _ _ _ _ (permIn_mono _ _ _ _ _ _ (by omega) (by omega) hb p1) (permIn_trans _ _ _ _ _ (permIn_mono _ _ _ _ _ _ (by omega) (by omega) (by omega) p2) (permIn_mono _ _ _ _ _ _ (by omega) (by omega) (by omega) p3)),
    halves_sorted (by omega) p2 q2 p3 q3 hx⟩
end

set_option maxRecDepth 1000000 in
set_option maxHeartbeats 16000000 in
/-- THE LEFT PART IS THE LONGER ONE -/
theorem symMerge_c14 (blk off cap a m b : Nat) (d0 d : Array P4) (w0 w : World) (R : RowK encP 4 w0 blk off d0) (hs : d.size = d0.size) (S : SWK encP 4 w0 blk off d w) (h1 : a < m) (h2 : m < b) (h3 : b ≤ d.size) (hsz : d.size < 4611686018427387904)
    (s1 : SortedIn ltL a m d) (s2 : SortedIn ltL m b d) (xc : Crs a m b d) (hna : a + 1 < m) (hnb : m + 1 < b) (mid : Nat) (hmid : mid = (a + b) / 2) (hc : mid < m) (IH : ∀ (a' m' b' : Nat) (d' : Array P4) (w' : World), d'.size = d.size → SWK encP 4 w0 blk off d' w' → a' < m' → m' < b' → b' ≤ d.size → b' - a' < b - a → SortedIn ltL a' m' d' → SortedIn ltL m' b' d' → Crs a' m' b' d' →
      Calls Try.prog 35 #[.slice (some ⟨blk, off, none⟩) d.size cap, .int .i64 a', .int .i64 m', .int .i64 b', .func (.func 29) #[] #[]] w' fun e w'' => e = .returned (.tuple #[]) ∧ ∃ d'', SWK encP 4 w0 blk off d'' w'' ∧ PermIn a' b' d' d'' ∧ SortedIn ltL a' b' d'') :
    Calls Try.prog 35 #[.slice (some ⟨blk, off, none⟩) d.size cap, .int .i64 a, .int .i64 m, .int .i64 b, .func (.func 29) #[] #[]] w fun e w' => e = .returned (.tuple #[]) ∧ ∃ d', SWK encP 4 w0 blk off d' w' ∧ PermIn a b d d' ∧ SortedIn ltL a b d' := by
  have mixed := mixedOrd4
  have HS0 : Aside (d.size = d0.size) := hs
  have S0 : Aside (SWK encP 4 w0 blk off d w) := S
  have Q1 : Aside _ := s1
  have Q2 : Aside _ := s2
  have XC : Aside _ := xc
  have e58 : ∀ args w, (callFunc 29 args).run Try.prog w = .ok (.enter 29 args) w := enters_of Try.func29 (by kernel_rfl) rfl
  clear S hs s1 s2 xc
  have JH : Aside _ := IH
  clear IH
  have IH := JH
  clear JH
  have u1 : (((m : Int) - (a : Int)) == 1) = false := by rw [beq_eq_false_iff_ne]; omega
  have u1b : ¬ (m : Int) - (a : Int) = 1 := by omega
  have u1c : (((b : Int) - (m : Int)) == 1) = false := by rw [beq_eq_false_iff_ne]; omega
  have u1d : ¬ (b : Int) - (m : Int) = 1 := by omega
  have wmid : ((a : Int) + (b : Int)) / 2 = (mid : Int) := by omega
  have m1 : 2 * mid ≤ a + b := by omega
  have m2 : a + b ≤ 2 * mid + 1 := by omega
  have HMID : Aside (mid = (a + b) / 2) := hmid
  clear hmid
  obtain ⟨n, hn⟩ : ∃ n, n = mid + m := ⟨_, rfl⟩
  have wn : IntKind.i64.wrap ((mid : Int) + (m : Int)) = (n : Int) := by rw [IntKind.wrap_i64]; omega
  have wn2 : (mid : Int) + (m : Int) = (n : Int) := by omega
  have n1 : n ≤ mid + m := by omega
  have n2 : mid + m ≤ n := by omega
  have HN : Aside (n = mid + m) := hn
  clear hn
  obtain ⟨p, hp⟩ : ∃ p, n = p + 1 := ⟨n - 1, by omega⟩
  have wp : IntKind.i64.wrap ((n : Int) - 1) = (p : Int) := by rw [IntKind.wrap_i64]; omega
  have wp2 : (n : Int) - 1 = (p : Int) := by omega
  have p1 : n ≤ p + 1 := by omega
  have p2 : p + 1 ≤ n := by omega
  have HP : Aside (p = mid + m - 1) := (show _ = _ by have := HN.out; omega)
  clear hp
  have u2a : decide ((mid : Int) < (m : Int)) = true := decide_eq_true (by omega)
  have u2b : decide (mid < m) = true := decide_eq_true (by omega)
  have u2c : ((mid : Int) < (m : Int)) := by omega
  obtain ⟨s0, hs0⟩ : ∃ s, s = n - b := ⟨_, rfl⟩
  have ws : IntKind.i64.wrap ((n : Int) - (b : Int)) = (s0 : Int) := by rw [IntKind.wrap_i64]; omega
  have ws2 : (n : Int) - (b : Int) = (s0 : Int) := by omega
  have s1 : s0 + b ≤ n := by omega
  have s2 : n ≤ s0 + b := by omega
  clear hs0
  go_enter Try.func35, Try.ntmps35
  go_wp2_with fail
  go_loopw [20, 21] (fun si sj wr => ∃ i j : Nat, si = .int .i64 i ∧ sj = .int .i64 j ∧ s0 ≤ i ∧ i ≤ j ∧ j ≤ mid ∧ Aside (SWK encP 4 w0 blk off d wr) ∧ Aside ((∀ c, s0 ≤ c → c < i → ltL d[p - c]! d[c]! = false) ∧ (∀ c, j ≤ c → c < mid → ltL d[p - c]! d[c]! = true))) (fun si sj _ => (intOf sj).toNat - (intOf si).toNat)
  case atStart => exact ⟨s0, mid, rfl, rfl, by omega, by omega, by omega, S0, (show _ ∧ _ from ⟨fun x g1 g2 => by omega, fun x g1 g2 => by omega⟩)⟩
  case round =>
    clear S0
    obtain ⟨i, j, rfl, rfl, hai, hij, hjm, S, I⟩ := hrel
    by_cases hlt : i < j
    · have t2 : decide ((i : Int) < (j : Int)) = true := decide_eq_true (by omega)
      have t3 : decide (i < j) = true := decide_eq_true hlt
      obtain ⟨c, hhc⟩ : ∃ z, z = (i + j) / 2 := ⟨_, rfl⟩
      have wc : ((i : Int) + (j : Int)) / 2 = (c : Int) := by omega
      have loc : i ≤ c := by omega
      have upc : c < j := by omega
      clear hhc
      obtain ⟨q, hq⟩ : ∃ q, q + c = p := ⟨p - c, by omega⟩
      have wq : IntKind.i64.wrap ((p : Int) - (c : Int)) = (q : Int) := by rw [IntKind.wrap_i64]; omega
      have wq2 : (p : Int) - (c : Int) = (q : Int) := by omega
      have wq3 : IntKind.i64.wrap (q : Int) = (q : Int) := by rw [IntKind.wrap_i64]; omega
      have q1 : q + c ≤ p := by omega
      have q2 : p ≤ q + c := by omega
      have HQ : Aside (p - c = q) := (show _ = _ by omega)
      clear hq
      have qm : m ≤ q := by omega
      have qb : q < b := by omega
      have cm : c < m := by omega
      have pic : (0 : Int) ≤ (c : Int) := by omega
      have bic : (c : Int) < (d.size : Int) := by omega
      have eic : ((c : Int)).toNat = c := by omega
      have piq : (0 : Int) ≤ (q : Int) := by omega
      have biq : (q : Int) < (d.size : Int) := by omega
      have eiq : ((q : Int)).toNat = q := by omega
      cases hG : ltL d[q]! d[c]! with
      | true =>
        have HG : Aside _ := hG
        obtain ⟨x8, hx8⟩ : ∃ x, x = d[q]! := ⟨_, rfl⟩
        obtain ⟨y8, hy8⟩ : ∃ x, x = d[c]! := ⟨_, rfl⟩
        have kx8 := cells4g S.out R HS0.out q (by omega)
        have ky8 := cells4g S.out R HS0.out c (by omega)
        have hc8 := SWK.cmp (P := Try.prog) S.out (byLast_lays blk off d0.size w0) HS0.out x8 y8
        rw [← hx8] at kx8
        rw [← hy8] at ky8
        have hv8 : cfP x8 y8 < 0 := by rw [hx8, hy8]; exact (lt_cross (XC.out _ _ (by omega) (by omega) (by omega) (by omega))).1 hG
        have hd8 : decide (cfP x8 y8 < 0) = true := decide_eq_true hv8
        clear hx8 hy8
        generalize cfP x8 y8 = r8 at hc8 hv8 hd8
        obtain ⟨xx8, xk8, xn8, xs8, xg8⟩ := x8
        obtain ⟨yx8, yk8, yn8, ys8, yg8⟩ := y8
        simp only [encP] at hc8
        simp only [C4g] at kx8 ky8
        generalize strOf xx8 = X8 at *
        generalize strOf yx8 = Y8 at *
        obtain ⟨a08, a18, a28, a38⟩ := kx8
        obtain ⟨b08, b18, b28, b38⟩ := ky8
        clear hG
        go_wp2_with fail
        go_quiet_grown (first | (go_at_fn 29; refine Calls.grown_of (hc8 _ _)))
        have S2 : Aside (SWK encP 4 w0 blk off d (grow (wr.drewN nq) osq)) := S.out.grown nq osq
        clear a08 a18 a28 a38 b08 b18 b28 b38 hc8 S
        generalize grow (wr.drewN nq) osq = w2 at S2 ⊢
        clear nq osq
        go_wp2
        go_roundw
        case rel =>
          refine ⟨i, c, rfl, rfl, hai, by omega, by omega, S2, ?_⟩
          refine (show _ ∧ _ from ⟨I.out.1, fun x g1 g2 => ?_⟩)
          have k1 := sorted_le ltL_swo Q1.out (show a ≤ c by omega) g1 (by omega)
          have k2 := sorted_le ltL_swo Q2.out (show m ≤ p - x by omega) (show p - x ≤ q by omega) (by omega)
          cases hq : ltL d[p - x]! d[x]! with
          | true => rfl
          | false => have := ltL_swo.ntrans _ _ _ k2 (ltL_swo.ntrans _ _ _ hq k1); rw [HG.out] at this; cases this
        case measure => simp [intOf]; omega
      | false =>
        have HG : Aside _ := hG
        obtain ⟨x8, hx8⟩ : ∃ x, x = d[q]! := ⟨_, rfl⟩
        obtain ⟨y8, hy8⟩ : ∃ x, x = d[c]! := ⟨_, rfl⟩
        have kx8 := cells4g S.out R HS0.out q (by omega)
        have ky8 := cells4g S.out R HS0.out c (by omega)
        have hc8 := SWK.cmp (P := Try.prog) S.out (byLast_lays blk off d0.size w0) HS0.out x8 y8
        rw [← hx8] at kx8
        rw [← hy8] at ky8
        have hv8 : ¬ cfP x8 y8 < 0 := by rw [hx8, hy8]; exact ge_cross (XC.out _ _ (by omega) (by omega) (by omega) (by omega)) hG
        have hd8 : decide (cfP x8 y8 < 0) = false := decide_eq_false hv8
        clear hx8 hy8
        generalize cfP x8 y8 = r8 at hc8 hv8 hd8
        obtain ⟨xx8, xk8, xn8, xs8, xg8⟩ := x8
        obtain ⟨yx8, yk8, yn8, ys8, yg8⟩ := y8
        simp only [encP] at hc8
        simp only [C4g] at kx8 ky8
        generalize strOf xx8 = X8 at *
        generalize strOf yx8 = Y8 at *
        obtain ⟨a08, a18, a28, a38⟩ := kx8
        obtain ⟨b08, b18, b28, b38⟩ := ky8
        clear hG
        go_wp2_with fail
        go_quiet_grown (first | (go_at_fn 29; refine Calls.grown_of (hc8 _ _)))
        have S2 : Aside (SWK encP 4 w0 blk off d (grow (wr.drewN nq) osq)) := S.out.grown nq osq
        clear a08 a18 a28 a38 b08 b18 b28 b38 hc8 S
        generalize grow (wr.drewN nq) osq = w2 at S2 ⊢
        clear nq osq
        go_wp2
        go_roundw
        case rel =>
          refine ⟨c + 1, j, by go_num, rfl, by omega, by omega, hjm, S2, ?_⟩
          refine (show _ ∧ _ from ⟨fun x g1 g2 => ?_, I.out.2⟩)
          have k1 := sorted_le ltL_swo Q1.out (show a ≤ x by omega) (show x ≤ c by omega) (by omega)
          have k2 := sorted_le ltL_swo Q2.out (show m ≤ q by omega) (show q ≤ p - x by omega) (by omega)
          exact ltL_swo.ntrans _ _ _ k2 (ltL_swo.ntrans _ _ _ HG.out k1)
        case measure => simp [intOf]; omega
    · obtain ⟨st, hst⟩ : ∃ st, st = i := ⟨_, rfl⟩
      have hji : j = i := by omega
      subst hji
      subst hst
      have t2 : decide ((st : Int) < (st : Int)) = false := decide_eq_false (by omega)
      have t3 : decide (st < st) = false := decide_eq_false (by omega)
      clear hlt
      obtain ⟨en, hen⟩ : ∃ en, en + st = n := ⟨n - st, by omega⟩
      have we : IntKind.i64.wrap ((n : Int) - (st : Int)) = (en : Int) := by rw [IntKind.wrap_i64]; omega
      have we2 : (n : Int) - (st : Int) = (en : Int) := by omega
      have e1 : en + st ≤ n := by omega
      have e2 : n ≤ en + st := by omega
      have HE : Aside (mid + m - st = en) := (show _ = _ by have := HN.out; omega)
      clear hen
      have hmen : m ≤ en := by omega
      have henb : en ≤ b := by omega
      have hast : a ≤ st := by omega
      have hstm : st ≤ mid := by omega
      have hmen2 : mid ≤ en := by omega
      have Xc := cut_turned ltL_swo HMID.out h1 h2 h3 Q1.out Q2.out (.inr ⟨hc, by omega, rfl⟩) hai hjm (by rw [← HP.out]; exact I.out.1) (by rw [← HP.out]; exact I.out.2)
      have CUT : Aside _ := fun {d2 d3 : Array P4} p1 => cut_done4 (d2 := d2) (d3 := d3) ltL_swo HMID.out h1 h2 h3 Q1.out Q2.out (.inr ⟨hc, by omega, rfl⟩) hai hjm (by rw [← HP.out]; exact I.out.1) (by rw [← HP.out]; exact I.out.2) p1
      rw [HE.out] at Xc CUT
      obtain ⟨d1, hd1⟩ : ∃ d1, rotD d st m en = d1 := ⟨_, rfl⟩
      have D1 : Aside (d1.size = d.size) := (show _ = _ by rw [← hd1]; exact rotD_size _ _ _ _)
      rw [hd1] at Xc CUT
      have X1 : Aside (SortedIn ltL a st d1 ∧ SortedIn ltL st mid d1) := ⟨Xc.1, Xc.2.1⟩
      have X : Aside (SortedIn ltL mid en d1 ∧ SortedIn ltL en b d1 ∧ Crs mid en b d1) := ⟨Xc.2.2.1, Xc.2.2.2.1, by rw [← hd1]; exact crs_two XC.out (by omega) (by omega) (by omega) (by omega) (by omega) (by omega) (by omega)⟩
      have Y1 : Aside (Crs a st mid d1) := (show Crs _ _ _ _ by rw [← hd1]; exact crs_one XC.out (by omega) (by omega) (by omega) (by omega) (by omega) (by omega) (by omega))
      clear Xc
      by_cases g1 : st < m
      · have t1a : decide ((st : Int) < (m : Int)) = true := decide_eq_true (by omega)
        have t1b : decide (st < m) = true := decide_eq_true (by omega)
        have t1c : ((st : Int) < (m : Int)) := by omega
        by_cases g2 : m < en
        · have t2a : decide ((m : Int) < (en : Int)) = true := decide_eq_true (by omega)
          have t2b : decide (m < en) = true := decide_eq_true (by omega)
          have t2c : ((m : Int) < (en : Int)) := by omega
          have HCC := Lib.hid (rotate_any4 blk off cap st m en (.func (.func 29) #[] #[]) d0 d w0 wr R HS0.out S.out g1 g2 (by omega) hsz)
          clear S
          go_wp2_with fail
          refine HCC.out.mono ?_
          rintro e w7 ⟨rfl, hS1, hP1⟩
          rw [hd1] at hS1 hP1
          have S7 : Aside _ := hS1
          have P1 : Aside (PermIn st en d d1) := hP1
          clear hS1 hP1 HCC
          have cutd := fun {d2 d3 : Array P4} => CUT.out (d2 := d2) (d3 := d3) P1.out
          clear hd1
          by_cases g3 : a < st
          · have t3a : decide ((a : Int) < (st : Int)) = true := decide_eq_true (by omega)
            have t3b : decide (a < st) = true := decide_eq_true (by omega)
            have t3c : ((a : Int) < (st : Int)) := by omega
            by_cases g4 : st < mid
            · have t4a : decide ((st : Int) < (mid : Int)) = true := decide_eq_true (by omega)
              have t4b : decide (st < mid) = true := decide_eq_true (by omega)
              have t4c : ((st : Int) < (mid : Int)) := by omega
              have HCC := Lib.hid (IH.out a st mid d1 w7 D1.out S7.out g3 g4 (by omega) (by omega) X1.out.1 X1.out.2 Y1.out)
              clear S7
              go_wp2_with fail
              refine HCC.out.mono ?_
              rintro e w8 ⟨rfl, d2, hS2, hP2, hT2⟩
              have S8 : Aside _ := hS2
              have D2 : Aside (d2.size = d.size) := hP2.1.trans D1.out
              have P2 : Aside (PermIn a mid d1 d2) := hP2
              have C2 : Aside (SortedIn ltL a mid d2 ∨ (d2 = d1 ∧ (st ≤ a ∨ mid ≤ st))) := .inl hT2
              clear hS2 hP2 hT2 HCC
              by_cases g5 : mid < en
              · have t5a : decide ((mid : Int) < (en : Int)) = true := decide_eq_true (by omega)
                have t5b : decide (mid < en) = true := decide_eq_true (by omega)
                have t5c : ((mid : Int) < (en : Int)) := by omega
                by_cases g6 : en < b
                · have t6a : decide ((en : Int) < (b : Int)) = true := decide_eq_true (by omega)
                  have t6b : decide (en < b) = true := decide_eq_true (by omega)
                  have t6c : ((en : Int) < (b : Int)) := by omega
                  have HCC := Lib.hid (IH.out mid en b d2 w8 D2.out S8.out g5 g6 h3 (by omega) (sorted_congr X.out.1 (fun i i1 i2 => P2.out.2.1 i (by omega))) (sorted_congr X.out.2.1 (fun i i1 i2 => P2.out.2.1 i (by omega))) (crs_congr X.out.2.2 (fun i i1 i2 => P2.out.2.1 i (by omega))))
                  clear S8
                  go_wp2_with fail
                  refine HCC.out.mono ?_
                  rintro e w9 ⟨rfl, d3, hS3, hP3, hT3⟩
                  have S9 : Aside _ := hS3
                  have P3 : Aside _ := hP3
                  have T3 : Aside _ := hT3
                  clear hS3 hP3 hT3 HCC
                  go_wp2
                  go_end0
                  exact ⟨rfl, d3, S9.out, cutd P2.out C2.out P3.out (.inl T3.out)⟩
                · have t6a : decide ((en : Int) < (b : Int)) = false := decide_eq_false (by omega)
                  have t6b : decide (en < b) = false := decide_eq_false (by omega)
                  have t6c : ¬ ((en : Int) < (b : Int)) := by omega
                  go_wp2
                  go_end0
                  exact ⟨rfl, d2, S8.out, cutd P2.out C2.out (permIn_refl _ _ _) (.inr ⟨rfl, by omega⟩)⟩
              · have t5a : decide ((mid : Int) < (en : Int)) = false := decide_eq_false (by omega)
                have t5b : decide (mid < en) = false := decide_eq_false (by omega)
                have t5c : ¬ ((mid : Int) < (en : Int)) := by omega
                go_wp2
                go_end0
                exact ⟨rfl, d2, S8.out, cutd P2.out C2.out (permIn_refl _ _ _) (.inr ⟨rfl, by omega⟩)⟩
            · have t4a : decide ((st : Int) < (mid : Int)) = false := decide_eq_false (by omega)
              have t4b : decide (st < mid) = false := decide_eq_false (by omega)
              have t4c : ¬ ((st : Int) < (mid : Int)) := by omega
              obtain ⟨d2, hd2⟩ : ∃ d2, d2 = d1 := ⟨_, rfl⟩
              have S8 : Aside (SWK encP 4 w0 blk off d2 w7) := hd2 ▸ S7.out
              have D2 : Aside (d2.size = d.size) := hd2 ▸ D1.out
              have P2 : Aside (PermIn a mid d1 d2) := hd2 ▸ permIn_refl _ _ _
              have C2 : Aside (SortedIn ltL a mid d2 ∨ (d2 = d1 ∧ (st ≤ a ∨ mid ≤ st))) := .inr ⟨hd2, by omega⟩
              clear S7 hd2
              by_cases g5 : mid < en
              · have t5a : decide ((mid : Int) < (en : Int)) = true := decide_eq_true (by omega)
                have t5b : decide (mid < en) = true := decide_eq_true (by omega)
                have t5c : ((mid : Int) < (en : Int)) := by omega
                by_cases g6 : en < b
                · have t6a : decide ((en : Int) < (b : Int)) = true := decide_eq_true (by omega)
                  have t6b : decide (en < b) = true := decide_eq_true (by omega)
                  have t6c : ((en : Int) < (b : Int)) := by omega
                  have HCC := Lib.hid (IH.out mid en b d2 w7 D2.out S8.out g5 g6 h3 (by omega) (sorted_congr X.out.1 (fun i i1 i2 => P2.out.2.1 i (by omega))) (sorted_congr X.out.2.1 (fun i i1 i2 => P2.out.2.1 i (by omega))) (crs_congr X.out.2.2 (fun i i1 i2 => P2.out.2.1 i (by omega))))
                  clear S8
                  go_wp2_with fail
                  refine HCC.out.mono ?_
                  rintro e w9 ⟨rfl, d3, hS3, hP3, hT3⟩
                  have S9 : Aside _ := hS3
                  have P3 : Aside _ := hP3
                  have T3 : Aside _ := hT3
                  clear hS3 hP3 hT3 HCC
                  go_wp2
                  go_end0
                  exact ⟨rfl, d3, S9.out, cutd P2.out C2.out P3.out (.inl T3.out)⟩
                · have t6a : decide ((en : Int) < (b : Int)) = false := decide_eq_false (by omega)
                  have t6b : decide (en < b) = false := decide_eq_false (by omega)
                  have t6c : ¬ ((en : Int) < (b : Int)) := by omega
                  go_wp2
                  go_end0
                  exact ⟨rfl, d2, S8.out, cutd P2.out C2.out (permIn_refl _ _ _) (.inr ⟨rfl, by omega⟩)⟩
              · have t5a : decide ((mid : Int) < (en : Int)) = false := decide_eq_false (by omega)
                have t5b : decide (mid < en) = false := decide_eq_false (by omega)
                have t5c : ¬ ((mid : Int) < (en : Int)) := by omega
                go_wp2
                go_end0
                exact ⟨rfl, d2, S8.out, cutd P2.out C2.out (permIn_refl _ _ _) (.inr ⟨rfl, by omega⟩)⟩
          · have t3a : decide ((a : Int) < (st : Int)) = false := decide_eq_false (by omega)
            have t3b : decide (a < st) = false := decide_eq_false (by omega)
            have t3c : ¬ ((a : Int) < (st : Int)) := by omega
            obtain ⟨d2, hd2⟩ : ∃ d2, d2 = d1 := ⟨_, rfl⟩
            have S8 : Aside (SWK encP 4 w0 blk off d2 w7) := hd2 ▸ S7.out
            have D2 : Aside (d2.size = d.size) := hd2 ▸ D1.out
            have P2 : Aside (PermIn a mid d1 d2) := hd2 ▸ permIn_refl _ _ _
            have C2 : Aside (SortedIn ltL a mid d2 ∨ (d2 = d1 ∧ (st ≤ a ∨ mid ≤ st))) := .inr ⟨hd2, by omega⟩
            clear S7 hd2
            by_cases g5 : mid < en
            · have t5a : decide ((mid : Int) < (en : Int)) = true := decide_eq_true (by omega)
              have t5b : decide (mid < en) = true := decide_eq_true (by omega)
              have t5c : ((mid : Int) < (en : Int)) := by omega
              by_cases g6 : en < b
              · have t6a : decide ((en : Int) < (b : Int)) = true := decide_eq_true (by omega)
                have t6b : decide (en < b) = true := decide_eq_true (by omega)
                have t6c : ((en : Int) < (b : Int)) := by omega
                have HCC := Lib.hid (IH.out mid en b d2 w7 D2.out S8.out g5 g6 h3 (by omega) (sorted_congr X.out.1 (fun i i1 i2 => P2.out.2.1 i (by omega))) (sorted_congr X.out.2.1 (fun i i1 i2 => P2.out.2.1 i (by omega))) (crs_congr X.out.2.2 (fun i i1 i2 => P2.out.2.1 i (by omega))))
                clear S8
                go_wp2_with fail
                refine HCC.out.mono ?_
                rintro e w9 ⟨rfl, d3, hS3, hP3, hT3⟩
                have S9 : Aside _ := hS3
                have P3 : Aside _ := hP3
                have T3 : Aside _ := hT3
                clear hS3 hP3 hT3 HCC
                go_wp2
                go_end0
                exact ⟨rfl, d3, S9.out, cutd P2.out C2.out P3.out (.inl T3.out)⟩
              · have t6a : decide ((en : Int) < (b : Int)) = false := decide_eq_false (by omega)
                have t6b : decide (en < b) = false := decide_eq_false (by omega)
                have t6c : ¬ ((en : Int) < (b : Int)) := by omega
                go_wp2
                go_end0
                exact ⟨rfl, d2, S8.out, cutd P2.out C2.out (permIn_refl _ _ _) (.inr ⟨rfl, by omega⟩)⟩
            · have t5a : decide ((mid : Int) < (en : Int)) = false := decide_eq_false (by omega)
              have t5b : decide (mid < en) = false := decide_eq_false (by omega)
              have t5c : ¬ ((mid : Int) < (en : Int)) := by omega
              go_wp2
              go_end0
              exact ⟨rfl, d2, S8.out, cutd P2.out C2.out (permIn_refl _ _ _) (.inr ⟨rfl, by omega⟩)⟩
        · have t2a : decide ((m : Int) < (en : Int)) = false := decide_eq_false (by omega)
          have t2b : decide (m < en) = false := decide_eq_false (by omega)
          have t2c : ¬ ((m : Int) < (en : Int)) := by omega
          have hrn : d1 = d := by rw [← hd1]; exact rotD_nop (by omega) (by omega) (by omega)
          have S7 : Aside (SWK encP 4 w0 blk off d1 wr) := hrn ▸ S.out
          have P1 : Aside (PermIn st en d d1) := hrn ▸ permIn_refl _ _ _
          clear hrn S
          have cutd := fun {d2 d3 : Array P4} => CUT.out (d2 := d2) (d3 := d3) P1.out
          clear hd1
          by_cases g3 : a < st
          · have t3a : decide ((a : Int) < (st : Int)) = true := decide_eq_true (by omega)
            have t3b : decide (a < st) = true := decide_eq_true (by omega)
            have t3c : ((a : Int) < (st : Int)) := by omega
            by_cases g4 : st < mid
            · have t4a : decide ((st : Int) < (mid : Int)) = true := decide_eq_true (by omega)
              have t4b : decide (st < mid) = true := decide_eq_true (by omega)
              have t4c : ((st : Int) < (mid : Int)) := by omega
              have HCC := Lib.hid (IH.out a st mid d1 wr D1.out S7.out g3 g4 (by omega) (by omega) X1.out.1 X1.out.2 Y1.out)
              clear S7
              go_wp2_with fail
              refine HCC.out.mono ?_
              rintro e w8 ⟨rfl, d2, hS2, hP2, hT2⟩
              have S8 : Aside _ := hS2
              have D2 : Aside (d2.size = d.size) := hP2.1.trans D1.out
              have P2 : Aside (PermIn a mid d1 d2) := hP2
              have C2 : Aside (SortedIn ltL a mid d2 ∨ (d2 = d1 ∧ (st ≤ a ∨ mid ≤ st))) := .inl hT2
              clear hS2 hP2 hT2 HCC
              by_cases g5 : mid < en
              · have t5a : decide ((mid : Int) < (en : Int)) = true := decide_eq_true (by omega)
                have t5b : decide (mid < en) = true := decide_eq_true (by omega)
                have t5c : ((mid : Int) < (en : Int)) := by omega
                by_cases g6 : en < b
                · have t6a : decide ((en : Int) < (b : Int)) = true := decide_eq_true (by omega)
                  have t6b : decide (en < b) = true := decide_eq_true (by omega)
                  have t6c : ((en : Int) < (b : Int)) := by omega
                  have HCC := Lib.hid (IH.out mid en b d2 w8 D2.out S8.out g5 g6 h3 (by omega) (sorted_congr X.out.1 (fun i i1 i2 => P2.out.2.1 i (by omega))) (sorted_congr X.out.2.1 (fun i i1 i2 => P2.out.2.1 i (by omega))) (crs_congr X.out.2.2 (fun i i1 i2 => P2.out.2.1 i (by omega))))
                  clear S8
                  go_wp2_with fail
                  refine HCC.out.mono ?_
                  rintro e w9 ⟨rfl, d3, hS3, hP3, hT3⟩
                  have S9 : Aside _ := hS3
                  have P3 : Aside _ := hP3
                  have T3 : Aside _ := hT3
                  clear hS3 hP3 hT3 HCC
                  go_wp2
                  go_end0
                  exact ⟨rfl, d3, S9.out, cutd P2.out C2.out P3.out (.inl T3.out)⟩
                · have t6a : decide ((en : Int) < (b : Int)) = false := decide_eq_false (by omega)
                  have t6b : decide (en < b) = false := decide_eq_false (by omega)
                  have t6c : ¬ ((en : Int) < (b : Int)) := by omega
                  go_wp2
                  go_end0
                  exact ⟨rfl, d2, S8.out, cutd P2.out C2.out (permIn_refl _ _ _) (.inr ⟨rfl, by omega⟩)⟩
              · have t5a : decide ((mid : Int) < (en : Int)) = false := decide_eq_false (by omega)
                have t5b : decide (mid < en) = false := decide_eq_false (by omega)
                have t5c : ¬ ((mid : Int) < (en : Int)) := by omega
                go_wp2
                go_end0
                exact ⟨rfl, d2, S8.out, cutd P2.out C2.out (permIn_refl _ _ _) (.inr ⟨rfl, by omega⟩)⟩
            · have t4a : decide ((st : Int) < (mid : Int)) = false := decide_eq_false (by omega)
              have t4b : decide (st < mid) = false := decide_eq_false (by omega)
              have t4c : ¬ ((st : Int) < (mid : Int)) := by omega
              obtain ⟨d2, hd2⟩ : ∃ d2, d2 = d1 := ⟨_, rfl⟩
              have S8 : Aside (SWK encP 4 w0 blk off d2 wr) := hd2 ▸ S7.out
              have D2 : Aside (d2.size = d.size) := hd2 ▸ D1.out
              have P2 : Aside (PermIn a mid d1 d2) := hd2 ▸ permIn_refl _ _ _
              have C2 : Aside (SortedIn ltL a mid d2 ∨ (d2 = d1 ∧ (st ≤ a ∨ mid ≤ st))) := .inr ⟨hd2, by omega⟩
              clear S7 hd2
              by_cases g5 : mid < en
              · have t5a : decide ((mid : Int) < (en : Int)) = true := decide_eq_true (by omega)
                have t5b : decide (mid < en) = true := decide_eq_true (by omega)
                have t5c : ((mid : Int) < (en : Int)) := by omega
                by_cases g6 : en < b
                · have t6a : decide ((en : Int) < (b : Int)) = true := decide_eq_true (by omega)
                  have t6b : decide (en < b) = true := decide_eq_true (by omega)
                  have t6c : ((en : Int) < (b : Int)) := by omega
                  have HCC := Lib.hid (IH.out mid en b d2 wr D2.out S8.out g5 g6 h3 (by omega) (sorted_congr X.out.1 (fun i i1 i2 => P2.out.2.1 i (by omega))) (sorted_congr X.out.2.1 (fun i i1 i2 => P2.out.2.1 i (by omega))) (crs_congr X.out.2.2 (fun i i1 i2 => P2.out.2.1 i (by omega))))
                  clear S8
                  go_wp2_with fail
                  refine HCC.out.mono ?_
                  rintro e w9 ⟨rfl, d3, hS3, hP3, hT3⟩
                  have S9 : Aside _ := hS3
                  have P3 : Aside _ := hP3
                  have T3 : Aside _ := hT3
                  clear hS3 hP3 hT3 HCC
                  go_wp2
                  go_end0
                  exact ⟨rfl, d3, S9.out, cutd P2.out C2.out P3.out (.inl T3.out)⟩
                · have t6a : decide ((en : Int) < (b : Int)) = false := decide_eq_false (by omega)
                  have t6b : decide (en < b) = false := decide_eq_false (by omega)
                  have t6c : ¬ ((en : Int) < (b : Int)) := by omega
                  go_wp2
                  go_end0
                  exact ⟨rfl, d2, S8.out, cutd P2.out C2.out (permIn_refl _ _ _) (.inr ⟨rfl, by omega⟩)⟩
              · have t5a : decide ((mid : Int) < (en : Int)) = false := decide_eq_false (by omega)
                have t5b : decide (mid < en) = false := decide_eq_false (by omega)
                have t5c : ¬ ((mid : Int) < (en : Int)) := by omega
                go_wp2
                go_end0
                exact ⟨rfl, d2, S8.out, cutd P2.out C2.out (permIn_refl _ _ _) (.inr ⟨rfl, by omega⟩)⟩
          · have t3a : decide ((a : Int) < (st : Int)) = false := decide_eq_false (by omega)
            have t3b : decide (a < st) = false := decide_eq_false (by omega)
            have t3c : ¬ ((a : Int) < (st : Int)) := by omega
            obtain ⟨d2, hd2⟩ : ∃ d2, d2 = d1 := ⟨_, rfl⟩
            have S8 : Aside (SWK encP 4 w0 blk off d2 wr) := hd2 ▸ S7.out
            have D2 : Aside (d2.size = d.size) := hd2 ▸ D1.out
            have P2 : Aside (PermIn a mid d1 d2) := hd2 ▸ permIn_refl _ _ _
            have C2 : Aside (SortedIn ltL a mid d2 ∨ (d2 = d1 ∧ (st ≤ a ∨ mid ≤ st))) := .inr ⟨hd2, by omega⟩
            clear S7 hd2
            by_cases g5 : mid < en
            · have t5a : decide ((mid : Int) < (en : Int)) = true := decide_eq_true (by omega)
              have t5b : decide (mid < en) = true := decide_eq_true (by omega)
              have t5c : ((mid : Int) < (en : Int)) := by omega
              by_cases g6 : en < b
              · have t6a : decide ((en : Int) < (b : Int)) = true := decide_eq_true (by omega)
                have t6b : decide (en < b) = true := decide_eq_true (by omega)
                have t6c : ((en : Int) < (b : Int)) := by omega
                have HCC := Lib.hid (IH.out mid en b d2 wr D2.out S8.out g5 g6 h3 (by omega) (sorted_congr X.out.1 (fun i i1 i2 => P2.out.2.1 i (by omega))) (sorted_congr X.out.2.1 (fun i i1 i2 => P2.out.2.1 i (by omega))) (crs_congr X.out.2.2 (fun i i1 i2 => P2.out.2.1 i (by omega))))
                clear S8
                go_wp2_with fail
                refine HCC.out.mono ?_
                rintro e w9 ⟨rfl, d3, hS3, hP3, hT3⟩
                have S9 : Aside _ := hS3
                have P3 : Aside _ := hP3
                have T3 : Aside _ := hT3
                clear hS3 hP3 hT3 HCC
                go_wp2
                go_end0
                exact ⟨rfl, d3, S9.out, cutd P2.out C2.out P3.out (.inl T3.out)⟩
              · have t6a : decide ((en : Int) < (b : Int)) = false := decide_eq_false (by omega)
                have t6b : decide (en < b) = false := decide_eq_false (by omega)
                have t6c : ¬ ((en : Int) < (b : Int)) := by omega
                go_wp2
                go_end0
                exact ⟨rfl, d2, S8.out, cutd P2.out C2.out (permIn_refl _ _ _) (.inr ⟨rfl, by omega⟩)⟩
            · have t5a : decide ((mid : Int) < (en : Int)) = false := decide_eq_false (by omega)
              have t5b : decide (mid < en) = false := decide_eq_false (by omega)
              have t5c : ¬ ((mid : Int) < (en : Int)) := by omega
              go_wp2
              go_end0
              exact ⟨rfl, d2, S8.out, cutd P2.out C2.out (permIn_refl _ _ _) (.inr ⟨rfl, by omega⟩)⟩
      · have t1a : decide ((st : Int) < (m : Int)) = false := decide_eq_false (by omega)
        have t1b : decide (st < m) = false := decide_eq_false (by omega)
        have t1c : ¬ ((st : Int) < (m : Int)) := by omega
        have hrn : d1 = d := by rw [← hd1]; exact rotD_nop (by omega) (by omega) (by omega)
        have S7 : Aside (SWK encP 4 w0 blk off d1 wr) := hrn ▸ S.out
        have P1 : Aside (PermIn st en d d1) := hrn ▸ permIn_refl _ _ _
        clear hrn S
        have cutd := fun {d2 d3 : Array P4} => CUT.out (d2 := d2) (d3 := d3) P1.out
        clear hd1
        by_cases g3 : a < st
        · have t3a : decide ((a : Int) < (st : Int)) = true := decide_eq_true (by omega)
          have t3b : decide (a < st) = true := decide_eq_true (by omega)
          have t3c : ((a : Int) < (st : Int)) := by omega
          by_cases g4 : st < mid
          · have t4a : decide ((st : Int) < (mid : Int)) = true := decide_eq_true (by omega)
            have t4b : decide (st < mid) = true := decide_eq_true (by omega)
            have t4c : ((st : Int) < (mid : Int)) := by omega
            have HCC := Lib.hid (IH.out a st mid d1 wr D1.out S7.out g3 g4 (by omega) (by omega) X1.out.1 X1.out.2 Y1.out)
            clear S7
            go_wp2_with fail
            refine HCC.out.mono ?_
            rintro e w8 ⟨rfl, d2, hS2, hP2, hT2⟩
            have S8 : Aside _ := hS2
            have D2 : Aside (d2.size = d.size) := hP2.1.trans D1.out
            have P2 : Aside (PermIn a mid d1 d2) := hP2
            have C2 : Aside (SortedIn ltL a mid d2 ∨ (d2 = d1 ∧ (st ≤ a ∨ mid ≤ st))) := .inl hT2
            clear hS2 hP2 hT2 HCC
            by_cases g5 : mid < en
            · have t5a : decide ((mid : Int) < (en : Int)) = true := decide_eq_true (by omega)
              have t5b : decide (mid < en) = true := decide_eq_true (by omega)
              have t5c : ((mid : Int) < (en : Int)) := by omega
              by_cases g6 : en < b
              · have t6a : decide ((en : Int) < (b : Int)) = true := decide_eq_true (by omega)
                have t6b : decide (en < b) = true := decide_eq_true (by omega)
                have t6c : ((en : Int) < (b : Int)) := by omega
                have HCC := Lib.hid (IH.out mid en b d2 w8 D2.out S8.out g5 g6 h3 (by omega) (sorted_congr X.out.1 (fun i i1 i2 => P2.out.2.1 i (by omega))) (sorted_congr X.out.2.1 (fun i i1 i2 => P2.out.2.1 i (by omega))) (crs_congr X.out.2.2 (fun i i1 i2 => P2.out.2.1 i (by omega))))
                clear S8
                go_wp2_with fail
                refine HCC.out.mono ?_
                rintro e w9 ⟨rfl, d3, hS3, hP3, hT3⟩
                have S9 : Aside _ := hS3
                have P3 : Aside _ := hP3
                have T3 : Aside _ := hT3
                clear hS3 hP3 hT3 HCC
                go_wp2
                go_end0
                exact ⟨rfl, d3, S9.out, cutd P2.out C2.out P3.out (.inl T3.out)⟩
              · have t6a : decide ((en : Int) < (b : Int)) = false := decide_eq_false (by omega)
                have t6b : decide (en < b) = false := decide_eq_false (by omega)
                have t6c : ¬ ((en : Int) < (b : Int)) := by omega
                go_wp2
                go_end0
                exact ⟨rfl, d2, S8.out, cutd P2.out C2.out (permIn_refl _ _ _) (.inr ⟨rfl, by omega⟩)⟩
            · have t5a : decide ((mid : Int) < (en : Int)) = false := decide_eq_false (by omega)
              have t5b : decide (mid < en) = false := decide_eq_false (by omega)
              have t5c : ¬ ((mid : Int) < (en : Int)) := by omega
              go_wp2
              go_end0
              exact ⟨rfl, d2, S8.out, cutd P2.out C2.out (permIn_refl _ _ _) (.inr ⟨rfl, by omega⟩)⟩
          · have t4a : decide ((st : Int) < (mid : Int)) = false := decide_eq_false (by omega)
            have t4b : decide (st < mid) = false := decide_eq_false (by omega)
            have t4c : ¬ ((st : Int) < (mid : Int)) := by omega
            obtain ⟨d2, hd2⟩ : ∃ d2, d2 = d1 := ⟨_, rfl⟩
            have S8 : Aside (SWK encP 4 w0 blk off d2 wr) := hd2 ▸ S7.out
            have D2 : Aside (d2.size = d.size) := hd2 ▸ D1.out
            have P2 : Aside (PermIn a mid d1 d2) := hd2 ▸ permIn_refl _ _ _
            have C2 : Aside (SortedIn ltL a mid d2 ∨ (d2 = d1 ∧ (st ≤ a ∨ mid ≤ st))) := .inr ⟨hd2, by omega⟩
            clear S7 hd2
            by_cases g5 : mid < en
            · have t5a : decide ((mid : Int) < (en : Int)) = true := decide_eq_true (by omega)
              have t5b : decide (mid < en) = true := decide_eq_true (by omega)
              have t5c : ((mid : Int) < (en : Int)) := by omega
              by_cases g6 : en < b
              · have t6a : decide ((en : Int) < (b : Int)) = true := decide_eq_true (by omega)
                have t6b : decide (en < b) = true := decide_eq_true (by omega)
                have t6c : ((en : Int) < (b : Int)) := by omega
                have HCC := Lib.hid (IH.out mid en b d2 wr D2.out S8.out g5 g6 h3 (by omega) (sorted_congr X.out.1 (fun i i1 i2 => P2.out.2.1 i (by omega))) (sorted_congr X.out.2.1 (fun i i1 i2 => P2.out.2.1 i (by omega))) (crs_congr X.out.2.2 (fun i i1 i2 => P2.out.2.1 i (by omega))))
                clear S8
                go_wp2_with fail
                refine HCC.out.mono ?_
                rintro e w9 ⟨rfl, d3, hS3, hP3, hT3⟩
                have S9 : Aside _ := hS3
                have P3 : Aside _ := hP3
                have T3 : Aside _ := hT3
                clear hS3 hP3 hT3 HCC
                go_wp2
                go_end0
                exact ⟨rfl, d3, S9.out, cutd P2.out C2.out P3.out (.inl T3.out)⟩
              · have t6a : decide ((en : Int) < (b : Int)) = false := decide_eq_false (by omega)
                have t6b : decide (en < b) = false := decide_eq_false (by omega)
                have t6c : ¬ ((en : Int) < (b : Int)) := by omega
                go_wp2
                go_end0
                exact ⟨rfl, d2, S8.out, cutd P2.out C2.out (permIn_refl _ _ _) (.inr ⟨rfl, by omega⟩)⟩
            · have t5a : decide ((mid : Int) < (en : Int)) = false := decide_eq_false (by omega)
              have t5b : decide (mid < en) = false := decide_eq_false (by omega)
              have t5c : ¬ ((mid : Int) < (en : Int)) := by omega
              go_wp2
              go_end0
              exact ⟨rfl, d2, S8.out, cutd P2.out C2.out (permIn_refl _ _ _) (.inr ⟨rfl, by omega⟩)⟩
        · have t3a : decide ((a : Int) < (st : Int)) = false := decide_eq_false (by omega)
          have t3b : decide (a < st) = false := decide_eq_false (by omega)
          have t3c : ¬ ((a : Int) < (st : Int)) := by omega
          obtain ⟨d2, hd2⟩ : ∃ d2, d2 = d1 := ⟨_, rfl⟩
          have S8 : Aside (SWK encP 4 w0 blk off d2 wr) := hd2 ▸ S7.out
          have D2 : Aside (d2.size = d.size) := hd2 ▸ D1.out
          have P2 : Aside (PermIn a mid d1 d2) := hd2 ▸ permIn_refl _ _ _
          have C2 : Aside (SortedIn ltL a mid d2 ∨ (d2 = d1 ∧ (st ≤ a ∨ mid ≤ st))) := .inr ⟨hd2, by omega⟩
          clear S7 hd2
          by_cases g5 : mid < en
          · have t5a : decide ((mid : Int) < (en : Int)) = true := decide_eq_true (by omega)
            have t5b : decide (mid < en) = true := decide_eq_true (by omega)
            have t5c : ((mid : Int) < (en : Int)) := by omega
            by_cases g6 : en < b
            · have t6a : decide ((en : Int) < (b : Int)) = true := decide_eq_true (by omega)
              have t6b : decide (en < b) = true := decide_eq_true (by omega)
              have t6c : ((en : Int) < (b : Int)) := by omega
              have HCC := Lib.hid (IH.out mid en b d2 wr D2.out S8.out g5 g6 h3 (by omega) (sorted_congr X.out.1 (fun i i1 i2 => P2.out.2.1 i (by omega))) (sorted_congr X.out.2.1 (fun i i1 i2 => P2.out.2.1 i (by omega))) (crs_congr X.out.2.2 (fun i i1 i2 => P2.out.2.1 i (by omega))))
              clear S8
              go_wp2_with fail
              refine HCC.out.mono ?_
              rintro e w9 ⟨rfl, d3, hS3, hP3, hT3⟩
              have S9 : Aside _ := hS3
              have P3 : Aside _ := hP3
              have T3 : Aside _ := hT3
              clear hS3 hP3 hT3 HCC
              go_wp2
              go_end0
              exact ⟨rfl, d3, S9.out, cutd P2.out C2.out P3.out (.inl T3.out)⟩
            · have t6a : decide ((en : Int) < (b : Int)) = false := decide_eq_false (by omega)
              have t6b : decide (en < b) = false := decide_eq_false (by omega)
              have t6c : ¬ ((en : Int) < (b : Int)) := by omega
              go_wp2
              go_end0
              exact ⟨rfl, d2, S8.out, cutd P2.out C2.out (permIn_refl _ _ _) (.inr ⟨rfl, by omega⟩)⟩
          · have t5a : decide ((mid : Int) < (en : Int)) = false := decide_eq_false (by omega)
            have t5b : decide (mid < en) = false := decide_eq_false (by omega)
            have t5c : ¬ ((mid : Int) < (en : Int)) := by omega
            go_wp2
            go_end0
            exact ⟨rfl, d2, S8.out, cutd P2.out C2.out (permIn_refl _ _ _) (.inr ⟨rfl, by omega⟩)⟩
end Go.Proofs.Ytfdibmcjjclgkaa.Tl
