/- Merged: StK0 StK. -/
import Derived.Test.YtfedidiieacakaaDoorTt7
import Derived.Laws.AppendOwnNone
import Derived.Test.YtfedidiieacakaaDoorTt4
namespace Go.Proofs.YtfedidiieacakaaDoor.St
open Go.RowKit
open Go.Proofs.YtfedidiieacakaaDoor.Utf
open Go.Proofs.YtfedidiieacakaaDoor.Nu

def b10 : Nat → Nat → List UInt8
  | 0, _ => []
  | j + 1, n => b10 j (n / 10) ++ [dg n]
theorem b10_len : ∀ j n, (b10 j n).length = j
  | 0, _ => rfl
  | j + 1, n => by rw [b10, List.length_append, b10_len j]; rfl
theorem b10_2 (n : Nat) : b10 2 n = [dg (n / 10), dg n] := rfl
theorem b10_4 (n : Nat) : b10 4 n = [dg (n / 1000), dg (n / 100), dg (n / 10), dg n] := by
  have e2 : n / 10 / 10 = n / 100 := by omega
  have e3 : n / 10 / 10 / 10 = n / 1000 := by omega
  show [dg (n / 10 / 10 / 10), dg (n / 10 / 10), dg (n / 10), dg n] = _
  rw [e3, e2]
def DgI (k N m n : Nat) (ds : List UInt8) : Prop := ds.length + m = k ∧ n ≤ N ∧ b10 k N = b10 m n ++ ds
theorem DgI_0 (k N : Nat) : DgI k N k N [] := ⟨by simp, Nat.le_refl _, by simp⟩
theorem DgI_next {k N m n : Nat} {ds : List UInt8} (h : DgI k N (m + 1) n ds) : DgI k N m (n / 10) (dg n :: ds) := by
  obtain ⟨h1, h2, h3⟩ := h
  refine ⟨by rw [List.length_cons]; omega, by omega, ?_⟩
  rw [h3, b10, List.append_assoc]; rfl
theorem DgI_end {k N n : Nat} {ds : List UInt8} (h : DgI k N 0 n ds) : b10 k N = ds := by rw [h.2.2, b10]; rfl
theorem own_new {w : World} {B : Nat} {E : TypeId} {cs : Array Value} {k : Nat} (hk : k = cs.size) (hB : B ≤ w.heap.size) (hm : cs.size ≤ maxLen) :
    (w.alloc (.cells cs E)).ownsRow B E 1 (.slice (some ⟨w.heap.size, 0, none⟩) k k) k cs.toList := by
  subst hk
  exact ⟨by simp, .inr ⟨_, _, cs, rfl, hB, heap_alloc_new w _, Nat.le_refl _, hm, by simp, List.take_of_length_le (by simp)⟩⟩

theorem own_forms {w : World} {base size n : Nat} {e : TypeId} {v : Value} {xs : List Value} (h : w.ownsRow base e size v n xs) : (v = .slice none 0 0 ∧ n = 0) ∨ ∃ g cap, v = .slice (some ⟨g, 0, none⟩) n cap := by
  rcases h.2 with h0 | ⟨g, cap, _, hv, _⟩
  · exact .inl h0
  · exact .inr ⟨g, cap, hv⟩
theorem own_news {w : World} {B g n cap : Nat} {E : TypeId} {xs : List Value} (h : w.ownsRow B E 1 (.slice (some ⟨g, 0, none⟩) n cap) n xs) (o : Obj) : ∀ j u, xs[j]? = some u → (w.alloc o).cell? ((⟨g, 0, none⟩ : Addr).add j) = some u := by
  intro j u hu
  obtain ⟨A, c, he, hc⟩ := Rd.of_own h
  obtain ⟨ad, rfl, _, hx⟩ := hc (by
    rcases Nat.eq_zero_or_pos xs.length with h0 | h0
    · rw [List.eq_nil_of_length_eq_zero h0] at hu; simp at hu
    · exact h0)
  injection he with h1 _ _
  injection h1 with h1
  subst h1
  have hold := hx j u hu
  have hlt := cell_lt hold
  exact (World.cell?_of_block (w := w) (Below.heap_alloc w o _ hlt)).trans hold

set_option maxRecDepth 100000 in
set_option maxHeartbeats 1000000 in
theorem rdigits_any (N k : Nat) (w : World) (hN : N ≤ 9999) (hk : k ≤ 4) : Calls Tryd.prog 27 #[.int .i64 N, .int .i64 k] w (Gives (.string (strOf (b10 k N))) w) := by
  obtain ⟨i0, hi, hz0, hz1, hz2⟩ := info_parts infoU8
  go_enter Tryd.func27, Tryd.ntmps27
  go_wp2_with fail
  go_loopw [0, 5, 6] (fun x v i wr => ∃ (j m n : Nat) (ds : List UInt8), i = .int .i64 j ∧ j + m = k ∧ x = .int .i64 n ∧ Aside (DgI k N m n ds) ∧ Aside (wr.ownsRow w.heap.size 5 1 v j (Lib.byteCells ds)) ∧ Aside (Below w.heap.size w wr)) (fun _ _ i _ => k - (intOf i).toNat)
  case atStart => exact ⟨0, k, N, [], rfl, by omega, rfl, DgI_0 k N, World.ownsRow_nil _ _ _ _, Below.refl _ _⟩
  case round =>
    obtain ⟨j, m, n, ds, rfl, hjm, rfl, hI, hown, hbel⟩ := hrel
    have HI := Lib.hid hI.out
    have HO := Lib.hid hown.out
    have HB := Lib.hid hbel.out
    clear hI hown hbel
    by_cases hlt : j < k
    · have t1 : decide ((j : Int) < (k : Int)) = true := decide_eq_true (by omega)
      have t1' : decide (j < k) = true := decide_eq_true hlt
      obtain ⟨m, rfl⟩ : ∃ m', m = m' + 1 := ⟨m - 1, by omega⟩
      have HN := Lib.hid (DgI_next HI.out)
      have hn : n ≤ 9999 := by have := HI.out.2.1; omega
      have e1 := tmod_pos (y := (n : Int)) (by omega) 10
      have e2 := tdiv_pos (y := (n : Int)) (by omega) 10
      have hdg : ((dg n).toNat : Int) = 48 + (n : Int) % 10 := by rw [dg_nat]; omega
      have x1 : IntKind.u8.wrap (48 + (n : Int) % 10) = 48 + (n : Int) % 10 := IntWalk.u8_in _ (by omega)
      obtain ⟨c, hc⟩ : ∃ c : Int, 48 + (n : Int) % 10 = c := ⟨_, rfl⟩
      rw [hc] at x1 hdg
      have HCE := Lib.hid (show Lib.byteCells [dg n] = [.int .u8 c] by show [Value.int .u8 ((dg n).toNat : Int)] = _; rw [hdg])
      have hown1 : (wr.alloc (.cells #[.int .u8 c] 5)).ownsRow w.heap.size 5 1 (.slice (some ⟨wr.heap.size, 0, none⟩) 1 1) 1 [.int .u8 c] := own_new rfl HB.out.size (by show 1 ≤ maxLen; unfold maxLen; omega)
      have HO1 := Lib.hid hown1
      have HBA := Lib.hid (HB.out.alloc HB.out.size (.cells #[.int .u8 c] 5))
      have j4 : j ≤ 3 := by omega
      have hdl : ds.length = j := by have := HI.out.1; omega
      have HDL := Lib.hid hdl
      clear hdg hown1 hdl hlt hk
      rcases own_forms HO.out with ⟨rfl, h0⟩ | ⟨g, cap, rfl⟩
      · subst h0
        have hds : ds = [] := List.eq_nil_of_length_eq_zero HDL.out
        subst hds
        go_wp2_with (at_builtin; refine wpList_append_own_none rfl _ _ 34 rfl w.heap.size 5 i0 1 Tryd.underlying34 hi _ 1 _ rfl HO1.out rfl ?_)
        go_roundw
        case rel => exact ⟨1, m, n / 10, [dg n], by go_num, by omega, by go_num, HN.out, (by rw [HCE.out]; exact HO1.out), HBA.out⟩
        case measure => simp [intOf]; omega
      · have hb := (HO.out.lt g rfl)
        go_wp2_with (at_builtin; refine wpList_append_own _ rfl _ _ 34 rfl w.heap.size 5 i0 (.int .u8 0) 1 1 Tryd.underlying34 hi hz0 hz1 hz2 rfl (by decide) _ 1 _ rfl HO1.out ⟨g, 0, none⟩ j cap (Lib.byteCells ds) rfl (by rw [Lib.byteCells_length, HDL.out, Nat.mul_one]) (own_news HO.out _) (byteCells_one _) ?_ ?_ ?_ ?_; (unfold maxLen; omega); omega; exact HBA.out.size; intro v1 w1 hown1 hg1 _)
        have HG := Lib.hid (HBA.out.grown hg1 HBA.out.size (fun k hk => (HO1.out.lt k hk).1))
        have HOW := Lib.hid hown1
        clear hown1 hg1
        go_roundw
        case rel => exact ⟨j + 1, m, n / 10, dg n :: ds, by go_num, by omega, by go_num, HN.out, (by
          have h := HOW.out
          rw [← HCE.out, Nat.add_comm 1 j] at h
          exact h), HG.out⟩
        case measure => simp [intOf]; omega
    · have t1 : decide ((j : Int) < (k : Int)) = false := decide_eq_false (by omega)
      have t1' : decide (j < k) = false := decide_eq_false hlt
      obtain rfl : m = 0 := by omega
      have HE := Lib.hid (DgI_end HI.out)
      have hl : ds.length = j := by have := HI.out.1; omega
      have hc := (Rd.of_own HO.out).conv (P := Tryd.prog) Tryd.underlying34 Tryd.underlying5 Tryd.underlying9
      clear hlt hk hjm hl
      go_wp2_with fail
      go_ret
      exact ⟨by rw [HE.out]; rfl, HB.out⟩
end Go.Proofs.YtfedidiieacakaaDoor.St
namespace Go.Proofs.YtfedidiieacakaaDoor.St
open Go.RowKit
open Go.Proofs.YtfedidiieacakaaDoor.Utf
open Go.Proofs.YtfedidiieacakaaDoor.Nu

theorem stAdd (a b : List UInt8) (h : a.length + b.length ≤ 1000) (w : World) : (Op.stringOp .add (strOf a) (strOf b)).run Tryd.prog w = .ok (.string (strOf (a ++ b))) w := by
  rw [run_string_add_sum w _ _ (by rw [strOf_size, strOf_size]; omega)]
  unfold strOf; rw [ByteArray.mk_append_mk]
theorem year_day {y : Int} (h0 : 0 ≤ y) (h1 : y ≤ 9999) : isDay y 1 1 ∧ day0 y 1 1 = ahead y := by
  have := mlen_bd y 1
  refine ⟨⟨h0, h1, by omega, by omega, by omega, by omega⟩, ?_⟩
  unfold day0
  show ahead y + 0 + 1 - 1 = ahead y
  omega
def HvI (n lo hi : Int) : Prop := 0 ≤ lo ∧ lo < hi ∧ hi ≤ 10000 ∧ (lo = 0 ∨ (ahead lo - 719528) * 86400 ≤ n) ∧ (hi = 10000 ∨ n < (ahead hi - 719528) * 86400)

set_option maxRecDepth 100000 in
set_option maxHeartbeats 4000000 in
theorem rMake_any (n : Int) (w : World) (hn0 : -9223372036854775808 ≤ n) (hn1 : n ≤ 9223372036854775807) : Calls Tryd.prog 16 #[.int .i64 n] w (GivesM n w) := by
  go_enter Tryd.func16, Tryd.ntmps16
  go_wp2_with fail
  go_loopw [3, 4] (fun l h wr => ∃ lo hi : Int, l = .int .i64 lo ∧ h = .int .i64 hi ∧ Aside (HvI n lo hi) ∧ wr = w) (fun l h _ => (intOf h - intOf l).toNat)
  case atStart => exact ⟨0, 10000, rfl, rfl, ⟨by omega, by omega, by omega, .inl rfl, .inl rfl⟩, rfl⟩
  case round =>
    obtain ⟨lo, hi, rfl, rfl, hI, hwr⟩ := hrel
    obtain rfl : w = wr := hwr.symm
    have HI := Lib.hid hI.out
    clear hI
    obtain ⟨l0, l1, l2, l3, l4⟩ := HI.out
    by_cases hg : 1 < hi - lo
    · have t1 : decide (1 < hi - lo) = true := decide_eq_true hg
      have e1 := tdiv_pos (y := lo + hi) (by omega) 2
      obtain ⟨mid, hmid⟩ : ∃ mid, (lo + hi) / 2 = mid := ⟨_, rfl⟩
      have hm1 : lo < mid ∧ mid < hi := by omega
      rw [hmid] at e1
      obtain ⟨y1, y2⟩ := year_day (y := mid) (by omega) (by omega)
      have CD := Lib.hid (fun wx => rDays_any mid 1 1 wx)
      rw [dayN_yes y1, decide_eq_true y1, y2] at CD
      have hA := ahead_bd (y := mid) (by omega) (by omega)
      have HHI := Lib.hid (show (ahead mid - 719528) * 86400 ≤ n → HvI n mid hi from fun h => ⟨by omega, by omega, l2, .inr h, l4⟩)
      have HLO := Lib.hid (show ¬ (ahead mid - 719528) * 86400 ≤ n → HvI n lo mid from fun h => ⟨l0, by omega, by omega, l3, .inr (by omega)⟩)
      obtain ⟨A, hAA⟩ : ∃ A, ahead mid = A := ⟨_, rfl⟩
      rw [hAA] at CD hA HHI HLO
      clear hmid y1 y2 hAA l3 l4 hg
      by_cases hle : (A - 719528) * 86400 ≤ n
      · have t2 : decide ((A - 719528) * 86400 ≤ n) = true := decide_eq_true hle
        have HN := Lib.hid (HHI.out hle)
        clear hle
        go_wp2_with fail
        refine (CD.out _).mono ?_
        rintro e w1 ⟨rfl, rfl⟩
        go_wp2_with fail
        go_roundw
        case rel => exact ⟨mid, hi, rfl, rfl, HN.out, by trivial⟩
        case measure => simp [intOf]; omega
      · have t2 : decide ((A - 719528) * 86400 ≤ n) = false := decide_eq_false hle
        have HN := Lib.hid (HLO.out hle)
        clear hle
        go_wp2_with fail
        refine (CD.out _).mono ?_
        rintro e w1 ⟨rfl, rfl⟩
        go_wp2_with fail
        go_roundw
        case rel => exact ⟨lo, mid, rfl, rfl, HN.out, by trivial⟩
        case measure => simp [intOf]; omega
    · have t1 : decide (1 < hi - lo) = false := decide_eq_false hg
      obtain rfl : hi = lo + 1 := by omega
      obtain ⟨y1, y2⟩ := year_day (y := lo) (by omega) (by omega)
      have CD := Lib.hid (fun wx => rDays_any lo 1 1 wx)
      rw [dayN_yes y1, decide_eq_true y1, y2] at CD
      have hA := ahead_bd (y := lo) (by omega) (by omega)
      have hAn := ahead_next lo
      have hA0 : lo = 0 → ahead lo = 0 := fun h => by rw [h, ahead_0]
      have hA9 : lo = 9999 → ahead (lo + 1) = 3652425 := fun h => by rw [h]; exact ahead_end
      have hL2 := mlen_bd lo 2
      have bR : -9223372036854775808 ≤ n - (ahead lo - 719528) * 86400 ∧ n - (ahead lo - 719528) * 86400 ≤ 9223372036854775807 := by omega
      have HIN := Lib.hid (show -62167219200 ≤ n → n ≤ 253402300799 → (ahead lo ≤ (n + 62167219200) / 86400 ∧ (n + 62167219200) / 86400 < ahead (lo + 1) ∧ 0 ≤ n - (ahead lo - 719528) * 86400 ∧ n - (ahead lo - 719528) * 86400 ≤ 31795200 ∧ (n - (ahead lo - 719528) * 86400) / 86400 = (n + 62167219200) / 86400 - ahead lo ∧ (n - (ahead lo - 719528) * 86400) % 86400 = (n + 62167219200) % 86400) from fun h1 h2 => by
        refine ⟨by omega, by omega, by omega, by omega, by omega, by omega⟩)
      have l9 : lo ≤ 9999 := by omega
      obtain ⟨A, hAA⟩ : ∃ A, ahead lo = A := ⟨_, rfl⟩
      rw [hAA] at CD hA bR HIN
      obtain ⟨R, hR⟩ : ∃ R, n - (A - 719528) * 86400 = R := ⟨_, rfl⟩
      rw [hR] at bR HIN
      have HAA := Lib.hid hAA
      clear y1 y2 hAA l1 l2 l3 l4 hg hA0 hA9 hAn hL2
      by_cases c1 : n < -62167219200
      · have t2 : decide (n < -62167219200) = true := decide_eq_true c1
        have HM := Lib.hid (show MkOf n [] from .inr ⟨.inl c1, rfl⟩)
        clear c1
        go_wp2_with fail
        refine (CD.out _).mono ?_
        rintro e w1 ⟨rfl, rfl⟩
        go_wp2_with fail
        go_ret
        exact ⟨_, HM.out, rfl, Below.refl _ _⟩
      have t2 : decide (n < -62167219200) = false := decide_eq_false c1
      by_cases c2 : 253402300799 < n
      · have t3 : decide (253402300799 < n) = true := decide_eq_true c2
        have HM := Lib.hid (show MkOf n [] from .inr ⟨.inr c2, rfl⟩)
        clear c1 c2
        go_wp2_with fail
        refine (CD.out _).mono ?_
        rintro e w1 ⟨rfl, rfl⟩
        go_wp2_with fail
        go_ret
        exact ⟨_, HM.out, rfl, Below.refl _ _⟩
      have t3 : decide (253402300799 < n) = false := decide_eq_false c2
      obtain ⟨i1, i2, i3, i4, i5, i6⟩ := HIN.out (by omega) (by omega)
      have HMK := Lib.hid (show ∀ y m d, isDay y m d → day0 y m d = (n + 62167219200) / 86400 → MkOf n (txt y m d ((n + 62167219200) % 86400) ++ [90]) from fun y m d h1 h2 => .inl ⟨by omega, by omega, y, m, d, h1, h2, rfl⟩)
      rw [← i6] at HMK
      obtain ⟨D, hD⟩ : ∃ D, (n + 62167219200) / 86400 = D := ⟨_, rfl⟩
      rw [hD] at HMK i1 i2 i5
      have e1 := tdiv_pos i3 86400
      have e2 := tmod_pos i3 86400
      rw [i5] at e1
      have bQ : 0 ≤ R % 86400 ∧ R % 86400 < 86400 := by omega
      have bDA : 0 ≤ D - A ∧ D - A ≤ 368 := by omega
      obtain ⟨Q, hQ⟩ : ∃ Q, R % 86400 = Q := ⟨_, rfl⟩
      rw [hQ] at HMK e2 bQ
      have e3 := tdiv_pos bQ.1 3600
      have e4 := tdiv_pos bQ.1 60
      have e5 := tmod_pos (y := Q / 60) (by omega) 60
      have e6 := tmod_pos bQ.1 60
      obtain ⟨h, hh⟩ : ∃ h : Nat, Q / 3600 = h := ⟨(Q / 3600).toNat, by omega⟩
      obtain ⟨i, hi⟩ : ∃ i : Nat, Q / 60 % 60 = i := ⟨(Q / 60 % 60).toNat, by omega⟩
      obtain ⟨s, hs⟩ : ∃ s : Nat, Q % 60 = s := ⟨(Q % 60).toNat, by omega⟩
      have bh : h ≤ 23 := by omega
      have bi : i ≤ 59 := by omega
      have bs : s ≤ 59 := by omega
      have HTX := Lib.hid (show ∀ y m d : Nat, txt y m d Q = txt19 y m d h i s from fun y m d => by unfold txt; rw [hh, hi, hs]; rfl)
      rw [hh] at e3
      rw [hi] at e5
      rw [hs] at e6
      have HM0 := Lib.hid (MoI_0 (D := D) (y := lo) (by rw [HAA.out]; exact i1))
      rw [HAA.out] at HM0
      have HI2 := Lib.hid i2
      obtain ⟨y, hy⟩ : ∃ y : Nat, lo = y := ⟨lo.toNat, by omega⟩
      have HY := Lib.hid hy
      clear hh hi hs hQ hD i1 i2 i3 i4 i5 i6 c1 c2 hy
      go_wp2_with fail
      refine (CD.out _).mono ?_
      rintro e w1 ⟨rfl, rfl⟩
      go_wp2_with fail
      go_loopw [11, 12] (fun r j wr => ∃ (k : Nat) (r' : Int), j = .int .i64 (k + 1) ∧ r = .int .i64 r' ∧ Aside (MoI D lo k r') ∧ r' ≤ 368 ∧ wr = w) (fun _ j _ => (13 - intOf j).toNat)
      case atStart => exact ⟨0, _, rfl, rfl, HM0.out, bDA.2, by trivial⟩
      case round =>
        obtain ⟨k, r, rfl, rfl, hI, hr, hwr⟩ := hrel
        obtain rfl : w = wr := hwr.symm
        have HI := Lib.hid hI.out
        have hr0 : 0 ≤ r := HI.out.1
        have hk : k < 12 := HI.out.2.1
        clear hI
        have CK := Lib.hid (fun wx => rLong_any lo (k + 1) wx l0)
        have hL2 := mlen_bd lo (k + 1)
        by_cases hge : mlen lo (k + 1) ≤ r
        · have t4 : decide (mlen lo (k + 1) ≤ r) = true := decide_eq_true hge
          have HN := Lib.hid (MoI_next HI2.out HI.out hge)
          have hk2 : k + 1 < 12 := HN.out.2.1
          obtain ⟨L2, hLL⟩ : ∃ L2, mlen lo (k + 1) = L2 := ⟨_, rfl⟩
          rw [hLL] at CK HN hL2 t4 hge
          clear hLL
          go_wp2_with fail
          refine (CK.out _).mono ?_
          rintro e w' ⟨rfl, rfl⟩
          go_wp2_with fail
          refine (CK.out _).mono ?_
          rintro e w' ⟨rfl, rfl⟩
          go_wp2_with fail
          go_roundw
          case rel => exact ⟨k + 1, r - L2, by go_num, by go_num, HN.out, by omega, by trivial⟩
          case measure => simp [intOf]; omega
        · have t4 : decide (mlen lo (k + 1) ≤ r) = false := decide_eq_false hge
          have he := MoI_end l0 l9 HI.out (by omega)
          have HF := Lib.hid (HMK.out _ _ _ he.1 he.2)
          have r30 : r ≤ 30 := by omega
          obtain ⟨L2, hLL⟩ : ∃ L2, mlen lo (k + 1) = L2 := ⟨_, rfl⟩
          rw [hLL] at CK hL2 t4
          obtain ⟨m, hm⟩ : ∃ m : Nat, (k : Int) + 1 = m := ⟨k + 1, by omega⟩
          obtain ⟨d, hd⟩ : ∃ d : Nat, r + 1 = d := ⟨(r + 1).toNat, by omega⟩
          rw [hm, hd, HY.out, HTX.out] at HF
          have C0 := Lib.hid (fun wx => rdigits_any y 4 wx (by have := HY.out; omega) (by omega))
          rw [show (y : Int) = lo from HY.out.symm] at C0
          have C1 := Lib.hid (fun wx => rdigits_any m 2 wx (by omega) (by omega))
          have C2 := Lib.hid (fun wx => rdigits_any d 2 wx (by omega) (by omega))
          have C3 := Lib.hid (fun wx => rdigits_any h 2 wx (by omega) (by omega))
          have C4 := Lib.hid (fun wx => rdigits_any i 2 wx (by omega) (by omega))
          have C5 := Lib.hid (fun wx => rdigits_any s 2 wx (by omega) (by omega))
          rw [show ((4 : Nat) : Int) = 4 from rfl] at C0
          rw [show ((2 : Nat) : Int) = 2 from rfl] at C1 C2 C3 C4 C5
          rw [hm] at CK ⊢
          have s0 := fun wx => stAdd (b10 4 y) ([45]) (by simp [b10_len]) wx
          have s1 := fun wx => stAdd ((b10 4 y) ++ [45]) (b10 2 m) (by simp [b10_len]) wx
          have s2 := fun wx => stAdd (((b10 4 y) ++ [45]) ++ b10 2 m) ([45]) (by simp [b10_len]) wx
          have s3 := fun wx => stAdd ((((b10 4 y) ++ [45]) ++ b10 2 m) ++ [45]) (b10 2 d) (by simp [b10_len]) wx
          have s4 := fun wx => stAdd (((((b10 4 y) ++ [45]) ++ b10 2 m) ++ [45]) ++ b10 2 d) ([84]) (by simp [b10_len]) wx
          have s5 := fun wx => stAdd ((((((b10 4 y) ++ [45]) ++ b10 2 m) ++ [45]) ++ b10 2 d) ++ [84]) (b10 2 h) (by simp [b10_len]) wx
          have s6 := fun wx => stAdd (((((((b10 4 y) ++ [45]) ++ b10 2 m) ++ [45]) ++ b10 2 d) ++ [84]) ++ b10 2 h) ([58]) (by simp [b10_len]) wx
          have s7 := fun wx => stAdd ((((((((b10 4 y) ++ [45]) ++ b10 2 m) ++ [45]) ++ b10 2 d) ++ [84]) ++ b10 2 h) ++ [58]) (b10 2 i) (by simp [b10_len]) wx
          have s8 := fun wx => stAdd (((((((((b10 4 y) ++ [45]) ++ b10 2 m) ++ [45]) ++ b10 2 d) ++ [84]) ++ b10 2 h) ++ [58]) ++ b10 2 i) ([58]) (by simp [b10_len]) wx
          have s9 := fun wx => stAdd ((((((((((b10 4 y) ++ [45]) ++ b10 2 m) ++ [45]) ++ b10 2 d) ++ [84]) ++ b10 2 h) ++ [58]) ++ b10 2 i) ++ [58]) (b10 2 s) (by simp [b10_len]) wx
          have s10 := fun wx => stAdd (((((((((((b10 4 y) ++ [45]) ++ b10 2 m) ++ [45]) ++ b10 2 d) ++ [84]) ++ b10 2 h) ++ [58]) ++ b10 2 i) ++ [58]) ++ b10 2 s) ([90]) (by simp [b10_len]) wx
          obtain ⟨P0, hP0⟩ : ∃ P, strOf (b10 4 y) = P := ⟨_, rfl⟩
          obtain ⟨P1, hP1⟩ : ∃ P, strOf (b10 2 m) = P := ⟨_, rfl⟩
          obtain ⟨P2, hP2⟩ : ∃ P, strOf (b10 2 d) = P := ⟨_, rfl⟩
          obtain ⟨P3, hP3⟩ : ∃ P, strOf (b10 2 h) = P := ⟨_, rfl⟩
          obtain ⟨P4, hP4⟩ : ∃ P, strOf (b10 2 i) = P := ⟨_, rfl⟩
          obtain ⟨P5, hP5⟩ : ∃ P, strOf (b10 2 s) = P := ⟨_, rfl⟩
          obtain ⟨S0, hS0⟩ : ∃ S, strOf ((b10 4 y) ++ [45]) = S := ⟨_, rfl⟩
          obtain ⟨S1, hS1⟩ : ∃ S, strOf (((b10 4 y) ++ [45]) ++ b10 2 m) = S := ⟨_, rfl⟩
          obtain ⟨S2, hS2⟩ : ∃ S, strOf ((((b10 4 y) ++ [45]) ++ b10 2 m) ++ [45]) = S := ⟨_, rfl⟩
          obtain ⟨S3, hS3⟩ : ∃ S, strOf (((((b10 4 y) ++ [45]) ++ b10 2 m) ++ [45]) ++ b10 2 d) = S := ⟨_, rfl⟩
          obtain ⟨S4, hS4⟩ : ∃ S, strOf ((((((b10 4 y) ++ [45]) ++ b10 2 m) ++ [45]) ++ b10 2 d) ++ [84]) = S := ⟨_, rfl⟩
          obtain ⟨S5, hS5⟩ : ∃ S, strOf (((((((b10 4 y) ++ [45]) ++ b10 2 m) ++ [45]) ++ b10 2 d) ++ [84]) ++ b10 2 h) = S := ⟨_, rfl⟩
          obtain ⟨S6, hS6⟩ : ∃ S, strOf ((((((((b10 4 y) ++ [45]) ++ b10 2 m) ++ [45]) ++ b10 2 d) ++ [84]) ++ b10 2 h) ++ [58]) = S := ⟨_, rfl⟩
          obtain ⟨S7, hS7⟩ : ∃ S, strOf (((((((((b10 4 y) ++ [45]) ++ b10 2 m) ++ [45]) ++ b10 2 d) ++ [84]) ++ b10 2 h) ++ [58]) ++ b10 2 i) = S := ⟨_, rfl⟩
          obtain ⟨S8, hS8⟩ : ∃ S, strOf ((((((((((b10 4 y) ++ [45]) ++ b10 2 m) ++ [45]) ++ b10 2 d) ++ [84]) ++ b10 2 h) ++ [58]) ++ b10 2 i) ++ [58]) = S := ⟨_, rfl⟩
          obtain ⟨S9, hS9⟩ : ∃ S, strOf (((((((((((b10 4 y) ++ [45]) ++ b10 2 m) ++ [45]) ++ b10 2 d) ++ [84]) ++ b10 2 h) ++ [58]) ++ b10 2 i) ++ [58]) ++ b10 2 s) = S := ⟨_, rfl⟩
          obtain ⟨S10, hS10⟩ : ∃ S, strOf ((((((((((((b10 4 y) ++ [45]) ++ b10 2 m) ++ [45]) ++ b10 2 d) ++ [84]) ++ b10 2 h) ++ [58]) ++ b10 2 i) ++ [58]) ++ b10 2 s) ++ [90]) = S := ⟨_, rfl⟩
          rw [hP0, hS0] at s0
          replace s0 : ∀ wx : World, (Op.stringOp .add P0 ⟨#[45]⟩).run Tryd.prog wx = .ok (.string S0) wx := s0
          rw [hS0, hP1, hS1] at s1
          rw [hS1, hS2] at s2
          replace s2 : ∀ wx : World, (Op.stringOp .add S1 ⟨#[45]⟩).run Tryd.prog wx = .ok (.string S2) wx := s2
          rw [hS2, hP2, hS3] at s3
          rw [hS3, hS4] at s4
          replace s4 : ∀ wx : World, (Op.stringOp .add S3 ⟨#[84]⟩).run Tryd.prog wx = .ok (.string S4) wx := s4
          rw [hS4, hP3, hS5] at s5
          rw [hS5, hS6] at s6
          replace s6 : ∀ wx : World, (Op.stringOp .add S5 ⟨#[58]⟩).run Tryd.prog wx = .ok (.string S6) wx := s6
          rw [hS6, hP4, hS7] at s7
          rw [hS7, hS8] at s8
          replace s8 : ∀ wx : World, (Op.stringOp .add S7 ⟨#[58]⟩).run Tryd.prog wx = .ok (.string S8) wx := s8
          rw [hS8, hP5, hS9] at s9
          rw [hS9, hS10] at s10
          replace s10 : ∀ wx : World, (Op.stringOp .add S9 ⟨#[90]⟩).run Tryd.prog wx = .ok (.string S10) wx := s10
          rw [hP0] at C0
          rw [hP1] at C1
          rw [hP2] at C2
          rw [hP3] at C3
          rw [hP4] at C4
          rw [hP5] at C5
          have HEQ := Lib.hid (show strOf (txt19 y m d h i s ++ [90]) = S10 by rw [← hS10, b10_2, b10_2, b10_2, b10_2, b10_2, b10_4]; rfl)
          clear hP0 hP1 hP2 hP3 hP4 hP5 hS0 hS1 hS2 hS3 hS4 hS5 hS6 hS7 hS8 hS9 hS10 hLL hge hm hL2 he
          go_wp2_with fail
          refine (CK.out _).mono ?_
          rintro e w' ⟨rfl, rfl⟩
          go_wp2_with fail
          refine (C0.out _).mono ?_
          rintro e x0 ⟨rfl, hb0⟩
          have HB0 := Lib.hid hb0
          clear hb0
          go_wp2_with fail
          refine (C1.out _).mono ?_
          rintro e x1 ⟨rfl, hb1⟩
          have HB1 := Lib.hid (HB0.out.trans (hb1.mono HB0.out.size))
          clear hb1
          go_wp2_with fail
          refine (C2.out _).mono ?_
          rintro e x2 ⟨rfl, hb2⟩
          have HB2 := Lib.hid (HB1.out.trans (hb2.mono HB1.out.size))
          clear hb2
          go_wp2_with fail
          refine (C3.out _).mono ?_
          rintro e x3 ⟨rfl, hb3⟩
          have HB3 := Lib.hid (HB2.out.trans (hb3.mono HB2.out.size))
          clear hb3
          go_wp2_with fail
          refine (C4.out _).mono ?_
          rintro e x4 ⟨rfl, hb4⟩
          have HB4 := Lib.hid (HB3.out.trans (hb4.mono HB3.out.size))
          clear hb4
          go_wp2_with fail
          refine (C5.out _).mono ?_
          rintro e x5 ⟨rfl, hb5⟩
          have HB5 := Lib.hid (HB4.out.trans (hb5.mono HB4.out.size))
          clear hb5
          go_wp2_with fail
          go_ret
          exact ⟨_, HF.out, by rw [HEQ.out]; rfl, HB5.out⟩
end Go.Proofs.YtfedidiieacakaaDoor.St
