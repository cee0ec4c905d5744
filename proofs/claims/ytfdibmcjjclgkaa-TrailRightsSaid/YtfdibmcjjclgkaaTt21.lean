/- Merged: TlW1. -/
import Derived.Test.YtfdibmcjjclgkaaTt20
import Derived.Test.YtfdibmcjjclgkaaTt8
namespace Go.Proofs.Ytfdibmcjjclgkaa.Tl
open Go.Proofs Go.RowKit
open Go.Proofs.Ytfdibmcjjclgkaa.Utf
open Go.Proofs.Ytfdibmcjjclgkaa.Ro

theorem wf_i64 {n : Int} (h : (Lit.int .i64 n).wf = true) : -9223372036854775808 ≤ n ∧ n ≤ 9223372036854775807 := by
  have h1 : (decide (-9223372036854775808 ≤ n) && decide (n ≤ 9223372036854775807)) = true := h
  rw [Bool.and_eq_true] at h1
  exact ⟨of_decide_eq_true h1.1, of_decide_eq_true h1.2⟩
set_option maxRecDepth 100000 in
set_option maxHeartbeats 1000000 in
theorem rights_walk (v : Value) (l : List En) (f s : Int) (w : World) (hl : RdE w w.heap.size v l) (_hn : l.length * 32 ≤ reachBytes) (hI : ∀ e ∈ l, e.2.1.length ≤ 9223372036854775807) (_hcp : ∀ A m c, v = .slice A m c → m ≤ c) (hf : (Lit.int .i64 f).wf = true) (hs : (Lit.int .i64 s).wf = true) :
    Calls Try.prog 3 #[v, .int .i64 f, .int .i64 s] w fun e w' => e = .returned (.bool true) ∧ Below w.heap.size w w' := by
  obtain ⟨A, c, rfl⟩ := RdE.form hl
  have HL := Lib.hid hl
  have HI := Lib.hid hI
  clear hl hI
  by_cases h5 : l.length ≤ 500
  · have t0 : decide (((l.length : Nat) : Int) > 500) = false := decide_eq_false (by omega)
    have t1 : decide ((500 : Int) < ((l.length : Nat) : Int)) = false := decide_eq_false (by omega)
    have t2 : decide (500 < l.length) = false := decide_eq_false (by omega)
    have C1 := Lib.hid (fun (W : World) (hb : Below w.heap.size w W) => pRight_any _ l f s W ((HL.out.below hb).more hb.size) (by omega) HI.out (wf_i64 hf) (wf_i64 hs))
    have C2 := Lib.hid (fun (W : World) (hb : Below w.heap.size w W) => rRight_any _ l f s W ((HL.out.below hb).more hb.size) (by omega) (wf_i64 hf) (wf_i64 hs))
    obtain ⟨r, hr⟩ : ∃ r, rightS l f s = r := ⟨_, rfl⟩
    rw [hr] at C1 C2
    clear hr
    have hrr : (r == r) = true := beq_self_eq_true r
    go_enter Try.func3, Try.ntmps3
    go_wp2_with fail
    refine (C1.out _ (Below.refl _ _)).mono ?_
    rintro e w1 ⟨rfl, hb⟩
    have HB1 := Lib.hid hb
    clear hb
    go_wp2_with fail
    refine (C2.out _ HB1.out).mono ?_
    rintro e w2 ⟨rfl, hb⟩
    have HB2 := Lib.hid (HB1.out.trans (hb.mono HB1.out.size))
    clear hb
    go_wp2_with fail
    refine (awake_any17 _).mono ?_
    rintro e w3 ⟨rfl, hb⟩
    have HB3 := Lib.hid (HB2.out.trans (hb.mono HB2.out.size))
    clear hb
    go_wp2_with fail
    go_ret
    exact ⟨rfl, HB3.out⟩
  · have t0 : decide (((l.length : Nat) : Int) > 500) = true := decide_eq_true (by omega)
    have t1 : decide ((500 : Int) < ((l.length : Nat) : Int)) = true := decide_eq_true (by omega)
    have t2 : decide (500 < l.length) = true := decide_eq_true (by omega)
    go_enter Try.func3, Try.ntmps3
    go_wp2_with fail
    go_ret
    exact ⟨rfl, Below.refl _ _⟩
end Go.Proofs.Ytfdibmcjjclgkaa.Tl
