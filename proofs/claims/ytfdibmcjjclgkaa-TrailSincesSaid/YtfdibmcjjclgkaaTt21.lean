/- Merged: TlW1 TlW3. -/
import Derived.Test.YtfdibmcjjclgkaaTt20
import Derived.Test.YtfdibmcjjclgkaaTt8
namespace Go.Proofs.Ytfdibmcjjclgkaa.Tl
open Go.Proofs Go.RowKit
open Go.Proofs.Ytfdibmcjjclgkaa.Utf
open Go.Proofs.Ytfdibmcjjclgkaa.Ro

theorem wf_i64 {n : Int} (h : (Lit.int .i64 n).wf = true) : -9223372036854775808 ≤ n ∧ n ≤ 9223372036854775807 := by
  have h1 : (decide (-9223372036854775808 ≤ n) && decide (n ≤ 9223372036854775807)) = true := h
  rw [Bool.and_eq_true] at h1
  exact ⟨of_decide_eq_true h1.1, of_decide_eq_true h1.2⟩
end Go.Proofs.Ytfdibmcjjclgkaa.Tl
namespace Go.Proofs.Ytfdibmcjjclgkaa.Tl
open Go.Proofs Go.RowKit
open Go.Proofs.Ytfdibmcjjclgkaa.Utf
open Go.Proofs.Ytfdibmcjjclgkaa.Ro

set_option maxRecDepth 100000 in
set_option maxHeartbeats 1000000 in
theorem sinces_walk (v : Value) (l : List En) (s : Int) (w : World) (hl : RdE w w.heap.size v l) (_hn : l.length * 32 ≤ reachBytes) (hI : ∀ e ∈ l, e.2.1.length ≤ 9223372036854775807) (_hcp : ∀ A m c, v = .slice A m c → m ≤ c) (_hs : (Lit.int .i64 s).wf = true) :
    Calls Try.prog 5 #[v, .int .i64 s] w fun e w' => e = .returned (.bool true) ∧ Below w.heap.size w w' := by
  obtain ⟨A, c, rfl⟩ := RdE.form hl
  have HL := Lib.hid hl
  have HI := Lib.hid hI
  clear hl hI
  by_cases h5 : l.length ≤ 300
  · have t0 : decide (((l.length : Nat) : Int) > 300) = false := decide_eq_false (by omega)
    have t1 : decide ((300 : Int) < ((l.length : Nat) : Int)) = false := decide_eq_false (by omega)
    have t2 : decide (300 < l.length) = false := decide_eq_false (by omega)
    have C1 := Lib.hid (fun (W : World) (hb : Below w.heap.size w W) => pSince_any _ l s W ((HL.out.below hb).more hb.size) (by omega) HI.out)
    have C2 := Lib.hid (fun (W : World) (hb : Below w.heap.size w W) => rSince_any _ l s W ((HL.out.below hb).more hb.size) (by omega))
    have HZ := Lib.hid (show (sinS l s).length ≤ 300 from Nat.le_trans (sin_len l s) h5)
    go_enter Try.func5, Try.ntmps5
    go_wp2_with fail
    refine (awake_any17 _).mono ?_
    rintro e w1 ⟨rfl, hb⟩
    have HB1 := Lib.hid hb
    clear hb
    go_wp2_with fail
    refine (C1.out _ HB1.out).mono ?_
    rintro e w2 ⟨x2, rfl, hr, hb⟩
    have HP := Lib.hid (rdp_own hr)
    have HB2 := Lib.hid (HB1.out.trans (hb.mono HB1.out.size))
    clear hr hb
    go_wp2_with fail
    refine (pasts_any _ _ _ HP.out (by have := HZ.out; omega)).mono ?_
    rintro e w3 ⟨x3, rfl, hr, hb⟩
    have HQ := Lib.hid (rdp_own hr)
    have HB3 := Lib.hid (HB2.out.trans (hb.mono HB2.out.size))
    clear hr hb HP
    go_wp2_with fail
    refine (C2.out _ HB3.out).mono ?_
    rintro e w4 ⟨x4, rfl, hr, hb⟩
    have HR := Lib.hid (rdp_own hr)
    have HQ := Lib.hid ((HQ.out.below hb).more hb.size)
    have HB4 := Lib.hid (HB3.out.trans (hb.mono HB3.out.size))
    clear hr hb
    go_wp2_with fail
    refine (rSame_any _ _ _ _ _ HQ.out HR.out (by have := HZ.out; omega)).mono ?_
    rintro e w5 ⟨⟨b, rfl, hx⟩, hb⟩
    obtain rfl : b = true := hx.2 rfl
    have HB5 := Lib.hid (HB4.out.trans (hb.mono HB4.out.size))
    clear hx hb HR HQ
    go_wp2_with fail
    go_ret
    exact ⟨rfl, HB5.out⟩
  · have t0 : decide (((l.length : Nat) : Int) > 300) = true := decide_eq_true (by omega)
    have t1 : decide ((300 : Int) < ((l.length : Nat) : Int)) = true := decide_eq_true (by omega)
    have t2 : decide (300 < l.length) = true := decide_eq_true (by omega)
    go_enter Try.func5, Try.ntmps5
    go_wp2_with fail
    go_ret
    exact ⟨rfl, Below.refl _ _⟩
end Go.Proofs.Ytfdibmcjjclgkaa.Tl
