/- Merged: TlW1 TlW2. -/
import Derived.Test.YtfdibmcjjclgkaaTt20
import Derived.Test.YtfdibmcjjclgkaaTt8
namespace Go.Proofs.Ytfdibmcjjclgkaa.Tl
open Go.Proofs Go.RowKit
open Go.Proofs.Ytfdibmcjjclgkaa.Utf
open Go.Proofs.Ytfdibmcjjclgkaa.Ro

theorem wf_i64 {n : Int} (h : (Lit.int .i64 n).wf = true) : -9223372036854775808 ≤ n ∧ n ≤ 9223372036854775807 := by
  have h1 : (decide (-9223372036854775808 ≤ n) && decide (n ≤ 9223372036854775807)) = true := h
  rw [Bool.and_eq_true] at h1
  exact ⟨of_decide_eq_true h1.1, of_decide_eq_true h1.2⟩
end Go.Proofs.Ytfdibmcjjclgkaa.Tl
namespace Go.Proofs.Ytfdibmcjjclgkaa.Tl
open Go.Proofs Go.RowKit
open Go.Proofs.Ytfdibmcjjclgkaa.Utf
open Go.Proofs.Ytfdibmcjjclgkaa.Ro

theorem out_len (l : List En) (keep : Int) (e : En) : (outS l keep e).length ≤ l.length + 1 := by
  unfold outS
  rw [List.length_drop, List.length_append, List.length_singleton]; omega
set_option maxRecDepth 100000 in
set_option maxHeartbeats 1000000 in
theorem adds_walk (v : Value) (l : List En) (f keep : Int) (en : En) (w : World) (hl : RdE w w.heap.size v l) (hn : l.length * 32 ≤ reachBytes) (_hI : ∀ e ∈ l, e.2.1.length ≤ 9223372036854775807) (hcp : ∀ A m c, v = .slice A m c → m ≤ c) (_hf : (Lit.int .i64 f).wf = true) (hk : (Lit.int .i64 keep).wf = true) (_hE : en.2.1.length ≤ 9223372036854775807) :
    Calls Try.prog 4 #[v, .int .i64 f, .int .i64 keep, .agg (enR en).toArray] w fun e w' => e = .returned (.bool true) ∧ Below w.heap.size w w' := by
  obtain ⟨A, c, rfl⟩ := RdE.form hl
  have HL := Lib.hid hl
  have HCP := Lib.hid hcp
  clear hl hcp
  have hn' : l.length * 32 ≤ 140737488351232 := hn
  have C1 := Lib.hid (fun (W : World) (hb : Below w.heap.size w W) => pAdd_any _ l f keep en W ((HL.out.below hb).more hb.size) (by omega) (wf_i64 hk) HCP.out)
  have C2 := Lib.hid (fun (W : World) (hb : Below w.heap.size w W) => rAdd_any _ l f keep en W ((HL.out.below hb).more hb.size) (by omega) (wf_i64 hk))
  have HZ := Lib.hid (show (outS l keep en).length ≤ 9223372036854775807 from Nat.le_trans (out_len _ _ _) (by omega))
  obtain ⟨fl, hfl⟩ : ∃ z, flrS l f keep en = z := ⟨_, rfl⟩
  have HFL := Lib.hid hfl
  have hff : (fl == fl) = true := beq_self_eq_true fl
  unfold GivesAd at C1 C2
  rw [hfl] at C1 C2
  clear hfl hn'
  obtain ⟨eq, eid, ea⟩ := en
  obtain ⟨XE, hXE⟩ : ∃ z, strOf eid = z := ⟨_, rfl⟩
  unfold enR at C1 C2 ⊢
  simp only at C1 C2 ⊢
  rw [hXE] at C1 C2 ⊢
  have HR0 := Lib.hid (show (w.alloc (.cells #[.int .i64 eq, .string XE, .int .i64 ea] 26)).heap[w.heap.size]? = some (.cells #[.int .i64 eq, .string XE, .int .i64 ea] 26 (0, 0)) from heap_alloc_new _ _)
  have HB0 := Lib.hid (show Below w.heap.size w (w.alloc (.cells #[.int .i64 eq, .string XE, .int .i64 ea] 26)) from (Below.refl _ _).alloc (Nat.le_refl _) _)
  obtain ⟨W0, hW0⟩ : ∃ W0, W0 = w.alloc (.cells #[.int .i64 eq, .string XE, .int .i64 ea] 26) := ⟨_, rfl⟩
  rw [← hW0] at HR0 HB0
  have HS0 := Lib.hid (show w.heap.size < W0.heap.size by rw [hW0]; simp)
  have HW0 := Lib.hid hW0
  clear hW0 hXE
  obtain ⟨y0, y1, y2⟩ := row3 HR0.out
  go_enter Try.func4, Try.ntmps4
  go_wp2_with fail
  rw [← HW0.out]
  go_wp2_with fail
  refine (C1.out _ HB0.out).mono ?_
  rintro e w1 ⟨x1, rfl, hr, hb⟩
  have HP := Lib.hid (rde_own hr)
  have HB1 := Lib.hid (HB0.out.trans (hb.mono HB0.out.size))
  have HR1 := Lib.hid ((hb.block w.heap.size HS0.out).trans HR0.out)
  clear hr hb y0 y1 y2
  obtain ⟨y0, y1, y2⟩ := row3 HR1.out
  go_wp2_with fail
  refine (C2.out _ HB1.out).mono ?_
  rintro e w2 ⟨x2, rfl, hr, hb⟩
  have HQ := Lib.hid (rde_own hr)
  have HP := Lib.hid ((HP.out.below hb).more hb.size)
  have HB2 := Lib.hid (HB1.out.trans (hb.mono HB1.out.size))
  clear hr hb y0 y1 y2
  go_wp2_with fail
  refine (awake_any17 _).mono ?_
  rintro e w3 ⟨rfl, hb⟩
  have HQ := Lib.hid ((HQ.out.below hb).more hb.size)
  have HP := Lib.hid ((HP.out.below hb).more hb.size)
  have HB3 := Lib.hid (HB2.out.trans (hb.mono HB2.out.size))
  clear hb
  go_wp2_with fail
  refine (rSameE_any _ _ _ _ _ HP.out HQ.out HZ.out).mono ?_
  rintro e w4 ⟨⟨b, rfl, hx⟩, hb⟩
  obtain rfl : b = true := hx.2 rfl
  have HB4 := Lib.hid (HB3.out.trans (hb.mono HB3.out.size))
  clear hx hb
  go_wp2_with fail
  go_ret
  exact ⟨rfl, HB4.out⟩
end Go.Proofs.Ytfdibmcjjclgkaa.Tl
