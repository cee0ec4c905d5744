/- Merged: TlAw. -/
import Derived.Test.YtfdibmcjjclgkaaTt5
import Derived.Test.YtfdibmcjjclgkaaTt9
import Derived.Test.YtfdibmcjjclgkaaTt13
import Derived.Test.YtfdibmcjjclgkaaTt19
namespace Go.Proofs.Ytfdibmcjjclgkaa.Tl
open Go.Proofs Go.RowKit
open Go.Proofs.Ytfdibmcjjclgkaa.Utf
open Go.Proofs.Ytfdibmcjjclgkaa.Ro

theorem paC_4 {l : List Pa} : ∀ r ∈ paC l, r.length = 4 := fun r hr => by obtain ⟨q, -, rfl⟩ := List.mem_map.1 hr; rfl
theorem enC_3 {l : List En} : ∀ r ∈ enC l, r.length = 3 := fun r hr => by obtain ⟨q, -, rfl⟩ := List.mem_map.1 hr; rfl
theorem rdp_own {w : World} {B T : Nat} {v : Value} {l : List Pa} (h : w.ownsRow B T 4 v l.length (paC l).flatten) : RdP w w.heap.size v l := RdR.of_own (rows := paC l) (by rw [paC_len]; exact h) paC_4
theorem rde_own {w : World} {B T : Nat} {v : Value} {l : List En} (h : w.ownsRow B T 3 v l.length (enC l).flatten) : RdE w w.heap.size v l := RdR.of_own (rows := enC l) (by rw [enC_len]; exact h) enC_3
theorem awS : sinS exE 2 = [([97], true, false, 3), ([98], true, true, 4)] := by decide +kernel
theorem awA : (outS exE 2 (5, [99], 1)).length = 2 := by decide +kernel
theorem awF : flrS exE 0 2 (5, [99], 1) = 3 := by decide +kernel
theorem awR : rightS exE 0 4 = true := by decide +kernel
theorem awN : rightS exE 1 4 = false := by decide +kernel
set_option maxRecDepth 100000 in
set_option maxHeartbeats 1000000 in
theorem awake_any17 (w : World) : Calls Try.prog 11 #[] w fun e w' => e = .returned (.bool true) ∧ Below w.heap.size w w' := by
  have C1 := Lib.hid (fun (v : Value) (W : World) (hv : RdE W W.heap.size v exE) => pSince_any v exE 2 W hv (by decide) (by decide))
  have C2 := Lib.hid (fun (v : Value) (W : World) (hv : RdE W W.heap.size v exE) (hc : ∀ A m c, v = .slice A m c → m ≤ c) => pAdd_any v exE 0 2 (5, [99], 1) W hv (by decide) (by decide) hc)
  have C3 := Lib.hid (fun (v : Value) (W : World) (hv : RdE W W.heap.size v exE) => pRight_any v exE 0 4 W hv (by decide) (by decide) (by decide) (by decide))
  have C4 := Lib.hid (fun (v : Value) (W : World) (hv : RdE W W.heap.size v exE) => pRight_any v exE 1 4 W hv (by decide) (by decide) (by decide) (by decide))
  go_enter Try.func11, Try.ntmps11
  go_wp2_with fail
  refine (example_any _).mono ?_
  rintro e w1 ⟨x1, rfl, hr, -, hb1⟩
  have HR := Lib.hid hr
  have HB1 := Lib.hid hb1
  clear hr hb1
  go_wp2_with fail
  refine (C1.out _ _ HR.out).mono ?_
  rintro e w2 ⟨x2, rfl, hr, hb⟩
  have HP := Lib.hid (rdp_own hr)
  have HB2 := Lib.hid (HB1.out.trans (hb.mono HB1.out.size))
  clear hr hb HR
  go_wp2_with fail
  refine (example_any _).mono ?_
  rintro e w3 ⟨x3, rfl, hr, hcx, hb⟩
  have HR := Lib.hid hr
  have HP := Lib.hid ((HP.out.below hb).more hb.size)
  have HB3 := Lib.hid (HB2.out.trans (hb.mono HB2.out.size))
  clear hr hb
  go_wp2_with fail
  refine (C2.out _ _ HR.out hcx).mono ?_
  rintro e w4 ⟨x4, rfl, hr, hb⟩
  obtain ⟨A4, c4, rfl⟩ := own_slice hr
  have HP := Lib.hid ((HP.out.below hb).more hb.size)
  have HB4 := Lib.hid (HB3.out.trans (hb.mono HB3.out.size))
  rw [awA, awF]
  clear hr hb HR
  go_wp2_with fail
  refine (pasts_any _ _ _ HP.out (by rw [awS]; decide)).mono ?_
  rintro e w5 ⟨x5, rfl, hr, hb⟩
  have HQ := Lib.hid (rdp_own hr)
  have HB5 := Lib.hid (HB4.out.trans (hb.mono HB4.out.size))
  clear hr hb HP
  obtain ⟨W6, hW6⟩ : ∃ W6, W6 = w5.alloc (.cells #[.string ⟨#[97]⟩, .bool true, .bool false, .int .i64 3, .string ⟨#[98]⟩, .bool true, .bool true, .int .i64 4] 45) := ⟨_, rfl⟩
  have hb6 : Below w5.heap.size w5 W6 := by rw [hW6]; exact (Below.refl _ _).alloc (Nat.le_refl _) _
  have HL := Lib.hid (show RdP W6 W6.heap.size (.slice (some ⟨w5.heap.size, 0, none⟩) 2 2) (sinS exE 2) by
    rw [awS, hW6]
    exact rd_block (rows := paC [([97], true, false, 3), ([98], true, true, 4)]) (heap_alloc_new w5 _) paC_4 rfl (by simp))
  have HQ := Lib.hid ((HQ.out.below hb6).more hb6.size)
  have HB6 := Lib.hid (HB5.out.trans (hb6.mono HB5.out.size))
  have HW6 := Lib.hid hW6
  clear hW6 hb6
  go_wp2_with fail
  rw [← HW6.out]
  refine (rSame_any _ _ _ _ W6 HQ.out HL.out (by rw [awS]; decide)).mono ?_
  rintro e w7 ⟨⟨b, rfl, hx⟩, hb⟩
  obtain rfl : b = true := hx.2 rfl
  have HB7 := Lib.hid (HB6.out.trans (hb.mono HB6.out.size))
  clear hx hb HL HQ
  go_wp2_with fail
  refine (example_any _).mono ?_
  rintro e w8 ⟨x8, rfl, hr, -, hb⟩
  have HR := Lib.hid hr
  have HB8 := Lib.hid (HB7.out.trans (hb.mono HB7.out.size))
  clear hr hb
  go_wp2_with fail
  refine (C3.out _ _ HR.out).mono ?_
  rintro e w9 ⟨rfl, hb⟩
  have HB9 := Lib.hid (HB8.out.trans (hb.mono HB8.out.size))
  rw [awR]
  clear hb HR
  go_wp2_with fail
  refine (example_any _).mono ?_
  rintro e w10 ⟨x10, rfl, hr, -, hb⟩
  have HR := Lib.hid hr
  have HB10 := Lib.hid (HB9.out.trans (hb.mono HB9.out.size))
  clear hr hb
  go_wp2_with fail
  refine (C4.out _ _ HR.out).mono ?_
  rintro e w11 ⟨rfl, hb⟩
  have HB11 := Lib.hid (HB10.out.trans (hb.mono HB10.out.size))
  rw [awN]
  clear hb HR
  go_wp2_with fail
  go_ret
  exact ⟨rfl, HB11.out⟩
end Go.Proofs.Ytfdibmcjjclgkaa.Tl
