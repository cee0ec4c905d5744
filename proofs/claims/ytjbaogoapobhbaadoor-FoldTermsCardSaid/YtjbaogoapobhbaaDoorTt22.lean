/- Merged: FoAw. -/
import Derived.Test.YtjbaogoapobhbaaDoorTt21
import Derived.Test.YtjbaogoapobhbaaDoorTt17
namespace Go.Proofs.YtjbaogoapobhbaaDoor.Fo
open Go.Proofs Go.RowKit
open Go.Proofs.YtjbaogoapobhbaaDoor.Utf
open Go.Proofs.YtjbaogoapobhbaaDoor.Sc
open Go.Proofs.YtjbaogoapobhbaaDoor.Po

theorem lit_rd (w : World) (xs : List (List UInt8)) (cs : Array Value) (n : Nat) (hn : xs.length = n) (h : cs.toList = strC xs) : Rd (w.alloc (.cells cs 9)) (w.alloc (.cells cs 9)).heap.size (.slice (some ⟨w.heap.size, 0, none⟩) n n) (strC xs) := by
  subst hn
  refine ⟨some ⟨w.heap.size, 0, none⟩, xs.length, by rw [strC_len], fun _ => ⟨_, rfl, by show w.heap.size < _; simp, fun j u hu => ?_⟩⟩
  exact cells_new w 9 cs j u (by rw [h]; exact hu)
set_option maxRecDepth 100000 in
set_option maxHeartbeats 1000000 in
theorem awake_any16 (w : World) (hm : Mx w) : Calls Tryd.prog 9 #[] w fun e w' => e = .returned (.bool true) ∧ Below w.heap.size w w' := by
  have C1 := Lib.hid (fun W => pTerms_any ⟨#[97, 100, 97, 32, 34, 103, 114, 97, 99, 101, 32, 104, 111, 112, 112, 101, 114, 34, 120]⟩ W (by decide))
  rw [show tms (⟨#[97, 100, 97, 32, 34, 103, 114, 97, 99, 101, 32, 104, 111, 112, 112, 101, 114, 34, 120]⟩ : ByteArray).data.toList = [[97, 100, 97], [103, 114, 97, 99, 101, 32, 104, 111, 112, 112, 101, 114], [120]] from by decide +kernel] at C1
  have C2 := Lib.hid (fun (tv : Value) (W : World) (hv : Rd W W.heap.size tv (strC [[71, 114, 97, 99, 101, 32, 72, 111, 112, 112, 101, 114], [65, 100, 97, 32, 76]])) (hb : Below w.heap.size w W) => pMatch_any ⟨#[65, 68, 65, 32, 104, 111, 112]⟩ tv [[71, 114, 97, 99, 101, 32, 72, 111, 112, 112, 101, 114], [65, 100, 97, 32, 76]] W hv (by decide) (by decide) (by decide) (.inl ⟨hm.keep hb, by decide⟩))
  rw [show matS (⟨#[65, 68, 65, 32, 104, 111, 112]⟩ : ByteArray).data.toList [[71, 114, 97, 99, 101, 32, 72, 111, 112, 112, 101, 114], [65, 100, 97, 32, 76]] = true from by decide +kernel] at C2
  have C3 := Lib.hid (fun W => pCompare_any ⟨#[66]⟩ ⟨#[97]⟩ W (by decide) (by decide))
  rw [show cmpF (⟨#[66]⟩ : ByteArray).data.toList (⟨#[97]⟩ : ByteArray).data.toList = 1 from by decide +kernel] at C3
  have C4 := Lib.hid (fun W => pFold_any ⟨#[97, 66, 195, 137]⟩ W (by decide))
  rw [show low (⟨#[97, 66, 195, 137]⟩ : ByteArray).data.toList = [97, 98, 195, 137] from by decide +kernel] at C4
  have C5 := Lib.hid (fun W (hb : Below w.heap.size w W) => pHas_any ⟨#[97, 98]⟩ ⟨#[99]⟩ W (by decide) (by decide) (hm.keep hb))
  rw [show hasL (low (⟨#[97, 98]⟩ : ByteArray).data.toList) (low (⟨#[99]⟩ : ByteArray).data.toList) = false from by decide +kernel] at C5
  obtain ⟨X, hX⟩ : ∃ X, strOf [97, 98, 195, 137] = X := ⟨_, rfl⟩
  have x1 : (X.toList == [97, 98, 195, 137]) = true := by rw [← hX, strOf_list]; rfl
  have x2 : X.toList = [97, 98, 195, 137] := by rw [← hX, strOf_list]
  rw [hX] at C4
  clear hX
  go_enter Tryd.func9, Tryd.ntmps9
  go_wp2_with fail
  refine (C1.out _).mono ?_
  rintro e w1 ⟨tv, rfl, hown, hb1⟩
  have HR1 := Lib.hid (Rd.of_own hown)
  have HB1 := Lib.hid hb1
  clear hown hb1
  obtain ⟨W2, hW2⟩ : ∃ W2, W2 = w1.alloc (.cells #[.string ⟨#[97, 100, 97]⟩, .string ⟨#[103, 114, 97, 99, 101, 32, 104, 111, 112, 112, 101, 114]⟩, .string ⟨#[120]⟩] 9) := ⟨_, rfl⟩
  have HL2 := Lib.hid (lit_rd w1 [[97, 100, 97], [103, 114, 97, 99, 101, 32, 104, 111, 112, 112, 101, 114], [120]] #[.string ⟨#[97, 100, 97]⟩, .string ⟨#[103, 114, 97, 99, 101, 32, 104, 111, 112, 112, 101, 114]⟩, .string ⟨#[120]⟩] 3 rfl rfl)
  rw [← hW2] at HL2
  have hb2 : Below w1.heap.size w1 W2 := by rw [hW2]; exact (Below.refl _ _).alloc (Nat.le_refl _) _
  have HR2 := Lib.hid ((HR1.out.below hb2).more hb2.size)
  have HB2 := Lib.hid (HB1.out.trans (hb2.mono HB1.out.size))
  have HW2 := Lib.hid hW2
  clear hW2 hb2
  go_wp2_with fail
  rw [← HW2.out]
  refine (SameParts_any _ _ _ _ W2 HR2.out HL2.out (by decide)).mono ?_
  rintro e w3 ⟨⟨x, rfl, hx⟩, hb3⟩
  obtain rfl : x = true := hx.2 rfl
  have HB3 := Lib.hid (HB2.out.trans (hb3.mono HB2.out.size))
  clear hx hb3
  obtain ⟨W4, hW4⟩ : ∃ W4, W4 = w3.alloc (.cells #[.string ⟨#[71, 114, 97, 99, 101, 32, 72, 111, 112, 112, 101, 114]⟩, .string ⟨#[65, 100, 97, 32, 76]⟩] 9) := ⟨_, rfl⟩
  have HL4 := Lib.hid (lit_rd w3 [[71, 114, 97, 99, 101, 32, 72, 111, 112, 112, 101, 114], [65, 100, 97, 32, 76]] #[.string ⟨#[71, 114, 97, 99, 101, 32, 72, 111, 112, 112, 101, 114]⟩, .string ⟨#[65, 100, 97, 32, 76]⟩] 2 rfl rfl)
  rw [← hW4] at HL4
  have HB4 := Lib.hid (show Below w.heap.size w W4 by rw [hW4]; exact HB3.out.alloc HB3.out.size _)
  have HW4 := Lib.hid hW4
  clear hW4
  go_wp2_with fail
  rw [← HW4.out]
  refine (C2.out _ W4 HL4.out HB4.out).mono ?_
  rintro e w5 ⟨rfl, hb⟩
  have HB5 := Lib.hid (HB4.out.trans (hb.mono HB4.out.size))
  clear hb
  go_wp2_with fail
  refine (C3.out _).mono ?_
  rintro e w6 ⟨rfl, hb⟩
  have HB6 := Lib.hid (HB5.out.trans (hb.mono HB5.out.size))
  clear hb
  go_wp2_with fail
  refine (C4.out _).mono ?_
  rintro e w7 ⟨rfl, hb⟩
  have HB7 := Lib.hid (HB6.out.trans (hb.mono HB6.out.size))
  clear hb
  go_wp2_with fail
  refine (C5.out _ HB7.out).mono ?_
  rintro e w8 ⟨rfl, hb⟩
  have HB8 := Lib.hid (HB7.out.trans (hb.mono HB7.out.size))
  clear hb
  go_wp2_with fail
  go_ret
  exact ⟨rfl, HB8.out⟩
end Go.Proofs.YtjbaogoapobhbaaDoor.Fo
