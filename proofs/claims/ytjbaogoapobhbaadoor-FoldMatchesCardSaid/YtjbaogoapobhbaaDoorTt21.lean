/- Merged: FoAw FoW0 FoW3. -/
import Derived.Test.YtjbaogoapobhbaaDoorTt20
import Derived.Test.YtjbaogoapobhbaaDoorTt16
import Derived.Laws.Concat
namespace Go.Proofs.YtjbaogoapobhbaaDoor.Fo
open Go.Proofs Go.RowKit
open Go.Proofs.YtjbaogoapobhbaaDoor.Utf
open Go.Proofs.YtjbaogoapobhbaaDoor.Sc
open Go.Proofs.YtjbaogoapobhbaaDoor.Po

theorem lit_rd (w : World) (xs : List (List UInt8)) (cs : Array Value) (n : Nat) (hn : xs.length = n) (h : cs.toList = strC xs) : Rd (w.alloc (.cells cs 9)) (w.alloc (.cells cs 9)).heap.size (.slice (some ⟨w.heap.size, 0, none⟩) n n) (strC xs) := by
  subst hn
  refine ⟨some ⟨w.heap.size, 0, none⟩, xs.length, by rw [strC_len], fun _ => ⟨_, rfl, by show w.heap.size < _; simp, fun j u hu => ?_⟩⟩
  exact cells_new w 9 cs j u (by rw [h]; exact hu)
set_option maxRecDepth 100000 in
set_option maxHeartbeats 1000000 in
theorem awake_any16 (w : World) (hm : Mx w) : Calls Tryd.prog 9 #[] w fun e w' => e = .returned (.bool true) ∧ Below w.heap.size w w' := by
  have C1 := Lib.hid (fun W => pTerms_any ⟨#[97, 100, 97, 32, 34, 103, 114, 97, 99, 101, 32, 104, 111, 112, 112, 101, 114, 34, 120]⟩ W (by decide))
  rw [show tms (⟨#[97, 100, 97, 32, 34, 103, 114, 97, 99, 101, 32, 104, 111, 112, 112, 101, 114, 34, 120]⟩ : ByteArray).data.toList = [[97, 100, 97], [103, 114, 97, 99, 101, 32, 104, 111, 112, 112, 101, 114], [120]] from by decide +kernel] at C1
  have C2 := Lib.hid (fun (tv : Value) (W : World) (hv : Rd W W.heap.size tv (strC [[71, 114, 97, 99, 101, 32, 72, 111, 112, 112, 101, 114], [65, 100, 97, 32, 76]])) (hb : Below w.heap.size w W) => pMatch_any ⟨#[65, 68, 65, 32, 104, 111, 112]⟩ tv [[71, 114, 97, 99, 101, 32, 72, 111, 112, 112, 101, 114], [65, 100, 97, 32, 76]] W hv (by decide) (by decide) (by decide) (.inl ⟨hm.keep hb, by decide⟩))
  rw [show matS (⟨#[65, 68, 65, 32, 104, 111, 112]⟩ : ByteArray).data.toList [[71, 114, 97, 99, 101, 32, 72, 111, 112, 112, 101, 114], [65, 100, 97, 32, 76]] = true from by decide +kernel] at C2
  have C3 := Lib.hid (fun W => pCompare_any ⟨#[66]⟩ ⟨#[97]⟩ W (by decide) (by decide))
  rw [show cmpF (⟨#[66]⟩ : ByteArray).data.toList (⟨#[97]⟩ : ByteArray).data.toList = 1 from by decide +kernel] at C3
  have C4 := Lib.hid (fun W => pFold_any ⟨#[97, 66, 195, 137]⟩ W (by decide))
  rw [show low (⟨#[97, 66, 195, 137]⟩ : ByteArray).data.toList = [97, 98, 195, 137] from by decide +kernel] at C4
  have C5 := Lib.hid (fun W (hb : Below w.heap.size w W) => pHas_any ⟨#[97, 98]⟩ ⟨#[99]⟩ W (by decide) (by decide) (hm.keep hb))
  rw [show hasL (low (⟨#[97, 98]⟩ : ByteArray).data.toList) (low (⟨#[99]⟩ : ByteArray).data.toList) = false from by decide +kernel] at C5
  obtain ⟨X, hX⟩ : ∃ X, strOf [97, 98, 195, 137] = X := ⟨_, rfl⟩
  have x1 : (X.toList == [97, 98, 195, 137]) = true := by rw [← hX, strOf_list]; rfl
  have x2 : X.toList = [97, 98, 195, 137] := by rw [← hX, strOf_list]
  rw [hX] at C4
  clear hX
  go_enter Tryd.func9, Tryd.ntmps9
  go_wp2_with fail
  refine (C1.out _).mono ?_
  rintro e w1 ⟨tv, rfl, hown, hb1⟩
  have HR1 := Lib.hid (Rd.of_own hown)
  have HB1 := Lib.hid hb1
  clear hown hb1
  obtain ⟨W2, hW2⟩ : ∃ W2, W2 = w1.alloc (.cells #[.string ⟨#[97, 100, 97]⟩, .string ⟨#[103, 114, 97, 99, 101, 32, 104, 111, 112, 112, 101, 114]⟩, .string ⟨#[120]⟩] 9) := ⟨_, rfl⟩
  have HL2 := Lib.hid (lit_rd w1 [[97, 100, 97], [103, 114, 97, 99, 101, 32, 104, 111, 112, 112, 101, 114], [120]] #[.string ⟨#[97, 100, 97]⟩, .string ⟨#[103, 114, 97, 99, 101, 32, 104, 111, 112, 112, 101, 114]⟩, .string ⟨#[120]⟩] 3 rfl rfl)
  rw [← hW2] at HL2
  have hb2 : Below w1.heap.size w1 W2 := by rw [hW2]; exact (Below.refl _ _).alloc (Nat.le_refl _) _
  have HR2 := Lib.hid ((HR1.out.below hb2).more hb2.size)
  have HB2 := Lib.hid (HB1.out.trans (hb2.mono HB1.out.size))
  have HW2 := Lib.hid hW2
  clear hW2 hb2
  go_wp2_with fail
  rw [← HW2.out]
  refine (SameParts_any _ _ _ _ W2 HR2.out HL2.out (by decide)).mono ?_
  rintro e w3 ⟨⟨x, rfl, hx⟩, hb3⟩
  obtain rfl : x = true := hx.2 rfl
  have HB3 := Lib.hid (HB2.out.trans (hb3.mono HB2.out.size))
  clear hx hb3
  obtain ⟨W4, hW4⟩ : ∃ W4, W4 = w3.alloc (.cells #[.string ⟨#[71, 114, 97, 99, 101, 32, 72, 111, 112, 112, 101, 114]⟩, .string ⟨#[65, 100, 97, 32, 76]⟩] 9) := ⟨_, rfl⟩
  have HL4 := Lib.hid (lit_rd w3 [[71, 114, 97, 99, 101, 32, 72, 111, 112, 112, 101, 114], [65, 100, 97, 32, 76]] #[.string ⟨#[71, 114, 97, 99, 101, 32, 72, 111, 112, 112, 101, 114]⟩, .string ⟨#[65, 100, 97, 32, 76]⟩] 2 rfl rfl)
  rw [← hW4] at HL4
  have HB4 := Lib.hid (show Below w.heap.size w W4 by rw [hW4]; exact HB3.out.alloc HB3.out.size _)
  have HW4 := Lib.hid hW4
  clear hW4
  go_wp2_with fail
  rw [← HW4.out]
  refine (C2.out _ W4 HL4.out HB4.out).mono ?_
  rintro e w5 ⟨rfl, hb⟩
  have HB5 := Lib.hid (HB4.out.trans (hb.mono HB4.out.size))
  clear hb
  go_wp2_with fail
  refine (C3.out _).mono ?_
  rintro e w6 ⟨rfl, hb⟩
  have HB6 := Lib.hid (HB5.out.trans (hb.mono HB5.out.size))
  clear hb
  go_wp2_with fail
  refine (C4.out _).mono ?_
  rintro e w7 ⟨rfl, hb⟩
  have HB7 := Lib.hid (HB6.out.trans (hb.mono HB6.out.size))
  clear hb
  go_wp2_with fail
  refine (C5.out _ HB7.out).mono ?_
  rintro e w8 ⟨rfl, hb⟩
  have HB8 := Lib.hid (HB7.out.trans (hb.mono HB7.out.size))
  clear hb
  go_wp2_with fail
  go_ret
  exact ⟨rfl, HB8.out⟩
end Go.Proofs.YtjbaogoapobhbaaDoor.Fo
namespace Go.Proofs.YtjbaogoapobhbaaDoor.Fo
open Go.Proofs Go.RowKit
open Go.Proofs.YtjbaogoapobhbaaDoor.Utf
open Go.Proofs.YtjbaogoapobhbaaDoor.Sc
open Go.Proofs.YtjbaogoapobhbaaDoor.Po

theorem sum_of (X Y : ByteArray) (h : X.size + Y.size ≤ 9223372036854775807) (w : World) : (Op.stringOp .add X Y).run Tryd.prog w = .ok (.string (strOf (X.data.toList ++ Y.data.toList))) w := by
  have e1 : X = strOf X.data.toList := rfl
  have e2 : Y = strOf Y.data.toList := rfl
  rw [run_string_add_sum w _ _ h]
  conv => lhs; rw [e1, e2]
  unfold strOf; rw [ByteArray.mk_append_mk]
section
variable {P : Program} {ops : Array Oper} {Q : Exit → Act → World → Prop} {a : Act} {w : World} {rest : List Oper} {o : Oper}
end
end Go.Proofs.YtjbaogoapobhbaaDoor.Fo
namespace Go.Proofs.YtjbaogoapobhbaaDoor.Fo
open Go.Proofs Go.RowKit
open Go.Proofs.YtjbaogoapobhbaaDoor.Utf
open Go.Proofs.YtjbaogoapobhbaaDoor.Sc
open Go.Proofs.YtjbaogoapobhbaaDoor.Po

set_option maxRecDepth 100000 in
set_option maxHeartbeats 1000000 in
theorem matches_walk (q a b : ByteArray) (w : World) (_hq : q.size ≤ maxLen) (_ha : a.size ≤ maxLen) (_hb : b.size ≤ maxLen) (hm : Mx w) :
    Calls Tryd.prog 5 #[.string q, .string a, .string b] w fun e w' => e = .returned (.bool true) ∧ Below w.heap.size w w' := by
  have HB0 := Lib.hid (Below.refl w.heap.size w)
  have HMX := Lib.hid hm
  clear hm
  by_cases g2 : 500 < q.size
  · have g21 : decide ((q.size : Int) > 500) = true := decide_eq_true (by omega)
    have g22 : decide ((500 : Int) < (q.size : Int)) = true := decide_eq_true (by omega)
    have g23 : decide (500 < q.size) = true := decide_eq_true (by omega)
    clear g2
    go_enter Tryd.func5, Tryd.ntmps5
    go_wp2_with fail
    refine (awake_any16 _ (HMX.out.keep HB0.out)).mono ?_
    rintro e w1 ⟨rfl, hb⟩
    have HB1 := Lib.hid (HB0.out.trans (hb.mono HB0.out.size))
    clear hb
    go_wp2_with fail
    go_ret
    exact ⟨rfl, HB1.out⟩
  · have g21 : decide ((q.size : Int) > 500) = false := decide_eq_false (by omega)
    have g22 : decide ((500 : Int) < (q.size : Int)) = false := decide_eq_false (by omega)
    have g23 : decide (500 < q.size) = false := decide_eq_false (by omega)
    by_cases g1 : 2000 < a.size
    · have g11 : decide ((a.size : Int) > 2000) = true := decide_eq_true (by omega)
      have g12 : decide ((2000 : Int) < (a.size : Int)) = true := decide_eq_true (by omega)
      have g13 : decide (2000 < a.size) = true := decide_eq_true (by omega)
      clear g1
      go_enter Tryd.func5, Tryd.ntmps5
      go_wp2_with fail
      refine (awake_any16 _ (HMX.out.keep HB0.out)).mono ?_
      rintro e w1 ⟨rfl, hb⟩
      have HB1 := Lib.hid (HB0.out.trans (hb.mono HB0.out.size))
      clear hb
      go_wp2_with fail
      go_ret
      exact ⟨rfl, HB1.out⟩
    · have g11 : decide ((a.size : Int) > 2000) = false := decide_eq_false (by omega)
      have g12 : decide ((2000 : Int) < (a.size : Int)) = false := decide_eq_false (by omega)
      have g13 : decide (2000 < a.size) = false := decide_eq_false (by omega)
      by_cases g0 : 2000 < b.size
      · have g01 : decide ((b.size : Int) > 2000) = true := decide_eq_true (by omega)
        have g02 : decide ((2000 : Int) < (b.size : Int)) = true := decide_eq_true (by omega)
        have g03 : decide (2000 < b.size) = true := decide_eq_true (by omega)
        clear g0
        go_enter Tryd.func5, Tryd.ntmps5
        go_wp2_with fail
        refine (awake_any16 _ (HMX.out.keep HB0.out)).mono ?_
        rintro e w1 ⟨rfl, hb⟩
        have HB1 := Lib.hid (HB0.out.trans (hb.mono HB0.out.size))
        clear hb
        go_wp2_with fail
        go_ret
        exact ⟨rfl, HB1.out⟩
      · have g01 : decide ((b.size : Int) > 2000) = false := decide_eq_false (by omega)
        have g02 : decide ((2000 : Int) < (b.size : Int)) = false := decide_eq_false (by omega)
        have g03 : decide (2000 < b.size) = false := decide_eq_false (by omega)
        have C1 := Lib.hid (fun (tv : Value) (W : World) (hv : Rd W W.heap.size tv (strC [a.data.toList])) (hb : Below w.heap.size w W) => pMatch_any q tv [a.data.toList] W hv (by omega) (by simp) (fun x hx => by rw [List.mem_singleton.1 hx, len_data]; omega) (.inl ⟨HMX.out.keep hb, fun x hx => by rw [List.mem_singleton.1 hx, len_data]; omega⟩))
        have C2 := Lib.hid (fun W => pFold_any q W (by omega))
        have C3 := Lib.hid (fun W => pFold_any a W (by omega))
        have C4 := Lib.hid (fun (tv : Value) (W : World) (hv : Rd W W.heap.size tv (strC [low a.data.toList])) (hb : Below w.heap.size w W) => pMatch_any (strOf (low q.data.toList)) tv [low a.data.toList] W hv (by rw [strOf_size, low_len, len_data]; omega) (by simp) (fun x hx => by rw [List.mem_singleton.1 hx, low_len, len_data]; omega) (.inl ⟨HMX.out.keep hb, fun x hx => by rw [List.mem_singleton.1 hx, low_len, len_data]; omega⟩))
        rw [strOf_data, mat_fold] at C4
        have C5 := Lib.hid (fun (tv : Value) (W : World) (hv : Rd W W.heap.size tv (strC [b.data.toList ++ a.data.toList ++ b.data.toList])) (hb : Below w.heap.size w W) => pMatch_any q tv [b.data.toList ++ a.data.toList ++ b.data.toList] W hv (by omega) (by simp) (fun x hx => by rw [List.mem_singleton.1 hx, List.length_append, List.length_append, len_data, len_data]; omega) (.inl ⟨HMX.out.keep hb, fun x hx => by rw [List.mem_singleton.1 hx, List.length_append, List.length_append, len_data, len_data]; omega⟩))
        have C6 := Lib.hid (fun (tv : Value) (W : World) (hv : Rd W W.heap.size tv (strC [b.data.toList, a.data.toList])) (hb : Below w.heap.size w W) => pMatch_any q tv [b.data.toList, a.data.toList] W hv (by omega) (by simp) (fun x hx => by
          rcases List.mem_cons.1 hx with rfl | hx
          · rw [len_data]; omega
          · rw [List.mem_singleton.1 hx, len_data]; omega) (.inl ⟨HMX.out.keep hb, fun x hx => by
          rcases List.mem_cons.1 hx with rfl | hx
          · rw [len_data]; omega
          · rw [List.mem_singleton.1 hx, len_data]; omega⟩))
        have C7 := Lib.hid (fun W => pMatch_any ⟨#[]⟩ (.slice none 0 0) [] W (Rd.nil_ _ _ _) (by decide) (by decide) (fun x hx => by cases hx) (.inr (by decide)))
        rw [show matS (⟨#[]⟩ : ByteArray).data.toList [] = true from rfl] at C7
        have HMO := Lib.hid (fun h => mat_more (q := q.data.toList) (a := a.data.toList) (b := b.data.toList) h)
        have s1 := sum_of b a (by omega)
        have s2 := sum_of (strOf (b.data.toList ++ a.data.toList)) b (by rw [strOf_size, List.length_append, len_data, len_data]; omega)
        rw [strOf_data] at s2
        obtain ⟨X, hX⟩ : ∃ X, strOf (low q.data.toList) = X := ⟨_, rfl⟩
        obtain ⟨Y, hY⟩ : ∃ Y, strOf (low a.data.toList) = Y := ⟨_, rfl⟩
        obtain ⟨U, hU⟩ : ∃ U, strOf (b.data.toList ++ a.data.toList) = U := ⟨_, rfl⟩
        obtain ⟨Z, hZ⟩ : ∃ Z, strOf (b.data.toList ++ a.data.toList ++ b.data.toList) = Z := ⟨_, rfl⟩
        have HY := Lib.hid hY
        have HZ := Lib.hid hZ
        rw [hX] at C2 C4
        rw [hY] at C3
        rw [hU] at s1 s2
        rw [hZ] at s2
        obtain ⟨one, hone⟩ : ∃ x, matS q.data.toList [a.data.toList] = x := ⟨_, rfl⟩
        rw [hone] at C1 C4 HMO
        clear hX hY hU hZ hone g0 g1 g2
        cases one with
        | true =>
          obtain ⟨m1, m2⟩ := HMO.out rfl
          rw [m1] at C5
          rw [m2] at C6
          clear m1 m2 HMO HB0
          obtain ⟨w0, hw0⟩ : ∃ x, x = w := ⟨_, rfl⟩
          have HB0 := Lib.hid (show Below w.heap.size w w0 by rw [hw0]; exact Below.refl _ _)
          have HW0 := Lib.hid hw0
          clear hw0
          go_enter Tryd.func5, Tryd.ntmps5
          rw [← HW0.out]
          obtain ⟨w1, hw1⟩ : ∃ x, x = w0.alloc (.cells #[.string a] 9) := ⟨_, rfl⟩
          have HL1 := Lib.hid (lit_rd w0 [a.data.toList] #[.string a] 1 rfl rfl)
          rw [← hw1] at HL1
          have HB1 := Lib.hid (show Below w.heap.size w w1 by rw [hw1]; exact HB0.out.alloc HB0.out.size _)
          have HW1 := Lib.hid hw1
          clear hw1
          go_wp2_with fail
          rw [← HW1.out]
          refine (C1.out _ _ HL1.out HB1.out).mono ?_
          rintro e w2 ⟨rfl, hb⟩
          have HB2 := Lib.hid (HB1.out.trans (hb.mono HB1.out.size))
          clear hb
          go_wp2_with fail
          refine (awake_any16 _ (HMX.out.keep HB2.out)).mono ?_
          rintro e w3 ⟨rfl, hb⟩
          have HB3 := Lib.hid (HB2.out.trans (hb.mono HB2.out.size))
          clear hb
          go_wp2_with fail
          refine (C2.out _).mono ?_
          rintro e w4 ⟨rfl, hb⟩
          have HB4 := Lib.hid (HB3.out.trans (hb.mono HB3.out.size))
          clear hb
          go_wp2_with fail
          refine (C3.out _).mono ?_
          rintro e w5 ⟨rfl, hb⟩
          have HB5 := Lib.hid (HB4.out.trans (hb.mono HB4.out.size))
          clear hb
          obtain ⟨w6, hw6⟩ : ∃ x, x = w5.alloc (.cells #[.string Y] 9) := ⟨_, rfl⟩
          have HL6 := Lib.hid (lit_rd w5 [low a.data.toList] #[.string Y] 1 rfl (by rw [← HY.out]; rfl))
          rw [← hw6] at HL6
          have HB6 := Lib.hid (show Below w.heap.size w w6 by rw [hw6]; exact HB5.out.alloc HB5.out.size _)
          have HW6 := Lib.hid hw6
          clear hw6
          go_wp2_with fail
          rw [← HW6.out]
          refine (C4.out _ _ HL6.out HB6.out).mono ?_
          rintro e w7 ⟨rfl, hb⟩
          have HB7 := Lib.hid (HB6.out.trans (hb.mono HB6.out.size))
          clear hb
          obtain ⟨w8, hw8⟩ : ∃ x, x = w7.alloc (.cells #[.string Z] 9) := ⟨_, rfl⟩
          have HL8 := Lib.hid (lit_rd w7 [b.data.toList ++ a.data.toList ++ b.data.toList] #[.string Z] 1 rfl (by rw [← HZ.out]; rfl))
          rw [← hw8] at HL8
          have HB8 := Lib.hid (show Below w.heap.size w w8 by rw [hw8]; exact HB7.out.alloc HB7.out.size _)
          have HW8 := Lib.hid hw8
          clear hw8
          go_wp2_with fail
          rw [← HW8.out]
          refine (C5.out _ _ HL8.out HB8.out).mono ?_
          rintro e w9 ⟨rfl, hb⟩
          have HB9 := Lib.hid (HB8.out.trans (hb.mono HB8.out.size))
          clear hb
          obtain ⟨w10, hw10⟩ : ∃ x, x = w9.alloc (.cells #[.string b, .string a] 9) := ⟨_, rfl⟩
          have HL10 := Lib.hid (lit_rd w9 [b.data.toList, a.data.toList] #[.string b, .string a] 2 rfl rfl)
          rw [← hw10] at HL10
          have HB10 := Lib.hid (show Below w.heap.size w w10 by rw [hw10]; exact HB9.out.alloc HB9.out.size _)
          have HW10 := Lib.hid hw10
          clear hw10
          go_wp2_with fail
          rw [← HW10.out]
          refine (C6.out _ _ HL10.out HB10.out).mono ?_
          rintro e w11 ⟨rfl, hb⟩
          have HB11 := Lib.hid (HB10.out.trans (hb.mono HB10.out.size))
          clear hb
          go_wp2_with fail
          refine (C7.out _).mono ?_
          rintro e w12 ⟨rfl, hb⟩
          have HB12 := Lib.hid (HB11.out.trans (hb.mono HB11.out.size))
          clear hb
          go_wp2_with fail
          go_ret
          exact ⟨rfl, by rw [HW0.out]; exact HB12.out⟩
        | false =>
          clear HMO C5 C6 HB0
          obtain ⟨w0, hw0⟩ : ∃ x, x = w := ⟨_, rfl⟩
          have HB0 := Lib.hid (show Below w.heap.size w w0 by rw [hw0]; exact Below.refl _ _)
          have HW0 := Lib.hid hw0
          clear hw0
          go_enter Tryd.func5, Tryd.ntmps5
          rw [← HW0.out]
          obtain ⟨w1, hw1⟩ : ∃ x, x = w0.alloc (.cells #[.string a] 9) := ⟨_, rfl⟩
          have HL1 := Lib.hid (lit_rd w0 [a.data.toList] #[.string a] 1 rfl rfl)
          rw [← hw1] at HL1
          have HB1 := Lib.hid (show Below w.heap.size w w1 by rw [hw1]; exact HB0.out.alloc HB0.out.size _)
          have HW1 := Lib.hid hw1
          clear hw1
          go_wp2_with fail
          rw [← HW1.out]
          refine (C1.out _ _ HL1.out HB1.out).mono ?_
          rintro e w2 ⟨rfl, hb⟩
          have HB2 := Lib.hid (HB1.out.trans (hb.mono HB1.out.size))
          clear hb
          go_wp2_with fail
          refine (awake_any16 _ (HMX.out.keep HB2.out)).mono ?_
          rintro e w3 ⟨rfl, hb⟩
          have HB3 := Lib.hid (HB2.out.trans (hb.mono HB2.out.size))
          clear hb
          go_wp2_with fail
          refine (C2.out _).mono ?_
          rintro e w4 ⟨rfl, hb⟩
          have HB4 := Lib.hid (HB3.out.trans (hb.mono HB3.out.size))
          clear hb
          go_wp2_with fail
          refine (C3.out _).mono ?_
          rintro e w5 ⟨rfl, hb⟩
          have HB5 := Lib.hid (HB4.out.trans (hb.mono HB4.out.size))
          clear hb
          obtain ⟨w6, hw6⟩ : ∃ x, x = w5.alloc (.cells #[.string Y] 9) := ⟨_, rfl⟩
          have HL6 := Lib.hid (lit_rd w5 [low a.data.toList] #[.string Y] 1 rfl (by rw [← HY.out]; rfl))
          rw [← hw6] at HL6
          have HB6 := Lib.hid (show Below w.heap.size w w6 by rw [hw6]; exact HB5.out.alloc HB5.out.size _)
          have HW6 := Lib.hid hw6
          clear hw6
          go_wp2_with fail
          rw [← HW6.out]
          refine (C4.out _ _ HL6.out HB6.out).mono ?_
          rintro e w7 ⟨rfl, hb⟩
          have HB7 := Lib.hid (HB6.out.trans (hb.mono HB6.out.size))
          clear hb
          go_wp2_with fail
          refine (C7.out _).mono ?_
          rintro e w8 ⟨rfl, hb⟩
          have HB8 := Lib.hid (HB7.out.trans (hb.mono HB7.out.size))
          clear hb
          obtain ⟨w9, hw9⟩ : ∃ x, x = w8.alloc (.cells #[.string a] 9) := ⟨_, rfl⟩
          have HL9 := Lib.hid (lit_rd w8 [a.data.toList] #[.string a] 1 rfl rfl)
          rw [← hw9] at HL9
          have HB9 := Lib.hid (show Below w.heap.size w w9 by rw [hw9]; exact HB8.out.alloc HB8.out.size _)
          have HW9 := Lib.hid hw9
          clear hw9
          go_wp2_with fail
          rw [← HW9.out]
          refine (C1.out _ _ HL9.out HB9.out).mono ?_
          rintro e w10 ⟨rfl, hb⟩
          have HB10 := Lib.hid (HB9.out.trans (hb.mono HB9.out.size))
          clear hb
          go_wp2_with fail
          go_ret
          exact ⟨rfl, by rw [HW0.out]; exact HB10.out⟩
end Go.Proofs.YtjbaogoapobhbaaDoor.Fo
