/- Merged: NuE NuF. -/
import Derived.Test.YtgmkejfepakehaaTt1
import Derived.Deep.DeepCutAuto
import Derived.Deep.RegionWith
import Derived.Laws.Concat
namespace Go.Proofs.Ytgmkejfepakehaa.Nu
open Go.RowKit
open Go.Proofs.Ytgmkejfepakehaa.Utf

theorem Rd_new (w : World) (T : TypeId) (l : List UInt8) (k : Nat) (hk : k = l.length) : Rd (w.alloc (.cells (Lib.byteCells l).toArray T)) (w.heap.size + 1) (.slice (some ⟨w.heap.size, 0, none⟩) k k) (Lib.byteCells l) := by
  subst hk
  refine ⟨_, _, by rw [Lib.byteCells_length], fun _ => ⟨_, rfl, by show w.heap.size < _; omega, fun i u hu => ?_⟩⟩
  have hp : (⟨w.heap.size, 0, none⟩ : Addr).add i = ⟨w.heap.size, i, none⟩ := by unfold Addr.add; split <;> simp_all
  rw [hp]
  unfold World.cell?
  rw [heap_alloc_new]
  simpa using hu
theorem conv_1 (w : World) (b : UInt8) (z : Int) (hz : z = b.toNat) : (convert 37 9 (.slice (some ⟨w.heap.size, 0, none⟩) 1 1)).run Try.prog (w.alloc (.cells #[.int .u8 z] 5)) = .ok (.string (strOf [b])) (w.alloc (.cells #[.int .u8 z] 5)) := by
  subst hz
  exact (Rd_new w 5 [b] 1 rfl).conv (P := Try.prog) Try.underlying37 Try.underlying5 Try.underlying9
theorem conv_2 (w : World) (a b : UInt8) (y z : Int) (hy : y = a.toNat) (hz : z = b.toNat) : (convert 37 9 (.slice (some ⟨w.heap.size, 0, none⟩) 2 2)).run Try.prog (w.alloc (.cells #[.int .u8 y, .int .u8 z] 5)) = .ok (.string (strOf [a, b])) (w.alloc (.cells #[.int .u8 y, .int .u8 z] 5)) := by
  subst hy hz
  exact (Rd_new w 5 [a, b] 2 rfl).conv (P := Try.prog) Try.underlying37 Try.underlying5 Try.underlying9

theorem conv_keep {w w1 : World} {b : UInt8} {z : Int} (hz : z = b.toNat) (hb : Below (w.alloc (.cells #[.int .u8 z] 5)).heap.size (w.alloc (.cells #[.int .u8 z] 5)) w1) :
    (convert 37 9 (.slice (some ⟨w.heap.size, 0, none⟩) 1 1)).run Try.prog w1 = .ok (.string (strOf [b])) w1 := by
  subst hz
  exact ((Rd_new w 5 [b] 1 rfl).below' hb (by simp)).conv (P := Try.prog) Try.underlying37 Try.underlying5 Try.underlying9

theorem conv_keep_drew {w w1 : World} {b : UInt8} {z : Int} (hz : z = b.toNat) (hb : Below (w.alloc (.cells #[.int .u8 z] 5)).drew.heap.size (w.alloc (.cells #[.int .u8 z] 5)).drew w1) :
    (convert 37 9 (.slice (some ⟨w.heap.size, 0, none⟩) 1 1)).run Try.prog w1 = .ok (.string (strOf [b])) w1 := by
  subst hz
  have h : Rd (w.alloc (.cells #[.int .u8 (b.toNat : Int)] 5)).drew (w.heap.size + 1) (.slice (some ⟨w.heap.size, 0, none⟩) 1 1) (Lib.byteCells [b]) := (Rd_new w 5 [b] 1 rfl).keep fun _ _ => rfl
  exact (h.below' hb (by simp)).conv (P := Try.prog) Try.underlying37 Try.underlying5 Try.underlying9

theorem conv_1_drew (w : World) (b : UInt8) (z : Int) (hz : z = b.toNat) : (convert 37 9 (.slice (some ⟨w.heap.size, 0, none⟩) 1 1)).run Try.prog (w.alloc (.cells #[.int .u8 z] 5)).drew = .ok (.string (strOf [b])) (w.alloc (.cells #[.int .u8 z] 5)).drew := by
  subst hz
  have h : Rd (w.alloc (.cells #[.int .u8 (b.toNat : Int)] 5)).drew (w.heap.size + 1) (.slice (some ⟨w.heap.size, 0, none⟩) 1 1) (Lib.byteCells [b]) := (Rd_new w 5 [b] 1 rfl).keep fun _ _ => rfl
  exact h.conv (P := Try.prog) Try.underlying37 Try.underlying5 Try.underlying9

theorem putL_step (n : Int) (h : ¬ n.natAbs < 10) (hn : n.natAbs < 10 ^ 20) : putL n = putL (n.tdiv 10) ++ [dg n.natAbs] := by
  have hd := natAbs_div10 n
  have hm := natAbs_mod10 n
  have he := Int.mul_tdiv_add_tmod n 10
  unfold putL
  rw [hd, digN_step h hn]
  by_cases hneg : n < 0
  · rw [if_pos hneg, if_pos (by omega)]; rfl
  · rw [if_neg hneg, if_neg (by omega)]

set_option maxRecDepth 100000 in
set_option maxHeartbeats 1000000 in
theorem rPut_any (k : Nat) : ∀ (n : Int) (w : World), n.natAbs < 10 ^ k → k ≤ 20 → 0 < k → -9223372036854775808 ≤ n → n ≤ 9223372036854775807 →
    Calls Try.prog 27 #[.int .i64 n] w (Gives (.string (strOf (putL n))) w) := by
  induction k with
  | zero => intro n w _ _ h; omega
  | succ k ih =>
    intro n w hk hk20 _ hlo hhi
    have h20 : (10 : Nat) ^ (k + 1) ≤ 10 ^ 20 := Nat.pow_le_pow_right (by omega) hk20
    by_cases h1 : 0 ≤ n ∧ n < 10
    · obtain ⟨h1a, h1b⟩ := h1
      have e1 : (48 + n) % 256 = 48 + n := by omega
      have hput : putL n = [dg n.natAbs] := by rw [putL, if_neg (by omega), digN_one (by omega)]
      have hc := fun wx => conv_1 wx (dg n.natAbs) (48 + n) (by rw [dg_nat]; omega)
      have HP := Lib.hid hput; clear hput
      clear ih hk h20
      go_enter Try.func27, Try.ntmps27
      go_wp2_with fail
      go_ret
      exact ⟨by rw [HP.out]; rfl, (Below.refl _ _).alloc (Nat.le_refl _) _⟩
    · by_cases h2 : -10 < n ∧ n < 0
      · obtain ⟨h2a, h2b⟩ := h2
        have e1 : (48 - n) % 256 = 48 - n := by omega
        have hput : putL n = [45, dg n.natAbs] := by rw [putL, if_pos (by omega), digN_one (by omega)]
        have hc := fun wx => conv_2 wx 45 (dg n.natAbs) 45 (48 - n) rfl (by rw [dg_nat]; omega)
        have HP := Lib.hid hput; clear hput
        clear ih hk h20 h1
        go_enter Try.func27, Try.ntmps27
        go_wp2_with fail
        go_ret
        exact ⟨by rw [HP.out]; rfl, (Below.refl _ _).alloc (Nat.le_refl _) _⟩
      · have hbig : ¬ n.natAbs < 10 := by omega
        have hd := natAbs_div10 n
        have hm := natAbs_mod10 n
        have hput := putL_step n hbig (by omega)
        have hk0 : 0 < k := by
          rcases Nat.eq_zero_or_pos k with rfl | h
          · simp at hk; omega
          · exact h
        rw [Nat.pow_succ] at hk
        have c1 := fun wx => ih (n.tdiv 10) wx (by omega) (by omega) hk0 (by omega) (by omega)
        have C1 := Lib.hid c1; clear c1
        have hl := (putL_len (n.tdiv 10)).2
        have hadd : ∀ w : World, (Op.stringOp .add (strOf (putL (n.tdiv 10))) (strOf [dg n.natAbs])).run Try.prog w = .ok (.string (strOf (putL (n.tdiv 10)) ++ strOf [dg n.natAbs])) w := fun w => run_string_add_sum w _ _ (by rw [strOf_size, strOf_size]; simp; omega)
        have hsum : strOf (putL (n.tdiv 10)) ++ strOf [dg n.natAbs] = strOf (putL n) := by rw [hput]; unfold strOf; rw [ByteArray.mk_append_mk]
        have HSUM := Lib.hid hsum; clear hsum
        have HP := Lib.hid hput; clear hput hl
        have he := Int.mul_tdiv_add_tmod n 10
        have hrg : -9 ≤ n.tmod 10 ∧ n.tmod 10 ≤ 9 := by omega
        have HRG := Lib.hid hrg; clear hrg
        by_cases hpos : 0 ≤ n
        · have t0 : decide (n < 10) = false := decide_eq_false (by omega)
          have t1 : decide (n < 0) = false := decide_eq_false (by omega)
          have t2 : decide (0 ≤ n) = true := decide_eq_true (by omega)
          have t3 : decide (-10 < n) = true := decide_eq_true (by omega)
          have hrb : decide (n % 10 < 0) = false := decide_eq_false (by omega)
          have x1 : IntKind.i64.wrap (n.tdiv 10) = n.tdiv 10 := IntWalk.i64_in _ (by omega)
          have x2 : IntKind.i64.wrap (48 + n % 10) = 48 + n % 10 := IntWalk.i64_in _ (by omega)
          have x3 : IntKind.u8.wrap (48 + n % 10) = 48 + n % 10 := IntWalk.u8_in _ (by omega)
          have hz : 48 + n % 10 = ((dg n.natAbs).toNat : Int) := by rw [dg_nat]; omega
          have hc := fun wx => conv_1 wx (dg n.natAbs) (48 + n % 10) hz
          have hcd := fun wx => conv_1_drew wx (dg n.natAbs) (48 + n % 10) hz
          have HZ := Lib.hid hz; clear hz
          clear ih hk h20 hd hm hbig h1 h2 he
          go_enter Try.func27, Try.ntmps27
          go_upto_region 8 with fail
          go_cut [2] (fun c wx => c = .string (strOf (putL n)) ∧ Below w.heap.size w wx)
          case first =>
            go_region_with (go_at_call 27; refine (C1.out _).mono ?_; rintro e w1 ⟨rfl, hb1⟩; first | have hc2 := conv_keep_drew HZ.out hb1 | have hc2 := conv_keep HZ.out hb1 | skip)
            all_goals (go_wp2_with fail; go_meet; first | exact ⟨by rw [HSUM.out], ((Below.refl _ _).drew.alloc (Nat.le_refl _) _).trans (hb1.mono (by simp))⟩ | exact ⟨by rw [HSUM.out], ((Below.refl _ _).drew.trans hb1).alloc hb1.size _⟩)
          case rest =>
            obtain ⟨rfl, hb⟩ := hcut
            go_wp2_with fail
            go_ret
            exact ⟨rfl, hb⟩
        · have t2 : decide (0 ≤ n) = false := decide_eq_false (by omega)
          have t3 : decide (-10 < n) = false := decide_eq_false (by omega)
          by_cases hr : n.tmod 10 < 0
          · have hrb : decide (n.tmod 10 < 0) = true := decide_eq_true hr
            have x1 : IntKind.i64.wrap (n.tdiv 10) = n.tdiv 10 := IntWalk.i64_in _ (by omega)
            have x2 : IntKind.i64.wrap (48 + -n.tmod 10) = 48 + -n.tmod 10 := IntWalk.i64_in _ (by omega)
            have x3 : IntKind.u8.wrap (48 + -n.tmod 10) = 48 + -n.tmod 10 := IntWalk.u8_in _ (by omega)
            have hz : 48 + -n.tmod 10 = ((dg n.natAbs).toNat : Int) := by rw [dg_nat]; omega
            have hc := fun wx => conv_1 wx (dg n.natAbs) (48 + -n.tmod 10) hz
            have hcd := fun wx => conv_1_drew wx (dg n.natAbs) (48 + -n.tmod 10) hz
            have HZ := Lib.hid hz; clear hz
            clear ih hk h20 hd hm hbig h1 h2 he
            have hb9 : -9 ≤ n.tmod 10 := HRG.out.1
            go_enter Try.func27, Try.ntmps27
            go_upto_region 8 with fail
            go_cut [2] (fun c wx => c = .string (strOf (putL n)) ∧ Below w.heap.size w wx)
            case first =>
              go_region_with (go_at_call 27; refine (C1.out _).mono ?_; rintro e w1 ⟨rfl, hb1⟩; first | have hc2 := conv_keep_drew HZ.out hb1 | have hc2 := conv_keep HZ.out hb1 | skip)
              all_goals (go_wp2_with fail; go_meet; first | exact ⟨by rw [HSUM.out], ((Below.refl _ _).drew.alloc (Nat.le_refl _) _).trans (hb1.mono (by simp))⟩ | exact ⟨by rw [HSUM.out], ((Below.refl _ _).drew.trans hb1).alloc hb1.size _⟩)
            case rest =>
              obtain ⟨rfl, hb⟩ := hcut
              go_wp2_with fail
              go_ret
              exact ⟨rfl, hb⟩
          · have hrb : decide (n.tmod 10 < 0) = false := decide_eq_false hr
            have x1 : IntKind.i64.wrap (n.tdiv 10) = n.tdiv 10 := IntWalk.i64_in _ (by omega)
            have x2 : IntKind.i64.wrap (48 + n.tmod 10) = 48 + n.tmod 10 := IntWalk.i64_in _ (by omega)
            have x3 : IntKind.u8.wrap (48 + n.tmod 10) = 48 + n.tmod 10 := IntWalk.u8_in _ (by omega)
            have hz : 48 + n.tmod 10 = ((dg n.natAbs).toNat : Int) := by rw [dg_nat]; omega
            have hc := fun wx => conv_1 wx (dg n.natAbs) (48 + n.tmod 10) hz
            have hcd := fun wx => conv_1_drew wx (dg n.natAbs) (48 + n.tmod 10) hz
            have HZ := Lib.hid hz; clear hz
            clear ih hk h20 hd hm hbig h1 h2 he hr
            go_enter Try.func27, Try.ntmps27
            go_upto_region 8 with fail
            go_cut [2] (fun c wx => c = .string (strOf (putL n)) ∧ Below w.heap.size w wx)
            case first =>
              go_region_with (go_at_call 27; refine (C1.out _).mono ?_; rintro e w1 ⟨rfl, hb1⟩; first | have hc2 := conv_keep_drew HZ.out hb1 | have hc2 := conv_keep HZ.out hb1 | skip)
              all_goals (go_wp2_with fail; go_meet; first | exact ⟨by rw [HSUM.out], ((Below.refl _ _).drew.alloc (Nat.le_refl _) _).trans (hb1.mono (by simp))⟩ | exact ⟨by rw [HSUM.out], ((Below.refl _ _).drew.trans hb1).alloc hb1.size _⟩)
            case rest =>
              obtain ⟨rfl, hb⟩ := hcut
              go_wp2_with fail
              go_ret
              exact ⟨rfl, hb⟩
end Go.Proofs.Ytgmkejfepakehaa.Nu
namespace Go.Proofs.Ytgmkejfepakehaa.Nu
open Go.RowKit
open Go.Proofs.Ytgmkejfepakehaa.Utf

def GivesIB (r : Int × Bool) (w : World) (e : Ending) (w' : World) : Prop :=
  e = .returned (.tuple #[.int .i64 r.1, .bool r.2]) ∧ Below w.heap.size w w'
theorem retIB {a a' : Int} {b b' : Bool} {r : Int × Bool} (hr : (a', b') = r) (h1 : a = a') (h2 : b = b') : Ending.returned (.tuple #[.int .i64 a, .bool b]) = .returned (.tuple #[.int .i64 r.1, .bool r.2]) := by rw [← hr, h1, h2]

set_option maxRecDepth 100000 in
set_option maxHeartbeats 1000000 in
theorem All_any (s : ByteArray) (w : World) (hs : s.size ≤ 9223372036854775807) :
    Calls Try.prog 28 #[.string s] w (GivesIB (allS s.data.toList) w) := by
  have cR := fun wx => Read_any s 0 wx hs
  have hbd := rdS_bounds s.data.toList 0
  have hw := rdS_why s.data.toList 0
  have hx : allS s.data.toList = if (rdS s.data.toList 0).2.2 = 0 ∧ putL (rdS s.data.toList 0).1 = s.data.toList then ((rdS s.data.toList 0).1, true) else (0, false) := rfl
  have hm : maxN = 9007199254740991 := rfl
  rw [hm] at hbd
  clear hm
  generalize allS s.data.toList = R at *
  rcases hO : rdS s.data.toList 0 with ⟨n, at_, why⟩
  rw [hO] at cR hbd hw hx
  clear hO
  have cP := fun wx => Put_any n wx (by have := hbd; simp at this; omega) (by have := hbd; simp at this; omega)
  have hs1 : strOf (putL n) = s ↔ putL n = s.data.toList := by
    constructor
    · intro h; rw [← h]; rfl
    · intro h; rw [h]; rfl
  have hs2 : ((strOf (putL n)).toList == s.toList) = true ↔ putL n = s.data.toList := by
    rw [ByteArray.toList_eq, ByteArray.toList_eq, beq_iff_eq]; rfl
  generalize strOf (putL n) = P at *
  have CR := Lib.hid cR; clear cR
  have CP := Lib.hid cP; clear cP
  simp only at hw hx
  clear hbd
  by_cases h0 : why = 0
  · subst h0
    by_cases hp : putL n = s.data.toList
    · rw [if_pos ⟨rfl, hp⟩] at hx
      have hl := hs2.2 hp
      have HX := Lib.hid hx.symm; clear hx
      clear hs1 hs2 hw hp
      go_enter Try.func28, Try.ntmps28
      go_wp2_with fail
      refine (CR.out _).mono ?_
      rintro e w' ⟨rfl, rfl⟩
      go_wp2_with fail
      refine (CP.out _).mono ?_
      rintro e w1 ⟨rfl, hb1⟩
      go_wp2_with fail
      go_ret2
      exact ⟨retIB HX.out rfl rfl, hb1⟩
    · rw [if_neg (fun h => hp h.2)] at hx
      have hl : (P.toList == s.toList) = false := by
        rcases h : (P.toList == s.toList) with _ | _
        · rfl
        · exact absurd (hs2.1 h) hp
      have HX := Lib.hid hx.symm; clear hx
      clear hs1 hs2 hw hp
      go_enter Try.func28, Try.ntmps28
      go_wp2_with fail
      refine (CR.out _).mono ?_
      rintro e w' ⟨rfl, rfl⟩
      go_wp2_with fail
      refine (CP.out _).mono ?_
      rintro e w1 ⟨rfl, hb1⟩
      go_wp2_with fail
      go_ret2
      exact ⟨retIB HX.out rfl rfl, hb1⟩
  · rw [if_neg (fun h => h0 h.1)] at hx
    obtain ⟨rfl, rfl, rfl⟩ := hw.resolve_left h0
    have HX := Lib.hid hx.symm; clear hx
    clear hs1 hs2 hw
    go_enter Try.func28, Try.ntmps28
    go_wp2_with fail
    refine (CR.out _).mono ?_
    rintro e w' ⟨rfl, rfl⟩
    go_wp2_with fail
    go_ret2
    exact ⟨retIB HX.out rfl rfl, Below.refl _ _⟩

theorem aw1 : rdS [120, 45, 49, 50, 44] 1 = (-12, 4, 0) := by decide +kernel
theorem aw2 : rdS [48, 49] 0 = (0, 0, 30) := by decide +kernel
theorem aw3 : rdS [57, 48, 48, 55, 49, 57, 57, 50, 53, 52, 55, 52, 48, 57, 57, 50] 0 = (0, 0, 30) := by decide +kernel
theorem aw4 : allS [57, 48, 48, 55, 49, 57, 57, 50, 53, 52, 55, 52, 48, 57, 57, 49] = (9007199254740991, true) := by decide +kernel
theorem aw5 : putL (-9223372036854775808) = [45, 57, 50, 50, 51, 51, 55, 50, 48, 51, 54, 56, 53, 52, 55, 55, 53, 56, 48, 56] := by decide +kernel

end Go.Proofs.Ytgmkejfepakehaa.Nu
