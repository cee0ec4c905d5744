/- Merged: NuE NuF. -/
import Derived.Test.YtgmkejfepakehaaTt1
import Derived.Deep.DeepCutAuto
import Derived.Deep.RegionWith
import Derived.Laws.Concat
namespace Go.Proofs.Ytgmkejfepakehaa.Nu
open Go.RowKit
open Go.Proofs.Ytgmkejfepakehaa.Utf

theorem Rd_new (w : World) (T : TypeId) (l : List UInt8) (k : Nat) (hk : k = l.length) : Rd (w.alloc (.cells (Lib.byteCells l).toArray T)) (w.heap.size + 1) (.slice (some ⟨w.heap.size, 0, none⟩) k k) (Lib.byteCells l) := by
  subst hk
  refine ⟨_, _, by rw [Lib.byteCells_length], fun _ => ⟨_, rfl, by show w.heap.size < _; omega, fun i u hu => ?_⟩⟩
  have hp : (⟨w.heap.size, 0, none⟩ : Addr).add i = ⟨w.heap.size, i, none⟩ := by unfold Addr.add; split <;> simp_all
  rw [hp]
  unfold World.cell?
  rw [heap_alloc_new]
  simpa using hu
end Go.Proofs.Ytgmkejfepakehaa.Nu
namespace Go.Proofs.Ytgmkejfepakehaa.Nu
open Go.RowKit
open Go.Proofs.Ytgmkejfepakehaa.Utf

def GivesIB (r : Int × Bool) (w : World) (e : Ending) (w' : World) : Prop :=
  e = .returned (.tuple #[.int .i64 r.1, .bool r.2]) ∧ Below w.heap.size w w'
theorem retIB {a a' : Int} {b b' : Bool} {r : Int × Bool} (hr : (a', b') = r) (h1 : a = a') (h2 : b = b') : Ending.returned (.tuple #[.int .i64 a, .bool b]) = .returned (.tuple #[.int .i64 r.1, .bool r.2]) := by rw [← hr, h1, h2]

set_option maxRecDepth 100000 in
set_option maxHeartbeats 1000000 in
theorem All_any (s : ByteArray) (w : World) (hs : s.size ≤ 9223372036854775807) :
    Calls Try.prog 28 #[.string s] w (GivesIB (allS s.data.toList) w) := by
  have cR := fun wx => Read_any s 0 wx hs
  have hbd := rdS_bounds s.data.toList 0
  have hw := rdS_why s.data.toList 0
  have hx : allS s.data.toList = if (rdS s.data.toList 0).2.2 = 0 ∧ putL (rdS s.data.toList 0).1 = s.data.toList then ((rdS s.data.toList 0).1, true) else (0, false) := rfl
  have hm : maxN = 9007199254740991 := rfl
  rw [hm] at hbd
  clear hm
  generalize allS s.data.toList = R at *
  rcases hO : rdS s.data.toList 0 with ⟨n, at_, why⟩
  rw [hO] at cR hbd hw hx
  clear hO
  have cP := fun wx => Put_any n wx (by have := hbd; simp at this; omega) (by have := hbd; simp at this; omega)
  have hs1 : strOf (putL n) = s ↔ putL n = s.data.toList := by
    constructor
    · intro h; rw [← h]; rfl
    · intro h; rw [h]; rfl
  have hs2 : ((strOf (putL n)).toList == s.toList) = true ↔ putL n = s.data.toList := by
    rw [ByteArray.toList_eq, ByteArray.toList_eq, beq_iff_eq]; rfl
  generalize strOf (putL n) = P at *
  have CR := Lib.hid cR; clear cR
  have CP := Lib.hid cP; clear cP
  simp only at hw hx
  clear hbd
  by_cases h0 : why = 0
  · subst h0
    by_cases hp : putL n = s.data.toList
    · rw [if_pos ⟨rfl, hp⟩] at hx
      have hl := hs2.2 hp
      have HX := Lib.hid hx.symm; clear hx
      clear hs1 hs2 hw hp
      go_enter Try.func28, Try.ntmps28
      go_wp2_with fail
      refine (CR.out _).mono ?_
      rintro e w' ⟨rfl, rfl⟩
      go_wp2_with fail
      refine (CP.out _).mono ?_
      rintro e w1 ⟨rfl, hb1⟩
      go_wp2_with fail
      go_ret2
      exact ⟨retIB HX.out rfl rfl, hb1⟩
    · rw [if_neg (fun h => hp h.2)] at hx
      have hl : (P.toList == s.toList) = false := by
        rcases h : (P.toList == s.toList) with _ | _
        · rfl
        · exact absurd (hs2.1 h) hp
      have HX := Lib.hid hx.symm; clear hx
      clear hs1 hs2 hw hp
      go_enter Try.func28, Try.ntmps28
      go_wp2_with fail
      refine (CR.out _).mono ?_
      rintro e w' ⟨rfl, rfl⟩
      go_wp2_with fail
      refine (CP.out _).mono ?_
      rintro e w1 ⟨rfl, hb1⟩
      go_wp2_with fail
      go_ret2
      exact ⟨retIB HX.out rfl rfl, hb1⟩
  · rw [if_neg (fun h => h0 h.1)] at hx
    obtain ⟨rfl, rfl, rfl⟩ := hw.resolve_left h0
    have HX := Lib.hid hx.symm; clear hx
    clear hs1 hs2 hw
    go_enter Try.func28, Try.ntmps28
    go_wp2_with fail
    refine (CR.out _).mono ?_
    rintro e w' ⟨rfl, rfl⟩
    go_wp2_with fail
    go_ret2
    exact ⟨retIB HX.out rfl rfl, Below.refl _ _⟩

theorem aw1 : rdS [120, 45, 49, 50, 44] 1 = (-12, 4, 0) := by decide +kernel
theorem aw2 : rdS [48, 49] 0 = (0, 0, 30) := by decide +kernel
theorem aw3 : rdS [57, 48, 48, 55, 49, 57, 57, 50, 53, 52, 55, 52, 48, 57, 57, 50] 0 = (0, 0, 30) := by decide +kernel
theorem aw4 : allS [57, 48, 48, 55, 49, 57, 57, 50, 53, 52, 55, 52, 48, 57, 57, 49] = (9007199254740991, true) := by decide +kernel
theorem aw5 : putL (-9223372036854775808) = [45, 57, 50, 50, 51, 51, 55, 50, 48, 51, 54, 56, 53, 52, 55, 55, 53, 56, 48, 56] := by decide +kernel

end Go.Proofs.Ytgmkejfepakehaa.Nu
