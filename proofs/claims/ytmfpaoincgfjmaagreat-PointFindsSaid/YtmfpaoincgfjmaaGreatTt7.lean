/- Merged: NuF. -/
import Derived.Test.YtmfpaoincgfjmaaGreatTt3
import Derived.Deep.DeepCutAuto
import Derived.Deep.RegionWith
import Derived.Laws.Concat
namespace Go.Proofs.YtmfpaoincgfjmaaGreat.Nu
open Go.RowKit
open Go.Proofs.YtmfpaoincgfjmaaGreat.Utf

theorem rRead_at (s : ByteArray) (p : Nat) (w : World) (hs : s.size ≤ 9223372036854775807) (hp : p < s.size) :
    Calls Tryz.prog 48 #[.string s, .int .i64 p] w fun e w' =>
      e = .returned (.tuple #[.int .i64 (rdN s.data.toList p).1, .int .i64 (rdN s.data.toList p).2.1, .int .i64 (rdN s.data.toList p).2.2]) ∧ w = w' := by
  by_cases h : (s[p].toNat : Int) = 45
  · exact rRead_minus s p w hs hp h
  · exact rRead_plain s p w hs hp h

set_option maxRecDepth 100000 in
set_option maxHeartbeats 400000 in
theorem rRead_any (s : ByteArray) (a : Int) (w : World) (hs : s.size ≤ 9223372036854775807) :
    Calls Tryz.prog 48 #[.string s, .int .i64 a] w fun e w' =>
      e = .returned (.tuple #[.int .i64 (rdS s.data.toList a).1, .int .i64 (rdS s.data.toList a).2.1, .int .i64 (rdS s.data.toList a).2.2]) ∧ w = w' := by
  by_cases h0 : a < 0
  · rw [rdS, if_pos (.inl h0)]
    have hd : decide (a < 0) = true := decide_eq_true h0
    go_enter Tryz.func48, Tryz.ntmps48
    go_wp2_with fail
    go_ret3
    exact ⟨rfl, rfl⟩
  · by_cases h1 : (s.size : Int) ≤ a
    · rw [rdS, if_pos (.inr h1)]
      have hd : decide (a < 0) = false := decide_eq_false h0
      have hd1 : decide ((s.size : Int) ≤ a) = true := decide_eq_true h1
      go_enter Tryz.func48, Tryz.ntmps48
      go_wp2_with fail
      go_ret3
      exact ⟨rfl, rfl⟩
    · rw [rdS, if_neg (by rw [len_data]; omega)]
      obtain ⟨q, rfl⟩ := Int.eq_ofNat_of_zero_le (Int.not_lt.mp h0)
      exact rRead_at s q w hs (by omega)

def GivesIB (r : Int × Bool) (w : World) (e : Ending) (w' : World) : Prop :=
  e = .returned (.tuple #[.int .i64 r.1, .bool r.2]) ∧ Below w.heap.size w w'
theorem retIB {a a' : Int} {b b' : Bool} {r : Int × Bool} (hr : (a', b') = r) (h1 : a = a') (h2 : b = b') : Ending.returned (.tuple #[.int .i64 a, .bool b]) = .returned (.tuple #[.int .i64 r.1, .bool r.2]) := by rw [← hr, h1, h2]

set_option maxRecDepth 100000 in
set_option maxHeartbeats 1000000 in
theorem All_any (s : ByteArray) (w : World) (hs : s.size ≤ 9223372036854775807) :
    Calls Tryz.prog 47 #[.string s] w (GivesIB (allS s.data.toList) w) := by
  have cR := fun wx => Read_any s 0 wx hs
  have hbd := rdS_bounds s.data.toList 0
  have hw := rdS_why s.data.toList 0
  have hx : allS s.data.toList = if (rdS s.data.toList 0).2.2 = 0 ∧ putL (rdS s.data.toList 0).1 = s.data.toList then ((rdS s.data.toList 0).1, true) else (0, false) := rfl
  have hm : maxN = 9007199254740991 := rfl
  rw [hm] at hbd
  clear hm
  generalize allS s.data.toList = R at *
  rcases hO : rdS s.data.toList 0 with ⟨n, at_, why⟩
  rw [hO] at cR hbd hw hx
  clear hO
  have cP := fun wx => Put_any n wx (by have := hbd; simp at this; omega) (by have := hbd; simp at this; omega)
  have hs1 : strOf (putL n) = s ↔ putL n = s.data.toList := by
    constructor
    · intro h; rw [← h]; rfl
    · intro h; rw [h]; rfl
  have hs2 : ((strOf (putL n)).toList == s.toList) = true ↔ putL n = s.data.toList := by
    rw [ByteArray.toList_eq, ByteArray.toList_eq, beq_iff_eq]; rfl
  generalize strOf (putL n) = P at *
  have CR := Lib.hid cR; clear cR
  have CP := Lib.hid cP; clear cP
  simp only at hw hx
  clear hbd
  by_cases h0 : why = 0
  · subst h0
    by_cases hp : putL n = s.data.toList
    · rw [if_pos ⟨rfl, hp⟩] at hx
      have hl := hs2.2 hp
      have HX := Lib.hid hx.symm; clear hx
      clear hs1 hs2 hw hp
      go_enter Tryz.func47, Tryz.ntmps47
      go_wp2_with fail
      refine (CR.out _).mono ?_
      rintro e w' ⟨rfl, rfl⟩
      go_wp2_with fail
      refine (CP.out _).mono ?_
      rintro e w1 ⟨rfl, hb1⟩
      go_wp2_with fail
      go_ret2
      exact ⟨retIB HX.out rfl rfl, hb1⟩
    · rw [if_neg (fun h => hp h.2)] at hx
      have hl : (P.toList == s.toList) = false := by
        rcases h : (P.toList == s.toList) with _ | _
        · rfl
        · exact absurd (hs2.1 h) hp
      have HX := Lib.hid hx.symm; clear hx
      clear hs1 hs2 hw hp
      go_enter Tryz.func47, Tryz.ntmps47
      go_wp2_with fail
      refine (CR.out _).mono ?_
      rintro e w' ⟨rfl, rfl⟩
      go_wp2_with fail
      refine (CP.out _).mono ?_
      rintro e w1 ⟨rfl, hb1⟩
      go_wp2_with fail
      go_ret2
      exact ⟨retIB HX.out rfl rfl, hb1⟩
  · rw [if_neg (fun h => h0 h.1)] at hx
    obtain ⟨rfl, rfl, rfl⟩ := hw.resolve_left h0
    have HX := Lib.hid hx.symm; clear hx
    clear hs1 hs2 hw
    go_enter Tryz.func47, Tryz.ntmps47
    go_wp2_with fail
    refine (CR.out _).mono ?_
    rintro e w' ⟨rfl, rfl⟩
    go_wp2_with fail
    go_ret2
    exact ⟨retIB HX.out rfl rfl, Below.refl _ _⟩

set_option maxRecDepth 100000 in
set_option maxHeartbeats 1000000 in
theorem rAll_any (s : ByteArray) (w : World) (hs : s.size ≤ 9223372036854775807) :
    Calls Tryz.prog 35 #[.string s] w fun e w' => e = .returned (.tuple #[.int .i64 (allR s.data.toList).1, .bool (allR s.data.toList).2]) ∧ w = w' := by
  have cR := fun wx => rRead_any s 0 wx hs
  have hw := rdS_why s.data.toList 0
  have hx : allR s.data.toList = if (rdS s.data.toList 0).2.2 ≠ 0 ∨ (rdS s.data.toList 0).2.1 ≠ s.data.toList.length ∨ s.data.toList = [45, 48] then (0, false) else ((rdS s.data.toList 0).1, true) := rfl
  rw [len_data] at hx
  generalize allR s.data.toList = R at *
  rcases hO : rdS s.data.toList 0 with ⟨n, at_, why⟩
  rw [hO] at cR hw hx
  clear hO
  have CR := Lib.hid cR; clear cR
  have hl1 : (s.toList == [45, 48]) = true ↔ s.data.toList = [45, 48] := by rw [ByteArray.toList_eq, beq_iff_eq]
  have hl2 : (s.data.toList == [45, 48]) = true ↔ s.data.toList = [45, 48] := by rw [beq_iff_eq]
  simp only at hw hx
  by_cases h0 : why = 0
  · subst h0
    by_cases ha : at_ = s.size
    · subst ha
      by_cases hp : s.data.toList = [45, 48]
      · rw [if_pos (.inr (.inr hp))] at hx
        have g1 := hl1.2 hp
        have g2 := hl2.2 hp
        have HX := Lib.hid hx.symm; clear hx
        clear hl1 hl2 hw hp
        go_enter Tryz.func35, Tryz.ntmps35
        go_wp2_with fail
        refine (CR.out _).mono ?_
        rintro e w' ⟨rfl, rfl⟩
        go_wp2_with fail
        go_ret2
        exact ⟨retIB HX.out rfl rfl, rfl⟩
      · rw [if_neg (by rintro (h | h | h); exact h rfl; exact h rfl; exact hp h)] at hx
        have g1 : (s.toList == [45, 48]) = false := by
          rcases h : (s.toList == [45, 48]) with _ | _
          · rfl
          · exact absurd (hl1.1 h) hp
        have HX := Lib.hid hx.symm; clear hx
        clear hl1 hl2 hw hp
        go_enter Tryz.func35, Tryz.ntmps35
        go_wp2_with fail
        refine (CR.out _).mono ?_
        rintro e w' ⟨rfl, rfl⟩
        go_wp2_with fail
        go_ret2
        exact ⟨retIB HX.out rfl rfl, rfl⟩
    · rw [if_pos (.inr (.inl ha))] at hx
      have HX := Lib.hid hx.symm; clear hx
      have hab : (at_ != (s.size : Int)) = true := by simpa using ha
      clear hl1 hl2 hw ha
      go_enter Tryz.func35, Tryz.ntmps35
      go_wp2_with fail
      refine (CR.out _).mono ?_
      rintro e w' ⟨rfl, rfl⟩
      go_wp2_with fail
      go_ret2
      exact ⟨retIB HX.out rfl rfl, rfl⟩
  · rw [if_pos (.inl h0)] at hx
    obtain ⟨rfl, rfl, rfl⟩ := hw.resolve_left h0
    have HX := Lib.hid hx.symm; clear hx
    clear hl1 hl2 hw
    go_enter Tryz.func35, Tryz.ntmps35
    go_wp2_with fail
    refine (CR.out _).mono ?_
    rintro e w' ⟨rfl, rfl⟩
    go_wp2_with fail
    go_ret2
    exact ⟨retIB HX.out rfl rfl, rfl⟩

end Go.Proofs.YtmfpaoincgfjmaaGreat.Nu
