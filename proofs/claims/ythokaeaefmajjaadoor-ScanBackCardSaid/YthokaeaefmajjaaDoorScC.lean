import Derived.Test.YthokaeaefmajjaaDoorScB
/- Contract of package scan's word. -/
namespace Go.Proofs.YthokaeaefmajjaaDoor.Sc
open Go.RowKit
open Go.Proofs.YthokaeaefmajjaaDoor.Utf

set_option maxHeartbeats 2000000 in
theorem word_any (B b : Nat) (s y : ByteArray) (k : Nat) (ts : List Tok) (w : World) (h : Scr B b s k ts w) (hB : B ≤ w.heap.size) (hr : (ts.length + 1) * 40 ≤ 140737488355328) (hs : s.size ≤ 65536) (hk : k < s.size) (hy : y.size ≤ 10) :
    Calls Tryd.prog 20 #[.pointer (some ⟨b, 0, none⟩), .string y] w (Steps B b s ts (wrd s.data.toList k y.data.toList) w) := by
  obtain ⟨hlt, c0, c1, _⟩ := h.cells
  have HL := fun w1 (hw : Below w.heap.size w w1) n => lay_any B b s k ts 2 0 y 0 n w1 (h.keep hw) hr
  have HS := Lib.hid h; clear h
  have hP := fun w => prefix_any (s.extract k s.size) y w
  have e1 : (s.extract k s.size).data.toList = s.data.toList.drop k := by
    rw [ByteArray.data_extract, Array.toList_extract]
    show List.extract _ _ _ = _
    rw [List.extract_eq_take_drop, List.take_of_length_le (by rw [List.length_drop, len_data]; omega)]
  rw [e1] at hP
  clear e1
  have hsl : (k : Int) ≤ (s.size : Int) := by omega
  have yes : hasW s.data.toList k y.data.toList → wrd s.data.toList k y.data.toList = (some (2, 0, y.data.toList, (k : Int)), (k : Int) + (y.size : Int), 0) := fun h => by
    unfold wrd; rw [if_pos h, len_data]; rfl
  have no : ¬ hasW s.data.toList k y.data.toList → wrd s.data.toList k y.data.toList = (none, (k : Int), 40) := fun h => by unfold wrd; rw [if_neg h]
  by_cases hp : (s.data.toList.drop k).take y.size = y.data.toList
  · rw [decide_eq_true hp] at hP
    have HP := Lib.hid hP; clear hP
    have hle : k + y.size ≤ s.size := by
      have := congrArg List.length hp
      rw [List.length_take, List.length_drop, len_data, len_data] at this
      omega
    by_cases hlt2 : k + y.size < s.size
    · have g := byt_get s (k + y.size) hlt2
      have f : ((k : Int) + (y.size : Int)).toNat = k + y.size := by omega
      have f0 : (0 : Int) ≤ (k : Int) + (y.size : Int) := by omega
      have f1 : (k : Int) + (y.size : Int) < (s.size : Int) := by omega
      have d1 : decide ((k : Int) + (y.size : Int) < (s.size : Int)) = true := decide_eq_true (by omega)
      by_cases hpt : isPart (byt s.data.toList (k + y.size)) = false
      · rw [yes ⟨hp, hpt⟩]
        clear hp yes no
        rw [g] at hpt
        clear g
        go_enter Tryd.func20, Tryd.ntmps20
        go_wp2_with fail
        go_quiet (first | (go_at_call 30; refine Calls.quiet_of_same ((HP.out _).mono fun e w' h => ⟨h.1, h.2.symm⟩)) | (go_at_call 31; refine Calls.quiet_of_same ((isOfWord_any _ _).mono fun e w' h => ⟨h.1, h.2.symm⟩)))
        have hb2 : Below w.heap.size w (w.drewN nq) := below_drewN (Below.refl _ w) nq
        go_wp2_with fail
        refine (HL _ hb2 _).mono ?_
        rintro e w2 ⟨rfl, hs2, hb3⟩
        go_wp2_with fail
        go_ret2
        exact ⟨(hb2.mono hB).trans hb3, .inl ⟨rfl, rfl, hs2⟩⟩
      · rw [no (fun h => hpt h.2)]
        have hpt := (Bool.not_eq_false _).mp hpt
        clear hp yes no
        rw [g] at hpt
        clear g
        go_enter Tryd.func20, Tryd.ntmps20
        go_wp2_with fail
        go_quiet (first | (go_at_call 30; refine Calls.quiet_of_same ((HP.out _).mono fun e w' h => ⟨h.1, h.2.symm⟩)) | (go_at_call 31; refine Calls.quiet_of_same ((isOfWord_any _ _).mono fun e w' h => ⟨h.1, h.2.symm⟩)))
        have hb2 : Below w.heap.size w (w.drewN nq) := below_drewN (Below.refl _ w) nq
        go_wp2_with fail
        go_ret2
        exact ⟨hb2.mono hB, .inr ⟨by show (40 : Int) ≠ 0; decide, rfl⟩⟩
    · have d1 : decide ((k : Int) + (y.size : Int) < (s.size : Int)) = false := decide_eq_false (by omega)
      · rw [yes ⟨hp, by rw [Nu.byt_out (by rw [len_data, len_data]; omega)]; rfl⟩]
        clear hp yes no
        go_enter Tryd.func20, Tryd.ntmps20
        go_wp2_with fail
        go_quiet (first | (go_at_call 30; refine Calls.quiet_of_same ((HP.out _).mono fun e w' h => ⟨h.1, h.2.symm⟩)) | (go_at_call 31; refine Calls.quiet_of_same ((isOfWord_any _ _).mono fun e w' h => ⟨h.1, h.2.symm⟩)))
        have hb2 : Below w.heap.size w (w.drewN nq) := below_drewN (Below.refl _ w) nq
        go_wp2_with fail
        refine (HL _ hb2 _).mono ?_
        rintro e w2 ⟨rfl, hs2, hb3⟩
        go_wp2_with fail
        go_ret2
        exact ⟨(hb2.mono hB).trans hb3, .inl ⟨rfl, rfl, hs2⟩⟩
  · rw [decide_eq_false hp] at hP
    have HP := Lib.hid hP; clear hP
    · rw [no (fun h => hp h.1)]
      · clear hp yes no
        go_enter Tryd.func20, Tryd.ntmps20
        go_wp2_with fail
        go_quiet (first | (go_at_call 30; refine Calls.quiet_of_same ((HP.out _).mono fun e w' h => ⟨h.1, h.2.symm⟩)) | (go_at_call 31; refine Calls.quiet_of_same ((isOfWord_any _ _).mono fun e w' h => ⟨h.1, h.2.symm⟩)))
        have hb2 : Below w.heap.size w (w.drewN nq) := below_drewN (Below.refl _ w) nq
        go_wp2_with fail
        go_ret2
        exact ⟨hb2.mono hB, .inr ⟨by show (40 : Int) ≠ 0; decide, rfl⟩⟩
end Go.Proofs.YthokaeaefmajjaaDoor.Sc
