import Derived.Test.YtoflogckoepioaaDoorScE
import Derived.Test.YtoflogckoepioaaDoorNuF
import Derived.Test.YtoflogckoepioaaDoorChR3
import Derived.BigQuiet
import Derived.IntWalk
/- Contracts of layer 4's document's answer: part, word. -/
namespace Go.Proofs.YtoflogckoepioaaDoor.Sc
open Go.RowKit
open Go.Proofs.YtoflogckoepioaaDoor.Utf

set_option maxRecDepth 100000 in
set_option maxHeartbeats 1000000 in
theorem part_any (c : Int) (w : World) : Calls Tryd.prog 29 #[.int .u8 c] w fun e w' => e = .returned (.bool (isPart c)) ∧ w = w' := by
  go_enter Tryd.func29, Tryd.ntmps29
  go_wp2
  all_goals
    go_ret
    refine ⟨ret_bool ?_, rfl⟩
    rw [Bool.eq_iff_iff, isPart_iff]
    simp
    try omega

set_option maxRecDepth 100000 in
set_option maxHeartbeats 4000000 in
theorem rword_any (s : ByteArray) (p : Nat) (w : World) (hs : s.size ≤ 65536) (hp : p < s.size) :
    Calls Tryd.prog 18 #[.string s, .int .i64 p] w fun e w' => e = .returned (.int .i64 (wdN s.data.toList p : Nat)) ∧ Below w.heap.size w w' := by
  go_enter Tryd.func18, Tryd.ntmps18
  go_wp2_with fail
  go_loopw [6, 7] (fun i _ wr => ∃ k : Nat, i = .int .i64 k ∧ k ≤ 3 ∧ wdN s.data.toList p = wdF s.data.toList p (3 - k) k ∧ (∀ j, j < 3 → wr.cell? ⟨w.heap.size, j, none⟩ = some (.string (strOf (wrds j)))) ∧ Below w.heap.size w wr) (fun i _ _ => 3 - (intOf i).toNat)
  case atStart =>
    refine ⟨0, rfl, by omega, rfl, fun j hj => ?_, (Below.refl _ _).alloc (Nat.le_refl _) _⟩
    rw [cell_of_row _ _ j _ _ _ (heap_alloc_new w _)]
    rcases (show j = 0 ∨ j = 1 ∨ j = 2 by omega) with rfl | rfl | rfl <;> rfl
  case round =>
    obtain ⟨k, rfl, hk, hwd, hcs, hbel⟩ := hrel
    have HW := Lib.hid hwd; clear hwd
    by_cases hlt : k < 3
    · have hlb : decide ((k : Int) < 3) = true := decide_eq_true (by omega)
      have hlb2 : decide (k < 3) = true := decide_eq_true hlt
      have k0 : (0 : Int) ≤ (k : Int) := by omega
      have k1 : (k : Int) < 3 := by omega
      have c0 := hcs k hlt
      have hb : w.heap.size < wr.heap.size := World.block_lt_of_cell? wr _ c0
      have HC := Lib.hid hcs; clear hcs
      have hln := wrds_len k
      obtain ⟨y, hy⟩ : ∃ y : ByteArray, y = strOf (wrds k) := ⟨_, rfl⟩
      have hyl : y.data.toList = wrds k := by rw [hy]; rfl
      have hys : (wrds k).length = y.size := by rw [hy]; rfl
      rw [hys] at hln
      rw [← hy] at c0
      have hstep : wdF s.data.toList p (3 - k) k = if hasW s.data.toList p y.data.toList then y.size else wdF s.data.toList p (3 - (k + 1)) (k + 1) := by
        rw [show 3 - k = (3 - (k + 1)) + 1 by omega, wdF, hyl, hys]
      have HST := Lib.hid hstep; clear hstep hyl hys hy
      have hx : (s.extract p (p + y.size)).toList = (s.data.toList.drop p).take y.size := by
        rw [ByteArray.toList_eq, ByteArray.data_extract, Array.toList_extract]
        show List.extract _ _ _ = _
        rw [List.extract_eq_take_drop, Nat.add_sub_cancel_left]
      have f : ((p : Int) + (y.size : Int)).toNat = p + y.size := by omega
      by_cases ha : p + y.size ≤ s.size
      · have a1 : decide ((y.size : Int) ≤ (s.size : Int) - (p : Int)) = true := decide_eq_true (by omega)
        have p0 : (0 : Int) ≤ (p : Int) := by omega
        have p1 : (p : Int) ≤ (p : Int) + (y.size : Int) := by omega
        have p2 : (p : Int) + (y.size : Int) ≤ (s.size : Int) := by omega
        have HX := Lib.hid hx; clear hx
        by_cases hq : (s.data.toList.drop p).take y.size = y.data.toList
        · have a2 : ((s.extract p (p + y.size)).toList == y.toList) = true := by rw [beq_iff_eq, HX.out, ByteArray.toList_eq]; exact hq
          have HQ := Lib.hid hq; clear hq
          by_cases hl : p + y.size = s.size
          · have a3 : ((s.size : Int) - (p : Int) == (y.size : Int)) = true := by rw [beq_iff_eq]; omega
            have HLL := Lib.hid hl; clear hl
            have hyes : hasW s.data.toList p y.data.toList := ⟨HQ.out, by rw [len_data, Nu.byt_out (by rw [len_data]; exact Nat.le_of_eq HLL.out.symm)]; rfl⟩
            have HN := Lib.hid hyes; clear hyes
            go_wp2_with fail
            go_quiet ((go_at_call 29; refine Calls.quiet_of_same ((part_any _ _).mono fun e w' h => ⟨h.1, h.2.symm⟩)))
            go_wp2_with fail
            go_ret
            exact ⟨ret_int (by rw [HW.out, HST.out, if_pos HN.out]), below_drewN hbel _⟩
          · have a3 : ((s.size : Int) - (p : Int) == (y.size : Int)) = false := by rw [beq_eq_false_iff_ne]; omega
            have p3 : (0 : Int) ≤ (p : Int) + (y.size : Int) := by omega
            have p4 : (p : Int) + (y.size : Int) < (s.size : Int) := by omega
            have p5 : p + y.size < s.size := by omega
            have g := byt_get s (p + y.size) p5
            by_cases hpt : isPart (byt s.data.toList (p + y.size)) = true
            · have hpt2 := hpt
              rw [g] at hpt2
              clear g
              have HPT := Lib.hid hpt; clear hpt
              have hno : ¬ hasW s.data.toList p y.data.toList := fun h => by have := h.2; rw [len_data, HPT.out] at this; cases this
              have HN := Lib.hid hno; clear hno
              go_wp2_with fail
              go_quiet ((go_at_call 29; refine Calls.quiet_of_same ((part_any _ _).mono fun e w' h => ⟨h.1, h.2.symm⟩)))
              go_wp2_with fail
              go_roundw
              case rel => exact ⟨k + 1, by go_num, by omega, HW.out.trans (HST.out.trans (if_neg HN.out)), fun j hj => ((below_drewN (Below.refl wr.heap.size wr) nq).cell (p := ⟨w.heap.size, j, none⟩) hb).trans (HC.out j hj), below_drewN hbel _⟩
              case measure => simp [intOf]; omega
            · have hpf : isPart (byt s.data.toList (p + y.size)) = false := by simpa using hpt
              have hpt2 := hpf
              rw [g] at hpt2
              clear g hpt
              have HPT := Lib.hid hpf; clear hpf
              have hyes : hasW s.data.toList p y.data.toList := ⟨HQ.out, by rw [len_data]; exact HPT.out⟩
              have HN := Lib.hid hyes; clear hyes
              go_wp2_with fail
              go_quiet ((go_at_call 29; refine Calls.quiet_of_same ((part_any _ _).mono fun e w' h => ⟨h.1, h.2.symm⟩)))
              go_wp2_with fail
              go_ret
              exact ⟨ret_int (by rw [HW.out, HST.out, if_pos HN.out]), below_drewN hbel _⟩
        · have a2 : ((s.extract p (p + y.size)).toList == y.toList) = false := by rw [beq_eq_false_iff_ne, HX.out, ByteArray.toList_eq]; exact hq
          have hno : ¬ hasW s.data.toList p y.data.toList := fun h => hq h.1
          have HN := Lib.hid hno; clear hno
          go_wp2_with fail
          go_quiet ((go_at_call 29; refine Calls.quiet_of_same ((part_any _ _).mono fun e w' h => ⟨h.1, h.2.symm⟩)))
          go_wp2_with fail
          go_roundw
          case rel => exact ⟨k + 1, by go_num, by omega, HW.out.trans (HST.out.trans (if_neg HN.out)), fun j hj => ((below_drewN (Below.refl wr.heap.size wr) nq).cell (p := ⟨w.heap.size, j, none⟩) hb).trans (HC.out j hj), below_drewN hbel _⟩
          case measure => simp [intOf]; omega
      · have a1 : decide ((y.size : Int) ≤ (s.size : Int) - (p : Int)) = false := decide_eq_false (by omega)
        clear hx
        have hno : ¬ hasW s.data.toList p y.data.toList := fun h => by have h1 := congrArg List.length h.1; rw [List.length_take, List.length_drop, len_data, len_data] at h1; omega
        have HN := Lib.hid hno; clear hno
        go_wp2_with fail
        go_quiet ((go_at_call 29; refine Calls.quiet_of_same ((part_any _ _).mono fun e w' h => ⟨h.1, h.2.symm⟩)))
        go_wp2_with fail
        go_roundw
        case rel => exact ⟨k + 1, by go_num, by omega, HW.out.trans (HST.out.trans (if_neg HN.out)), fun j hj => ((below_drewN (Below.refl wr.heap.size wr) nq).cell (p := ⟨w.heap.size, j, none⟩) hb).trans (HC.out j hj), below_drewN hbel _⟩
        case measure => simp [intOf]; omega
    · obtain rfl : k = 3 := by omega
      go_wp2_with fail
      go_ret
      exact ⟨ret_int (by rw [HW.out]; rfl), hbel⟩
end Go.Proofs.YtoflogckoepioaaDoor.Sc
/- For layer 4's document's answer: words on memory; what a step is, by its byte. -/
namespace Go.Proofs.YtoflogckoepioaaDoor.Sc
open Go.RowKit
open Go.Proofs.YtoflogckoepioaaDoor.Utf

/-- what is owned stays so while a cell of another block is written -/
theorem own_far {w : World} {base e size n : Nat} {v : Value} {xs : List Value} (h : w.ownsRow base e size v n xs) (p : Addr) (hne : v.ownBlock ≠ some p.block) (u : Value) : (w.setCell p u).ownsRow base e size v n xs := by
  refine h.kept (row := some p.block) ⟨rfl, rfl, rfl, by simp, fun k _ hk => heap_setCell_other w p k u (fun e => hk (by rw [e]))⟩ (.inr hne)
theorem own_not {w : World} {base e size n : Nat} {v : Value} {xs : List Value} (h : w.ownsRow base e size v n xs) {b : Nat} (hb : w.heap.size ≤ b) : v.ownBlock ≠ some b := fun e => by
  have := h.lt b e
  omega
theorem cells_new' (w : World) (E : TypeId) (cs : Array Value) (n : Nat) (hn : w.heap.size = n) : ∀ j u, cs.toList[j]? = some u → (w.alloc (.cells cs E)).cell? ((⟨n, 0, none⟩ : Addr).add j) = some u := by
  subst hn
  exact cells_new w E cs
theorem ext_of {s : ByteArray} {k n : Nat} {w : List UInt8} (h : (s.data.toList.drop k).take n = w) : s.extract k (k + n) = strOf w := by
  have : (s.extract k (k + n)).data.toList = w := by
    rw [← h, ByteArray.data_extract, Array.toList_extract]
    show List.extract _ _ _ = _
    rw [List.extract_eq_take_drop, Nat.add_sub_cancel_left]
  unfold strOf
  rw [← this]
theorem mark_of {s : ByteArray} {k : Nat} (hk : k < s.size) : s.extract k (k + 1) = strOf [s.data.toList.getD k 0] := by
  refine ext_of ?_
  have hk' : k < s.data.toList.length := hk
  rw [List.drop_eq_getElem_cons hk', List.take_succ_cons, List.take_zero, List.getD_eq_getElem?_getD, List.getElem?_eq_getElem hk']
  rfl
end Go.Proofs.YtoflogckoepioaaDoor.Sc
