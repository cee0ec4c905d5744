/- Merged: FoU. -/
import Derived.Test.YtjbaogoapobhbaaDoorTt13
import Derived.Test.YtjbaogoapobhbaaDoorTt8
import Derived.Test.YtjbaogoapobhbaaDoorTt9
namespace Go.Proofs.YtjbaogoapobhbaaDoor.Fo
open Go.Proofs Go.RowKit
open Go.Proofs.YtjbaogoapobhbaaDoor.Utf
open Go.Proofs.YtjbaogoapobhbaaDoor.Wo (hdP tlP ext_take ext_drop)

set_option maxRecDepth 100000 in
set_option maxHeartbeats 1000000 in
theorem trim_any (s : ByteArray) (w : World) : Calls Tryd.prog 38 #[.string s, .string ⟨#[32]⟩] w fun e w' => e = .returned (.string (strOf (skp s.data.toList))) ∧ w = w' := by
  have HC := Lib.hid (fun W => trimByte_any s 32 W)
  by_cases h : s.data.toList = []
  · have e1 : s.toList = [] := by rw [ByteArray.toList_eq]; exact h
    have e2 : s.toList.isEmpty = true := by rw [e1]; rfl
    have e3 : (s.toList == []) = true := by rw [e1]; rfl
    have HE := Lib.hid (show s = strOf (skp s.data.toList) by
      rw [h]
      apply ByteArray.ext
      apply Array.toList_inj.1
      rw [h]; rfl)
    clear h e1
    go_enter Tryd.func38, Tryd.ntmps38
    go_wp2_with fail
    go_ret
    exact ⟨by conv => lhs; rw [HE.out]
              rfl, rfl⟩
  · have e1 : s.toList ≠ [] := by rw [ByteArray.toList_eq]; exact h
    have e2 : s.toList.isEmpty = false := by rw [List.isEmpty_eq_false_iff]; exact e1
    have e3 : (s.toList == []) = false := beq_eq_false_iff_ne.2 e1
    have HR := Lib.hid (show (⟨(Lib.trimLeftB s.data.toList 32).toArray⟩ : ByteArray) = strOf (skp s.data.toList) from rfl)
    rw [HR.out] at HC
    generalize strOf (skp s.data.toList) = X at *
    clear h HR
    go_enter Tryd.func38, Tryd.ntmps38
    go_wp2_with fail
    refine (HC.out _).mono ?_
    rintro e w1 ⟨rfl, rfl⟩
    go_wp2_with fail
    go_ret
    exact ⟨rfl, rfl⟩
theorem pfx_quote (t : List UInt8) : St.pfxL [34] t = match t with | [] => false | c :: _ => decide (c = 34) := by
  cases t with
  | nil => rfl
  | cons c r =>
    rw [St.pfx_1, Bool.eq_iff_iff, decide_eq_true_eq, decide_eq_true_eq]
    have e : byt (c :: r) 0 = (c.toNat : Int) := rfl
    rw [e]
    constructor
    · rintro ⟨_, h⟩
      exact UInt8.toNat.inj (by simp at h ⊢; omega)
    · rintro rfl
      exact ⟨by simp, rfl⟩
theorem strOf_tail (c : UInt8) (r : List UInt8) : (strOf (c :: r)).extract 1 (strOf (c :: r)).size = strOf r := by rw [ext_drop]; rfl
set_option maxRecDepth 100000 in
set_option maxHeartbeats 2000000 in
theorem next_any (s : ByteArray) (w : World) (hs : s.size < 4294967281) : Calls Tryd.prog 34 #[.string s] w fun e w' => e = .returned (.tuple #[.string (strOf (nxt s.data.toList).1), .string (strOf (nxt s.data.toList).2)]) ∧ Below w.heap.size w w' := by
  have HT := Lib.hid (fun W => trim_any s W)
  have hle := skp_le s.data.toList
  rw [len_data] at hle
  rcases ht : skp s.data.toList with _ | ⟨c, r⟩
  · rw [nxt_nil ht]
    rw [ht] at HT
    have HP := Lib.hid (fun W => St.cutPre_any (strOf []) ⟨#[34]⟩ W)
    rw [show St.pfxL (⟨#[34]⟩ : ByteArray).data.toList (strOf []).data.toList = false from rfl, if_neg Bool.false_ne_true] at HP
    have HI := Lib.hid (fun W => indexAny_any (strOf []) W (by decide))
    rw [show Lib.indexAny (strOf []).data.toList [32, 34] = -1 from rfl] at HI
    have z1 : (strOf []).size = 0 := rfl
    have HX := Lib.hid (show ByteArray.empty = strOf [] from rfl)
    generalize strOf [] = X at *
    clear hle ht
    go_enter Tryd.func34, Tryd.ntmps34
    go_wp2_with (first | (go_at_call 38; refine (HT.out _).mono ?_; rintro e w' ⟨rfl, rfl⟩) | (go_at_call 39; refine (HP.out _).mono ?_; rintro e w' ⟨rfl, rfl⟩))
    refine (HI.out _).mono ?_
    rintro e w1 ⟨rfl, hb⟩
    have HB := Lib.hid hb
    clear hb
    go_wp2_with (go_quiet (fail))
    go_ret2
    exact ⟨by rw [HX.out]; rfl, HB.out.trans ⟨rfl, rfl, rfl, Nat.le_refl _, fun _ _ => rfl⟩⟩
  · rw [ht] at hle HT
    by_cases hc : c = 34
    · subst hc
      rw [nxt_quote ht]
      have HP := Lib.hid (fun W => St.cutPre_any (strOf (34 :: r)) ⟨#[34]⟩ W)
      rw [show St.pfxL (⟨#[34]⟩ : ByteArray).data.toList (strOf (34 :: r)).data.toList = true by rw [show (⟨#[34]⟩ : ByteArray).data.toList = [34] from rfl, pfx_quote]; rfl, if_pos rfl, show (⟨#[34]⟩ : ByteArray).size = 1 from rfl, strOf_tail] at HP
      have HC := Lib.hid (fun W => Wo.Cut_any (strOf r) 34 W (by rw [strOf_size]; simp at hle; omega))
      rw [strOf_data] at HC
      generalize strOf (hdP 34 r) = Y1 at *
      generalize strOf (tlP 34 r) = Y2 at *
      generalize decide ((34 : UInt8) ∈ r) = b at *
      generalize strOf (34 :: r) = X at *
      generalize strOf r = Z at *
      clear hle ht
      go_enter Tryd.func34, Tryd.ntmps34
      go_wp2_with (first | (go_at_call 38; refine (HT.out _).mono ?_; rintro e w' ⟨rfl, rfl⟩) | (go_at_call 39; refine (HP.out _).mono ?_; rintro e w' ⟨rfl, rfl⟩))
      refine (HC.out _).mono ?_
      rintro e w1 ⟨rfl, hb⟩
      have HB := Lib.hid hb
      clear hb
      go_wp2_with fail
      go_ret2
      exact ⟨rfl, HB.out⟩
    · rw [nxt_word ht hc]
      have HP := Lib.hid (fun W => St.cutPre_any (strOf (c :: r)) ⟨#[34]⟩ W)
      rw [show St.pfxL (⟨#[34]⟩ : ByteArray).data.toList (strOf (c :: r)).data.toList = false by rw [show (⟨#[34]⟩ : ByteArray).data.toList = [34] from rfl, strOf_data, pfx_quote]; exact decide_eq_false hc, if_neg Bool.false_ne_true] at HP
      have hsz : (strOf (c :: r)).size = (c :: r).length := rfl
      have HI := Lib.hid (fun W => indexAny_any (strOf (c :: r)) W (by rw [hsz]; omega))
      rw [strOf_data, any_word] at HI
      have hwr := rst_len (c :: r)
      by_cases hr : rstL (c :: r) = []
      · rw [if_pos hr] at HI
        have hw := wrd_all hr
        obtain ⟨n, hn⟩ : ∃ n, (c :: r).length = n := ⟨_, rfl⟩
        rw [hn] at hsz hle
        have HX := Lib.hid (show (strOf (c :: r)).extract 0 n = strOf (wrdL (c :: r)) by rw [ext_take, strOf_data, ← hn, List.take_length, hw])
        have HY := Lib.hid (show ByteArray.empty = strOf (rstL (c :: r)) by rw [hr]; rfl)
        generalize strOf (c :: r) = X at *
        have k0 : (0 : Int) ≤ (n : Int) := by omega
        have k1 : (n : Int) ≤ (X.size : Int) := by omega
        have k2 : ((n : Int)).toNat = n := by omega
        have hsz2 : (X.size : Int) = (n : Int) := by omega
        clear ht hc hw hwr hr hn
        go_enter Tryd.func34, Tryd.ntmps34
        go_wp2_with (first | (go_at_call 38; refine (HT.out _).mono ?_; rintro e w' ⟨rfl, rfl⟩) | (go_at_call 39; refine (HP.out _).mono ?_; rintro e w' ⟨rfl, rfl⟩))
        refine (HI.out _).mono ?_
        rintro e w1 ⟨rfl, hb⟩
        have HB := Lib.hid hb
        clear hb
        go_wp2_with (go_quiet (fail))
        go_ret2
        exact ⟨by rw [HX.out, HY.out]; rfl, HB.out.trans ⟨rfl, rfl, rfl, Nat.le_refl _, fun _ _ => rfl⟩⟩
      · rw [if_neg hr] at HI
        obtain ⟨n, hn⟩ : ∃ n, (wrdL (c :: r)).length = n := ⟨_, rfl⟩
        have HX := Lib.hid (show (strOf (c :: r)).extract 0 n = strOf (wrdL (c :: r)) by rw [ext_take, strOf_data, ← hn, wrd_take])
        have HY := Lib.hid (show (strOf (c :: r)).extract n (strOf (c :: r)).size = strOf (rstL (c :: r)) by rw [ext_drop, strOf_data, ← hn, wrd_drop])
        rw [hn] at HI hwr
        have hnl : n ≤ (strOf (c :: r)).size := by rw [hsz]; omega
        generalize strOf (c :: r) = X at *
        have k0 : (0 : Int) ≤ (n : Int) := by omega
        have k1 : (n : Int) ≤ (X.size : Int) := by omega
        have k2 : ((n : Int)).toNat = n := by omega
        have t1 : decide ((n : Int) < 0) = false := decide_eq_false (by omega)
        clear ht hc hwr hr hn hsz hle
        go_enter Tryd.func34, Tryd.ntmps34
        go_wp2_with (first | (go_at_call 38; refine (HT.out _).mono ?_; rintro e w' ⟨rfl, rfl⟩) | (go_at_call 39; refine (HP.out _).mono ?_; rintro e w' ⟨rfl, rfl⟩))
        refine (HI.out _).mono ?_
        rintro e w1 ⟨rfl, hb⟩
        have HB := Lib.hid hb
        clear hb
        go_wp2_with (go_quiet (fail))
        go_ret2
        exact ⟨by rw [HX.out, HY.out]; rfl, HB.out.trans ⟨rfl, rfl, rfl, Nat.le_refl _, fun _ _ => rfl⟩⟩
end Go.Proofs.YtjbaogoapobhbaaDoor.Fo
