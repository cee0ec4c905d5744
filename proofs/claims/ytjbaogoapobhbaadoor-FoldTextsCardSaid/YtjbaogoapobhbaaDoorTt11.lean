/- Merged: FoA FoB. -/
import Derived.Test.YtjbaogoapobhbaaDoorTt3
import Derived.Test.YtjbaogoapobhbaaDoorTt10
import Derived.Deep.Slices
import Derived.Deep.RegionHeld3
import Derived.Deep.AppendLies
namespace Go.Proofs.YtjbaogoapobhbaaDoor.Fo
open Go.Proofs Go.RowKit
open Go.Proofs.YtjbaogoapobhbaaDoor.Utf
open Go.Proofs.YtjbaogoapobhbaaDoor.Sc
open Go.Proofs.YtjbaogoapobhbaaDoor.Po
open Go.Proofs.YtjbaogoapobhbaaDoor.Tr (ltN ltN_swo ltN_eq)

theorem ext_cut (s : ByteArray) (f k : Nat) : s.extract f k = strOf ((s.data.toList.drop f).take (k - f)) := by
  apply ByteArray.ext
  rw [ByteArray.data_extract]
  apply Array.toList_inj.1
  simp [strOf, Array.toList_extract, List.extract]
theorem take_low (s : ByteArray) (k : Nat) (h : k < s.size) : low (s.data.toList.take (k + 1)) = low (s.data.toList.take k) ++ [lowB s[k]] := by
  have hk : k < s.data.toList.length := by rw [len_data]; exact h
  rw [List.take_succ_eq_append_getElem hk, low_app]
  rfl

set_option maxRecDepth 100000 in
set_option maxHeartbeats 1000000 in
theorem rFold_any (s : ByteArray) (w : World) (hs : s.size ≤ 140737488355328) : Calls Tryd.prog 11 #[.string s] w (Gives (.string (strOf (low s.data.toList))) w) := by
  obtain ⟨i0, hi, hz0, hz1, hz2⟩ := info_parts infoU8
  have HLEN := Lib.hid (len_data s)
  go_enter Tryd.func11, Tryd.ntmps11
  go_wp2_with fail
  go_loopw [3, 4] (fun v i wr => ∃ k : Nat, i = .int .i64 (k : Int) ∧ k ≤ s.size ∧ Aside (wr.ownsRow w.heap.size 5 1 v k (Lib.byteCells (low (s.data.toList.take k)))) ∧ Aside (Below w.heap.size w wr)) (fun _ i _ => s.size - (intOf i).toNat)
  case atStart => exact ⟨0, rfl, by omega, (show World.ownsRow _ _ _ _ _ _ _ from World.ownsRow_nil _ _ _ _), (show Below _ _ _ from Below.refl _ _)⟩
  case round =>
    obtain ⟨k, rfl, hk, hrow, hbel⟩ := hrel
    have hown := hrow.out
    have HB := Lib.hid hbel.out
    have HBS := Lib.hid hbel.out.size
    clear hrow hbel
    by_cases hlt : k < s.size
    · have t1 : decide ((k : Int) < (s.size : Int)) = true := decide_eq_true (by omega)
      have t2 : decide (k < s.size) = true := decide_eq_true hlt
      have k0 : (0 : Int) ≤ (k : Int) := by omega
      have k1 : (k : Int) < (s.size : Int) := by omega
      have k2 : ((k : Int)).toNat = k := by omega
      have HTK := Lib.hid (take_low s k hlt)
      have b0 : s[k].toNat < 256 := s[k].toNat_lt
      by_cases h1 : 65 ≤ s[k].toNat
      · by_cases h2 : s[k].toNat ≤ 90
        · have a1 : decide ((s[k].toNat : Int) ≥ 65) = true := decide_eq_true (by omega)
          have a2 : decide ((65 : Int) ≤ (s[k].toNat : Int)) = true := decide_eq_true (by omega)
          have a3 : decide (65 ≤ s[k].toNat) = true := decide_eq_true (by omega)
          have b1 : decide ((s[k].toNat : Int) ≤ 90) = true := decide_eq_true (by omega)
          have b2 : decide (s[k].toNat ≤ 90) = true := decide_eq_true (by omega)
          have HLB := Lib.hid (show ((lowB s[k]).toNat : Int) = (s[k].toNat : Int) + 32 by rw [lowB_nat]; rw [if_pos ⟨h1, h2⟩]; omega)
          go_wp2_with (at_builtin; refine wpList_append_lies _ rfl _ _ 31 rfl w.heap.size 5 i0 (.int .u8 0) 1 1 Tryd.underlying31 hi hz0 hz1 hz2 (by rfl) (by decide) u3 k (Lib.byteCells (low (s.data.toList.take k))) rfl (hown.alloc _) ⟨wr.heap.size, 0, none⟩ 1 1 [.int .u8 ((s[k].toNat : Int) + 32)] rfl rfl (cells_new _ _ _) ?_ ?_ ?_ ?_ ?_ _ rfl ?_; (intro u hu; simp at hu; subst hu; rfl); omega; (unfold maxLen; omega); omega; (have := HBS.out; simp; omega); intro g cap w2 hown2 hg2 hat hgl)
          have HO2 := Lib.hid (show w2.ownsRow w.heap.size 5 1 (.slice (some ⟨g, 0, none⟩) (k + 1) cap) (k + 1) (Lib.byteCells (low (s.data.toList.take (k + 1)))) by
            rw [HTK.out, Lib.byteCells_append]
            rw [← HLB.out] at hown2
            exact hown2)
          have HB2 := Lib.hid (show Below w.heap.size w w2 from (HB.out.alloc HBS.out _).grown hg2 (by have := HBS.out; simp; omega) (fun k hk => (hown.lt k hk).1))
          clear hown hown2 hg2 hat
          go_wp2_with fail
          go_roundw
          case rel => exact ⟨k + 1, by go_num, by omega, HO2.out, HB2.out⟩
          case measure => simp [intOf]; omega

        · have a1 : decide ((s[k].toNat : Int) ≥ 65) = true := decide_eq_true (by omega)
          have a2 : decide ((65 : Int) ≤ (s[k].toNat : Int)) = true := decide_eq_true (by omega)
          have a3 : decide (65 ≤ s[k].toNat) = true := decide_eq_true (by omega)
          have b1 : decide ((s[k].toNat : Int) ≤ 90) = false := decide_eq_false (by omega)
          have b2 : decide (s[k].toNat ≤ 90) = false := decide_eq_false (by omega)
          have HLB := Lib.hid (show ((lowB s[k]).toNat : Int) = (s[k].toNat : Int) by rw [lowB_nat]; rw [if_neg fun h => h2 h.2])
          go_wp2_with (at_builtin; refine wpList_append_lies _ rfl _ _ 31 rfl w.heap.size 5 i0 (.int .u8 0) 1 1 Tryd.underlying31 hi hz0 hz1 hz2 (by rfl) (by decide) u3 k (Lib.byteCells (low (s.data.toList.take k))) rfl (hown.alloc _) ⟨wr.heap.size, 0, none⟩ 1 1 [.int .u8 ((s[k].toNat : Int))] rfl rfl (cells_new _ _ _) ?_ ?_ ?_ ?_ ?_ _ rfl ?_; (intro u hu; simp at hu; subst hu; rfl); omega; (unfold maxLen; omega); omega; (have := HBS.out; simp; omega); intro g cap w2 hown2 hg2 hat hgl)
          have HO2 := Lib.hid (show w2.ownsRow w.heap.size 5 1 (.slice (some ⟨g, 0, none⟩) (k + 1) cap) (k + 1) (Lib.byteCells (low (s.data.toList.take (k + 1)))) by
            rw [HTK.out, Lib.byteCells_append]
            rw [← HLB.out] at hown2
            exact hown2)
          have HB2 := Lib.hid (show Below w.heap.size w w2 from (HB.out.alloc HBS.out _).grown hg2 (by have := HBS.out; simp; omega) (fun k hk => (hown.lt k hk).1))
          clear hown hown2 hg2 hat
          go_wp2_with fail
          go_roundw
          case rel => exact ⟨k + 1, by go_num, by omega, HO2.out, HB2.out⟩
          case measure => simp [intOf]; omega

      · have a1 : decide ((s[k].toNat : Int) ≥ 65) = false := decide_eq_false (by omega)
        have a2 : decide ((65 : Int) ≤ (s[k].toNat : Int)) = false := decide_eq_false (by omega)
        have a3 : decide (65 ≤ s[k].toNat) = false := decide_eq_false (by omega)
        have HLB := Lib.hid (show ((lowB s[k]).toNat : Int) = (s[k].toNat : Int) by rw [lowB_nat]; rw [if_neg fun h => h1 h.1])
        go_wp2_with (at_builtin; refine wpList_append_lies _ rfl _ _ 31 rfl w.heap.size 5 i0 (.int .u8 0) 1 1 Tryd.underlying31 hi hz0 hz1 hz2 (by rfl) (by decide) u3 k (Lib.byteCells (low (s.data.toList.take k))) rfl (hown.alloc _) ⟨wr.heap.size, 0, none⟩ 1 1 [.int .u8 ((s[k].toNat : Int))] rfl rfl (cells_new _ _ _) ?_ ?_ ?_ ?_ ?_ _ rfl ?_; (intro u hu; simp at hu; subst hu; rfl); omega; (unfold maxLen; omega); omega; (have := HBS.out; simp; omega); intro g cap w2 hown2 hg2 hat hgl)
        have HO2 := Lib.hid (show w2.ownsRow w.heap.size 5 1 (.slice (some ⟨g, 0, none⟩) (k + 1) cap) (k + 1) (Lib.byteCells (low (s.data.toList.take (k + 1)))) by
          rw [HTK.out, Lib.byteCells_append]
          rw [← HLB.out] at hown2
          exact hown2)
        have HB2 := Lib.hid (show Below w.heap.size w w2 from (HB.out.alloc HBS.out _).grown hg2 (by have := HBS.out; simp; omega) (fun k hk => (hown.lt k hk).1))
        clear hown hown2 hg2 hat
        go_wp2_with fail
        go_roundw
        case rel => exact ⟨k + 1, by go_num, by omega, HO2.out, HB2.out⟩
        case measure => simp [intOf]; omega

    · have t1 : decide ((k : Int) < (s.size : Int)) = false := decide_eq_false (by omega)
      have t2 : decide (k < s.size) = false := decide_eq_false hlt
      have hcv := Rd.conv (P := Tryd.prog) (Rd.of_own hown) Tryd.underlying31 Tryd.underlying5 Tryd.underlying9
      rw [List.take_of_length_le (by rw [HLEN.out]; omega)] at hcv
      clear hown
      go_wp2_with fail
      go_ret
      exact ⟨rfl, HB.out⟩

def NoAt (a b : List UInt8) (i : Nat) : Prop := ∀ j, j < i → j + b.length ≤ a.length → (a.drop j).take b.length ≠ b
theorem no_hasL {a b : List UInt8} {i : Nat} (h : NoAt a b i) (hi : a.length < i + b.length) : hasL a b = false := by
  rw [← Bool.not_eq_true, hasL_at]
  rintro ⟨j, h1, h2⟩
  exact h j (by omega) h1 h2
set_option maxRecDepth 100000 in
set_option maxHeartbeats 1000000 in
theorem rIn_any (a b : List UInt8) (w : World) (ha : a.length ≤ 140737488355328) (hb : b.length ≤ 140737488355328) : Calls Tryd.prog 23 #[.string (strOf a), .string (strOf b)] w fun e w' => e = .returned (.bool (hasL a b)) ∧ w = w' := by
  have HX := Lib.hid (fun f k => ext_cut (strOf a) f k)
  have HD := Lib.hid (show (strOf a).data.toList = a from rfl)
  have HLB := Lib.hid (strOf_list b)
  obtain ⟨h, hh⟩ : ∃ h, hasL a b = h := ⟨_, rfl⟩
  have HH := Lib.hid hh
  rw [hh]
  obtain ⟨A, hA⟩ : ∃ A, strOf a = A := ⟨_, rfl⟩
  obtain ⟨B, hB⟩ : ∃ B, strOf b = B := ⟨_, rfl⟩
  have HAS := Lib.hid (show A.size = a.length by rw [← hA]; rfl)
  have HBS := Lib.hid (show B.size = b.length by rw [← hB]; rfl)
  rw [hA] at HX HD ⊢
  rw [hB] at HLB ⊢
  have a9 : A.size ≤ 140737488355328 := by rw [HAS.out]; exact ha
  have b9 : B.size ≤ 140737488355328 := by rw [HBS.out]; exact hb
  clear hh hA hB ha hb
  go_enter Tryd.func23, Tryd.ntmps23
  go_wp2_with fail
  go_loopw [5] (fun i wr => ∃ k : Nat, i = .int .i64 (k : Int) ∧ k ≤ A.size + 1 ∧ Aside (NoAt a b k) ∧ Aside (w = wr)) (fun i _ => A.size + 1 - (intOf i).toNat)
  case atStart => exact ⟨0, rfl, by omega, (show NoAt _ _ _ from fun j h => by omega), (show _ = _ from rfl)⟩
  case round =>
    obtain ⟨k, rfl, hk, hno, hw⟩ := hrel
    have HNO := Lib.hid hno.out
    have HW := Lib.hid hw.out
    clear hno hw
    by_cases hlt : k + B.size ≤ A.size
    · have t1 : decide ((A.size : Int) - (k : Int) ≥ (B.size : Int)) = true := decide_eq_true (by omega)
      have t2 : decide ((B.size : Int) ≤ (A.size : Int) - (k : Int)) = true := decide_eq_true (by omega)
      have k0 : (0 : Int) ≤ (k : Int) := by omega
      have k1 : (k : Int) ≤ (k : Int) + (B.size : Int) := by omega
      have k3 : (k : Int) + (B.size : Int) ≤ (A.size : Int) := by omega
      have k2 : ((k : Int)).toNat = k := by omega
      have k4 : ((k : Int) + (B.size : Int)).toNat = k + B.size := by omega
      have HE := Lib.hid (show (A.extract k (k + B.size)).toList = (a.drop k).take b.length by rw [HX.out, HD.out, strOf_list, HBS.out, show k + b.length - k = b.length by omega])
      by_cases hc : (a.drop k).take b.length = b
      · have c1 : ((A.extract k (k + B.size)).toList == B.toList) = true := by rw [HE.out, HLB.out, hc]; exact beq_self_eq_true _
        have c2 : (A.extract k (k + B.size)).toList = B.toList := by rw [HE.out, HLB.out, hc]
        have HR := Lib.hid (show h = true by rw [← HH.out]; exact (hasL_at a b).2 ⟨k, by rw [← HAS.out, ← HBS.out]; exact hlt, hc⟩)
        clear hc
        go_wp2_with fail
        go_ret
        exact ⟨by rw [HR.out]; rfl, HW.out⟩
      · have c1 : ((A.extract k (k + B.size)).toList == B.toList) = false := by rw [HE.out, HLB.out]; exact beq_eq_false_iff_ne.2 hc
        have c2 : ¬ (A.extract k (k + B.size)).toList = B.toList := by rw [HE.out, HLB.out]; exact hc
        have HN2 := Lib.hid (show NoAt a b (k + 1) from fun j hj hl e => by
          by_cases hjk : j = k
          · subst hjk; exact hc e
          · exact HNO.out j (by omega) hl e)
        clear hc
        go_wp2_with fail
        go_roundw
        case rel => exact ⟨k + 1, by go_num, by omega, HN2.out, HW.out⟩
        case measure => simp [intOf]; omega
    · have t1 : decide ((A.size : Int) - (k : Int) ≥ (B.size : Int)) = false := decide_eq_false (by omega)
      have t2 : decide ((B.size : Int) ≤ (A.size : Int) - (k : Int)) = false := decide_eq_false (by omega)
      have HR := Lib.hid (show h = false by rw [← HH.out]; exact no_hasL HNO.out (by rw [← HAS.out, ← HBS.out]; omega))
      go_wp2_with fail
      go_ret
      exact ⟨by rw [HR.out]; rfl, HW.out⟩

set_option maxRecDepth 100000 in
set_option maxHeartbeats 1000000 in
theorem rHas_any (s t : ByteArray) (w : World) (hs : s.size ≤ 140737488355328) (ht : t.size ≤ 140737488355328) : Calls Tryd.prog 13 #[.string s, .string t] w (Gives (.bool (hasL (low s.data.toList) (low t.data.toList))) w) := by
  have HF1 := Lib.hid (fun W => rFold_any s W hs)
  have HF2 := Lib.hid (fun W => rFold_any t W ht)
  have HI := Lib.hid (fun W => rIn_any (low s.data.toList) (low t.data.toList) W (by rw [low_len, len_data]; exact hs) (by rw [low_len, len_data]; exact ht))
  generalize hasL (low s.data.toList) (low t.data.toList) = r at *
  generalize strOf (low s.data.toList) = X at *
  generalize strOf (low t.data.toList) = Y at *
  clear hs ht
  go_enter Tryd.func13, Tryd.ntmps13
  go_wp2_with fail
  refine (HF1.out _).mono ?_
  rintro e w1 ⟨rfl, hb1⟩
  have HB1 := Lib.hid hb1
  clear hb1
  go_wp2_with fail
  refine (HF2.out _).mono ?_
  rintro e w2 ⟨rfl, hb2⟩
  have HB2 := Lib.hid (HB1.out.trans (hb2.mono HB1.out.size))
  clear hb2
  go_wp2_with fail
  refine (HI.out _).mono ?_
  rintro e w3 ⟨rfl, rfl⟩
  go_wp2_with fail
  go_ret
  exact ⟨rfl, HB2.out⟩

set_option maxRecDepth 100000 in
set_option maxHeartbeats 1000000 in
theorem rCompare_any (s t : ByteArray) (w : World) (hs : s.size ≤ 140737488355328) (ht : t.size ≤ 140737488355328) : Calls Tryd.prog 15 #[.string s, .string t] w (Gives (.int .i64 (cmpF s.data.toList t.data.toList)) w) := by
  have HF1 := Lib.hid (fun W => rFold_any s W hs)
  have HF2 := Lib.hid (fun W => rFold_any t W ht)
  have hc : cmpF s.data.toList t.data.toList = if ltN (low s.data.toList) (low t.data.toList) = true then -1 else if ltN (low t.data.toList) (low s.data.toList) = true then 1 else 0 := rfl
  have h1 := less_cmp (low s.data.toList) (low t.data.toList)
  have h2 := less_cmp (low t.data.toList) (low s.data.toList)
  have e0 : low s.data.toList = low t.data.toList → ltN (low t.data.toList) (low s.data.toList) = false := fun e => by rw [e]; exact ltN_swo.irrefl _
  have e1 : ltN (low s.data.toList) (low t.data.toList) = false → ltN (low t.data.toList) (low s.data.toList) = false → low s.data.toList = low t.data.toList := fun a b => ltN_eq a b
  have HX := Lib.hid (strOf_list (low s.data.toList))
  have HY := Lib.hid (strOf_list (low t.data.toList))
  have ha : ltN (low s.data.toList) (low t.data.toList) = true → low s.data.toList ≠ low t.data.toList := fun a e => by rw [e, ltN_swo.irrefl] at a; cases a
  generalize cmpF s.data.toList t.data.toList = c at *
  generalize low s.data.toList = x at *
  generalize low t.data.toList = y at *
  generalize strOf x = X at *
  generalize strOf y = Y at *
  clear hs ht
  have main : ∀ (p q : Bool), ltN x y = p → ltN y x = q → Calls Tryd.prog 15 #[.string s, .string t] w (Gives (.int .i64 c) w) := by
    intro p q hp hq
    have HC := Lib.hid (show c = if p = true then -1 else if q = true then 1 else 0 by rw [hc, hp, hq])
    have l1 : Op.bytesLess X.toList Y.toList = p := by rw [HX.out, HY.out, h1, hp]
    have l2 : Op.bytesLess Y.toList X.toList = q := by rw [HX.out, HY.out, h2, hq]
    have HEQ := Lib.hid (show p = false → (X.toList == Y.toList) = !q from fun e => by
      rw [HX.out, HY.out]
      cases q with
      | true => exact beq_eq_false_iff_ne.2 fun h => by have := e0 h; rw [hq] at this; cases this
      | false => rw [e1 (hp.trans e) hq]; exact beq_self_eq_true _)
    clear hc h1 h2 e0 e1 ha hp hq
    cases p with
    | true =>
      go_enter Tryd.func15, Tryd.ntmps15
      go_wp2_with fail
      refine (HF1.out _).mono ?_
      rintro e w1 ⟨rfl, hb1⟩
      have HB1 := Lib.hid hb1
      clear hb1
      go_wp2_with fail
      refine (HF2.out _).mono ?_
      rintro e w2 ⟨rfl, hb2⟩
      have HB2 := Lib.hid (HB1.out.trans (hb2.mono HB1.out.size))
      clear hb2
      go_wp2_with fail
      go_ret
      exact ⟨by rw [HC.out]; rfl, HB2.out⟩
    | false =>
      have q1 := HEQ.out rfl
      cases q with
      | true =>
        have q2 : ¬ X.toList = Y.toList := beq_eq_false_iff_ne.1 q1
        go_enter Tryd.func15, Tryd.ntmps15
        go_wp2_with fail
        refine (HF1.out _).mono ?_
        rintro e w1 ⟨rfl, hb1⟩
        have HB1 := Lib.hid hb1
        clear hb1
        go_wp2_with fail
        refine (HF2.out _).mono ?_
        rintro e w2 ⟨rfl, hb2⟩
        have HB2 := Lib.hid (HB1.out.trans (hb2.mono HB1.out.size))
        clear hb2
        go_wp2_with fail
        go_ret
        exact ⟨by rw [HC.out]; rfl, HB2.out⟩
      | false =>
        have q2 : X.toList = Y.toList := beq_iff_eq.1 q1
        have l3 : Op.bytesLess Y.toList Y.toList = false := by rw [← l1, q2]
        have l4 : Op.bytesLess X.toList X.toList = false := by rw [q2, l3]
        go_enter Tryd.func15, Tryd.ntmps15
        go_wp2_with fail
        refine (HF1.out _).mono ?_
        rintro e w1 ⟨rfl, hb1⟩
        have HB1 := Lib.hid hb1
        clear hb1
        go_wp2_with fail
        refine (HF2.out _).mono ?_
        rintro e w2 ⟨rfl, hb2⟩
        have HB2 := Lib.hid (HB1.out.trans (hb2.mono HB1.out.size))
        clear hb2
        go_wp2_with fail
        go_ret
        exact ⟨by rw [HC.out]; rfl, HB2.out⟩
  exact main _ _ rfl rfl
end Go.Proofs.YtjbaogoapobhbaaDoor.Fo
namespace Go.Proofs.YtjbaogoapobhbaaDoor.Fo
open Go.Proofs Go.RowKit
open Go.Proofs.YtjbaogoapobhbaaDoor.Utf
open Go.Proofs.YtjbaogoapobhbaaDoor.Sc
open Go.Proofs.YtjbaogoapobhbaaDoor.Po

section
variable {l : List UInt8} {f j k : Nat} {ps : List (List UInt8)}
end
def GivesTs (ps : List (List UInt8)) (w : World) (e : Ending) (w' : World) : Prop :=
  ∃ v, e = .returned v ∧ w'.ownsRow w.heap.size 9 1 v ps.length (strC ps) ∧ Below w.heap.size w w'

end Go.Proofs.YtjbaogoapobhbaaDoor.Fo
