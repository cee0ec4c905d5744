import Derived.Test.YtcbiaflbncfliaaDoorUtfA
import Derived.Deep.DeepCutAuto
import Derived.Deep.RegionWith
import Derived.IntWalk
/- Contract of the document's answer One. -/
namespace Go.Proofs.YtcbiaflbncfliaaDoor.Utf
open Go.RowKit

theorem byt_dropget (s : ByteArray) (q k : Nat) (h : q + k < s.size) : byt (s.data.toList.drop q) k = (s[q + k].toNat : Int) := by rw [byt_drop, byt_get s (q + k) h]

/-- the walk behind the tests on the first byte, told of the numbers alone -/
theorem refL_short (l : List UInt8) (n : Nat) (h0 : l.length ≠ 0) (hn : refN (byt l 0) = n) (h : l.length < n) : refL l = (0, 0) := by
  unfold refL; rw [if_neg h0, hn, if_pos h]
theorem refL_yes (l : List UInt8) (n : Nat) (b p : Int) (h0 : l.length ≠ 0) (hn : refN (byt l 0) = n) (hb : refP (byt l 0) = b) (h : ¬ l.length < n) (ha : accN b l (n - 1) = p) (he : enc p = l.take n) : refL l = (p, (n : Int)) := refL_eq' l n b p h0 hn hb (by omega) ha he
theorem refL_no (l : List UInt8) (n : Nat) (b p : Int) (h0 : l.length ≠ 0) (hn : refN (byt l 0) = n) (hb : refP (byt l 0) = b) (h : ¬ l.length < n) (ha : accN b l (n - 1) = p) (he : ¬ enc p = l.take n) : refL l = (0, 0) := by
  unfold refL
  rw [if_neg h0, hn, if_neg (by omega), hb, ha, if_neg he]

set_option maxRecDepth 100000 in
set_option maxHeartbeats 1000000 in
theorem rOne_1 (s : ByteArray) (q : Nat) (w : World) (hs : s.size ≤ maxLen) (h1 : q < s.size) (hb : (s[q].toNat : Int) < 192) :
    Calls Tryd.prog 41 #[.string s, .int .i64 q] w (Gives (.tuple #[.int .i64 (refL (s.data.toList.drop q)).1, .int .i64 (refL (s.data.toList.drop q)).2]) w) := by
  have hs' := hs
  have HS := Lib.hid hs; clear hs
  unfold maxLen at hs'
  have g := byt_get s q h1
  have G := Lib.hid g
  have g0 := byt_lo s.data.toList q
  have g1 := byt_hi s.data.toList q
  rw [g] at g0 g1
  clear g
  have hN : refN (byt (s.data.toList.drop q) 0) = 1 := by rw [byt_drop, Nat.add_zero, G.out]; exact refN_1 (by omega)
  have hP : refP (byt (s.data.toList.drop q) 0) = (s[q].toNat : Int) := by rw [byt_drop, Nat.add_zero, G.out]; exact refP_1 (by omega)
  have h0 : (s.data.toList.drop q).length ≠ 0 := by simp; omega
  have HN := Lib.hid hN; clear hN
  have HP := Lib.hid hP; clear hP
  have H0 := Lib.hid h0; clear h0
  have hA0 : 0 ≤ (s[q].toNat : Int) := by omega
  have hA1 : (s[q].toNat : Int) ≤ 255 := by omega
  have t1 : decide (192 ≤ (s[q].toNat : Int)) = false := decide_eq_false (by omega)
  have t2 : decide (224 ≤ (s[q].toNat : Int)) = false := decide_eq_false (by omega)
  have t3 : decide (240 ≤ (s[q].toNat : Int)) = false := decide_eq_false (by omega)
  have t4 : decide ((q : Int) < 0) = false := decide_eq_false (by omega)
  have t5 : decide (s.size ≤ q) = false := by simpa using h1
  by_cases hl : s.size - q < 1
  · have hd : decide ((s.size : Int) - (q : Int) < 1) = true := decide_eq_true (by omega)
    omega
  · have hd : decide ((s.size : Int) - (q : Int) < 1) = false := decide_eq_false (by omega)
    have HL := Lib.hid hl; clear hl
    go_enter Tryd.func41, Tryd.ntmps41
    go_wp2_with fail
    go_loop [8, 9] (fun p i => ∃ k : Nat, k < 1 ∧ i = .int .i64 (k + 1 : Nat) ∧ p = .int .i64 (accN ((s[q].toNat : Int)) (s.data.toList.drop q) k)) (fun _ i => 1 - (intOf i).toNat)
    case atStart => exact ⟨0, by omega, by go_num, rfl⟩
    case round =>
      obtain ⟨k, hk, rfl, rfl⟩ := hrel
      have a0 := accN_lo ((s[q].toNat : Int)) (s.data.toList.drop q) hA0 k
      have a1 : accN ((s[q].toNat : Int)) (s.data.toList.drop q) k ≤ 8388607 := by (obtain rfl : k = 0 := (by omega)); simp only [accN]; omega
      have hl2 : q + 1 ≤ s.size := by have := HL.out; omega
      by_cases hlt : k + 1 < 1
      · omega
      · obtain rfl : k = 1 - 1 := by omega
        generalize hP : accN ((s[q].toNat : Int)) (s.data.toList.drop q) (1 - 1) = P at *
        have HA := Lib.hid hP; clear hP
        have HI := strOf_list (enc P)
        have f1 : IntKind.i64.wrap ((q : Int) + 1) = (q : Int) + 1 := IntWalk.i64_in _ (by omega)
        have f2 : (0 : Int) ≤ (q : Int) + 1 := by omega
        have f3 : (q : Int) + 1 ≤ (s.size : Int) := by omega
        have f4 : ((q : Int) + 1).toNat = q + 1 := by omega
        have hx : (s.extract q (q + 1)).toList = (s.data.toList.drop q).take 1 := by rw [Lib.extract_toList, Nat.add_sub_cancel_left]
        by_cases he : enc P = (s.data.toList.drop q).take 1
        · have HE := Lib.hid he
          go_upto_region 21 with fail
          go_cut [65] (fun c wx => c = .bool false ∧ Below w.heap.size w wx)
          case first =>
            go_region_with (go_at_call 38; refine (Bytes_any _ _).mono ?_; rintro e w1 ⟨v1, rfl, hown1, hb1⟩; have hc := (Rd.of_own hown1).conv (P := Tryd.prog) Tryd.underlying41 Tryd.underlying5 Tryd.underlying9)
            all_goals (go_wp2_with fail; go_meet; exact ⟨rfl, (Below.drew (Below.refl _ _)).trans hb1⟩)
          case rest =>
            obtain ⟨rfl, hb⟩ := hcut
            clear he
            go_wp2_with fail
            go_ret2
            exact ⟨by rw [refL_yes _ 1 _ _ H0.out HN.out HP.out (by simp; omega) HA.out HE.out]; rfl, hb⟩
        · have HE := Lib.hid he
          have heb : (enc P == (s.data.toList.drop q).take 1) = false := by simpa using he
          clear he
          go_upto_region 21 with fail
          go_cut [65] (fun c wx => c = .bool true ∧ Below w.heap.size w wx)
          case first =>
            go_region_with (go_at_call 38; refine (Bytes_any _ _).mono ?_; rintro e w1 ⟨v1, rfl, hown1, hb1⟩; have hc := (Rd.of_own hown1).conv (P := Tryd.prog) Tryd.underlying41 Tryd.underlying5 Tryd.underlying9)
            all_goals (go_wp2_with fail; go_meet; exact ⟨rfl, (Below.drew (Below.refl _ _)).trans hb1⟩)
          case rest =>
            obtain ⟨rfl, hb⟩ := hcut
            go_wp2_with fail
            go_ret2
            exact ⟨by rw [refL_no _ 1 _ _ H0.out HN.out HP.out (by simp; omega) HA.out HE.out]; rfl, hb⟩

set_option maxRecDepth 100000 in
set_option maxHeartbeats 1000000 in
theorem rOne_2 (s : ByteArray) (q : Nat) (w : World) (hs : s.size ≤ maxLen) (h1 : q < s.size) (hb : 192 ≤ (s[q].toNat : Int) ∧ (s[q].toNat : Int) < 224) :
    Calls Tryd.prog 41 #[.string s, .int .i64 q] w (Gives (.tuple #[.int .i64 (refL (s.data.toList.drop q)).1, .int .i64 (refL (s.data.toList.drop q)).2]) w) := by
  have hs' := hs
  have HS := Lib.hid hs; clear hs
  unfold maxLen at hs'
  have g := byt_get s q h1
  have G := Lib.hid g
  have g0 := byt_lo s.data.toList q
  have g1 := byt_hi s.data.toList q
  rw [g] at g0 g1
  clear g
  have hN : refN (byt (s.data.toList.drop q) 0) = 2 := by rw [byt_drop, Nat.add_zero, G.out]; exact refN_2 (by omega) (by omega)
  have hP : refP (byt (s.data.toList.drop q) 0) = (s[q].toNat : Int) - 192 := by rw [byt_drop, Nat.add_zero, G.out]; exact refP_2 (by omega) (by omega)
  have h0 : (s.data.toList.drop q).length ≠ 0 := by simp; omega
  have HN := Lib.hid hN; clear hN
  have HP := Lib.hid hP; clear hP
  have H0 := Lib.hid h0; clear h0
  have hA0 : 0 ≤ (s[q].toNat : Int) - 192 := by omega
  have hA1 : (s[q].toNat : Int) - 192 ≤ 255 := by omega
  have t1 : decide (192 ≤ (s[q].toNat : Int)) = true := decide_eq_true (by omega)
  have t2 : decide (224 ≤ (s[q].toNat : Int)) = false := decide_eq_false (by omega)
  have t3 : decide (240 ≤ (s[q].toNat : Int)) = false := decide_eq_false (by omega)
  have t4 : decide ((q : Int) < 0) = false := decide_eq_false (by omega)
  have t5 : decide (s.size ≤ q) = false := by simpa using h1
  by_cases hl : s.size - q < 2
  · have hd : decide ((s.size : Int) - (q : Int) < 2) = true := decide_eq_true (by omega)
    go_enter Tryd.func41, Tryd.ntmps41
    go_wp2_with fail
    go_ret2
    exact ⟨by rw [refL_short _ 2 H0.out HN.out (by simp; omega)]; rfl, Below.refl _ _⟩
  · have hd : decide ((s.size : Int) - (q : Int) < 2) = false := decide_eq_false (by omega)
    have HL := Lib.hid hl; clear hl
    go_enter Tryd.func41, Tryd.ntmps41
    go_wp2_with fail
    go_loop [8, 9] (fun p i => ∃ k : Nat, k < 2 ∧ i = .int .i64 (k + 1 : Nat) ∧ p = .int .i64 (accN ((s[q].toNat : Int) - 192) (s.data.toList.drop q) k)) (fun _ i => 2 - (intOf i).toNat)
    case atStart => exact ⟨0, by omega, by go_num, rfl⟩
    case round =>
      obtain ⟨k, hk, rfl, rfl⟩ := hrel
      have a0 := accN_lo ((s[q].toNat : Int) - 192) (s.data.toList.drop q) hA0 k
      have a1 : accN ((s[q].toNat : Int) - 192) (s.data.toList.drop q) k ≤ 8388607 := accN_hi _ _ (by omega) k (by omega)
      have hl2 : q + 2 ≤ s.size := by have := HL.out; omega
      by_cases hlt : k + 1 < 2
      · have gk := byt_dropget s q (k + 1) (by omega)
        have gk0 := byt_lo (s.data.toList.drop q) (k + 1)
        have gk1 := byt_hi (s.data.toList.drop q) (k + 1)
        rw [gk] at gk0 gk1
        have GK := Lib.hid gk; clear gk
        go_wp2_with fail
        go_round
        case rel => exact ⟨k + 1, hlt, by go_num, by rw [accN, GK.out]⟩
        case measure => simp [intOf]; omega
      · obtain rfl : k = 2 - 1 := by omega
        generalize hP : accN ((s[q].toNat : Int) - 192) (s.data.toList.drop q) (2 - 1) = P at *
        have HA := Lib.hid hP; clear hP
        have HI := strOf_list (enc P)
        have f1 : IntKind.i64.wrap ((q : Int) + 2) = (q : Int) + 2 := IntWalk.i64_in _ (by omega)
        have f2 : (0 : Int) ≤ (q : Int) + 2 := by omega
        have f3 : (q : Int) + 2 ≤ (s.size : Int) := by omega
        have f4 : ((q : Int) + 2).toNat = q + 2 := by omega
        have hx : (s.extract q (q + 2)).toList = (s.data.toList.drop q).take 2 := by rw [Lib.extract_toList, Nat.add_sub_cancel_left]
        by_cases he : enc P = (s.data.toList.drop q).take 2
        · have HE := Lib.hid he
          go_upto_region 21 with fail
          go_cut [65] (fun c wx => c = .bool false ∧ Below w.heap.size w wx)
          case first =>
            go_region_with (go_at_call 38; refine (Bytes_any _ _).mono ?_; rintro e w1 ⟨v1, rfl, hown1, hb1⟩; have hc := (Rd.of_own hown1).conv (P := Tryd.prog) Tryd.underlying41 Tryd.underlying5 Tryd.underlying9)
            all_goals (go_wp2_with fail; go_meet; exact ⟨rfl, (Below.drew (Below.refl _ _)).trans hb1⟩)
          case rest =>
            obtain ⟨rfl, hb⟩ := hcut
            clear he
            go_wp2_with fail
            go_ret2
            exact ⟨by rw [refL_yes _ 2 _ _ H0.out HN.out HP.out (by simp; omega) HA.out HE.out]; rfl, hb⟩
        · have HE := Lib.hid he
          have heb : (enc P == (s.data.toList.drop q).take 2) = false := by simpa using he
          clear he
          go_upto_region 21 with fail
          go_cut [65] (fun c wx => c = .bool true ∧ Below w.heap.size w wx)
          case first =>
            go_region_with (go_at_call 38; refine (Bytes_any _ _).mono ?_; rintro e w1 ⟨v1, rfl, hown1, hb1⟩; have hc := (Rd.of_own hown1).conv (P := Tryd.prog) Tryd.underlying41 Tryd.underlying5 Tryd.underlying9)
            all_goals (go_wp2_with fail; go_meet; exact ⟨rfl, (Below.drew (Below.refl _ _)).trans hb1⟩)
          case rest =>
            obtain ⟨rfl, hb⟩ := hcut
            go_wp2_with fail
            go_ret2
            exact ⟨by rw [refL_no _ 2 _ _ H0.out HN.out HP.out (by simp; omega) HA.out HE.out]; rfl, hb⟩

set_option maxRecDepth 100000 in
set_option maxHeartbeats 1000000 in
theorem rOne_3 (s : ByteArray) (q : Nat) (w : World) (hs : s.size ≤ maxLen) (h1 : q < s.size) (hb : 224 ≤ (s[q].toNat : Int) ∧ (s[q].toNat : Int) < 240) :
    Calls Tryd.prog 41 #[.string s, .int .i64 q] w (Gives (.tuple #[.int .i64 (refL (s.data.toList.drop q)).1, .int .i64 (refL (s.data.toList.drop q)).2]) w) := by
  have hs' := hs
  have HS := Lib.hid hs; clear hs
  unfold maxLen at hs'
  have g := byt_get s q h1
  have G := Lib.hid g
  have g0 := byt_lo s.data.toList q
  have g1 := byt_hi s.data.toList q
  rw [g] at g0 g1
  clear g
  have hN : refN (byt (s.data.toList.drop q) 0) = 3 := by rw [byt_drop, Nat.add_zero, G.out]; exact refN_3 (by omega) (by omega)
  have hP : refP (byt (s.data.toList.drop q) 0) = (s[q].toNat : Int) - 224 := by rw [byt_drop, Nat.add_zero, G.out]; exact refP_3 (by omega) (by omega)
  have h0 : (s.data.toList.drop q).length ≠ 0 := by simp; omega
  have HN := Lib.hid hN; clear hN
  have HP := Lib.hid hP; clear hP
  have H0 := Lib.hid h0; clear h0
  have hA0 : 0 ≤ (s[q].toNat : Int) - 224 := by omega
  have hA1 : (s[q].toNat : Int) - 224 ≤ 255 := by omega
  have t1 : decide (192 ≤ (s[q].toNat : Int)) = true := decide_eq_true (by omega)
  have t2 : decide (224 ≤ (s[q].toNat : Int)) = true := decide_eq_true (by omega)
  have t3 : decide (240 ≤ (s[q].toNat : Int)) = false := decide_eq_false (by omega)
  have t4 : decide ((q : Int) < 0) = false := decide_eq_false (by omega)
  have t5 : decide (s.size ≤ q) = false := by simpa using h1
  by_cases hl : s.size - q < 3
  · have hd : decide ((s.size : Int) - (q : Int) < 3) = true := decide_eq_true (by omega)
    go_enter Tryd.func41, Tryd.ntmps41
    go_wp2_with fail
    go_ret2
    exact ⟨by rw [refL_short _ 3 H0.out HN.out (by simp; omega)]; rfl, Below.refl _ _⟩
  · have hd : decide ((s.size : Int) - (q : Int) < 3) = false := decide_eq_false (by omega)
    have HL := Lib.hid hl; clear hl
    go_enter Tryd.func41, Tryd.ntmps41
    go_wp2_with fail
    go_loop [8, 9] (fun p i => ∃ k : Nat, k < 3 ∧ i = .int .i64 (k + 1 : Nat) ∧ p = .int .i64 (accN ((s[q].toNat : Int) - 224) (s.data.toList.drop q) k)) (fun _ i => 3 - (intOf i).toNat)
    case atStart => exact ⟨0, by omega, by go_num, rfl⟩
    case round =>
      obtain ⟨k, hk, rfl, rfl⟩ := hrel
      have a0 := accN_lo ((s[q].toNat : Int) - 224) (s.data.toList.drop q) hA0 k
      have a1 : accN ((s[q].toNat : Int) - 224) (s.data.toList.drop q) k ≤ 8388607 := accN_hi _ _ (by omega) k (by omega)
      have hl2 : q + 3 ≤ s.size := by have := HL.out; omega
      by_cases hlt : k + 1 < 3
      · have gk := byt_dropget s q (k + 1) (by omega)
        have gk0 := byt_lo (s.data.toList.drop q) (k + 1)
        have gk1 := byt_hi (s.data.toList.drop q) (k + 1)
        rw [gk] at gk0 gk1
        have GK := Lib.hid gk; clear gk
        go_wp2_with fail
        go_round
        case rel => exact ⟨k + 1, hlt, by go_num, by rw [accN, GK.out]⟩
        case measure => simp [intOf]; omega
      · obtain rfl : k = 3 - 1 := by omega
        generalize hP : accN ((s[q].toNat : Int) - 224) (s.data.toList.drop q) (3 - 1) = P at *
        have HA := Lib.hid hP; clear hP
        have HI := strOf_list (enc P)
        have f1 : IntKind.i64.wrap ((q : Int) + 3) = (q : Int) + 3 := IntWalk.i64_in _ (by omega)
        have f2 : (0 : Int) ≤ (q : Int) + 3 := by omega
        have f3 : (q : Int) + 3 ≤ (s.size : Int) := by omega
        have f4 : ((q : Int) + 3).toNat = q + 3 := by omega
        have hx : (s.extract q (q + 3)).toList = (s.data.toList.drop q).take 3 := by rw [Lib.extract_toList, Nat.add_sub_cancel_left]
        by_cases he : enc P = (s.data.toList.drop q).take 3
        · have HE := Lib.hid he
          go_upto_region 21 with fail
          go_cut [65] (fun c wx => c = .bool false ∧ Below w.heap.size w wx)
          case first =>
            go_region_with (go_at_call 38; refine (Bytes_any _ _).mono ?_; rintro e w1 ⟨v1, rfl, hown1, hb1⟩; have hc := (Rd.of_own hown1).conv (P := Tryd.prog) Tryd.underlying41 Tryd.underlying5 Tryd.underlying9)
            all_goals (go_wp2_with fail; go_meet; exact ⟨rfl, (Below.drew (Below.refl _ _)).trans hb1⟩)
          case rest =>
            obtain ⟨rfl, hb⟩ := hcut
            clear he
            go_wp2_with fail
            go_ret2
            exact ⟨by rw [refL_yes _ 3 _ _ H0.out HN.out HP.out (by simp; omega) HA.out HE.out]; rfl, hb⟩
        · have HE := Lib.hid he
          have heb : (enc P == (s.data.toList.drop q).take 3) = false := by simpa using he
          clear he
          go_upto_region 21 with fail
          go_cut [65] (fun c wx => c = .bool true ∧ Below w.heap.size w wx)
          case first =>
            go_region_with (go_at_call 38; refine (Bytes_any _ _).mono ?_; rintro e w1 ⟨v1, rfl, hown1, hb1⟩; have hc := (Rd.of_own hown1).conv (P := Tryd.prog) Tryd.underlying41 Tryd.underlying5 Tryd.underlying9)
            all_goals (go_wp2_with fail; go_meet; exact ⟨rfl, (Below.drew (Below.refl _ _)).trans hb1⟩)
          case rest =>
            obtain ⟨rfl, hb⟩ := hcut
            go_wp2_with fail
            go_ret2
            exact ⟨by rw [refL_no _ 3 _ _ H0.out HN.out HP.out (by simp; omega) HA.out HE.out]; rfl, hb⟩

set_option maxRecDepth 100000 in
set_option maxHeartbeats 1000000 in
theorem rOne_4 (s : ByteArray) (q : Nat) (w : World) (hs : s.size ≤ maxLen) (h1 : q < s.size) (hb : 240 ≤ (s[q].toNat : Int)) :
    Calls Tryd.prog 41 #[.string s, .int .i64 q] w (Gives (.tuple #[.int .i64 (refL (s.data.toList.drop q)).1, .int .i64 (refL (s.data.toList.drop q)).2]) w) := by
  have hs' := hs
  have HS := Lib.hid hs; clear hs
  unfold maxLen at hs'
  have g := byt_get s q h1
  have G := Lib.hid g
  have g0 := byt_lo s.data.toList q
  have g1 := byt_hi s.data.toList q
  rw [g] at g0 g1
  clear g
  have hN : refN (byt (s.data.toList.drop q) 0) = 4 := by rw [byt_drop, Nat.add_zero, G.out]; exact refN_4 (by omega)
  have hP : refP (byt (s.data.toList.drop q) 0) = (s[q].toNat : Int) - 240 := by rw [byt_drop, Nat.add_zero, G.out]; exact refP_4 (by omega)
  have h0 : (s.data.toList.drop q).length ≠ 0 := by simp; omega
  have HN := Lib.hid hN; clear hN
  have HP := Lib.hid hP; clear hP
  have H0 := Lib.hid h0; clear h0
  have hA0 : 0 ≤ (s[q].toNat : Int) - 240 := by omega
  have hA1 : (s[q].toNat : Int) - 240 ≤ 255 := by omega
  have t1 : decide (192 ≤ (s[q].toNat : Int)) = true := decide_eq_true (by omega)
  have t2 : decide (224 ≤ (s[q].toNat : Int)) = true := decide_eq_true (by omega)
  have t3 : decide (240 ≤ (s[q].toNat : Int)) = true := decide_eq_true (by omega)
  have t4 : decide ((q : Int) < 0) = false := decide_eq_false (by omega)
  have t5 : decide (s.size ≤ q) = false := by simpa using h1
  by_cases hl : s.size - q < 4
  · have hd : decide ((s.size : Int) - (q : Int) < 4) = true := decide_eq_true (by omega)
    go_enter Tryd.func41, Tryd.ntmps41
    go_wp2_with fail
    go_ret2
    exact ⟨by rw [refL_short _ 4 H0.out HN.out (by simp; omega)]; rfl, Below.refl _ _⟩
  · have hd : decide ((s.size : Int) - (q : Int) < 4) = false := decide_eq_false (by omega)
    have HL := Lib.hid hl; clear hl
    go_enter Tryd.func41, Tryd.ntmps41
    go_wp2_with fail
    go_loop [8, 9] (fun p i => ∃ k : Nat, k < 4 ∧ i = .int .i64 (k + 1 : Nat) ∧ p = .int .i64 (accN ((s[q].toNat : Int) - 240) (s.data.toList.drop q) k)) (fun _ i => 4 - (intOf i).toNat)
    case atStart => exact ⟨0, by omega, by go_num, rfl⟩
    case round =>
      obtain ⟨k, hk, rfl, rfl⟩ := hrel
      have a0 := accN_lo ((s[q].toNat : Int) - 240) (s.data.toList.drop q) hA0 k
      have a1 : accN ((s[q].toNat : Int) - 240) (s.data.toList.drop q) k ≤ 8388607 := accN_hi _ _ (by omega) k (by omega)
      have hl2 : q + 4 ≤ s.size := by have := HL.out; omega
      by_cases hlt : k + 1 < 4
      · have gk := byt_dropget s q (k + 1) (by omega)
        have gk0 := byt_lo (s.data.toList.drop q) (k + 1)
        have gk1 := byt_hi (s.data.toList.drop q) (k + 1)
        rw [gk] at gk0 gk1
        have GK := Lib.hid gk; clear gk
        go_wp2_with fail
        go_round
        case rel => exact ⟨k + 1, hlt, by go_num, by rw [accN, GK.out]⟩
        case measure => simp [intOf]; omega
      · obtain rfl : k = 4 - 1 := by omega
        generalize hP : accN ((s[q].toNat : Int) - 240) (s.data.toList.drop q) (4 - 1) = P at *
        have HA := Lib.hid hP; clear hP
        have HI := strOf_list (enc P)
        have f1 : IntKind.i64.wrap ((q : Int) + 4) = (q : Int) + 4 := IntWalk.i64_in _ (by omega)
        have f2 : (0 : Int) ≤ (q : Int) + 4 := by omega
        have f3 : (q : Int) + 4 ≤ (s.size : Int) := by omega
        have f4 : ((q : Int) + 4).toNat = q + 4 := by omega
        have hx : (s.extract q (q + 4)).toList = (s.data.toList.drop q).take 4 := by rw [Lib.extract_toList, Nat.add_sub_cancel_left]
        by_cases he : enc P = (s.data.toList.drop q).take 4
        · have HE := Lib.hid he
          go_upto_region 21 with fail
          go_cut [65] (fun c wx => c = .bool false ∧ Below w.heap.size w wx)
          case first =>
            go_region_with (go_at_call 38; refine (Bytes_any _ _).mono ?_; rintro e w1 ⟨v1, rfl, hown1, hb1⟩; have hc := (Rd.of_own hown1).conv (P := Tryd.prog) Tryd.underlying41 Tryd.underlying5 Tryd.underlying9)
            all_goals (go_wp2_with fail; go_meet; exact ⟨rfl, (Below.drew (Below.refl _ _)).trans hb1⟩)
          case rest =>
            obtain ⟨rfl, hb⟩ := hcut
            clear he
            go_wp2_with fail
            go_ret2
            exact ⟨by rw [refL_yes _ 4 _ _ H0.out HN.out HP.out (by simp; omega) HA.out HE.out]; rfl, hb⟩
        · have HE := Lib.hid he
          have heb : (enc P == (s.data.toList.drop q).take 4) = false := by simpa using he
          clear he
          go_upto_region 21 with fail
          go_cut [65] (fun c wx => c = .bool true ∧ Below w.heap.size w wx)
          case first =>
            go_region_with (go_at_call 38; refine (Bytes_any _ _).mono ?_; rintro e w1 ⟨v1, rfl, hown1, hb1⟩; have hc := (Rd.of_own hown1).conv (P := Tryd.prog) Tryd.underlying41 Tryd.underlying5 Tryd.underlying9)
            all_goals (go_wp2_with fail; go_meet; exact ⟨rfl, (Below.drew (Below.refl _ _)).trans hb1⟩)
          case rest =>
            obtain ⟨rfl, hb⟩ := hcut
            go_wp2_with fail
            go_ret2
            exact ⟨by rw [refL_no _ 4 _ _ H0.out HN.out HP.out (by simp; omega) HA.out HE.out]; rfl, hb⟩

set_option maxRecDepth 100000 in
set_option maxHeartbeats 1000000 in
theorem rOne_any (s : ByteArray) (p : Int) (w : World) (hs : s.size ≤ maxLen) :
    Calls Tryd.prog 41 #[.string s, .int .i64 p] w (Gives (.tuple #[.int .i64 (oneS s.data.toList p).1, .int .i64 (oneS s.data.toList p).2]) w) := by
  by_cases h0 : p < 0
  · have hd : decide (p < 0) = true := decide_eq_true h0
    go_enter Tryd.func41, Tryd.ntmps41
    go_wp2_with fail
    go_ret2
    exact ⟨by rw [oneS_out _ _ (.inl h0)]; rfl, Below.refl _ _⟩
  · obtain ⟨q, rfl⟩ := Int.eq_ofNat_of_zero_le (Int.not_lt.mp h0)
    by_cases h1 : q < s.size
    · rw [oneS_in s q h1, ← refL_oneL]
      by_cases c1 : (s[q].toNat : Int) < 192
      · exact rOne_1 s q w hs h1 c1
      · by_cases c2 : (s[q].toNat : Int) < 224
        · exact rOne_2 s q w hs h1 ⟨by omega, c2⟩
        · by_cases c3 : (s[q].toNat : Int) < 240
          · exact rOne_3 s q w hs h1 ⟨by omega, c3⟩
          · exact rOne_4 s q w hs h1 (by omega)
    · unfold maxLen at hs
      have hd1 : decide ((q : Int) < 0) = false := decide_eq_false (by omega)
      have hd : decide (s.size ≤ q) = true := decide_eq_true (by omega)
      go_enter Tryd.func41, Tryd.ntmps41
      go_wp2_with fail
      go_ret2
      exact ⟨by rw [oneS_out _ _ (.inr (by rw [len_data]; omega))]; rfl, Below.refl _ _⟩
end Go.Proofs.YtcbiaflbncfliaaDoor.Utf
