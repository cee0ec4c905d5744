/- Merged: FoV. -/
import Derived.Test.YtjbaogoapobhbaaDoorTt14
import Derived.Test.YtjbaogoapobhbaaDoorTt12
import Derived.Lib.ConvBytes
namespace Go.Proofs.YtjbaogoapobhbaaDoor.Fo
open Go.Proofs Go.RowKit
open Go.Proofs.YtjbaogoapobhbaaDoor.Utf

set_option maxRecDepth 100000 in
set_option maxHeartbeats 1000000 in
theorem small_any (b : UInt8) (w : World) : Calls Tryd.prog 21 #[.int .u8 b.toNat] w fun e w' => e = .returned (.int .u8 (lowB b).toNat) ∧ w = w' := by
  have hb := b.toNat_lt
  rw [lowB_nat]
  obtain ⟨n, hn⟩ : ∃ n, b.toNat = n := ⟨_, rfl⟩
  rw [hn] at *
  clear hn
  by_cases h1 : 65 ≤ n
  · have a1 : decide ((65 : Int) ≤ (n : Int)) = true := decide_eq_true (by omega)
    have a2 : decide (65 ≤ n) = true := decide_eq_true h1
    by_cases h2 : n ≤ 90
    · have b1 : decide ((n : Int) ≤ 90) = true := decide_eq_true (by omega)
      have b2 : decide (n ≤ 90) = true := decide_eq_true h2
      have e1 : IntKind.u8.wrap ((n : Int) - 65) = (n : Int) - 65 := by unfold IntKind.wrap; simp [IntKind.bits, IntKind.signed]; omega
      have e2 : IntKind.u8.wrap ((n : Int) - 65 + 97) = (n : Int) + 32 := by unfold IntKind.wrap; simp [IntKind.bits, IntKind.signed]; omega
      rw [if_pos ⟨h1, h2⟩]
      go_enter Tryd.func21, Tryd.ntmps21
      go_wp2_with fail
      go_ret
      exact ⟨ret_int (by push_cast; omega), rfl⟩
    · have b1 : decide ((n : Int) ≤ 90) = false := decide_eq_false (by omega)
      have b2 : decide (n ≤ 90) = false := decide_eq_false h2
      rw [if_neg fun h => h2 h.2]
      go_enter Tryd.func21, Tryd.ntmps21
      go_wp2_with fail
      go_ret
      exact ⟨rfl, rfl⟩
  · have a1 : decide ((65 : Int) ≤ (n : Int)) = false := decide_eq_false (by omega)
    have a2 : decide (65 ≤ n) = false := decide_eq_false h1
    rw [if_neg fun h => h1 h.1]
    go_enter Tryd.func21, Tryd.ntmps21
    go_wp2_with fail
    go_ret
    exact ⟨rfl, rfl⟩
def upB (l : List UInt8) (k : Nat) (j : Nat) : Value := .int .u8 ((if j < k then lowB (l.getD j 0) else l.getD j 0).toNat : Int)
def FB (w : World) (B c : Nat) (l : List UInt8) (k : Nat) : Prop := ∃ cs : Array Value, w.heap[B]? = some (.cells cs 5 (c, c + 1)) ∧ l.length ≤ c ∧ ∀ j, j < l.length → cs[j]? = some (upB l k j)
section
variable {w : World} {B c k : Nat} {l : List UInt8}
theorem FB.cell (h : FB w B c l k) {j : Nat} (hj : j < l.length) : w.cell? ⟨B, j, none⟩ = some (upB l k j) := by
  obtain ⟨cs, h1, -, h3⟩ := h
  simp [World.cell?, h1, h3 j hj]
theorem FB.frozen (h : FB w B c l k) {j : Nat} (hj : j < l.length) : w.frozen? ⟨B, j, none⟩ = false := by
  obtain ⟨cs, h1, h2, -⟩ := h
  simp [World.frozen?, h1]
  omega
theorem FB.set (h : FB w B c l k) : FB (w.setCell ⟨B, k, none⟩ (.int .u8 (lowB (l.getD k 0)).toNat)) B c l (k + 1) := by
  obtain ⟨cs, h1, h2, h3⟩ := h
  refine ⟨cs.setIfInBounds k (.int .u8 (lowB (l.getD k 0)).toNat), ?_, h2, fun j hj => ?_⟩
  · obtain ⟨hlt, hk2⟩ := Array.getElem?_eq_some_iff.1 h1
    show (w.heap.modify B _)[B]? = _
    rw [Array.getElem?_eq_getElem (by rw [Array.size_modify]; exact hlt), Array.getElem_modify_self, hk2]
    rfl
  · have hc := h3 j hj
    have hjs : j < cs.size := (Array.getElem?_eq_some_iff.1 hc).1
    rw [Array.getElem?_setIfInBounds]
    by_cases e : k = j
    · subst e
      rw [if_pos rfl, if_pos hjs]
      unfold upB
      rw [if_pos (by omega)]
    · rw [if_neg e, hc]
      unfold upB
      have : (j < k) ↔ (j < k + 1) := by omega
      simp only [this]
theorem FB.rd (h : FB w B c l l.length) (cap : Nat) (hB : B < w.heap.size) : Rd w w.heap.size (.slice (some ⟨B, 0, none⟩) l.length cap) (Lib.byteCells (low l)) := by
  have hl : (Lib.byteCells (low l)).length = l.length := by simp [Lib.byteCells, low_len]
  refine ⟨some ⟨B, 0, none⟩, cap, by rw [hl], fun _ => ⟨_, rfl, hB, fun j u hu => ?_⟩⟩
  have hj : j < l.length := by have := (List.getElem?_eq_some_iff.1 hu).1; omega
  have hp : (⟨B, 0, none⟩ : Addr).add j = ⟨B, j, none⟩ := by unfold Addr.add; split <;> simp_all
  rw [hp, h.cell hj, ← hu]
  unfold upB Lib.byteCells low
  rw [if_pos hj, List.getElem?_map, List.getElem?_map, List.getElem?_eq_getElem hj, List.getD_eq_getElem?_getD, List.getElem?_eq_getElem hj]
  rfl
end
theorem FB.start (w : World) (s : ByteArray) : FB (Lib.bytesWorld w 5 s) w.heap.size (Lib.bytesCells w 5 s).size s.data.toList 0 := by
  refine ⟨_, Lib.bytesWorld_at_new w 5 s, by simp [Lib.bytesCells], fun j hj => ?_⟩
  have h := Lib.bytesWorld_cell w 5 s j hj
  simp only [World.cell?, Lib.bytesWorld_at_new] at h
  unfold upB
  rw [if_neg (by omega)]
  simpa using h
theorem bytesWorld_below (w : World) (s : ByteArray) : Below w.heap.size w (Lib.bytesWorld w 5 s) := by
  refine ⟨rfl, rfl, rfl, by rw [Lib.bytesWorld_size]; omega, fun k hk => Lib.bytesWorld_at_old w _ s k hk⟩
set_option maxRecDepth 100000 in
set_option maxHeartbeats 1000000 in
theorem pFold_any (s : ByteArray) (w : World) (hs : s.size ≤ 140737488355328) : Calls Tryd.prog 10 #[.string s] w (Gives (.string (strOf (low s.data.toList))) w) := by
  have hcv := Lib.run_convert_string_bytes (P := Tryd.prog) w 9 31 5 s Tryd.underlying9 Tryd.underlying31 Tryd.underlying5
  have HF := Lib.hid (FB.start w s)
  have HB := Lib.hid (bytesWorld_below w s)
  generalize (Lib.bytesCells w 5 s).size = c at *
  generalize Lib.bytesWorld w 5 s = w1 at *
  generalize grownCap w s.size 0 5 = cap at *
  have HS := Lib.hid (fun (b : UInt8) W => small_any b W)
  have HSP := Lib.hid (fun l => show (⟨(low l).toArray⟩ : ByteArray) = strOf (low l) from rfl)
  go_enter Tryd.func10, Tryd.ntmps10
  go_wp2_with fail
  go_loopw [4, 5, 10] (fun _ _ i wr => ∃ k : Nat, i = .int .i64 (k : Int) ∧ k ≤ s.size ∧ Aside (FB wr w.heap.size c s.data.toList k) ∧ Aside (Below w.heap.size w wr)) (fun _ _ i _ => s.size - (intOf i).toNat)
  case atStart => exact ⟨0, rfl, by omega, (show FB _ _ _ _ _ from HF.out), (show Below _ _ _ from HB.out)⟩
  case round =>
    obtain ⟨k, rfl, hk, hfb, hbel⟩ := hrel
    by_cases hlt : k < s.size
    · have hkl : k < s.data.toList.length := by rw [len_data]; exact hlt
      have t1 : decide ((k : Int) < (s.size : Int)) = true := decide_eq_true (by omega)
      have t2 : decide (k < s.size) = true := decide_eq_true hlt
      have k0 : (0 : Int) ≤ (k : Int) := by omega
      have k1 : (k : Int) < (s.size : Int) := by omega
      have k2 : ((k : Int)).toNat = k := by omega
      have hc := hfb.out.cell hkl
      have hfz := hfb.out.frozen hkl
      have HN := Lib.hid hfb.out.set
      have HBN := Lib.hid (hbel.out.setCell (p := ⟨w.heap.size, k, none⟩) (Nat.le_refl _) (.int .u8 (lowB (s.data.toList.getD k 0)).toNat))
      unfold upB at hc
      rw [if_neg (by omega)] at hc
      generalize s.data.toList.getD k 0 = b at *
      clear hkl
      go_wp2_with (go_at_call 21; refine (HS.out _ _).mono ?_; rintro e w' ⟨rfl, rfl⟩)
      go_roundw
      case rel => exact ⟨k + 1, by go_num, by omega, HN.out, HBN.out⟩
      case measure => simp [intOf]; omega
    · have t1 : decide ((k : Int) < (s.size : Int)) = false := decide_eq_false (by omega)
      have t2 : decide (k < s.size) = false := decide_eq_false hlt
      have hks : k = s.data.toList.length := by rw [len_data]; omega
      have hf := hfb.out
      rw [hks] at hf
      have hr := FB.rd hf cap (by obtain ⟨cs, h1, -⟩ := hfb.out; exact (Array.getElem?_eq_some_iff.1 h1).1)
      have hconv := hr.conv (P := Tryd.prog) (S := 31) (D := 9) Tryd.underlying31 Tryd.underlying5 Tryd.underlying9
      rw [len_data, HSP.out] at hconv
      clear hks hf hr
      go_wp2_with fail
      go_ret
      exact ⟨rfl, hbel.out⟩
set_option maxRecDepth 100000 in
set_option maxHeartbeats 1000000 in
theorem pHas_any (s t : ByteArray) (w : World) (hs : s.size < 4294967281) (ht : t.size ≤ 140737488355328) (hm : Mx w) : Calls Tryd.prog 12 #[.string s, .string t] w (Gives (.bool (hasL (low s.data.toList) (low t.data.toList))) w) := by
  have C1 := Lib.hid (fun W => pFold_any s W (by omega))
  have C2 := Lib.hid (fun W => pFold_any t W ht)
  have C3 := Lib.hid (fun (W : World) (hb : Below w.heap.size w W) => contains_any (strOf (low s.data.toList)) (strOf (low t.data.toList)) W (by rw [strOf_size, low_len, len_data]; exact hs) (hm.keep hb))
  rw [strOf_data, strOf_data, has_index] at C3
  generalize strOf (low s.data.toList) = X at *
  generalize strOf (low t.data.toList) = Y at *
  generalize hasL (low s.data.toList) (low t.data.toList) = b at *
  go_enter Tryd.func12, Tryd.ntmps12
  go_wp2_with fail
  refine (C1.out _).mono ?_
  rintro e w1 ⟨rfl, hb1⟩
  have HB1 := Lib.hid hb1
  clear hb1
  go_wp2_with fail
  refine (C2.out _).mono ?_
  rintro e w2 ⟨rfl, hb2⟩
  have HB2 := Lib.hid (HB1.out.trans (hb2.mono HB1.out.size))
  clear hb2
  go_wp2_with fail
  refine (C3.out _ HB2.out).mono ?_
  rintro e w3 ⟨rfl, rfl⟩
  go_wp2_with fail
  go_ret
  exact ⟨rfl, HB2.out⟩

def sg (x y : Int) : Int := if x < y then -1 else if y < x then 1 else 0
theorem sg_cases (p q : Nat) : (sg (p : Int) (q : Int) = -1 ∧ p < q) ∨ (sg (p : Int) (q : Int) = 1 ∧ ¬ p < q ∧ q < p) ∨ (sg (p : Int) (q : Int) = 0 ∧ ¬ p < q ∧ ¬ q < p) := by
  unfold sg
  rcases Nat.lt_trichotomy p q with h | h | h
  · exact .inl ⟨if_pos (by omega), h⟩
  · exact .inr (.inr ⟨by rw [if_neg (by omega), if_neg (by omega)], by omega, by omega⟩)
  · exact .inr (.inl ⟨by rw [if_neg (by omega), if_pos (by omega)], by omega, h⟩)
def cmpD : List UInt8 → List UInt8 → Int
  | [], [] => 0
  | [], _ :: _ => -1
  | _ :: _, [] => 1
  | x :: r, y :: t => if (lowB x).toNat < (lowB y).toNat then -1 else if (lowB y).toNat < (lowB x).toNat then 1 else cmpD r t
theorem cmp_d : ∀ a b : List UInt8, cmpF a b = cmpD a b
  | [], [] => rfl
  | [], _ :: _ => rfl
  | _ :: _, [] => rfl
  | x :: r, y :: t => by
    have ih := cmp_d r t
    unfold cmpF at ih ⊢
    rw [cmpD, ← ih]
    unfold low at *
    rw [List.map_cons, List.map_cons, ← less_cmp, ← less_cmp, ← less_cmp, ← less_cmp, Op.bytesLess, Op.bytesLess]
    generalize lowB x = p
    generalize lowB y = q
    rcases Nat.lt_trichotomy p.toNat q.toNat with h | h | h
    · have h0 : p < q := UInt8.lt_iff_toNat_lt.2 h
      simp [h, h0]
    · obtain rfl := UInt8.toNat.inj h
      have h0 : ¬ p < p := fun e => by have := UInt8.lt_iff_toNat_lt.1 e; omega
      simp [h0]
    · have h0 : q < p := UInt8.lt_iff_toNat_lt.2 h
      have h1 : ¬ p < q := fun e => by have := UInt8.lt_iff_toNat_lt.1 e; omega
      have h2 : p ≠ q := fun e => by rw [e] at h; omega
      have h3 : ¬ p.toNat < q.toNat := by omega
      simp [h, h0, h1, h2, h3]
theorem cmpD_nil (a b : List UInt8) (h : a = [] ∨ b = []) : cmpD a b = sg a.length b.length := by
  unfold sg
  cases a with
  | nil => cases b with
    | nil => rfl
    | cons y t => rw [cmpD, if_pos (by simp <;> omega)]
  | cons x r => cases b with
    | nil => rw [cmpD, if_neg (by simp <;> omega), if_pos (by simp <;> omega)]
    | cons y t => rcases h with h | h <;> cases h
set_option maxRecDepth 100000 in
set_option maxHeartbeats 1000000 in
theorem nanB_any (x : Int) (w : World) : Calls Tryd.prog 31 #[.int .u8 x] w fun e w' => e = .returned (.bool false) ∧ w = w' := by
  have t1 : (x != x) = false := by simp
  go_enter Tryd.func31, Tryd.ntmps31
  go_wp2_with fail
  go_ret
  exact ⟨rfl, rfl⟩
set_option maxRecDepth 100000 in
set_option maxHeartbeats 1000000 in
theorem nanI_any (x : Int) (w : World) : Calls Tryd.prog 32 #[.int .i64 x] w fun e w' => e = .returned (.bool false) ∧ w = w' := by
  have t1 : (x != x) = false := by simp
  go_enter Tryd.func32, Tryd.ntmps32
  go_wp2_with fail
  go_ret
  exact ⟨rfl, rfl⟩
set_option maxRecDepth 100000 in
set_option maxHeartbeats 1000000 in
theorem cmpB_any (x y : Int) (w : World) : Calls Tryd.prog 24 #[.int .u8 x, .int .u8 y] w fun e w' => e = .returned (.int .i64 (sg x y)) ∧ w = w' := by
  have HN := Lib.hid nanB_any
  unfold sg
  by_cases h1 : x < y
  · have t1 : decide (x < y) = true := decide_eq_true h1
    rw [if_pos h1]
    go_enter Tryd.func24, Tryd.ntmps24
    go_wp2_with (go_at_call 31; refine (HN.out _ _).mono ?_; rintro e w' ⟨rfl, rfl⟩)
    go_ret
    exact ⟨rfl, rfl⟩
  · have t1 : decide (x < y) = false := decide_eq_false h1
    rw [if_neg h1]
    by_cases h2 : y < x
    · have t2 : decide (y < x) = true := decide_eq_true h2
      have t3 : decide (x > y) = true := decide_eq_true h2
      rw [if_pos h2]
      go_enter Tryd.func24, Tryd.ntmps24
      go_wp2_with (go_at_call 31; refine (HN.out _ _).mono ?_; rintro e w' ⟨rfl, rfl⟩)
      go_ret
      exact ⟨rfl, rfl⟩
    · have t2 : decide (y < x) = false := decide_eq_false h2
      have t3 : decide (x > y) = false := decide_eq_false h2
      rw [if_neg h2]
      go_enter Tryd.func24, Tryd.ntmps24
      go_wp2_with (go_at_call 31; refine (HN.out _ _).mono ?_; rintro e w' ⟨rfl, rfl⟩)
      go_ret
      exact ⟨rfl, rfl⟩
set_option maxRecDepth 100000 in
set_option maxHeartbeats 1000000 in
theorem cmpI_any (x y : Int) (w : World) : Calls Tryd.prog 25 #[.int .i64 x, .int .i64 y] w fun e w' => e = .returned (.int .i64 (sg x y)) ∧ w = w' := by
  have HN := Lib.hid nanI_any
  unfold sg
  by_cases h1 : x < y
  · have t1 : decide (x < y) = true := decide_eq_true h1
    rw [if_pos h1]
    go_enter Tryd.func25, Tryd.ntmps25
    go_wp2_with (go_at_call 32; refine (HN.out _ _).mono ?_; rintro e w' ⟨rfl, rfl⟩)
    go_ret
    exact ⟨rfl, rfl⟩
  · have t1 : decide (x < y) = false := decide_eq_false h1
    rw [if_neg h1]
    by_cases h2 : y < x
    · have t2 : decide (y < x) = true := decide_eq_true h2
      have t3 : decide (x > y) = true := decide_eq_true h2
      rw [if_pos h2]
      go_enter Tryd.func25, Tryd.ntmps25
      go_wp2_with (go_at_call 32; refine (HN.out _ _).mono ?_; rintro e w' ⟨rfl, rfl⟩)
      go_ret
      exact ⟨rfl, rfl⟩
    · have t2 : decide (y < x) = false := decide_eq_false h2
      have t3 : decide (x > y) = false := decide_eq_false h2
      rw [if_neg h2]
      go_enter Tryd.func25, Tryd.ntmps25
      go_wp2_with (go_at_call 32; refine (HN.out _ _).mono ?_; rintro e w' ⟨rfl, rfl⟩)
      go_ret
      exact ⟨rfl, rfl⟩
theorem drw1 {B : Nat} {a w : World} (h : Below B a w) (n : Nat) : Below B a (w.drewN n) := ⟨h.os, h.tape, h.output, h.size, h.block⟩
set_option maxRecDepth 100000 in
set_option maxHeartbeats 1000000 in
theorem pCompare_any (s t : ByteArray) (w : World) (_hs : s.size ≤ 140737488355328) (_ht : t.size ≤ 140737488355328) : Calls Tryd.prog 14 #[.string s, .string t] w (Gives (.int .i64 (cmpF s.data.toList t.data.toList)) w) := by
  rw [cmp_d]
  have HS := Lib.hid (fun (b : UInt8) W => small_any b W)
  have HC := Lib.hid (fun x y W => cmpB_any x y W)
  have HI := Lib.hid (fun W => cmpI_any (s.size : Int) (t.size : Int) W)
  obtain ⟨m, hmm⟩ : ∃ m : Nat, min s.size t.size = m := ⟨_, rfl⟩
  have hm1 : m ≤ s.size := by omega
  have hm2 : m ≤ t.size := by omega
  have hm0 : min (s.size : Int) (t.size : Int) = (m : Int) := by omega
  have HM := Lib.hid hmm
  clear hmm
  go_enter Tryd.func14, Tryd.ntmps14
  go_wp2_with fail
  go_loopw [5, 6, 12] (fun _ _ i wr => ∃ k : Nat, i = .int .i64 (k : Int) ∧ k ≤ m ∧ Aside (cmpD s.data.toList t.data.toList = cmpD (s.data.toList.drop k) (t.data.toList.drop k)) ∧ Aside (Below w.heap.size w wr)) (fun _ _ i _ => m - (intOf i).toNat)
  case atStart => exact ⟨0, rfl, by omega, (show _ = _ from rfl), (show Below _ _ _ from Below.refl _ _)⟩
  case round =>
    obtain ⟨k, rfl, hk, hcd, hbel⟩ := hrel
    by_cases hlt : k < m
    · have t1 : decide ((k : Int) < (m : Int)) = true := decide_eq_true (by omega)
      have t2 : decide (k < m) = true := decide_eq_true hlt
      have hs1 : k < s.size := by omega
      have ht1 : k < t.size := by omega
      have k0 : (0 : Int) ≤ (k : Int) := by omega
      have k1 : (k : Int) < (s.size : Int) := by omega
      have k3 : (k : Int) < (t.size : Int) := by omega
      have k2 : ((k : Int)).toNat = k := by omega
      obtain ⟨x, hx⟩ : ∃ x : UInt8, s[k]'hs1 = x := ⟨_, rfl⟩
      obtain ⟨y, hy⟩ : ∃ y : UInt8, t[k]'ht1 = y := ⟨_, rfl⟩
      have HD := Lib.hid (show cmpD s.data.toList t.data.toList = if (lowB x).toNat < (lowB y).toNat then -1 else if (lowB y).toNat < (lowB x).toNat then 1 else cmpD (s.data.toList.drop (k + 1)) (t.data.toList.drop (k + 1)) by
        have e1 : s.data.toList.drop k = x :: s.data.toList.drop (k + 1) := by
          rw [List.drop_eq_getElem_cons (by rw [len_data]; exact hs1), ← hx]; rfl
        have e2 : t.data.toList.drop k = y :: t.data.toList.drop (k + 1) := by
          rw [List.drop_eq_getElem_cons (by rw [len_data]; exact ht1), ← hy]; rfl
        rw [hcd.out, e1, e2, cmpD])
      have HCC := Lib.hid (HC.out ((lowB x).toNat : Int) ((lowB y).toNat : Int))
      have HSG := Lib.hid (sg_cases (lowB x).toNat (lowB y).toNat)
      generalize sg ((lowB x).toNat : Int) ((lowB y).toNat : Int) = r at *
      rcases HSG.out with ⟨rfl, h1⟩ | ⟨rfl, h1, h2⟩ | ⟨rfl, h1, h2⟩
      · rw [if_pos h1] at HD
        clear h1
        go_wp2_with fail
        go_quiet (first | (go_at_call 21; refine Calls.quiet_of_same ((HS.out _ _).mono fun e w' h => ⟨h.1, h.2.symm⟩)) | (go_at_call 24; refine Calls.quiet_of_same ((HCC.out _).mono fun e w' h => ⟨h.1, h.2.symm⟩)))
        go_wp2_with fail
        go_ret
        exact ⟨by rw [HD.out]; rfl, drw1 hbel.out _⟩
      · rw [if_neg h1, if_pos h2] at HD
        clear h1 h2
        go_wp2_with fail
        go_quiet (first | (go_at_call 21; refine Calls.quiet_of_same ((HS.out _ _).mono fun e w' h => ⟨h.1, h.2.symm⟩)) | (go_at_call 24; refine Calls.quiet_of_same ((HCC.out _).mono fun e w' h => ⟨h.1, h.2.symm⟩)))
        go_wp2_with fail
        go_ret
        exact ⟨by rw [HD.out]; rfl, drw1 hbel.out _⟩
      · rw [if_neg h1, if_neg h2] at HD
        clear h1 h2
        go_wp2_with fail
        go_quiet (first | (go_at_call 21; refine Calls.quiet_of_same ((HS.out _ _).mono fun e w' h => ⟨h.1, h.2.symm⟩)) | (go_at_call 24; refine Calls.quiet_of_same ((HCC.out _).mono fun e w' h => ⟨h.1, h.2.symm⟩)))
        go_wp2_with fail
        go_roundw
        case rel => exact ⟨k + 1, by go_num, by omega, HD.out, (show Below _ _ _ from drw1 hbel.out _)⟩
        case measure => simp [intOf]; omega
    · have t1 : decide ((k : Int) < (m : Int)) = false := decide_eq_false (by omega)
      have t2 : decide (k < m) = false := decide_eq_false hlt
      have HD := Lib.hid (show cmpD s.data.toList t.data.toList = sg (s.size : Int) (t.size : Int) by
        have hm := HM.out
        have l1 := len_data s
        have l2 := len_data t
        rw [hcd.out, cmpD_nil _ _ (by
          rcases Nat.le_total s.size t.size with h | h
          · exact .inl (List.drop_eq_nil_of_le (by omega))
          · exact .inr (List.drop_eq_nil_of_le (by omega))), List.length_drop, List.length_drop, l1, l2]
        unfold sg
        split <;> split <;> (try split) <;> (try split) <;> omega)
      go_wp2_with (go_at_call 25; refine (HI.out _).mono ?_; rintro e w' ⟨rfl, rfl⟩)
      go_ret
      exact ⟨by rw [HD.out]; rfl, hbel.out⟩
end Go.Proofs.YtjbaogoapobhbaaDoor.Fo
