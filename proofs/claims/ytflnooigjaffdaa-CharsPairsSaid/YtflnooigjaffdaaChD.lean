import Derived.Test.YtflnooigjaffdaaChC
/- Contract of package chars' Quote. -/
namespace Go.Proofs.Ytflnooigjaffdaa.Ch
open Go.RowKit
open Go.Proofs.Ytflnooigjaffdaa.Utf

/-- What Quote tells: the text between quotes; or that its bytes aren't right. -/
def quoteR (l : List UInt8) : List UInt8 × Bool := if (ptsL l).2 < l.length then ([], false) else (34 :: (qbL l ++ [34]), true)
theorem quoteR_no {l : List UInt8} (h : (ptsL l).2 < l.length) : quoteR l = ([], false) := by rw [quoteR, if_pos h]
theorem quoteR_yes {l : List UInt8} (h : ¬ (ptsL l).2 < l.length) : quoteR l = (34 :: (qbL l ++ [34]), true) := by rw [quoteR, if_neg h]

/-- What a call hands back: a text and a bool; what was there stays. -/
def GivesQuote (r : List UInt8 × Bool) (w : World) (e : Ending) (w' : World) : Prop :=
  e = .returned (.tuple #[.string (strOf r.1), .bool r.2]) ∧ Below w.heap.size w w'
theorem retq {a a' : ByteArray} {b b' : Bool} (h1 : a = a') (h2 : b = b') : Ending.returned (.tuple #[.string a, .bool b]) = .returned (.tuple #[.string a', .bool b']) := by rw [h1, h2]

theorem qbL_take (l : List UInt8) (k : Nat) (h : k < l.length) : qbL (l.take (k + 1)) = qbL (l.take k) ++ toB (qbZ (byt l k)) := by
  rw [take_succ' l k h, qbL_append]
  have : (l[k].toNat : Int) = byt l k := by unfold byt; rw [List.getD_eq_getElem?_getD, List.getElem?_eq_getElem h]; rfl
  simp [qbL, qb, this]
theorem qbL_take_le (l : List UInt8) (k : Nat) : (qbL (l.take k)).length ≤ (qbL l).length := by
  have := congrArg List.length (qbL_append (l.take k) (l.drop k))
  rw [List.take_append_drop, List.length_append] at this
  omega

set_option maxRecDepth 100000 in
set_option maxHeartbeats 4000000 in
theorem Quote_any (s : ByteArray) (w : World) (hs : s.size + 2 ≤ 281474976710656) (hr : (ptsL s.data.toList).2 = s.size → (qbL s.data.toList).length + 16 ≤ 140737488355328) :
    Calls Try.prog 7 #[.string s] w (GivesQuote (quoteR s.data.toList) w) := by
  obtain ⟨i0, hi, hz0, hz1, hz2⟩ := info_parts infoU8
  have hs' : s.size ≤ maxLen := by unfold maxLen; omega
  have HS := Lib.hid hs'; clear hs'
  have hle := ptsL_le s.data.toList
  rw [len_data] at hle
  have cB := Bad_any s w HS.out
  by_cases hb : (ptsL s.data.toList).2 < s.size
  · have hq := quoteR_no (l := s.data.toList) (by rw [len_data]; exact hb)
    rw [hq]
    clear hq hr
    generalize (ptsL s.data.toList).2 = m at *
    have hd : decide (m < s.size) = true := decide_eq_true hb
    go_enter Try.func7, Try.ntmps7
    go_wp2_with (go_at_call 13; refine cB.mono ?_; rintro r w' ⟨rfl, rfl⟩)
    go_ret2
    exact ⟨retq rfl rfl, Below.refl _ _⟩
  · have hq := quoteR_yes (l := s.data.toList) (by rw [len_data]; exact hb)
    rw [hq]
    clear hq
    have hrr := hr (by omega)
    clear hr
    generalize (ptsL s.data.toList).2 = m at *
    have hd : decide (m < s.size) = false := decide_eq_false hb
    have hall : qbL (s.data.toList.take s.size) = qbL s.data.toList := by rw [List.take_of_length_le (by rw [len_data]; omega)]
    have HALL := Lib.hid hall; clear hall
    have e34 : Lib.byteCells [34] = [.int .u8 34] := rfl
    have E34 := Lib.hid e34; clear e34
    go_enter Try.func7, Try.ntmps7
    go_wp2_with (first
      | (go_at_call 13; refine cB.mono ?_; rintro r w' ⟨rfl, rfl⟩)
      | (at_make; refine wpList_make_own _ rfl _ _ 33 rfl w.heap.size 5 i0 (.int .u8 0) 1 Try.underlying33 hi hz0 hz1 .i64 .i64 _ (s.size + 2) rfl rfl (by omega) (by rw [hz2]; omega) (by unfold maxLen; omega) (Nat.le_refl _) ?_; intro w0 hown0 hg0)
      | (at_builtin; refine wpList_append_own _ rfl (.tmp 15) (.tmp 16) 33 rfl w.heap.size 5 i0 (.int .u8 0) 1 1 Try.underlying33 hi hz0 hz1 hz2 rfl (by decide) _ 0 [] rfl (hown0.alloc _) ⟨w0.heap.size, 0, none⟩ 1 1 [.int .u8 34] rfl rfl (cells_new _ _ _) ?_ ?_ ?_ ?_ ?_; (intro u hu; simp at hu; subst hu; rfl); (unfold maxLen; omega); omega; (have := hg0.size; simp; omega); intro v1 w1 hown1 hg1 _))
    have hb1 : Below w.heap.size w w1 := (((Below.refl _ w).grown hg0 (Nat.le_refl _) (fun k hk => by cases hk)).alloc hg0.size _).grown hg1 (by have := hg0.size; simp; omega) (fun k hk => Nat.le_of_eq (Option.some.inj (show some w.heap.size = some k from hk)))
    have hown1' : w1.ownsRow w.heap.size 5 1 v1 (Lib.byteCells (34 :: qbL (s.data.toList.take 0))).length (Lib.byteCells (34 :: qbL (s.data.toList.take 0))) := by
      simpa [qbL, Lib.byteCells] using hown1
    clear hown0 hg0 hown1 hg1
    go_loopw [4, 5, 20] (fun v _ i wr => ∃ k : Nat, k ≤ s.size ∧ i = .int .i64 k ∧ wr.ownsRow w.heap.size 5 1 v (Lib.byteCells (34 :: qbL (s.data.toList.take k))).length (Lib.byteCells (34 :: qbL (s.data.toList.take k))) ∧ Below w.heap.size w wr) (fun _ _ i _ => s.size - (intOf i).toNat)
    case atStart => exact ⟨0, by omega, rfl, hown1', hb1⟩
    case round =>
      clear hown1' hb1
      obtain ⟨k, hk, rfl, hown, hbel⟩ := hrel
      have hB := hbel.size
      have hln : (Lib.byteCells (34 :: qbL (s.data.toList.take k))).length + 8 ≤ 140737488355328 := by
        rw [Lib.byteCells_length, List.length_cons]
        have := qbL_take_le s.data.toList k
        omega
      by_cases hlt : k < s.size
      · have hg := byt_get s k hlt
        have g0 := byt_lo s.data.toList k
        have g1 := byt_hi s.data.toList k
        rw [hg] at g0 g1
        have ht := qbL_take s.data.toList k (by rw [len_data]; exact hlt)
        rw [hg] at ht
        have HT := Lib.hid ht; clear ht hg
        go_wp2_with fail
        refine (lay_any _ _ _ w.heap.size _ hown hB (by omega) g0 g1).mono ?_
        rintro r w2 ⟨v2, rfl, hown2, hb2⟩
        go_wp2_with fail
        go_roundw
        case rel => exact ⟨k + 1, by omega, by go_num, by rw [HT.out, ← List.cons_append, Lib.byteCells_append]; exact hown2, hbel.trans hb2⟩
        case measure => simp [intOf]; omega
      · have hd2 : decide (k < s.size) = false := decide_eq_false hlt
        obtain rfl : k = s.size := by omega
        go_wp2_with (at_builtin; refine wpList_append_own _ rfl (.tmp 29) (.tmp 30) 33 rfl w.heap.size 5 i0 (.int .u8 0) 1 1 Try.underlying33 hi hz0 hz1 hz2 rfl (by decide) _ _ _ rfl (hown.alloc _) ⟨wr.heap.size, 0, none⟩ 1 1 [.int .u8 34] rfl rfl (cells_new _ _ _) ?_ ?_ ?_ ?_ ?_; (intro u hu; simp at hu; subst hu; rfl); (unfold maxLen; omega); omega; (simp; omega); intro v3 w3 hown3 hg3 _; have hr3 : Rd w3 w3.heap.size v3 (Lib.byteCells (34 :: (qbL s.data.toList ++ [34]))) := Rd.of_own (by rw [← E34.out, ← Lib.byteCells_append, HALL.out] at hown3; exact hown3); have hcv := hr3.conv (P := Try.prog) Try.underlying33 Try.underlying5 Try.underlying9)
        go_ret2
        exact ⟨retq rfl rfl, (hbel.alloc hB _).grown hg3 (by simp; omega) (fun g hg => (hown.lt g hg).1)⟩
end Go.Proofs.Ytflnooigjaffdaa.Ch
