import Derived.Test.YtcbiaflbncfliaaDoorUtfE
import Derived.Test.YtcbiaflbncfliaaDoorUtfD
/- Contract: Points of the document's answer. -/
namespace Go.Proofs.YtcbiaflbncfliaaDoor.Utf
open Go.RowKit

theorem rOne_at (s : ByteArray) (k : Nat) (p n : Int) (w : World) (hs : s.size ≤ maxLen) (hk : k < s.size) (h : Hid (oneL (s.data.toList.drop k) = (p, n))) :
    Calls Tryd.prog 41 #[.string s, .int .i64 k] w (Gives (.tuple #[.int .i64 p, .int .i64 n]) w) := by
  have := rOne_any s k w hs
  rw [oneS_in s k hk, h.out] at this
  exact this

set_option maxRecDepth 100000 in
set_option maxHeartbeats 1000000 in
theorem rPoints_any (s : ByteArray) (w : World) (hs : s.size < 17592186044416) :
    Calls Tryd.prog 36 #[.string s] w (GivesList 2 ((ptsL s.data.toList).1.map (Value.int .i64)) (ptsL s.data.toList).2 w) := by
  obtain ⟨i0, hi, hz0, hz1, hz2⟩ := info_parts infoI64
  have hs' : s.size ≤ maxLen := by unfold maxLen; omega
  have HS := Lib.hid hs'; clear hs'
  go_enter Tryd.func36, Tryd.ntmps36
  go_wp2
  go_loopw [4, 5, 6, 7] (fun v a _ _ wr => ∃ (k : Nat) (ps : List Int), a = .int .i64 k ∧ PtsAt s.data.toList k ps ∧ wr.ownsRow w.heap.size 2 1 v ps.length (ps.map (Value.int .i64)) ∧ Below w.heap.size w wr) (fun _ a _ _ _ => s.size - (intOf a).toNat)
  case atStart => exact ⟨0, [], rfl, PtsAt.start _, World.ownsRow_nil _ _ _ _, Below.refl _ _⟩
  case round =>
    obtain ⟨k, ps, rfl, hat, hown, hbel⟩ := hrel
    have hk : k ≤ s.size := hat.1
    have hps : ps.length ≤ k := hat.2.1
    have HAT := Lib.hid hat; clear hat
    by_cases hlt : k < s.size
    · rcases hO : oneL (s.data.toList.drop k) with ⟨p, n⟩
      obtain ⟨b1, b2, b3, b4, b5⟩ := one_bounds hO
      rw [List.length_drop, len_data] at b5
      have HO := Lib.hid hO; clear hO
      by_cases hn : n = 0
      · subst hn
        go_wp2_with (go_at_call 41; refine (rOne_at _ _ _ _ _ HS.out hlt HO).mono ?_; rintro e w1 ⟨rfl, hb1⟩)
        go_ret2
        have he := HAT.out.stop (by rw [HO.out])
        rw [he]
        exact ⟨_, rfl, by simpa using own_below hown hb1, hbel.trans (hb1.mono hbel.size)⟩
      · have hnb : (n == 0) = false := by simpa using hn
        obtain ⟨m, rfl⟩ := Int.eq_ofNat_of_zero_le b3
        have hne : Hid (m ≠ 0) := by intro h0; exact hn (by rw [h0]; rfl)
        clear hn
        go_wp2_with (first | (go_at_call 41; refine (rOne_at _ _ _ _ _ HS.out hlt HO).mono ?_; rintro e w1 ⟨rfl, hb1⟩) | (at_builtin; refine wpList_append_own _ rfl _ _ 65 rfl w.heap.size 2 i0 (.int .i64 0) 1 8 Tryd.underlying65 hi hz0 hz1 hz2 rfl (by decide) _ ps.length (ps.map (Value.int .i64)) rfl ((own_below hown hb1).alloc _) ⟨w1.heap.size, 0, none⟩ 1 1 [.int .i64 p] rfl rfl (cells_new _ _ _) ?_ ?_ ?_ ?_ ?_; (intro u hu; simp at hu; subst hu; rfl); (unfold maxLen; omega); omega; (have := hbel.size; have := hb1.size; simp; omega); intro v2 w2 hown2 hg2 _))
        go_roundw
        case rel =>
          have hB := hbel.size
          exact ⟨k + m, ps ++ [p], by go_num, HAT.out.step HO.out hne.out, by rw [List.length_append, List.map_append]; exact hown2, ((hbel.trans (hb1.mono hB)).alloc (Nat.le_trans hB hb1.size) _).grown hg2 (by have := hb1.size; simp; omega) (fun g hg => (hown.lt g hg).1)⟩
        case measure => have := hne.out; simp [intOf]; omega
    · have hd : decide (k < s.size) = false := by simpa using hlt
      obtain rfl : k = s.size := by omega
      go_wp2
      go_ret2
      have he : ptsL s.data.toList = (ps, s.size) := HAT.out.end_
      rw [he]
      exact ⟨_, rfl, by simpa using hown, hbel⟩
end Go.Proofs.YtcbiaflbncfliaaDoor.Utf
