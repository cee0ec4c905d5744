import Derived.Test.YtfmjfnpiepegeaaUtfD
/- Contracts: Points, of package utf and of the document's answer. -/
namespace Go.Proofs.Ytfmjfnpiepegeaa.Utf
open Go.RowKit

/-- What a call hands back: a slice of its own with the cells xs, and a number; what was there stays. -/
def GivesList (E : TypeId) (xs : List Value) (m : Int) (w : World) (e : Ending) (w' : World) : Prop :=
  ∃ v, e = .returned (.tuple #[v, .int .i64 m]) ∧ w'.ownsRow w.heap.size E 1 v xs.length xs ∧ Below w.heap.size w w'

theorem infoI32 : (Try.prog.info? 21).map (fun i => (i.zero, i.size, i.bytes)) = some (some (.int .i32 0), 1, 4) := by kernel_rfl
theorem infoI64 : (Try.prog.info? 2).map (fun i => (i.zero, i.size, i.bytes)) = some (some (.int .i64 0), 1, 8) := by kernel_rfl

/-- where a loop over the points of s stands: at byte k, with the points ps -/
def PtsAt (l : List UInt8) (k : Nat) (ps : List Int) : Prop := k ≤ l.length ∧ ps.length ≤ k ∧ ptsL l = (ps ++ (ptsL (l.drop k)).1, k + (ptsL (l.drop k)).2)
theorem PtsAt.start (l : List UInt8) : PtsAt l 0 [] := ⟨by omega, by simp, by simp⟩
theorem PtsAt.step {l : List UInt8} {k : Nat} {ps : List Int} {p : Int} {m : Nat} (h : PtsAt l k ps) (ho : oneL (l.drop k) = (p, (m : Int))) (hm : m ≠ 0) : PtsAt l (k + m) (ps ++ [p]) := by
  obtain ⟨h1, h2, h3⟩ := h
  have hb := one_bounds ho
  rw [List.length_drop] at hb
  refine ⟨by omega, by simp; omega, ?_⟩
  rw [h3, ptsL_go (by rw [ho]; simpa using hm), ho, List.drop_drop]
  simp [Nat.add_assoc]
theorem PtsAt.stop {l : List UInt8} {k : Nat} {ps : List Int} (h : PtsAt l k ps) (ho : (oneL (l.drop k)).2 = 0) : ptsL l = (ps, k) := by
  rw [h.2.2, ptsL_stop ho]; simp
theorem PtsAt.end_ {l : List UInt8} {ps : List Int} (h : PtsAt l l.length ps) : ptsL l = (ps, l.length) := h.stop (by rw [List.drop_length]; rfl)

set_option maxHeartbeats 1000000 in
theorem Points_any (s : ByteArray) (w : World) (hs : s.size < 17592186044416) :
    Calls Try.prog 14 #[.string s] w (GivesList 21 ((ptsL s.data.toList).1.map (Value.int .i32)) (ptsL s.data.toList).2 w) := by
  obtain ⟨i0, hi, hz0, hz1, hz2⟩ := info_parts infoI32
  have hs' : s.size ≤ maxLen := by unfold maxLen; omega
  have HS := Lib.hid hs'; clear hs'
  go_enter Try.func14, Try.ntmps14
  go_wp2
  go_loopw [4, 5, 6, 7] (fun v a _ _ wr => ∃ (k : Nat) (ps : List Int), a = .int .i64 k ∧ PtsAt s.data.toList k ps ∧ wr.ownsRow w.heap.size 21 1 v ps.length (ps.map (Value.int .i32)) ∧ Below w.heap.size w wr) (fun _ a _ _ _ => s.size - (intOf a).toNat)
  case atStart => exact ⟨0, [], rfl, PtsAt.start _, World.ownsRow_nil _ _ _ _, Below.refl _ _⟩
  case round =>
    obtain ⟨k, ps, rfl, hat, hown, hbel⟩ := hrel
    have hk : k ≤ s.size := hat.1
    have hps : ps.length ≤ k := hat.2.1
    have HAT := Lib.hid hat; clear hat
    by_cases hlt : k < s.size
    · rcases hO : oneL (s.data.toList.drop k) with ⟨p, n⟩
      obtain ⟨b1, b2, b3, b4, b5⟩ := one_bounds hO
      rw [List.length_drop, len_data] at b5
      have HO := Lib.hid hO; clear hO
      by_cases hn : n = 0
      · subst hn
        go_wp2_with (go_at_call 9; refine (one_at _ _ _ _ _ HS.out hlt HO).mono ?_; rintro e w' ⟨rfl, rfl⟩)
        go_ret2
        have he := HAT.out.stop (by rw [HO.out])
        rw [he]
        exact ⟨_, rfl, by simpa using hown, hbel⟩
      · have hnb : (n == 0) = false := by simpa using hn
        obtain ⟨m, rfl⟩ := Int.eq_ofNat_of_zero_le b3
        have hne : Hid (m ≠ 0) := by intro h0; exact hn (by rw [h0]; rfl)
        clear hn
        go_wp2_with (first | (go_at_call 9; refine (one_at _ _ _ _ _ HS.out hlt HO).mono ?_; rintro e w' ⟨rfl, rfl⟩) | (at_builtin; refine wpList_append_own _ rfl _ _ 32 rfl w.heap.size 21 i0 (.int .i32 0) 1 4 Try.underlying32 hi hz0 hz1 hz2 rfl (by decide) _ ps.length (ps.map (Value.int .i32)) rfl (hown.alloc _) ⟨wr.heap.size, 0, none⟩ 1 1 [.int .i32 p] rfl rfl (cells_new _ _ _) ?_ ?_ ?_ ?_ ?_; (intro u hu; simp at hu; subst hu; rfl); (unfold maxLen; omega); omega; (have := hbel.size; simp; omega); intro v1 w1 hown1 hg1 _))
        go_roundw
        case rel =>
          have hB := hbel.size
          exact ⟨k + m, ps ++ [p], by go_num, HAT.out.step HO.out hne.out, by rw [List.length_append, List.map_append]; exact hown1, (hbel.alloc hB _).grown hg1 (by simp; omega) (fun g hg => (hown.lt g hg).1)⟩
        case measure => have := hne.out; simp [intOf]; omega
    · have hd : decide (k < s.size) = false := by simpa using hlt
      obtain rfl : k = s.size := by omega
      go_wp2
      go_ret2
      have he : ptsL s.data.toList = (ps, s.size) := HAT.out.end_
      rw [he]
      exact ⟨_, rfl, by simpa using hown, hbel⟩
end Go.Proofs.Ytfmjfnpiepegeaa.Utf
