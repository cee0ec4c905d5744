import Derived.Test.YtoflogckoepioaaRfAw
import Derived.Test.YtoflogckoepioaaReB
/- The walk of the law ReadSorts. -/
namespace Go.Proofs.Ytoflogckoepioaa.Re
open Go.RowKit
open Go.Proofs.Ytoflogckoepioaa.Utf
open Go.Proofs.Ytoflogckoepioaa.Sc

mutual
theorem ht_le : ∀ v : V, ht v ≤ cnt v
  | .mk k n s l ns ms => by
    have h1 := htL_le l
    have h2 := htL_le ms
    rw [ht, cnt]
    omega
theorem htL_le : ∀ l : List V, htL l ≤ cntL l
  | [] => by rw [htL, cntL]; omega
  | v :: r => by
    have h1 := ht_le v
    have h2 := htL_le r
    rw [htL, cntL]
    omega
end
/-- What Value hands back, its cells by their shapes. -/
def GivesVal2 (v : V) (a y : Int) (w : World) (e : Ending) (w' : World) : Prop :=
  ∃ A c A2 c2, e = .returned (.tuple #[.agg #[.int .i64 v.k, .int .i64 v.n, .string (strOf v.s), .slice A v.l.length c, .slice A2 v.ms.length c2], .int .i64 a, .int .i64 y]) ∧
    RdV w' w.heap.size w'.heap.size v [.int .i64 v.k, .int .i64 v.n, .string (strOf v.s), .slice A v.l.length c, .slice A2 v.ms.length c2] ∧ Below w.heap.size w w'
theorem Value_any2 (s : ByteArray) (w : World) (hs : s.size ≤ 9223372036854775807) {v : V} {a y : Int} (h : rdV s.data.toList = (v, a, y)) :
    Calls Try.prog 7 #[.string s] w (GivesVal2 v a y w) := by
  refine (Value_any s w hs).mono fun e w' hg => ?_
  rw [h] at hg
  obtain ⟨c0, c1, c2, c3, c4, rfl, _, hV, hb⟩ := hg
  obtain ⟨A, c, A2, d, hcs, _⟩ := hV.cells
  simp only [List.cons.injEq, and_true] at hcs
  obtain ⟨rfl, rfl, rfl, rfl, rfl⟩ := hcs
  exact ⟨A, c, A2, d, rfl, hV, hb⟩
theorem RdV.wide {w w' : World} {lo hi B : Nat} {v : V} {cs : List Value} (h : RdV w lo hi v cs) (hb : Below B w w') (h1 : hi ≤ B) (h2 : hi ≤ w'.heap.size) : RdV w' 0 w'.heap.size v cs :=
  RdV.keep (fun p _ hp => hb.cell (by omega)) (Nat.zero_le _) h2 v cs h
theorem V0_read (w : World) (hi : Nat) : RdV w 0 hi V0 [.int .i64 0, .int .i64 0, .string ⟨#[]⟩, .slice none 0 0, .slice none 0 0] := RdV_leaf w 0 hi 0 0 []

set_option maxRecDepth 100000 in
set_option maxHeartbeats 4000000 in
theorem sorts_walk (s : ByteArray) (w : World) (hs : s.size ≤ 9223372036854775807) :
    Calls Try.prog 3 #[.string s] w fun e w' => e = .returned (.bool true) ∧ Below w.heap.size w w' := by
  rcases hr : rdV s.data.toList with ⟨v, a, y⟩
  have hV := fun w => Value_any2 s w hs hr
  have hb := sorts_bad (l := s.data.toList)
  have ho := sorts_ok (l := s.data.toList)
  rw [hr] at hb ho
  simp only at hb ho
  rw [len_data] at hb
  clear hr
  have HV := Lib.hid hV; clear hV
  by_cases he : y = 0
  · subst he
    obtain ⟨o1, o2, o3, o4, rfl⟩ := ho rfl
    clear hb ho
    have hht := ht_le v
    have hdp := dp_le v 1
    obtain ⟨X, hX⟩ : ∃ X, X = strOf v.s := ⟨_, rfl⟩
    have HX := Lib.hid hX; clear hX
    have HOK := Lib.hid o4; clear o4
    have t1 : decide ((1 : Int) ≤ (cnt v : Nat)) = true := decide_eq_true (by omega)
    have t2 : decide (((cnt v : Nat) : Int) ≤ 8192) = true := decide_eq_true (by omega)
    have t3 : decide (((dp v 1 : Nat) : Int) ≤ 16) = true := decide_eq_true (by omega)
    have t4 : decide (1 ≤ cnt v) = true := decide_eq_true (by omega)
    have t5 : decide (cnt v ≤ 8192) = true := decide_eq_true (by omega)
    have t6 : decide (dp v 1 ≤ 16) = true := decide_eq_true (by omega)
    go_enter Try.func3, Try.ntmps3
    go_wp2_with fail
    refine (HV.out w).mono ?_
    rintro e w1 ⟨A, c, A2, c2, rfl, hv1, hb1⟩
    rw [← HX.out] at hv1 ⊢
    obtain ⟨W1, hW1⟩ : ∃ W1, W1 = w1.alloc (.cells #[.int .i64 v.k, .int .i64 v.n, .string X, .slice A v.l.length c, .slice A2 v.ms.length c2] 25) := ⟨_, rfl⟩
    have z1 : W1.heap[w1.heap.size]? = some (.cells #[.int .i64 v.k, .int .i64 v.n, .string X, .slice A v.l.length c, .slice A2 v.ms.length c2] 25 (0, 0)) := by rw [hW1]; exact heap_alloc_new w1 _
    have s1 : W1.heap.size = w1.heap.size + 1 := by rw [hW1, szAlloc']
    have B1 : Below w1.heap.size w1 W1 := by rw [hW1]; exact (Below.refl _ _).alloc (Nat.le_refl _) _
    have HW1 := Lib.hid hW1; clear hW1
    have HV1 := Lib.hid hv1; clear hv1
    go_wp2_with fail
    rw [← HW1.out]
    refine (awake_any5 _).mono ?_
    rintro e w2 ⟨rfl, hb2⟩
    have z2 := (hb2.block w1.heap.size (by omega)).trans z1
    obtain ⟨y0, y1, y2, y3, y4⟩ := cells5 z2
    have s2 := hb2.size
    have B2 : Below w1.heap.size w1 w2 := B1.trans (hb2.mono (by omega))
    have T2 : Below w.heap.size w w2 := hb1.trans (B2.mono hb1.size)
    have hc := count_any (ht v) v 1 _ w2 (Nat.le_refl _) HOK.out (by omega) (by omega) (HV1.out.wide B2 (Nat.le_refl _) (by omega))
    have HC := Lib.hid hc; clear hc
    clear z1 z2 B1 hb2
    go_wp2_with fail
    refine HC.out.mono ?_
    rintro e w3 ⟨rfl, hb3⟩
    go_wp2_with fail
    go_ret
    exact ⟨rfl, T2.trans (hb3.mono T2.size)⟩
  · obtain ⟨rfl, o1, o2⟩ := hb he
    clear hb ho
    have t0 : (y != 0) = true := by rw [bne_iff_ne]; exact he
    have t1 : decide ((0 : Int) ≤ a) = true := decide_eq_true o1
    have t2 : decide (a ≤ (s.size : Int)) = true := decide_eq_true o2
    clear he o1 o2
    go_enter Try.func3, Try.ntmps3
    go_wp2_with fail
    refine (HV.out w).mono ?_
    rintro e w1 ⟨A, c, A2, c2, rfl, hv1, hb1⟩
    rw [show V0.k = 0 from rfl, show V0.n = 0 from rfl, show strOf V0.s = ⟨#[]⟩ from rfl, show V0.l.length = 0 from rfl, show V0.ms.length = 0 from rfl] at hv1 ⊢
    obtain ⟨W1, hW1⟩ : ∃ W1, W1 = w1.alloc (.cells #[.int .i64 0, .int .i64 0, .string ⟨#[]⟩, .slice A 0 c, .slice A2 0 c2] 25) := ⟨_, rfl⟩
    have z1 : W1.heap[w1.heap.size]? = some (.cells #[.int .i64 0, .int .i64 0, .string ⟨#[]⟩, .slice A 0 c, .slice A2 0 c2] 25 (0, 0)) := by rw [hW1]; exact heap_alloc_new w1 _
    have s1 : W1.heap.size = w1.heap.size + 1 := by rw [hW1, szAlloc']
    have B1 : Below w1.heap.size w1 W1 := by rw [hW1]; exact (Below.refl _ _).alloc (Nat.le_refl _) _
    have HW1 := Lib.hid hW1; clear hW1
    have HV1 := Lib.hid hv1; clear hv1
    go_wp2_with fail
    rw [← HW1.out]
    refine (awake_any5 _).mono ?_
    rintro e w2 ⟨rfl, hb2⟩
    have z2 := (hb2.block w1.heap.size (by omega)).trans z1
    obtain ⟨y0, y1, y2, y3, y4⟩ := cells5 z2
    have s2 := hb2.size
    have B2 : Below w1.heap.size w1 w2 := B1.trans (hb2.mono (by omega))
    have T2 : Below w.heap.size w w2 := hb1.trans (B2.mono hb1.size)
    have hc := Same_any (ht V0) V0 V0 _ _ w2 (Nat.le_refl _) (by decide) (HV1.out.wide B2 (Nat.le_refl _) (by omega)) (V0_read w2 _)
    have HC := Lib.hid hc; clear hc
    clear z1 z2 B1 hb2
    go_wp2_with fail
    refine HC.out.mono ?_
    rintro e w3 ⟨⟨b, rfl, hb⟩, hb3⟩
    obtain rfl : b = true := hb.2 (by trivial)
    go_wp2_with fail
    go_ret
    exact ⟨rfl, T2.trans (hb3.mono T2.size)⟩
end Go.Proofs.Ytoflogckoepioaa.Re
