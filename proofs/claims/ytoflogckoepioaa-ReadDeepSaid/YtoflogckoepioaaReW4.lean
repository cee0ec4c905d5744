import Derived.Test.YtoflogckoepioaaReW2
import Derived.Test.YtoflogckoepioaaReNest
/- The walk of the law ReadDeep. -/
namespace Go.Proofs.Ytoflogckoepioaa.Re
open Go.RowKit
open Go.Proofs.Ytoflogckoepioaa.Utf
open Go.Proofs.Ytoflogckoepioaa.Sc

theorem nest_len (k : Nat) : (nest k).length = k + k := by unfold nest; simp
theorem nest_succ (k : Nat) : 91 :: (nest k ++ [93]) = nest (k + 1) := by
  unfold nest
  rw [List.replicate_succ (a := (91 : UInt8)), List.replicate_succ' (a := (93 : UInt8))]
  simp
theorem nest_rd {k : Nat} (h : k < 40) : rdV (nest k) = rdT (toksN k) ((k + k : Nat) : Int) := by
  obtain ⟨h1, h2⟩ := scn_nest1 k h
  unfold rdV
  rw [if_neg (by rw [h2]; simp), h1, nest_len]

set_option maxRecDepth 100000 in
set_option maxHeartbeats 2000000 in
theorem deep_walk (n : Int) (w : World) (hn : (Lit.int .u8 n).wf = true) :
    Calls Try.prog 6 #[.int .u8 n] w fun e w' => e = .returned (.bool true) ∧ Below w.heap.size w w' := by
  have hn2 : 0 ≤ n ∧ n ≤ 255 := by simp [Lit.wf, IntKind.min, IntKind.max, IntKind.bits, IntKind.signed] at hn; omega
  obtain ⟨r, hr9, hrn⟩ : ∃ r : Nat, r < 40 ∧ n % 40 = (r : Int) := ⟨(n % 40).toNat, by omega, by omega⟩
  have g1 : n.tmod 40 = (r : Int) := by rw [Int.tmod_eq_emod_of_nonneg hn2.1]; exact hrn
  have g2 : IntKind.i64.wrap (r : Int) = (r : Int) := IntWalk.i64_in _ (by omega)
  have g3 : ∀ q : Nat, q < 40 → IntKind.u8.wrap (q : Int) = (q : Int) := by decide
  have g3 := g3 r hr9
  have hrd := nest_rd hr9
  have hsz : ∀ j, (strOf (nest j)).size = j + j := fun j => by rw [strOf_size, nest_len]
  rcases hres : rdV (nest r) with ⟨v, a, y⟩
  have hV : ∀ w, Calls Try.prog 7 #[.string (strOf (nest r))] w (GivesVal2 v a y w) := fun w => Value_any2 (strOf (nest r)) w (by rw [hsz]; omega) (by rw [strOf_data]; exact hres)
  have ha1 : ∀ j, j < 40 → ∀ w : World, (Op.stringOp .add ⟨#[91]⟩ (strOf (nest j))).run Try.prog w = .ok (.string (strOf (91 :: nest j))) w := fun j hj w => by
    rw [run_string_add_sum w _ _ (by rw [hsz]; show 1 + (j + j) ≤ 9223372036854775807; omega), show (ByteArray.mk #[91]) = strOf [91] from rfl, strOf_app, List.singleton_append]
  have ha2 : ∀ j, j < 40 → ∀ w : World, (Op.stringOp .add (strOf (91 :: nest j)) ⟨#[93]⟩).run Try.prog w = .ok (.string (strOf (nest (j + 1)))) w := fun j hj w => by
    rw [run_string_add_sum w _ _ (by rw [strOf_size, List.length_cons, nest_len]; show j + j + 1 + 1 ≤ 9223372036854775807; omega), show (ByteArray.mk #[93]) = strOf [93] from rfl, strOf_app, List.cons_append, nest_succ]
  have HA1 := Lib.hid ha1; clear ha1
  have HA2 := Lib.hid ha2; clear ha2
  have HV := Lib.hid hV; clear hV
  have HRS := Lib.hid hres; clear hres
  have HRD := Lib.hid hrd; clear hrd
  have HSO := Lib.hid (sorts_ok (l := nest r))
  clear hsz
  go_enter Try.func6, Try.ntmps6
  go_wp2_with fail
  go_loop [4, 5] (fun t i => ∃ j : Nat, i = .int .i64 j ∧ j ≤ r ∧ t = .string (strOf (nest j))) (fun _ i => r - (intOf i).toNat)
  case atStart => exact ⟨0, rfl, by omega, rfl⟩
  case round =>
    obtain ⟨j, rfl, hj, rfl⟩ := hrel
    by_cases hlt : j < r
    · have d1 : decide ((j : Int) < (r : Int)) = true := decide_eq_true (by omega)
      have d2 : decide (j < r) = true := decide_eq_true hlt
      have h1 := HA1.out j (by omega)
      have h2 := HA2.out j (by omega)
      generalize strOf (91 :: nest j) = M at *
      generalize strOf (nest j) = M0 at *
      obtain ⟨M2, hM2⟩ : ∃ M2, M2 = strOf (nest (j + 1)) := ⟨_, rfl⟩
      rw [← hM2] at h2
      have HM2 := Lib.hid hM2; clear hM2
      go_wp2_with fail
      go_round
      case rel => exact ⟨j + 1, by go_num, by omega, by rw [HM2.out]⟩
      case measure => simp [intOf]; omega
    · have d1 : decide ((j : Int) < (r : Int)) = false := decide_eq_false (by omega)
      have d2 : decide (j < r) = false := decide_eq_false hlt
      obtain rfl : j = r := by omega
      obtain ⟨S, hS⟩ : ∃ S, S = strOf (nest j) := ⟨_, rfl⟩
      rw [← hS] at HV
      rw [← hS]
      clear hS
      obtain ⟨X, hX⟩ : ∃ X, X = strOf v.s := ⟨_, rfl⟩
      have HX := Lib.hid hX; clear hX
      go_wp2_with fail
      refine (HV.out w).mono ?_
      rintro e w1 ⟨A, c, A2, c2, rfl, hv1, hb1⟩
      rw [← HX.out] at hv1 ⊢
      obtain ⟨W1, hW1⟩ : ∃ W1, W1 = w1.alloc (.cells #[.int .i64 v.k, .int .i64 v.n, .string X, .slice A v.l.length c, .slice A2 v.ms.length c2] 25) := ⟨_, rfl⟩
      have z1 : W1.heap[w1.heap.size]? = some (.cells #[.int .i64 v.k, .int .i64 v.n, .string X, .slice A v.l.length c, .slice A2 v.ms.length c2] 25 (0, 0)) := by rw [hW1]; exact heap_alloc_new w1 _
      have s1 : W1.heap.size = w1.heap.size + 1 := by rw [hW1, szAlloc']
      have B1 : Below w1.heap.size w1 W1 := by rw [hW1]; exact (Below.refl _ _).alloc (Nat.le_refl _) _
      have HW1 := Lib.hid hW1; clear hW1
      have HV1 := Lib.hid hv1; clear hv1
      go_wp2_with fail
      rw [← HW1.out]
      refine (awake_any5 _).mono ?_
      rintro e w2 ⟨rfl, hb2⟩
      have z2 := (hb2.block w1.heap.size (by omega)).trans z1
      have s2 := hb2.size
      have B2 : Below w1.heap.size w1 w2 := B1.trans (hb2.mono (by omega))
      have T2 : Below w.heap.size w w2 := hb1.trans (B2.mono hb1.size)
      have HZ2 := Lib.hid z2
      clear z1 z2 B1 hb2
      by_cases h0 : j = 0
      · have t1 : ((j : Int) == 0) = true := by rw [beq_iff_eq]; omega
        have t2 : ((j : Int) != 0) = false := by rw [bne_eq_false_iff_eq]; omega
        obtain rfl : y = 50 := by
          have h5 := HRS.out
          rw [h0] at h5
          rw [show nest 0 = [] from rfl, aw5_4] at h5
          exact (congrArg (fun x => x.2.2) h5).symm
        clear h0
        go_wp2_with fail
        refine (awake_any5 _).mono ?_
        rintro e w3 ⟨rfl, hb3⟩
        go_wp2_with fail
        go_ret
        exact ⟨rfl, T2.trans (hb3.mono T2.size)⟩
      · have t1 : ((j : Int) == 0) = false := by rw [beq_eq_false_iff_ne]; omega
        have t2 : ((j : Int) != 0) = true := by rw [bne_iff_ne]; omega
        by_cases h16 : 16 < j
        · have t3 : decide ((16 : Int) < (j : Int)) = true := decide_eq_true (by omega)
          have t4 : decide (16 < j) = true := decide_eq_true h16
          have h6 := rd_nest2 j hr9 h16
          rw [← HRD.out, HRS.out] at h6
          obtain ⟨rfl, rfl⟩ : a = 16 ∧ y = 51 := ⟨congrArg Prod.fst h6, congrArg Prod.snd h6⟩
          clear h6 h16 h0
          go_wp2_with fail
          go_ret
          exact ⟨rfl, T2⟩
        · have t3 : decide ((16 : Int) < (j : Int)) = false := decide_eq_false (by omega)
          have t4 : decide (16 < j) = false := decide_eq_false h16
          obtain ⟨h6, h7⟩ := rd_nest j (by omega) (by omega)
          rw [← HRD.out, HRS.out] at h6 h7
          simp only at h6 h7
          subst h6
          obtain ⟨o1, o2, o3, o4, _⟩ := HSO.out (by rw [HRS.out])
          rw [HRS.out] at o1 o2 o4
          simp only at o1 o2 o4
          obtain ⟨y0, y1, y2, y3, y4⟩ := cells5 HZ2.out
          have hht := ht_le v
          have hc := count_any (ht v) v 1 _ w2 (Nat.le_refl _) o4 (by omega) (by omega) (HV1.out.wide B2 (Nat.le_refl _) (by omega))
          rw [h7] at hc
          have HC := Lib.hid hc; clear hc
          clear h16 h0 h7 o1 o2 o3 o4 hht
          go_wp2_with fail
          refine HC.out.mono ?_
          rintro e w3 ⟨rfl, hb3⟩
          go_wp2_with fail
          go_ret
          exact ⟨rfl, T2.trans (hb3.mono T2.size)⟩
end Go.Proofs.Ytoflogckoepioaa.Re
