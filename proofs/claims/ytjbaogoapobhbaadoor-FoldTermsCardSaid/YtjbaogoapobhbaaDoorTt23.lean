/- Merged: FoW2. -/
import Derived.Test.YtjbaogoapobhbaaDoorTt22
import Derived.Laws.Concat
import Derived.Test.YtjbaogoapobhbaaDoorTt11
namespace Go.Proofs.YtjbaogoapobhbaaDoor.Fo
open Go.Proofs Go.RowKit
open Go.Proofs.YtjbaogoapobhbaaDoor.Utf
open Go.Proofs.YtjbaogoapobhbaaDoor.Sc
open Go.Proofs.YtjbaogoapobhbaaDoor.Po

set_option maxRecDepth 100000 in
set_option maxHeartbeats 1000000 in
theorem terms_walk (q : ByteArray) (tv : Value) (xs : List (List UInt8)) (w : World) (hq : q.size ≤ reachBytes) (hv : RdS w w.heap.size tv xs) (hn : xs.length * 16 ≤ reachBytes) (hx : ∀ x ∈ xs, x.length ≤ reachBytes) (hm : Mx w) :
    Calls Tryd.prog 4 #[.string q, tv] w fun e w' => e = .returned (.bool true) ∧ Below w.heap.size w w' := by
  have HB0 := Lib.hid (Below.refl w.heap.size w)
  have HMX := Lib.hid hm
  clear hm
  obtain ⟨A0, c0, rfl⟩ := rd_form hv.rd
  have HV := Lib.hid hv.rd
  have HX := Lib.hid (show ∀ x ∈ xs, x.length ≤ 140737488351232 from hx)
  have hq' : q.size ≤ 140737488351232 := hq
  have hn' : xs.length * 16 ≤ 140737488351232 := hn
  obtain ⟨n, hN⟩ : ∃ n, xs.length = n := ⟨_, rfl⟩
  have HN := Lib.hid hN
  rw [hN] at HV hn' ⊢
  clear hv hx hq hn hN
  go_enter Tryd.func4, Tryd.ntmps4
  go_wp2_with fail
  go_loopw [5, 6] (fun s i wr => ∃ (m k : Nat), s = .int .i64 (m : Int) ∧ i = .int .i64 (k : Int) ∧ k ≤ n ∧ q.size ≤ m ∧ m ≤ 140737488360328 ∧ Aside (∀ (j : Nat) (h : j < xs.length), j < k → xs[j].length ≤ m) ∧ Aside (w = wr)) (fun _ i _ => n - (RowKit.intOf i).toNat)
  case atStart => exact ⟨q.size, 0, rfl, rfl, by omega, by omega, by omega, (show ∀ _ _ _, _ from fun j h hj => by omega), (show _ = _ from rfl)⟩
  case round =>
    obtain ⟨m, k, rfl, rfl, hk, hqm, hm, hsm, hw⟩ := hrel
    have HSJ := Lib.hid hsm.out
    clear hsm
    obtain rfl := hw.out
    clear hw
    by_cases hkn : k < n
    · have t1 : decide ((k : Int) < (n : Int)) = true := decide_eq_true (by omega)
      have t2 : decide (k < n) = true := decide_eq_true (by omega)
      have t3 : (0 : Int) ≤ (k : Int) := by omega
      have t4 : (k : Int) < (n : Int) := by omega
      have t5 : ((k : Int)).toNat = k := by omega
      by_cases hm5 : m ≤ 5000
      · have u1 : decide ((m : Int) ≤ 5000) = true := decide_eq_true (by omega)
        have u2 : decide (m ≤ 5000) = true := decide_eq_true hm5
        have hvv := HV.out
        rw [← HN.out] at hvv
        have hkx : k < xs.length := by rw [HN.out]; exact hkn
        obtain ⟨ad, cz, hadr, hcell⟩ := rd_at hvv (Below.refl _ _) hkx
        injection hadr with ha1 ha2 ha3
        subst ha1
        have hsz : (strOf xs[k]).size ≤ 140737488351232 := by rw [strOf_size]; exact HX.out _ (List.getElem_mem hkx)
        have HXK := Lib.hid (show xs[k].length = (strOf xs[k]).size from rfl)
        generalize strOf xs[k] = X at *
        clear ha2 ha3 hvv
        go_wp2_with fail
        go_roundw
        case rel =>
          refine ⟨m + X.size, k + 1, by go_num, by go_num, by omega, by omega, by omega, ?_, (by trivial)⟩
          refine (show ∀ (j : Nat) (h : j < xs.length), j < k + 1 → xs[j].length ≤ m + X.size from fun j h hj => ?_)
          by_cases e : j < k
          · have := HSJ.out j h e; omega
          · obtain rfl : j = k := by omega
            have := HXK.out; omega
        case measure => simp [RowKit.intOf]; omega
      · have u1 : decide ((m : Int) ≤ 5000) = false := decide_eq_false (by omega)
        have u2 : decide (m ≤ 5000) = false := decide_eq_false hm5
        have v1 : decide ((m : Int) > 5000) = true := decide_eq_true (by omega)
        have v2 : decide ((5000 : Int) < (m : Int)) = true := decide_eq_true (by omega)
        have v3 : decide (5000 < m) = true := decide_eq_true (by omega)
        go_wp2_with fail
        refine (awake_any16 _ (HMX.out.keep HB0.out)).mono ?_
        rintro e w1 ⟨rfl, hb⟩
        have HB1 := Lib.hid (HB0.out.trans (hb.mono HB0.out.size))
        clear hb
        go_wp2_with fail
        go_ret
        exact ⟨rfl, HB1.out⟩
    · have t1 : decide ((k : Int) < (n : Int)) = false := decide_eq_false (by omega)
      have t2 : decide (k < n) = false := decide_eq_false (by omega)
      by_cases hm5 : 5000 < m
      · have v1 : decide ((m : Int) > 5000) = true := decide_eq_true (by omega)
        have v2 : decide ((5000 : Int) < (m : Int)) = true := decide_eq_true (by omega)
        have v3 : decide (5000 < m) = true := decide_eq_true (by omega)
        go_wp2_with fail
        refine (awake_any16 _ (HMX.out.keep HB0.out)).mono ?_
        rintro e w1 ⟨rfl, hb⟩
        have HB1 := Lib.hid (HB0.out.trans (hb.mono HB0.out.size))
        clear hb
        go_wp2_with fail
        go_ret
        exact ⟨rfl, HB1.out⟩
      · have v1 : decide ((m : Int) > 5000) = false := decide_eq_false (by omega)
        have v2 : decide ((5000 : Int) < (m : Int)) = false := decide_eq_false (by omega)
        have v3 : decide (5000 < m) = false := decide_eq_false (by omega)
        by_cases hn2 : 200 < n
        · have g1 : decide ((n : Int) > 200) = true := decide_eq_true (by omega)
          have g2 : decide ((200 : Int) < (n : Int)) = true := decide_eq_true (by omega)
          have g3 : decide (200 < n) = true := decide_eq_true (by omega)
          go_wp2_with fail
          refine (awake_any16 _ (HMX.out.keep HB0.out)).mono ?_
          rintro e w1 ⟨rfl, hb⟩
          have HB1 := Lib.hid (HB0.out.trans (hb.mono HB0.out.size))
          clear hb
          go_wp2_with fail
          go_ret
          exact ⟨rfl, HB1.out⟩
        · have g1 : decide ((n : Int) > 200) = false := decide_eq_false (by omega)
          have g2 : decide ((200 : Int) < (n : Int)) = false := decide_eq_false (by omega)
          have g3 : decide (200 < n) = false := decide_eq_false (by omega)
          have C1 := Lib.hid (fun W => pTerms_any q W (by omega))
          have C2 := Lib.hid (fun W => rTerms_any q W (by omega))
          have HTL := Lib.hid (show (tms q.data.toList).length ≤ 5001 by have := trm_len q.data.toList 0 []; rw [len_data] at this; exact Nat.le_trans this (by omega))
          have HSM := Lib.hid (show ∀ x ∈ xs, x.length ≤ 5000 from fun x hx => by
            obtain ⟨j, hj, rfl⟩ := List.getElem_of_mem hx
            have := HSJ.out j hj (by have := HN.out; omega); omega)
          have C3 := Lib.hid (fun (W : World) (hW : Below w.heap.size w W) => pMatch_any q _ xs W ((HV.out.below hW).more hW.size) (by omega) (by rw [HN.out]; omega) (fun x hx => Nat.le_trans (HX.out x hx) (by decide)) (.inl ⟨HMX.out.keep hW, fun x hx => Nat.lt_of_le_of_lt (HSM.out x hx) (by decide)⟩))
          have C4 := Lib.hid (fun (W : World) (hW : Below w.heap.size w W) => rMatch_any q _ xs W ((HV.out.below hW).more hW.size) (by omega) (by rw [HN.out]; omega) (fun x hx => Nat.le_trans (HX.out x hx) (by decide)))
          generalize tms q.data.toList = T at *
          generalize matS q.data.toList xs = r at *
          have rr : (r == r) = true := beq_self_eq_true _
          go_wp2_with fail
          refine (awake_any16 _ (HMX.out.keep HB0.out)).mono ?_
          rintro e w1 ⟨rfl, hb⟩
          have HB1 := Lib.hid (HB0.out.trans (hb.mono HB0.out.size))
          clear hb
          go_wp2_with fail
          refine (C1.out _).mono ?_
          rintro e w2 ⟨v1, rfl, hown, hb⟩
          have HB2 := Lib.hid (HB1.out.trans (hb.mono HB1.out.size))
          have HR1 := Lib.hid (Rd.of_own hown)
          clear hown
          clear hb
          go_wp2_with fail
          refine (C2.out _).mono ?_
          rintro e w3 ⟨v2, rfl, hown, hb⟩
          have HB3 := Lib.hid (HB2.out.trans (hb.mono HB2.out.size))
          have HR2 := Lib.hid (Rd.of_own hown)
          have HR1 := Lib.hid ((HR1.out.below hb).more hb.size)
          clear hown
          clear hb
          go_wp2_with fail
          refine (SameParts_any _ _ _ _ w3 HR1.out HR2.out (by have := HTL.out; omega)).mono ?_
          rintro e w4 ⟨⟨x, rfl, hx⟩, hb⟩
          have HB4 := Lib.hid (HB3.out.trans (hb.mono HB3.out.size))
          obtain rfl : x = true := hx.2 rfl
          clear hx
          clear hb
          go_wp2_with fail
          refine (C3.out _ HB4.out).mono ?_
          rintro e w5 ⟨rfl, hb⟩
          have HB5 := Lib.hid (HB4.out.trans (hb.mono HB4.out.size))
          clear hb
          go_wp2_with fail
          refine (C4.out _ HB5.out).mono ?_
          rintro e w6 ⟨rfl, hb⟩
          have HB6 := Lib.hid (HB5.out.trans (hb.mono HB5.out.size))
          clear hb
          go_wp2_with fail
          go_ret
          exact ⟨rfl, HB6.out⟩
end Go.Proofs.YtjbaogoapobhbaaDoor.Fo
