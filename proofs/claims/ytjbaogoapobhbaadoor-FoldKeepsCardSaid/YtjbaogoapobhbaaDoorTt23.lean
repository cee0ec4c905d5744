/- Merged: FoW6. -/
import Derived.Test.YtjbaogoapobhbaaDoorTt22
import Derived.Test.YtjbaogoapobhbaaDoorTt11
namespace Go.Proofs.YtjbaogoapobhbaaDoor.Fo
open Go.Proofs Go.RowKit
open Go.Proofs.YtjbaogoapobhbaaDoor.Utf
open Go.Proofs.YtjbaogoapobhbaaDoor.Sc
open Go.Proofs.YtjbaogoapobhbaaDoor.Po

set_option maxRecDepth 100000 in
set_option maxHeartbeats 2000000 in
theorem keeps_walk (q : ByteArray) (tv : Value) (xs : List (List UInt8)) (w : World) (hq : q.size ≤ reachBytes) (hv : RdS w w.heap.size tv xs) (hn : xs.length * 16 ≤ reachBytes) (hx : ∀ x ∈ xs, x.length ≤ reachBytes) (hm : Mx w) :
    Calls Tryd.prog 8 #[.string q, tv] w fun e w' => e = .returned (.bool true) ∧ Below w.heap.size w w' := by
  have HB0 := Lib.hid (Below.refl w.heap.size w)
  have HMX := Lib.hid hm
  clear hm
  obtain ⟨i1, hj, hy0, hy1, hy2⟩ := info_parts infoStr
  have HV := Lib.hid hv.rd
  obtain ⟨A0, c0, rfl, hA, hnews⟩ := rd_open hv.rd
  have HX := Lib.hid (show ∀ x ∈ xs, x.length ≤ 140737488351232 from hx)
  have hq' : q.size ≤ 140737488351232 := hq
  have hn' : xs.length * 16 ≤ 140737488351232 := hn
  obtain ⟨n, hN⟩ : ∃ n, xs.length = n := ⟨_, rfl⟩
  have HN := Lib.hid hN
  rw [hN] at HV hn' hA ⊢
  clear hv hx hq hn hN
  by_cases g1 : 5000 < q.size
  · have g11 : decide ((q.size : Int) > 5000) = true := decide_eq_true (by omega)
    have g12 : decide ((5000 : Int) < (q.size : Int)) = true := decide_eq_true (by omega)
    have g13 : decide (5000 < q.size) = true := decide_eq_true (by omega)
    clear g1
    go_enter Tryd.func8, Tryd.ntmps8
    go_wp2_with fail
    refine (awake_any16 _ (HMX.out.keep HB0.out)).mono ?_
    rintro e w1 ⟨rfl, hb⟩
    have HB1 := Lib.hid (HB0.out.trans (hb.mono HB0.out.size))
    clear hb
    go_wp2_with fail
    go_ret
    exact ⟨rfl, HB1.out⟩
  · have g11 : decide ((q.size : Int) > 5000) = false := decide_eq_false (by omega)
    have g12 : decide ((5000 : Int) < (q.size : Int)) = false := decide_eq_false (by omega)
    have g13 : decide (5000 < q.size) = false := decide_eq_false (by omega)
    by_cases g0 : 50 < n
    · have g01 : decide ((n : Int) > 50) = true := decide_eq_true (by omega)
      have g02 : decide ((50 : Int) < (n : Int)) = true := decide_eq_true (by omega)
      have g03 : decide (50 < n) = true := decide_eq_true (by omega)
      clear g0
      go_enter Tryd.func8, Tryd.ntmps8
      go_wp2_with fail
      refine (awake_any16 _ (HMX.out.keep HB0.out)).mono ?_
      rintro e w1 ⟨rfl, hb⟩
      have HB1 := Lib.hid (HB0.out.trans (hb.mono HB0.out.size))
      clear hb
      go_wp2_with fail
      go_ret
      exact ⟨rfl, HB1.out⟩
    · have g01 : decide ((n : Int) > 50) = false := decide_eq_false (by omega)
      have g02 : decide ((50 : Int) < (n : Int)) = false := decide_eq_false (by omega)
      have g03 : decide (50 < n) = false := decide_eq_false (by omega)
      have C1 := Lib.hid (fun W => pTerms_any q W (by omega))
      have C3 := Lib.hid (fun W => rTerms_any q W (by omega))
      have HTL := Lib.hid (show (tms q.data.toList).length ≤ 5001 by have := trm_len q.data.toList 0 []; rw [len_data] at this; exact Nat.le_trans this (by omega))
      have C2 := Lib.hid (fun (W : World) (hW : Below w.heap.size w W) => pMatch_any ⟨#[120]⟩ _ xs W ((HV.out.below hW).more hW.size) (by decide) (by rw [HN.out]; omega) (fun x hx => Nat.le_trans (HX.out x hx) (by decide)) (.inr (by decide)))
      generalize matS (⟨#[120]⟩ : ByteArray).data.toList xs = r at *
      generalize tms q.data.toList = T at *
      go_enter Tryd.func8, Tryd.ntmps8
      have hwo : w.ownsRow w.heap.size 9 1 (.slice none 0 0) 0 [] := World.ownsRow_nil _ _ _ _
      have hl : (strC xs).length = n * 1 := by rw [strC_len, HN.out, Nat.mul_one]
      have h1 := strC_one xs
      go_wp2_with (at_builtin; refine append_any_g (by rfl) _ _ 26 rfl w.heap.size 9 i1 _ 1 16 Tryd.underlying26 hj hy0 hy1 hy2 (by rfl) (by decide) (.slice none 0 0) 0 [] rfl hwo A0 n c0 (strC xs) rfl hl hA hnews h1 (by unfold maxLen; omega) (by omega) (Nat.le_refl _) ?_; intro v5 w1 hown5 hg5)
      have hb : Below w.heap.size w w1 := (Below.refl _ _).grown hg5 (Nat.le_refl _) (fun k hk => by cases hk)
      have HB1 := Lib.hid hb
      have HRW := Lib.hid (show Rd w1 w1.heap.size v5 (strC xs) from Rd.of_own hown5)
      clear hA hnews hl h1 hwo hown5 hg5 hb
      go_wp2_with fail
      refine (C1.out _).mono ?_
      rintro e w2 ⟨va, rfl, hown, hb⟩
      have HB2 := Lib.hid (HB1.out.trans (hb.mono HB1.out.size))
      have HOA := Lib.hid hown
      have HRW := Lib.hid (HRW.out.below hb)
      have HS2 := Lib.hid hb.size
      clear hown
      clear hb
      go_wp2_with fail
      refine (C1.out _).mono ?_
      rintro e w3 ⟨vb, rfl, hown, hb⟩
      have HB3 := Lib.hid (HB2.out.trans (hb.mono HB2.out.size))
      have HOB := Lib.hid hown
      have HOA3 := Lib.hid (own_below HOA.out hb)
      have HRW := Lib.hid (HRW.out.below' hb HS2.out)
      have HS3 := Lib.hid hb.size
      clear hown
      clear hb
      go_wp2_with fail
      refine (C2.out _ HB3.out).mono ?_
      rintro e w4 ⟨rfl, hb⟩
      have HB4 := Lib.hid (HB3.out.trans (hb.mono HB3.out.size))
      have HOB := Lib.hid (own_below HOB.out hb)
      have HOA4 := Lib.hid (own_below HOA3.out hb)
      have HRW := Lib.hid (HRW.out.below' hb (Nat.le_trans HS2.out HS3.out))
      have HS4 := Lib.hid hb.size
      clear hb
      have HG := Lib.hid (show ∃ g, w1.heap.size ≤ g ∧ (g < w2.heap.size ∨ w4.heap.size ≤ g) ∧ (0 < T.length → ∃ c, va = .slice (some ⟨g, 0, none⟩) T.length c ∧ w4.there g 0 T.length) by
        by_cases h0 : 0 < T.length
        · obtain ⟨g, c, e, g1, g2, g3⟩ := own_spot HOA.out (j := 0) (by rw [strC_len]; exact h0)
          obtain ⟨g', c', e', -, -, g4⟩ := own_spot HOA4.out (j := 0) (by rw [strC_len]; exact h0)
          rw [e] at e'
          injection e' with e1
          injection e1 with e1
          injection e1 with e1
          subst e1
          rw [strC_len] at g4
          exact ⟨g, g1, .inl g2, fun _ => ⟨c, e, g4⟩⟩
        · exact ⟨w4.heap.size, by have := HS2.out; have := HS3.out; have := HS4.out; omega, .inr (Nat.le_refl _), fun h => absurd h h0⟩)
      obtain ⟨g, hg1, hg2, hg3⟩ := HG.out
      have HG1 := Lib.hid hg1
      have HG2 := Lib.hid hg2
      have HG3 := Lib.hid hg3
      obtain ⟨Aa, ca, rfl⟩ := rd_form (Rd.of_own HOA4.out)
      obtain ⟨na, hna⟩ : ∃ x, T.length = x := ⟨_, rfl⟩
      rw [hna] at HG3 ⊢
      have HNA := Lib.hid hna
      have na9 : na ≤ 5001 := by rw [← hna]; exact HTL.out
      clear HG hg1 hg2 hg3 hna
      go_wp2_with fail
      go_loopw [8] (fun i wr => ∃ k : Nat, i = .int .i64 (k : Int) ∧ k ≤ na ∧ Aside (SpB g w4 wr)) (fun i _ => na - (RowKit.intOf i).toNat)
      case atStart => exact ⟨0, rfl, by omega, (show SpB _ _ _ from SpB.refl _ _)⟩
      case round =>
        obtain ⟨k, rfl, hk, hsp⟩ := hrel
        have HSP := Lib.hid hsp.out
        clear hsp
        by_cases hkn : k < na
        · have t1 : decide ((k : Int) < (na : Int)) = true := decide_eq_true (by omega)
          have t2 : decide (k < na) = true := decide_eq_true (by omega)
          have t3 : (0 : Int) ≤ (k : Int) := by omega
          have t4 : (k : Int) < (na : Int) := by omega
          have t5 : ((k : Int)).toNat = k := by omega
          obtain ⟨cc, hav, hth⟩ := HG3.out (by omega)
          injection hav with ha1 ha2 ha3
          subst ha1
          obtain ⟨hs1, hs2⟩ := HSP.out.there _ _ _ hth k hkn
          rw [Nat.zero_add] at hs1 hs2
          obtain ⟨u0, hu0⟩ := Option.isSome_iff_exists.1 hs1
          have HSP2 := Lib.hid (HSP.out.set k (.string ⟨#[115, 112, 111, 105, 108, 116]⟩))
          clear hth hs1 ha2 ha3
          go_wp2
          go_roundw
          case rel => exact ⟨k + 1, by go_num, by omega, HSP2.out⟩
          case measure => simp [RowKit.intOf]; omega
        · have t1 : decide ((k : Int) < (na : Int)) = false := decide_eq_false (by omega)
          have t2 : decide (k < na) = false := decide_eq_false (by omega)
          obtain ⟨w5, hw5⟩ : ∃ x, x = wr := ⟨_, rfl⟩
          rw [← hw5] at HSP ⊢
          have HB5 := Lib.hid (show Below w.heap.size w w5 from HB4.out.trans (HSP.out.below (Nat.le_trans HB1.out.size HG1.out)))
          have HRB := Lib.hid (Rd.of_own (HSP.out.own HOB.out (HG2.out.imp id id)))
          have HRW := Lib.hid (show Rd w5 w1.heap.size v5 (strC xs) from HRW.out.below (HSP.out.below HG1.out))
          have HS5 := Lib.hid (show w1.heap.size ≤ w5.heap.size by rw [HSP.out.size]; have := HS2.out; have := HS3.out; have := HS4.out; omega)
          clear hw5 hkn hk
          go_wp2_with fail
          refine (awake_any16 _ (HMX.out.keep HB5.out)).mono ?_
          rintro e w6 ⟨rfl, hb⟩
          have HB6 := Lib.hid (HB5.out.trans (hb.mono HB5.out.size))
          have HRB := Lib.hid ((HRB.out.below hb).more hb.size)
          have HRW := Lib.hid (HRW.out.below' hb HS5.out)
          have HS6 := Lib.hid hb.size
          clear hb
          go_wp2_with fail
          refine (C3.out _).mono ?_
          rintro e w7 ⟨vr, rfl, hown, hb⟩
          have HB7 := Lib.hid (HB6.out.trans (hb.mono HB6.out.size))
          have HRR := Lib.hid (Rd.of_own hown)
          have HRB := Lib.hid ((HRB.out.below hb).more hb.size)
          have HRW := Lib.hid (HRW.out.below' hb (Nat.le_trans HS5.out HS6.out))
          have HS7 := Lib.hid hb.size
          clear hown
          clear hb
          go_wp2_with fail
          refine (SameParts_any _ _ _ _ w7 HRB.out HRR.out (by have := HTL.out; omega)).mono ?_
          rintro e w8 ⟨⟨x, rfl, hx⟩, hb⟩
          have HB8 := Lib.hid (HB7.out.trans (hb.mono HB7.out.size))
          obtain rfl : x = true := hx.2 rfl
          have HRW := Lib.hid (show Rd w8 w8.heap.size v5 (strC xs) from (HRW.out.below' hb (by have := HS5.out; have := HS6.out; have := HS7.out; omega)).more (by have := HS5.out; have := HS6.out; have := HS7.out; have := hb.size; omega))
          clear hx
          clear hb
          go_wp2_with fail
          refine (SameParts_any _ _ _ _ w8 HRW.out ((HV.out.below HB8.out).more HB8.out.size) (by rw [HN.out]; omega)).mono ?_
          rintro e w9 ⟨⟨x, rfl, hx⟩, hb⟩
          have HB9 := Lib.hid (HB8.out.trans (hb.mono HB8.out.size))
          obtain rfl : x = true := hx.2 rfl
          clear hx
          clear hb
          go_wp2_with fail
          go_ret
          exact ⟨rfl, HB9.out⟩
end Go.Proofs.YtjbaogoapobhbaaDoor.Fo
