/- Merged: TlW1 TlW2 TlW6. -/
import Derived.Test.YtfdibmcjjclgkaaTt20
import Derived.Test.YtfdibmcjjclgkaaTt8
import Derived.Test.YtfdibmcjjclgkaaTt1
namespace Go.Proofs.Ytfdibmcjjclgkaa.Tl
open Go.Proofs Go.RowKit
open Go.Proofs.Ytfdibmcjjclgkaa.Utf
open Go.Proofs.Ytfdibmcjjclgkaa.Ro

theorem wf_i64 {n : Int} (h : (Lit.int .i64 n).wf = true) : -9223372036854775808 ≤ n ∧ n ≤ 9223372036854775807 := by
  have h1 : (decide (-9223372036854775808 ≤ n) && decide (n ≤ 9223372036854775807)) = true := h
  rw [Bool.and_eq_true] at h1
  exact ⟨of_decide_eq_true h1.1, of_decide_eq_true h1.2⟩
end Go.Proofs.Ytfdibmcjjclgkaa.Tl
namespace Go.Proofs.Ytfdibmcjjclgkaa.Tl
open Go.Proofs Go.RowKit
open Go.Proofs.Ytfdibmcjjclgkaa.Utf
open Go.Proofs.Ytfdibmcjjclgkaa.Ro

theorem out_len (l : List En) (keep : Int) (e : En) : (outS l keep e).length ≤ l.length + 1 := by
  unfold outS
  rw [List.length_drop, List.length_append, List.length_singleton]; omega
end Go.Proofs.Ytfdibmcjjclgkaa.Tl
namespace Go.Proofs.Ytfdibmcjjclgkaa.Tl
open Go.Proofs Go.RowKit
open Go.Proofs.Ytfdibmcjjclgkaa.Utf
open Go.Proofs.Ytfdibmcjjclgkaa.Ro

theorem enC_one (l : List En) : ∀ u ∈ (enC l).flatten, u.oneCell' = true := by
  intro u hu
  obtain ⟨r, hr, hu⟩ := List.mem_flatten.1 hu
  obtain ⟨q, -, rfl⟩ := List.mem_map.1 hr
  unfold enR at hu
  simp at hu
  rcases hu with rfl | rfl | rfl <;> rfl
theorem enC_app (a b : List En) : (enC (a ++ b)).flatten = (enC a).flatten ++ (enC b).flatten := by unfold enC; rw [List.map_append, List.flatten_append]
theorem enC_flen (l : List En) : (enC l).flatten.length = l.length * 3 := by rw [flat_len (s := 3) _ enC_3, enC_len]
theorem own_cap {w : World} {B E s n c : Nat} {A : Option Addr} {xs : List Value} (h : w.ownsRow B E s (.slice A n c) n xs) : n ≤ c := by
  rcases h.2 with ⟨h1, h2⟩ | ⟨g, cap, cur, h1, _, _, h4, _⟩
  · omega
  · injection h1 with _ _ h1
    omega
set_option maxRecDepth 100000 in
set_option maxHeartbeats 2000000 in
theorem keeps_walk (v : Value) (l : List En) (keep : Int) (en : En) (w : World) (hl : RdE w w.heap.size v l) (_hn : l.length * 32 ≤ reachBytes) (hI : ∀ e ∈ l, e.2.1.length ≤ 9223372036854775807) (_hcp : ∀ A m c, v = .slice A m c → m ≤ c) (hk : (Lit.int .i64 keep).wf = true) (_hE : en.2.1.length ≤ 9223372036854775807) :
    Calls Try.prog 8 #[v, .int .i64 keep, .agg (enR en).toArray] w fun e w' => e = .returned (.bool true) ∧ Below w.heap.size w w' := by
  have mixed : Try.prog.follows .mixedOrders = true := by kernel_rfl
  obtain ⟨i0, hi0, hz0, hz1, hz2⟩ := info_parts infoEn
  have HL := Lib.hid hl
  obtain ⟨A, c, rfl, hA, hnews⟩ := rdr_open hl
  rw [enC_len] at HL hA ⊢
  have hkb := wf_i64 hk
  obtain ⟨n, hn'⟩ : ∃ n, l.length = n := ⟨_, rfl⟩
  have HN := Lib.hid hn'
  rw [hn'] at HL hA ⊢
  have HI := Lib.hid hI
  clear hn' hk hl hI
  obtain ⟨eq, eid, ea⟩ := en
  have CA := Lib.hid (fun (v : Value) (W : World) (hv : RdE W W.heap.size v l) (h : n ≤ 300) (hc : ∀ A m c, v = .slice A m c → m ≤ c) => pAdd_any v l 0 keep (eq, eid, ea) W hv (by rw [HN.out]; omega) hkb hc)
  have HMN := Lib.hid (out_len l keep (eq, eid, ea))
  unfold GivesAd at CA
  obtain ⟨M, hM⟩ : ∃ M, outS l keep (eq, eid, ea) = M := ⟨_, rfl⟩
  rw [hM, HN.out] at HMN
  simp only [hM] at CA
  generalize flrS l 0 keep (eq, eid, ea) = fl at CA
  clear hM
  obtain ⟨XE, hXE⟩ : ∃ z, strOf eid = z := ⟨_, rfl⟩
  unfold enR at CA ⊢
  simp only at CA ⊢
  rw [hXE] at CA ⊢
  have HR0 := Lib.hid (show (w.alloc (.cells #[.int .i64 eq, .string XE, .int .i64 ea] 26)).heap[w.heap.size]? = some (.cells #[.int .i64 eq, .string XE, .int .i64 ea] 26 (0, 0)) from heap_alloc_new _ _)
  have HB0 := Lib.hid (show Below w.heap.size w (w.alloc (.cells #[.int .i64 eq, .string XE, .int .i64 ea] 26)) from (Below.refl _ _).alloc (Nat.le_refl _) _)
  obtain ⟨W0, hW0⟩ : ∃ W0, W0 = w.alloc (.cells #[.int .i64 eq, .string XE, .int .i64 ea] 26) := ⟨_, rfl⟩
  rw [← hW0] at HR0 HB0
  have HS0 := Lib.hid (show w.heap.size < W0.heap.size by rw [hW0]; simp)
  have HW0 := Lib.hid hW0
  clear hW0 hXE
  by_cases h5 : n ≤ 300
  · have t0 : decide ((n : Int) > 300) = false := decide_eq_false (by omega)
    have t1 : decide ((300 : Int) < (n : Int)) = false := decide_eq_false (by omega)
    have t2 : decide (300 < n) = false := decide_eq_false (by omega)
    have HM2 := HMN.out
    go_enter Try.func8, Try.ntmps8
    go_wp2_with fail
    rw [← HW0.out]
    go_wp2_with fail
    refine (awake_any17 _).mono ?_
    rintro e w1 ⟨rfl, hb⟩
    have HB1 := Lib.hid (HB0.out.trans (hb.mono HB0.out.size))
    have HR1 := Lib.hid ((hb.block w.heap.size HS0.out).trans HR0.out)
    have HS1 := Lib.hid (Nat.lt_of_lt_of_le HS0.out hb.size)
    clear hb
    have hnews1 : ∀ ad, A = some ad → ∀ j u, (enC l).flatten[j]? = some u → w1.cell? (ad.add j) = some u := fun ad e j u hu => by
      have h1 := (rdr_open ((by have h := HL.out; rw [← HN.out] at h; exact (h.below HB1.out).more HB1.out.size) : RdE w1 w1.heap.size (.slice A l.length c) l))
      obtain ⟨A', c', e2, -, h2⟩ := h1
      injection e2 with e2 _ _
      subst e2
      exact h2 ad e j u hu
    have hwo1 : w1.ownsRow w1.heap.size 26 3 (.slice none 0 0) 0 [] := World.ownsRow_nil _ _ _ _
    have hl3 : (enC l).flatten.length = n * 3 := by rw [enC_flen, HN.out]
    have hone := enC_one l
    have hn0 : (0 : Int) ≤ (n : Int) := by omega
    have hnn : ((n : Int)).toNat = n := by omega
    go_wp2_with (at_builtin; first
      | (refine append_any_g (by rfl) _ _ 22 rfl w1.heap.size 26 i0 _ 3 32 Try.underlying22 hi0 hz0 hz1 hz2 (by rfl) (by decide) (.slice none 0 0) 0 [] rfl hwo1 A n c (enC l).flatten rfl hl3 hA hnews1 hone (by unfold maxLen; omega) (by omega) (Nat.le_refl _) ?_
         intro v5 w2 hown5 hg5
         have hb2 : Below w1.heap.size w1 w2 := (Below.refl _ _).grown hg5 (Nat.le_refl _) (fun k hk => by cases hk)
         have HB2 := Lib.hid (HB1.out.trans (hb2.mono HB1.out.size))
         have HR2 := Lib.hid ((hb2.block w.heap.size HS1.out).trans HR1.out)
         have HS2 := Lib.hid (Nat.lt_of_lt_of_le HS1.out hb2.size)
         have HWA := Lib.hid (show RdE w2 w2.heap.size v5 l from rde_own (by rw [HN.out]; rw [Nat.zero_add, List.nil_append] at hown5; exact hown5))
         have hnews2 : ∀ ad, A = some ad → ∀ j u, (enC l).flatten[j]? = some u → w2.cell? (ad.add j) = some u := fun ad e j u hu => by
           have h1 := (rdr_open ((by have h := HL.out; rw [← HN.out] at h; exact (h.below HB2.out).more HB2.out.size) : RdE w2 w2.heap.size (.slice A l.length c) l))
           obtain ⟨A', c', e2, -, h2⟩ := h1
           injection e2 with e2 _ _
           subst e2
           exact h2 ad e j u hu
         have hwo2 : w2.ownsRow w2.heap.size 26 3 (.slice none 0 0) 0 [] := World.ownsRow_nil _ _ _ _
         clear hnews1 hwo1 hown5 hg5 hb2)
      | (refine append_any_g (by rfl) _ _ 22 rfl w2.heap.size 26 i0 _ 3 32 Try.underlying22 hi0 hz0 hz1 hz2 (by rfl) (by decide) (.slice none 0 0) 0 [] rfl hwo2 A n c (enC l).flatten rfl hl3 hA hnews2 hone (by unfold maxLen; omega) (by omega) (Nat.le_refl _) ?_
         intro v6 w3 hown6 hg6
         have hb3 : Below w2.heap.size w2 w3 := (Below.refl _ _).grown hg6 (Nat.le_refl _) (fun k hk => by cases hk)
         have HB3 := Lib.hid (HB2.out.trans (hb3.mono HB2.out.size))
         have HR3 := Lib.hid ((hb3.block w.heap.size HS2.out).trans HR2.out)
         have HS3 := Lib.hid (Nat.lt_of_lt_of_le HS2.out hb3.size)
         have HWA := Lib.hid (show RdE w3 w2.heap.size v5 l from HWA.out.below hb3)
         have hs23 := hb3.size
         rw [Nat.zero_add, List.nil_append] at hown6
         obtain ⟨A6, c6, rfl⟩ := own_slice hown6
         clear hnews2 hwo2 hg6 hb3 hA)
      | (refine wpList_append_lies _ rfl _ _ 22 rfl w2.heap.size 26 i0 _ 3 32 Try.underlying22 hi0 hz0 hz1 hz2 (by rfl) (by decide) (.slice A6 n c6) n (enC l).flatten rfl (hown6.alloc _) ⟨w3.heap.size, 0, none⟩ 1 1 [.int .i64 0, .string ⟨#[111, 119, 110]⟩, .int .i64 0] rfl rfl (cells_new _ _ _) (by intro u hu; simp at hu; rcases hu with rfl | rfl | rfl <;> rfl) (by omega) (by unfold maxLen; omega) (by omega) (by simp; omega) _ rfl ?_
         intro gb cap w4 hown8 hg8 hat hgl
         have HO4 := Lib.hid (show w4.ownsRow w2.heap.size 26 3 (.slice (some ⟨gb, 0, none⟩) (l ++ [(0, [111, 119, 110], 0)]).length cap) (l ++ [(0, [111, 119, 110], 0)]).length (enC (l ++ [(0, [111, 119, 110], 0)])).flatten by
           rw [enC_app, List.length_append, HN.out]
           exact hown8)
         have hb : Below w2.heap.size w3 w4 := ((Below.refl _ _).alloc hs23 _).grown hg8 (by simp; omega) (fun k hk => (hown6.lt k hk).1)
         have HB4 := Lib.hid (HB3.out.trans (hb.mono HB2.out.size))
         have HR4 := Lib.hid ((hb.block w.heap.size HS2.out).trans HR3.out)
         have HS4 := Lib.hid (Nat.lt_of_lt_of_le HS3.out hb.size)
         have HWA := Lib.hid (show RdE w4 w2.heap.size v5 l from HWA.out.below hb)
         have hs34 := hb.size
         obtain ⟨y0, y1, y2⟩ := row3 HR4.out
         have hcap : n + 1 ≤ cap := own_cap hown8
         have hcap1 : n ≤ cap := by omega
         have hcap2 : (n : Int) ≤ (cap : Int) := by omega
         clear hown8 hg8 hat hown6 hb))
    have HMI := Lib.hid (show RdE w4 w4.heap.size (.slice (some ⟨gb, 0, none⟩) n cap) l by
      have h := RdR.cut (n := n) (rows := enC (l ++ [(0, [111, 119, 110], 0)])) (by rw [enC_len]; exact rde_own HO4.out) (by rw [enC_len, List.length_append, HN.out]; exact Nat.le_add_right _ _)
      have e : (enC (l ++ [(0, [111, 119, 110], 0)])).take n = enC l := by unfold enC; rw [List.map_append, List.take_left' (by rw [List.length_map, HN.out])]
      rwa [e] at h)
    have HCO := Lib.hid (show w4.cell? ⟨gb, n * 3 + 1, none⟩ = some (.string ⟨#[111, 119, 110]⟩) from (own_cell HO4.out (j := n * 3 + 1) (by
      rw [enC_app, List.getElem?_append_right (by rw [enC_flen, HN.out]; omega), enC_flen, HN.out, show n * 3 + 1 - n * 3 = 1 by omega]; rfl)).1)
    have HGB := Lib.hid (HO4.out.lt gb rfl)
    clear y0 y1 y2 hgl
    refine (CA.out _ _ HMI.out h5 (fun _ _ _ h => by injection h with h1 h2 h3; omega)).mono ?_
    rintro e w5 ⟨xm, rfl, hr, hb⟩
    have HB5 := Lib.hid hb
    have HG := Lib.hid (show ∃ g, w4.heap.size ≤ g ∧ (0 < M.length → ∃ c, xm = .slice (some ⟨g, 0, none⟩) M.length c ∧ w5.there g 0 (M.length * 3)) by
      by_cases h0 : 0 < M.length
      · obtain ⟨g, c, e, g1, g2, g3⟩ := own_spot hr (by rw [enC_flen]; omega)
        rw [enC_flen] at g3
        exact ⟨g, g1, fun _ => ⟨c, e, g3⟩⟩
      · exact ⟨w4.heap.size, Nat.le_refl _, fun h => absurd h h0⟩)
    obtain ⟨g, hg1, hg3⟩ := HG.out
    have HG1 := Lib.hid hg1
    have HG3 := Lib.hid hg3
    obtain ⟨Am, cm, rfl⟩ := own_slice hr
    obtain ⟨nm, hnm⟩ : ∃ x, M.length = x := ⟨_, rfl⟩
    rw [hnm] at HG3 HM2 ⊢
    clear HG hg1 hg3 hr hb hnm
    go_wp2_with fail
    go_loopw [12] (fun ii wr => ∃ i : Nat, ii = .int .i64 (i : Int) ∧ i ≤ nm ∧ Aside (SpB g w5 wr)) (fun ii _ => nm - (intOf ii).toNat)
    case atStart => exact ⟨0, rfl, by omega, (show SpB _ _ _ from SpB.refl _ _)⟩
    case round =>
      obtain ⟨i, rfl, him, hsp⟩ := hrel
      have HSP := Lib.hid hsp.out
      clear hsp
      by_cases hin : i < nm
      · have k1 : decide ((i : Int) < (nm : Int)) = true := decide_eq_true (by omega)
        have k2 : decide (i < nm) = true := decide_eq_true hin
        have k3 : (0 : Int) ≤ (i : Int) := by omega
        have k4 : (i : Int) < (nm : Int) := by omega
        have k5 : ((i : Int)).toNat = i := by omega
        obtain ⟨cc, hav, hth⟩ := HG3.out (by omega)
        injection hav with ha1 ha2 ha3
        subst ha1
        obtain ⟨hs1, hs2⟩ := HSP.out.there _ _ _ hth (i * 3 + 1) (by omega)
        rw [Nat.zero_add] at hs1 hs2
        obtain ⟨u0, hu0⟩ := Option.isSome_iff_exists.1 hs1
        have HSP2 := Lib.hid (HSP.out.set (i * 3 + 1) (.string ⟨#[115, 112, 111, 105, 108, 116]⟩))
        clear hth hs1 ha2 ha3
        go_wp2
        go_roundw
        case rel => exact ⟨i + 1, by go_num, by omega, HSP2.out⟩
        case measure => simp [intOf]; omega
      · have k1 : decide ((i : Int) < (nm : Int)) = false := decide_eq_false (by omega)
        have k2 : decide (i < nm) = false := decide_eq_false hin
        obtain ⟨w6, hw6⟩ : ∃ x, x = wr := ⟨_, rfl⟩
        rw [← hw6] at HSP ⊢
        have HB6 := Lib.hid (show Below w4.heap.size w4 w6 from HB5.out.trans (HSP.out.below HG1.out))
        clear hw6 hin him
        go_wp2_with fail
        refine (pSince_any _ l 0 w6 ((HMI.out.below HB6.out).more HB6.out.size) (by rw [HN.out]; omega) HI.out).mono ?_
        rintro e w7 ⟨x7, rfl, -, hb⟩
        have HB7 := Lib.hid (HB6.out.trans (hb.mono HB6.out.size))
        clear hb
        go_wp2_with fail
        refine (rSameE_any _ _ l l w7 ((HMI.out.below HB7.out).more HB7.out.size) ((HWA.out.below' HB7.out (by omega)).more (by have := HB7.out.size; omega)) (by rw [HN.out]; omega)).mono ?_
        rintro e w8 ⟨⟨b, rfl, hx⟩, hb⟩
        obtain rfl : b = true := hx.2 rfl
        have HB8 := Lib.hid (HB7.out.trans (hb.mono HB7.out.size))
        have hco := (HB8.out.cell (p := ⟨gb, n * 3 + 1, none⟩) HGB.out.2).trans HCO.out
        have hi1 : (n : Int) < (n : Int) + 1 := by omega
        have hi2 : n < n + 1 := by omega
        have hi3 : (n : Int) < ((n + 1 : Nat) : Int) := by omega
        clear hx hb
        go_wp2_with fail
        have HWW := Lib.hid (show Below w.heap.size w w8 from HB4.out.trans (HB8.out.mono (Nat.le_of_lt HS4.out)))
        refine (rSameE_any _ _ l l w8 (by have h := HL.out; rw [← HN.out] at h; rw [← HN.out]; exact (h.below HWW.out).more HWW.out.size) ((HWA.out.below' HB8.out (by omega)).more (by have := HB8.out.size; omega)) (by rw [HN.out]; omega)).mono ?_
        rintro e w9 ⟨⟨b, rfl, hx⟩, hb⟩
        obtain rfl : b = true := hx.2 rfl
        have HB9 := Lib.hid (HWW.out.trans (hb.mono HWW.out.size))
        clear hx hb
        go_wp2_with fail
        go_ret
        exact ⟨rfl, HB9.out⟩
  · have t0 : decide ((n : Int) > 300) = true := decide_eq_true (by omega)
    have t1 : decide ((300 : Int) < (n : Int)) = true := decide_eq_true (by omega)
    have t2 : decide (300 < n) = true := decide_eq_true (by omega)
    go_enter Try.func8, Try.ntmps8
    go_wp2_with fail
    rw [← HW0.out]
    go_wp2_with fail
    refine (awake_any17 _).mono ?_
    rintro e w1 ⟨rfl, hb⟩
    have HB1 := Lib.hid (HB0.out.trans (hb.mono HB0.out.size))
    clear hb
    go_wp2_with fail
    go_ret
    exact ⟨rfl, HB1.out⟩
end Go.Proofs.Ytfdibmcjjclgkaa.Tl
