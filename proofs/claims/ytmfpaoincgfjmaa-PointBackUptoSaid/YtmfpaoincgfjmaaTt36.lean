/- Merged: PoBa PoW4. -/
import Derived.Test.YtmfpaoincgfjmaaTt29
import Derived.Test.YtmfpaoincgfjmaaTt34
import Derived.Test.YtmfpaoincgfjmaaTt24
import Derived.Test.YtmfpaoincgfjmaaTt8
import Derived.Test.YtmfpaoincgfjmaaTt35
import Derived.Test.YtmfpaoincgfjmaaTt33
set_option linter.unusedSimpArgs false
namespace Go.Proofs.Ytmfpaoincgfjmaa.Po
open Go.Proofs Go.RowKit
open Go.Proofs.Ytmfpaoincgfjmaa.Utf
open Go.Proofs.Ytmfpaoincgfjmaa.Sc
open Go.Proofs.Ytmfpaoincgfjmaa.Re
open Go.Proofs.Ytmfpaoincgfjmaa.Tr
open Go.Proofs.Ytmfpaoincgfjmaa.Nu
open Go.Proofs.Ytmfpaoincgfjmaa.Em

def RR (W0 : World) (x : V) (E : Nat) (wx : World) : Prop := W0.heap.size ≤ E ∧ ∃ cy : Array Value, wx.heap[E]? = some (.cells cy 36 (0, 0)) ∧ RdA wx 0 wx.heap.size x cy.toList ∧ Below W0.heap.size W0 wx
set_option maxRecDepth 100000 in
set_option maxHeartbeats 1000000 in
theorem back_any (hgt : Nat) : ∀ (v x : V) (cv cx : List Value) (atv : Value) (ats : List (List UInt8)) (w : World), ht x ≤ hgt → RdA w 0 w.heap.size v cv → RdA w 0 w.heap.size x cx → Gd x → szA 140737488355328 v → leadV ats v = some x → RdS w w.heap.size atv ats →
    plen ats + 43 * szU x ≤ 45088768 → Calls Try.prog 16 #[.agg cv.toArray, atv, .agg cx.toArray] w fun e w' => e = .returned (.bool true) ∧ Below w.heap.size w w' := by
  have mixed : Try.prog.follows .mixedOrders = true := by kernel_rfl
  induction hgt with
  | zero => intro v x cv cx atv ats w hh; rw [ht_eq] at hh; omega
  | succ hgt ih =>
    intro v x cv cx atv ats w hh hv hx hgd hzv hld hat hsz
    have hht := ht_eq x
    have hln := len_plen ats
    have htl := ptxt_len ats
    have hlv : leadsV leadV (ptxt ats) v = (x, 0) := by unfold leadsV; rw [prts_ptxt]; simp only [hld]
    have HTX := Lib.hid (fun (W : World) (hW : Below w.heap.size w W) => Text_any atv ats W (hat.below hW hW.size).rd (by omega))
    have HFI := Lib.hid (fun (W : World) (hW : Below w.heap.size w W) => Find_any v cv (ptxt ats) W (hv.below hW (Nat.le_refl _) hW.size) hzv (by omega))
    rw [hlv] at HFI
    have HSM := Lib.hid (fun (ca cb : List Value) (W : World) (ha : RdA W 0 W.heap.size x ca) (hb : RdA W 0 W.heap.size x cb) => same_self x ca cb W (Em.szA_more (by omega) _ hgd.2.2.2) ha hb)
    have HAT := Lib.hid hat
    have HX := Lib.hid hx
    have HBL := Lib.hid (show ∀ (i : Nat) (hi : i < x.l.length) (cc : List Value) (at2 : Value) (W : World), Below w.heap.size w W → RdA W 0 W.heap.size x.l[i] cc → RdS W W.heap.size at2 (ats ++ [putL i]) → Calls Try.prog 16 #[.agg cv.toArray, at2, .agg cc.toArray] W fun e w' => e = .returned (.bool true) ∧ Below W.heap.size W w' from fun i hi cc at2 W hW hr hs => by
      obtain ⟨g1, g2, g3, _⟩ := hgd.l i hi
      exact ih v x.l[i] cv cc at2 _ W (by have := htL_mem (List.getElem_mem hi); omega) (hv.below hW (Nat.le_refl _) hW.size) hr g1 hzv (lead_ext hld g2) hs (by have := putL_len8 i; rw [plen_snoc]; omega))
    have HBM := Lib.hid (show ∀ (i : Nat) (hi : i < x.ms.length) (hn : i < x.ns.length) (cc : List Value) (at2 : Value) (W : World), Below w.heap.size w W → RdA W 0 W.heap.size x.ms[i] cc → RdS W W.heap.size at2 (ats ++ [x.ns[i]]) → Calls Try.prog 16 #[.agg cv.toArray, at2, .agg cc.toArray] W fun e w' => e = .returned (.bool true) ∧ Below W.heap.size W w' from fun i hi hn cc at2 W hW hr hs => by
      obtain ⟨g1, g2, g3⟩ := hgd.m i hi hn
      exact ih v x.ms[i] cv cc at2 _ W (by have := htL_mem (List.getElem_mem hi); omega) (hv.below hW (Nat.le_refl _) hW.size) hr g1 hzv (lead_ext hld g2) hs (by rw [plen_snoc]; omega))
    have HLI := Lib.hid (fun i (hi : i < x.l.length) => (hgd.l i hi).2.2.2)
    have HNA := Lib.hid (show ats.length ≤ 45088768 by omega)
    have hcx := len_cntL x.l
    have hcm := len_cntL x.ms
    have hce := cnt_eq x
    have hlb : x.l.length ≤ 8192 := by have := hgd.2.2.1; omega
    have hmb : x.ms.length ≤ 8192 := by have := hgd.2.2.1; omega
    obtain ⟨vA, vc, vB, vd, rfl, -⟩ := hv.cells
    obtain ⟨xA, xc, xB, xd, rfl, hxn, hxL, hxM⟩ := hx.cells
    have HXL := Lib.hid hxL
    have HXM := Lib.hid hxM
    have HXN := Lib.hid hxn
    obtain ⟨tA, tc, rfl, htc, htx⟩ := hat
    have HTX0 := Lib.hid htx
    obtain ⟨i1, hj, hy0, hy1, hy2⟩ := info_parts infoStr
    have J0 := Lib.hid hj
    have J1 := Lib.hid hy0
    have J2 := Lib.hid hy1
    have J3 := Lib.hid hy2
    clear hj hy0 hy1 hy2 htc htx
    clear ih hh hv hx hgd hzv hld hsz hht hln htl hlv hxL hxM hxn hcx hcm hce
    generalize v.k = vk at *
    generalize v.n = vn at *
    generalize strOf v.s = vS at *
    generalize v.l.length = vl at *
    generalize v.ms.length = vm at *
    obtain ⟨W0, hW0⟩ : ∃ W0, W0 = ((w.alloc (.cells #[.int .i64 vk, .int .i64 vn, .string vS, .slice vA vl vc, .slice vB vm vd] 36)).alloc (.cells #[.int .i64 x.k, .int .i64 x.n, .string (strOf x.s), .slice xA x.l.length xc, .slice xB x.ms.length xd] 36)) := ⟨_, rfl⟩
    have HB0 := Lib.hid (show Below w.heap.size w W0 by rw [hW0]; exact ((Below.refl _ _).alloc (Nat.le_refl _) _).alloc (by simp) _)
    have HS0 := Lib.hid (show W0.heap.size = w.heap.size + 2 by rw [hW0, szAl, szAl])
    have HV0 := Lib.hid (show W0.heap[w.heap.size]? = some (.cells #[.int .i64 vk, .int .i64 vn, .string vS, .slice vA vl vc, .slice vB vm vd] 36 (0, 0)) by rw [hW0]; exact heapOld (heapNew _ _) _)
    have HX0 := Lib.hid (show W0.heap[w.heap.size + 1]? = some (.cells #[.int .i64 x.k, .int .i64 x.n, .string (strOf x.s), .slice xA x.l.length xc, .slice xB x.ms.length xd] 36 (0, 0)) by
      rw [hW0, show w.heap.size + 1 = (w.alloc (.cells #[.int .i64 vk, .int .i64 vn, .string vS, .slice vA vl vc, .slice vB vm vd] 36)).heap.size by simp]; exact heapNew _ _)
    have HW0 := Lib.hid hW0
    clear hW0
    have HTX := Lib.hid (fun (W : World) (hW : Below W0.heap.size W0 W) => HTX.out W (HB0.out.trans (hW.mono HB0.out.size)))
    have HFI := Lib.hid (fun (W : World) (hW : Below W0.heap.size W0 W) => HFI.out W (HB0.out.trans (hW.mono HB0.out.size)))
    go_enter Try.func16, Try.ntmps16
    go_upto_region 1 with fail
    rw [← HW0.out]
    go_cut [7, 8] (fun p7 e8 wx => ∃ E, p7 = .pointer (some ⟨E, 0, none⟩) ∧ e8 = .int .i64 0 ∧ Aside (RR W0 x E wx))
    case first =>
      refine wp_region_held_drew (S := fun W' => W'.heap[w.heap.size]? = some (.cells #[.int .i64 vk, .int .i64 vn, .string vS, .slice vA vl vc, .slice vB vm vd] 36 (0, 0))) (by kernel_rfl) (HV0.out) (fun hHeld => ?_)
      refine wpAnyH_take (i := 0) (oi := { dst := some 14, op := Op.load 36 (Operand.tmp 3), type := 36, pos := "law.go:54", after := #[], guard := none }) (v := ?_) rfl (by kernel_rfl) (by kernel_rfl) (by kernel_rfl) (fun _ _ _ h => h) (Or.inl ⟨by rfl, ?_⟩) hHeld ?_
      rotate_left
      · intro w hSw; (try dsimp only at hSw); obtain ⟨⟨p0, p1, p2, p3, p4⟩, -⟩ := row5 hSw; go_simp; with_reducible rfl
      try simp only [Act.put, List.setIfInBounds_toArray, List.set_cons_zero, List.set_cons_succ]
      refine wpAnyH_take (i := 1) (oi := { dst := some 15, op := Op.move (Operand.tmp 1), type := 22, pos := "law.go:54", after := #[], guard := none }) (v := ?_) rfl (by kernel_rfl) (by kernel_rfl) (by kernel_rfl) (fun _ _ _ h => h) (Or.inl ⟨by rfl, ?_⟩) hHeld ?_
      rotate_left
      · intro w hSw; (try dsimp only at hSw); go_simp; with_reducible rfl
      try simp only [Act.put, List.setIfInBounds_toArray, List.set_cons_zero, List.set_cons_succ]
      refine wpAnyH_ready (rs := [2, 7]) (by kernel_rfl) (by simp) ?_
      refine AllReadyH.cons (o := { dst := some 16, op := Op.call { callee := Callee.value (Operand.func 12), args := #[Operand.tmp 15], argTypes := #[22] }, type := 9, pos := "law.go:54", after := #[{ on := 1, ground := Ground.data }], guard := none }) rfl (fun K hK => ?_) (AllReadyH.cons (o := { dst := some 7, op := Op.alloc 36, type := 0, pos := "law.go:54", after := #[], guard := none }) rfl (fun K hK => ?_) AllReadyH.nil)
      · go_simp
        go_at_call 12
        refine (HTX.out _ (Below.drew (Below.refl W0.heap.size W0))).mono ?_
        rintro e u1 ⟨rfl, hb1⟩
        have HU1 := Lib.hid (show Below W0.heap.size W0 u1 from (Below.drew (Below.refl W0.heap.size W0)).trans (hb1.mono (Below.drew (Below.refl W0.heap.size W0)).size))
        refine hK.out _ _ (((HU1.out).block w.heap.size (by rw [HS0.out]; omega)).trans HV0.out) (fun hHeld => ?_)
        clear hK K
        try simp only [Act.put, List.setIfInBounds_toArray, List.set_cons_zero, List.set_cons_succ]
        clear hb1
        refine wpAnyH_ready (rs := [3, 7]) (by kernel_rfl) (by simp) ?_
        refine AllReadyH.cons (o := { dst := some 17, op := Op.call { callee := Callee.value (Operand.func 17), args := #[Operand.tmp 14, Operand.tmp 16], argTypes := #[36, 9] }, type := 41, pos := "law.go:54", after := #[{ on := 0, ground := Ground.data }, { on := 2, ground := Ground.data }, { on := 2, ground := Ground.chain }], guard := none }) rfl (fun K hK => ?_) (AllReadyH.cons (o := { dst := some 7, op := Op.alloc 36, type := 0, pos := "law.go:54", after := #[], guard := none }) rfl (fun K hK => ?_) AllReadyH.nil)
        · go_simp
          go_at_call 17
          refine (HFI.out _ (HU1.out)).mono ?_
          rintro e u2 ⟨⟨cy, rfl, hcy⟩, hb2⟩
          have HU2 := Lib.hid (show Below W0.heap.size W0 u2 from (HU1.out).trans (hb2.mono (HU1.out).size))
          obtain ⟨yA, yc, yB, yd, rfl, -⟩ := hcy.cells
          have HCY := Lib.hid (show RdA u2 0 u2.heap.size x _ from RdA.keep (fun _ _ _ => rfl) (Nat.zero_le _) (Nat.le_refl _) _ _ hcy)
          clear hcy hb2
          refine hK.out _ _ (((HU2.out).block w.heap.size (by rw [HS0.out]; omega)).trans HV0.out) (fun hHeld => ?_)
          clear hK K
          try simp only [Act.put, List.setIfInBounds_toArray, List.set_cons_zero, List.set_cons_succ]
          refine wpAnyH_take (i := 4) (oi := { dst := some 13, op := Op.move (Operand.tmp 17), type := 41, pos := "law.go:54", after := #[{ on := 3, ground := Ground.data }], guard := none }) (v := ?_) rfl (by kernel_rfl) (by kernel_rfl) (by kernel_rfl) (fun _ _ _ h => h) (Or.inl ⟨by rfl, ?_⟩) hHeld ?_
          rotate_left
          · intro w hSw; (try dsimp only at hSw); go_simp; with_reducible rfl
          try simp only [Act.put, List.setIfInBounds_toArray, List.set_cons_zero, List.set_cons_succ]
          refine wpAnyH_take (i := 5) (oi := { dst := some 18, op := Op.extract (Operand.tmp 13) 0, type := 36, pos := "law.go:54", after := #[{ on := 4, ground := Ground.data }], guard := none }) (v := ?_) rfl (by kernel_rfl) (by kernel_rfl) (by kernel_rfl) (fun _ _ _ h => h) (Or.inl ⟨by rfl, ?_⟩) hHeld ?_
          rotate_left
          · intro w hSw; (try dsimp only at hSw); go_simp; with_reducible rfl
          try simp only [Act.put, List.setIfInBounds_toArray, List.set_cons_zero, List.set_cons_succ]
          refine wpAnyH_take (i := 6) (oi := { dst := some 19, op := Op.extract (Operand.tmp 13) 1, type := 23, pos := "law.go:54", after := #[{ on := 4, ground := Ground.data }, { on := 8, ground := Ground.gcOnly Departure.lateStores }], guard := none }) (v := ?_) rfl (by kernel_rfl) (by kernel_rfl) (by kernel_rfl) (fun _ _ _ h => h) (Or.inl ⟨by rfl, ?_⟩) hHeld ?_
          rotate_left
          · intro w hSw; (try dsimp only at hSw); go_simp; with_reducible rfl
          try simp only [Act.put, List.setIfInBounds_toArray, List.set_cons_zero, List.set_cons_succ]
          refine wpAnyH_ready (rs := [7]) (by kernel_rfl) (by simp) ?_
          refine AllReadyH.cons (o := { dst := some 7, op := Op.alloc 36, type := 0, pos := "law.go:54", after := #[], guard := none }) rfl (fun K hK => ?_) AllReadyH.nil
          have HZ := Lib.hid (heapNew u2 (.cells #[.int .i64 0, .int .i64 0, .string ⟨#[]⟩, .slice none 0 0, .slice none 0 0] 36))
          go_simp
          refine hK.out _ _ (heapOld hHeld _) (fun hHeld => ?_)
          clear hK K
          try simp only [Act.put, List.setIfInBounds_toArray, List.set_cons_zero, List.set_cons_succ]
          refine wpAnyH_ready (rs := [8]) (by kernel_rfl) (by simp) ?_
          refine AllReadyH.cons (o := { dst := none, op := Op.store 36 (Operand.tmp 7) (Operand.tmp 18), type := 0, pos := "law.go:54", after := #[{ on := 7, ground := Ground.data }, { on := 5, ground := Ground.data }, { on := 3, ground := Ground.chain }, { on := 0, ground := Ground.phase }, { on := 1, ground := Ground.phase }, { on := 2, ground := Ground.phase }, { on := 3, ground := Ground.phase }, { on := 4, ground := Ground.phase }, { on := 5, ground := Ground.phase }, { on := 6, ground := Ground.textOnly Departure.lateStores }, { on := 7, ground := Ground.phase }], guard := none }) rfl (fun K hK => ?_) AllReadyH.nil
          obtain ⟨⟨z0, z1, z2, z3, z4⟩, ⟨y0, y1, y2, y3, y4⟩⟩ := row5 HZ.out
          go_simp
          clear z0 z1 z2 z3 z4 y0 y1 y2 y3 y4
          obtain ⟨W3, hW3⟩ : ∃ W3, W3 = u2.alloc (.cells #[.int .i64 x.k, .int .i64 x.n, .string (strOf x.s), .slice yA x.l.length yc, .slice yB x.ms.length yd] 36) := ⟨_, rfl⟩
          obtain ⟨E, hE⟩ : ∃ E, E = u2.heap.size := ⟨_, rfl⟩
          have HX3 := Lib.hid (show W3.heap[E]? = some (.cells #[.int .i64 x.k, .int .i64 x.n, .string (strOf x.s), .slice yA x.l.length yc, .slice yB x.ms.length yd] 36 (0, 0)) by rw [hW3, hE]; exact heapNew _ _)
          have HB3 := Lib.hid (show Below W0.heap.size W0 W3 by rw [hW3]; exact HU2.out.alloc HU2.out.size _)
          have HC3 := Lib.hid (show RdA W3 0 W3.heap.size x [.int .i64 x.k, .int .i64 x.n, .string (strOf x.s), .slice yA x.l.length yc, .slice yB x.ms.length yd] by rw [hW3]; exact HCY.out.below ((Below.refl _ _).alloc (Nat.le_refl _) _) (Nat.le_refl _) (by simp))
          have HE := Lib.hid (show w.heap.size + 2 ≤ E by rw [hE, ← HS0.out]; exact HU2.out.size)
          rw [← hW3, ← hE]
          clear hW3 hE HZ
          refine hK.out _ _ (((HB3.out).block w.heap.size (by rw [HS0.out]; omega)).trans HV0.out) (fun hHeld => ?_)
          clear hK K
          try simp only [Act.put, List.setIfInBounds_toArray, List.set_cons_zero, List.set_cons_succ]
          refine wpAnyH_take (i := 9) (oi := { dst := some 8, op := Op.assign (Operand.tmp 19), type := 23, pos := "law.go:54", after := #[{ on := 6, ground := Ground.data }, { on := 8, ground := Ground.chain }, { on := 0, ground := Ground.phase }, { on := 1, ground := Ground.phase }, { on := 2, ground := Ground.phase }, { on := 3, ground := Ground.phase }, { on := 4, ground := Ground.phase }, { on := 5, ground := Ground.phase }, { on := 6, ground := Ground.phase }, { on := 7, ground := Ground.phase }, { on := 8, ground := Ground.phase }], guard := none }) (v := ?_) rfl (by kernel_rfl) (by kernel_rfl) (by kernel_rfl) (fun _ _ _ h => h) (Or.inl ⟨by rfl, ?_⟩) hHeld ?_
          rotate_left
          · intro w hSw; (try dsimp only at hSw); go_simp; with_reducible rfl
          try simp only [Act.put, List.setIfInBounds_toArray, List.set_cons_zero, List.set_cons_succ]
          refine wpAnyH_done (by kernel_rfl) ?_ _
          clear hHeld
          go_wp2_with fail
          go_meet
          refine ⟨E, rfl, rfl, (show RR _ _ _ _ from ⟨by rw [HS0.out]; exact HE.out, _, HX3.out, HC3.out, HB3.out⟩)⟩
        · have hzz := heapNew u1 (.cells #[.int .i64 0, .int .i64 0, .string ⟨#[]⟩, .slice none 0 0, .slice none 0 0] 36)
          go_simp
          obtain ⟨UL, hUL⟩ : ∃ UL, UL = u1.alloc (.cells #[.int .i64 0, .int .i64 0, .string ⟨#[]⟩, .slice none 0 0, .slice none 0 0] 36) := ⟨_, rfl⟩
          obtain ⟨EB, hEB⟩ : ∃ EB, EB = u1.heap.size := ⟨_, rfl⟩
          have HA1 := Lib.hid (show Below W0.heap.size W0 UL by rw [hUL]; exact HU1.out.alloc HU1.out.size _)
          have HZE := Lib.hid (show UL.heap[EB]? = some (.cells #[.int .i64 0, .int .i64 0, .string ⟨#[]⟩, .slice none 0 0, .slice none 0 0] 36 (0, 0)) by rw [hUL, hEB]; exact hzz)
          have HEB := Lib.hid (show W0.heap.size ≤ EB by rw [hEB]; exact HU1.out.size)
          have HEL := Lib.hid (show EB < UL.heap.size by rw [hUL, hEB]; simp)
          rw [← hUL, ← hEB]
          clear hUL hEB hzz
          refine hK.out _ _ (((HA1.out).block w.heap.size (by rw [HS0.out]; omega)).trans HV0.out) (fun hHeld => ?_)
          clear hK K
          try simp only [Act.put, List.setIfInBounds_toArray, List.set_cons_zero, List.set_cons_succ]
          refine wpAnyH_ready (rs := [3]) (by kernel_rfl) (by simp) ?_
          refine AllReadyH.cons (o := { dst := some 17, op := Op.call { callee := Callee.value (Operand.func 17), args := #[Operand.tmp 14, Operand.tmp 16], argTypes := #[36, 9] }, type := 41, pos := "law.go:54", after := #[{ on := 0, ground := Ground.data }, { on := 2, ground := Ground.data }, { on := 2, ground := Ground.chain }], guard := none }) rfl (fun K hK => ?_) AllReadyH.nil
          go_simp
          go_at_call 17
          refine (HFI.out _ (HA1.out)).mono ?_
          rintro e u2 ⟨⟨cy, rfl, hcy⟩, hb2⟩
          have HU2 := Lib.hid (show Below W0.heap.size W0 u2 from (HA1.out).trans (hb2.mono (HA1.out).size))
          obtain ⟨yA, yc, yB, yd, rfl, -⟩ := hcy.cells
          have HCY := Lib.hid (show RdA u2 0 u2.heap.size x _ from RdA.keep (fun _ _ _ => rfl) (Nat.zero_le _) (Nat.le_refl _) _ _ hcy)
          have hz2 := (hb2.block EB (HEL.out)).trans HZE.out
          have HZ2 := Lib.hid hz2
          have hy2 := hcy
          have HY2 := Lib.hid (show RdA u2 UL.heap.size u2.heap.size x _ from hcy)
          clear hcy hb2 hz2 hy2
          refine hK.out _ _ (((HU2.out).block w.heap.size (by rw [HS0.out]; omega)).trans HV0.out) (fun hHeld => ?_)
          clear hK K
          try simp only [Act.put, List.setIfInBounds_toArray, List.set_cons_zero, List.set_cons_succ]
          refine wpAnyH_take (i := 4) (oi := { dst := some 13, op := Op.move (Operand.tmp 17), type := 41, pos := "law.go:54", after := #[{ on := 3, ground := Ground.data }], guard := none }) (v := ?_) rfl (by kernel_rfl) (by kernel_rfl) (by kernel_rfl) (fun _ _ _ h => h) (Or.inl ⟨by rfl, ?_⟩) hHeld ?_
          rotate_left
          · intro w hSw; (try dsimp only at hSw); go_simp; with_reducible rfl
          try simp only [Act.put, List.setIfInBounds_toArray, List.set_cons_zero, List.set_cons_succ]
          refine wpAnyH_take (i := 5) (oi := { dst := some 18, op := Op.extract (Operand.tmp 13) 0, type := 36, pos := "law.go:54", after := #[{ on := 4, ground := Ground.data }], guard := none }) (v := ?_) rfl (by kernel_rfl) (by kernel_rfl) (by kernel_rfl) (fun _ _ _ h => h) (Or.inl ⟨by rfl, ?_⟩) hHeld ?_
          rotate_left
          · intro w hSw; (try dsimp only at hSw); go_simp; with_reducible rfl
          try simp only [Act.put, List.setIfInBounds_toArray, List.set_cons_zero, List.set_cons_succ]
          refine wpAnyH_take (i := 6) (oi := { dst := some 19, op := Op.extract (Operand.tmp 13) 1, type := 23, pos := "law.go:54", after := #[{ on := 4, ground := Ground.data }, { on := 8, ground := Ground.gcOnly Departure.lateStores }], guard := none }) (v := ?_) rfl (by kernel_rfl) (by kernel_rfl) (by kernel_rfl) (fun _ _ _ h => h) (Or.inl ⟨by rfl, ?_⟩) hHeld ?_
          rotate_left
          · intro w hSw; (try dsimp only at hSw); go_simp; with_reducible rfl
          try simp only [Act.put, List.setIfInBounds_toArray, List.set_cons_zero, List.set_cons_succ]
          refine wpAnyH_ready (rs := [8]) (by kernel_rfl) (by simp) ?_
          refine AllReadyH.cons (o := { dst := none, op := Op.store 36 (Operand.tmp 7) (Operand.tmp 18), type := 0, pos := "law.go:54", after := #[{ on := 7, ground := Ground.data }, { on := 5, ground := Ground.data }, { on := 3, ground := Ground.chain }, { on := 0, ground := Ground.phase }, { on := 1, ground := Ground.phase }, { on := 2, ground := Ground.phase }, { on := 3, ground := Ground.phase }, { on := 4, ground := Ground.phase }, { on := 5, ground := Ground.phase }, { on := 6, ground := Ground.textOnly Departure.lateStores }, { on := 7, ground := Ground.phase }], guard := none }) rfl (fun K hK => ?_) AllReadyH.nil
          obtain ⟨⟨z0, z1, z2, z3, z4⟩, ⟨y0, y1, y2, y3, y4⟩⟩ := row5 HZ2.out
          go_simp
          clear z0 z1 z2 z3 z4 y0 y1 y2 y3 y4
          obtain ⟨W3, hW3⟩ : ∃ W3, W3 = (((((u2.setCell ⟨EB, 0, none⟩ (.int .i64 x.k)).setCell ⟨EB, 1, none⟩ (.int .i64 x.n)).setCell ⟨EB, 2, none⟩ (.string (strOf x.s))).setCell ⟨EB, 3, none⟩ (.slice yA x.l.length yc)).setCell ⟨EB, 4, none⟩ (.slice yB x.ms.length yd)) := ⟨_, rfl⟩
          obtain ⟨E, hE⟩ : ∃ E, E = EB := ⟨_, rfl⟩
          have HX3 := Lib.hid (show W3.heap[E]? = some (.cells #[.int .i64 x.k, .int .i64 x.n, .string (strOf x.s), .slice yA x.l.length yc, .slice yB x.ms.length yd] 36 (0, 0)) by rw [hW3, hE]; exact st5_row HZ2.out _ _ _ _ _)
          have HB3 := Lib.hid (show Below W0.heap.size W0 W3 by rw [hW3]; exact st5_below HU2.out HEB.out _ _ _ _ _)
          have HC3 := Lib.hid (show RdA W3 0 W3.heap.size x [.int .i64 x.k, .int .i64 x.n, .string (strOf x.s), .slice yA x.l.length yc, .slice yB x.ms.length yd] by
            rw [hW3]
            exact RdA.keep (fun p h1 _ => cell_of_blk (st5_other (by have := HEL.out; omega) _ _ _ _ _)) (Nat.zero_le _) (Nat.le_of_eq (st5_size (w := u2) (b := EB) _ _ _ _ _).symm) _ _ HY2.out)
          have HE := Lib.hid (show w.heap.size + 2 ≤ E by rw [hE, ← HS0.out]; exact HEB.out)
          rw [← hW3, ← hE]
          clear hW3 hE HZ2
          refine hK.out _ _ (((HB3.out).block w.heap.size (by rw [HS0.out]; omega)).trans HV0.out) (fun hHeld => ?_)
          clear hK K
          try simp only [Act.put, List.setIfInBounds_toArray, List.set_cons_zero, List.set_cons_succ]
          refine wpAnyH_take (i := 9) (oi := { dst := some 8, op := Op.assign (Operand.tmp 19), type := 23, pos := "law.go:54", after := #[{ on := 6, ground := Ground.data }, { on := 8, ground := Ground.chain }, { on := 0, ground := Ground.phase }, { on := 1, ground := Ground.phase }, { on := 2, ground := Ground.phase }, { on := 3, ground := Ground.phase }, { on := 4, ground := Ground.phase }, { on := 5, ground := Ground.phase }, { on := 6, ground := Ground.phase }, { on := 7, ground := Ground.phase }, { on := 8, ground := Ground.phase }], guard := none }) (v := ?_) rfl (by kernel_rfl) (by kernel_rfl) (by kernel_rfl) (fun _ _ _ h => h) (Or.inl ⟨by rfl, ?_⟩) hHeld ?_
          rotate_left
          · intro w hSw; (try dsimp only at hSw); go_simp; with_reducible rfl
          try simp only [Act.put, List.setIfInBounds_toArray, List.set_cons_zero, List.set_cons_succ]
          refine wpAnyH_done (by kernel_rfl) ?_ _
          clear hHeld
          go_wp2_with fail
          go_meet
          refine ⟨E, rfl, rfl, (show RR _ _ _ _ from ⟨by rw [HS0.out]; exact HE.out, _, HX3.out, HC3.out, HB3.out⟩)⟩
      · have hzz := heapNew W0 (.cells #[.int .i64 0, .int .i64 0, .string ⟨#[]⟩, .slice none 0 0, .slice none 0 0] 36)
        go_simp
        obtain ⟨UZ, hUZ⟩ : ∃ UZ, UZ = (W0.alloc (.cells #[.int .i64 0, .int .i64 0, .string ⟨#[]⟩, .slice none 0 0, .slice none 0 0] 36)).drew := ⟨_, rfl⟩
        obtain ⟨EB, hEB⟩ : ∃ EB, EB = W0.heap.size := ⟨_, rfl⟩
        have HA0 := Lib.hid (show Below W0.heap.size W0 UZ by rw [hUZ]; exact ((Below.refl _ _).alloc (Nat.le_refl _) _).drew)
        have HZ0 := Lib.hid (show UZ.heap[EB]? = some (.cells #[.int .i64 0, .int .i64 0, .string ⟨#[]⟩, .slice none 0 0, .slice none 0 0] 36 (0, 0)) by rw [hUZ, hEB]; exact hzz)
        have HEB := Lib.hid (show W0.heap.size ≤ EB by rw [hEB]; exact Nat.le_refl _)
        have HEL0 := Lib.hid (show EB < UZ.heap.size by rw [hUZ, hEB]; show W0.heap.size < (W0.alloc _).heap.size; simp)
        rw [← hUZ, ← hEB]
        clear hUZ hEB hzz
        refine hK.out _ _ (((HA0.out).block w.heap.size (by rw [HS0.out]; omega)).trans HV0.out) (fun hHeld => ?_)
        clear hK K
        try simp only [Act.put, List.setIfInBounds_toArray, List.set_cons_zero, List.set_cons_succ]
        refine wpAnyH_ready (rs := [2]) (by kernel_rfl) (by simp) ?_
        refine AllReadyH.cons (o := { dst := some 16, op := Op.call { callee := Callee.value (Operand.func 12), args := #[Operand.tmp 15], argTypes := #[22] }, type := 9, pos := "law.go:54", after := #[{ on := 1, ground := Ground.data }], guard := none }) rfl (fun K hK => ?_) AllReadyH.nil
        go_simp
        go_at_call 12
        refine (HTX.out _ (HA0.out)).mono ?_
        rintro e u1 ⟨rfl, hb1⟩
        have HZE := Lib.hid ((hb1.block EB HEL0.out).trans HZ0.out)
        have HEL := Lib.hid (Nat.lt_of_lt_of_le HEL0.out hb1.size)
        have HU1 := Lib.hid (show Below W0.heap.size W0 u1 from (HA0.out).trans (hb1.mono (HA0.out).size))
        refine hK.out _ _ (((HU1.out).block w.heap.size (by rw [HS0.out]; omega)).trans HV0.out) (fun hHeld => ?_)
        clear hK K
        try simp only [Act.put, List.setIfInBounds_toArray, List.set_cons_zero, List.set_cons_succ]
        have HA1 := Lib.hid HU1.out
        obtain ⟨UL, hUL⟩ : ∃ UL, UL = u1 := ⟨_, rfl⟩
        rw [← hUL] at HZE HEL HA1 HU1 hb1 hHeld ⊢
        clear hUL hb1
        refine wpAnyH_ready (rs := [3]) (by kernel_rfl) (by simp) ?_
        refine AllReadyH.cons (o := { dst := some 17, op := Op.call { callee := Callee.value (Operand.func 17), args := #[Operand.tmp 14, Operand.tmp 16], argTypes := #[36, 9] }, type := 41, pos := "law.go:54", after := #[{ on := 0, ground := Ground.data }, { on := 2, ground := Ground.data }, { on := 2, ground := Ground.chain }], guard := none }) rfl (fun K hK => ?_) AllReadyH.nil
        go_simp
        go_at_call 17
        refine (HFI.out _ (HA1.out)).mono ?_
        rintro e u2 ⟨⟨cy, rfl, hcy⟩, hb2⟩
        have HU2 := Lib.hid (show Below W0.heap.size W0 u2 from (HA1.out).trans (hb2.mono (HA1.out).size))
        obtain ⟨yA, yc, yB, yd, rfl, -⟩ := hcy.cells
        have HCY := Lib.hid (show RdA u2 0 u2.heap.size x _ from RdA.keep (fun _ _ _ => rfl) (Nat.zero_le _) (Nat.le_refl _) _ _ hcy)
        have hz2 := (hb2.block EB (HEL.out)).trans HZE.out
        have HZ2 := Lib.hid hz2
        have hy2 := hcy
        have HY2 := Lib.hid (show RdA u2 UL.heap.size u2.heap.size x _ from hcy)
        clear hcy hb2 hz2 hy2
        refine hK.out _ _ (((HU2.out).block w.heap.size (by rw [HS0.out]; omega)).trans HV0.out) (fun hHeld => ?_)
        clear hK K
        try simp only [Act.put, List.setIfInBounds_toArray, List.set_cons_zero, List.set_cons_succ]
        refine wpAnyH_take (i := 4) (oi := { dst := some 13, op := Op.move (Operand.tmp 17), type := 41, pos := "law.go:54", after := #[{ on := 3, ground := Ground.data }], guard := none }) (v := ?_) rfl (by kernel_rfl) (by kernel_rfl) (by kernel_rfl) (fun _ _ _ h => h) (Or.inl ⟨by rfl, ?_⟩) hHeld ?_
        rotate_left
        · intro w hSw; (try dsimp only at hSw); go_simp; with_reducible rfl
        try simp only [Act.put, List.setIfInBounds_toArray, List.set_cons_zero, List.set_cons_succ]
        refine wpAnyH_take (i := 5) (oi := { dst := some 18, op := Op.extract (Operand.tmp 13) 0, type := 36, pos := "law.go:54", after := #[{ on := 4, ground := Ground.data }], guard := none }) (v := ?_) rfl (by kernel_rfl) (by kernel_rfl) (by kernel_rfl) (fun _ _ _ h => h) (Or.inl ⟨by rfl, ?_⟩) hHeld ?_
        rotate_left
        · intro w hSw; (try dsimp only at hSw); go_simp; with_reducible rfl
        try simp only [Act.put, List.setIfInBounds_toArray, List.set_cons_zero, List.set_cons_succ]
        refine wpAnyH_take (i := 6) (oi := { dst := some 19, op := Op.extract (Operand.tmp 13) 1, type := 23, pos := "law.go:54", after := #[{ on := 4, ground := Ground.data }, { on := 8, ground := Ground.gcOnly Departure.lateStores }], guard := none }) (v := ?_) rfl (by kernel_rfl) (by kernel_rfl) (by kernel_rfl) (fun _ _ _ h => h) (Or.inl ⟨by rfl, ?_⟩) hHeld ?_
        rotate_left
        · intro w hSw; (try dsimp only at hSw); go_simp; with_reducible rfl
        try simp only [Act.put, List.setIfInBounds_toArray, List.set_cons_zero, List.set_cons_succ]
        refine wpAnyH_ready (rs := [8]) (by kernel_rfl) (by simp) ?_
        refine AllReadyH.cons (o := { dst := none, op := Op.store 36 (Operand.tmp 7) (Operand.tmp 18), type := 0, pos := "law.go:54", after := #[{ on := 7, ground := Ground.data }, { on := 5, ground := Ground.data }, { on := 3, ground := Ground.chain }, { on := 0, ground := Ground.phase }, { on := 1, ground := Ground.phase }, { on := 2, ground := Ground.phase }, { on := 3, ground := Ground.phase }, { on := 4, ground := Ground.phase }, { on := 5, ground := Ground.phase }, { on := 6, ground := Ground.textOnly Departure.lateStores }, { on := 7, ground := Ground.phase }], guard := none }) rfl (fun K hK => ?_) AllReadyH.nil
        obtain ⟨⟨z0, z1, z2, z3, z4⟩, ⟨y0, y1, y2, y3, y4⟩⟩ := row5 HZ2.out
        go_simp
        clear z0 z1 z2 z3 z4 y0 y1 y2 y3 y4
        obtain ⟨W3, hW3⟩ : ∃ W3, W3 = (((((u2.setCell ⟨EB, 0, none⟩ (.int .i64 x.k)).setCell ⟨EB, 1, none⟩ (.int .i64 x.n)).setCell ⟨EB, 2, none⟩ (.string (strOf x.s))).setCell ⟨EB, 3, none⟩ (.slice yA x.l.length yc)).setCell ⟨EB, 4, none⟩ (.slice yB x.ms.length yd)) := ⟨_, rfl⟩
        obtain ⟨E, hE⟩ : ∃ E, E = EB := ⟨_, rfl⟩
        have HX3 := Lib.hid (show W3.heap[E]? = some (.cells #[.int .i64 x.k, .int .i64 x.n, .string (strOf x.s), .slice yA x.l.length yc, .slice yB x.ms.length yd] 36 (0, 0)) by rw [hW3, hE]; exact st5_row HZ2.out _ _ _ _ _)
        have HB3 := Lib.hid (show Below W0.heap.size W0 W3 by rw [hW3]; exact st5_below HU2.out HEB.out _ _ _ _ _)
        have HC3 := Lib.hid (show RdA W3 0 W3.heap.size x [.int .i64 x.k, .int .i64 x.n, .string (strOf x.s), .slice yA x.l.length yc, .slice yB x.ms.length yd] by
          rw [hW3]
          exact RdA.keep (fun p h1 _ => cell_of_blk (st5_other (by have := HEL.out; omega) _ _ _ _ _)) (Nat.zero_le _) (Nat.le_of_eq (st5_size (w := u2) (b := EB) _ _ _ _ _).symm) _ _ HY2.out)
        have HE := Lib.hid (show w.heap.size + 2 ≤ E by rw [hE, ← HS0.out]; exact HEB.out)
        rw [← hW3, ← hE]
        clear hW3 hE HZ2
        refine hK.out _ _ (((HB3.out).block w.heap.size (by rw [HS0.out]; omega)).trans HV0.out) (fun hHeld => ?_)
        clear hK K
        try simp only [Act.put, List.setIfInBounds_toArray, List.set_cons_zero, List.set_cons_succ]
        refine wpAnyH_take (i := 9) (oi := { dst := some 8, op := Op.assign (Operand.tmp 19), type := 23, pos := "law.go:54", after := #[{ on := 6, ground := Ground.data }, { on := 8, ground := Ground.chain }, { on := 0, ground := Ground.phase }, { on := 1, ground := Ground.phase }, { on := 2, ground := Ground.phase }, { on := 3, ground := Ground.phase }, { on := 4, ground := Ground.phase }, { on := 5, ground := Ground.phase }, { on := 6, ground := Ground.phase }, { on := 7, ground := Ground.phase }, { on := 8, ground := Ground.phase }], guard := none }) (v := ?_) rfl (by kernel_rfl) (by kernel_rfl) (by kernel_rfl) (fun _ _ _ h => h) (Or.inl ⟨by rfl, ?_⟩) hHeld ?_
        rotate_left
        · intro w hSw; (try dsimp only at hSw); go_simp; with_reducible rfl
        try simp only [Act.put, List.setIfInBounds_toArray, List.set_cons_zero, List.set_cons_succ]
        refine wpAnyH_done (by kernel_rfl) ?_ _
        clear hHeld
        go_wp2_with fail
        go_meet
        refine ⟨E, rfl, rfl, (show RR _ _ _ _ from ⟨by rw [HS0.out]; exact HE.out, _, HX3.out, HC3.out, HB3.out⟩)⟩
    case rest =>
      obtain ⟨E, rfl, rfl, hR⟩ := hcut
      obtain ⟨hE, ⟨cyl⟩, hy, hcy, hbel⟩ := hR.out
      obtain ⟨yA, yc, yB, yd, ecy, -⟩ := hcy.cells
      have ecy' : cyl = _ := ecy
      subst ecy'
      have HBwc := Lib.hid (HB0.out.trans (hbel.mono HB0.out.size))
      have HVwc := Lib.hid ((hbel.block w.heap.size (by rw [HS0.out]; omega)).trans HV0.out)
      have HXwc := Lib.hid ((hbel.block (w.heap.size + 1) (by rw [HS0.out]; omega)).trans HX0.out)
      have HLw := Lib.hid (show w.heap.size + 2 ≤ wc.heap.size by have := hbel.size; rw [HS0.out] at this; exact this)
      have HYC := Lib.hid (show RdA wc 0 wc.heap.size x [.int .i64 x.k, .int .i64 x.n, .string (strOf x.s), .slice yA x.l.length yc, .slice yB x.ms.length yd] from hcy)
      have HSMC := Lib.hid (HSM.out [.int .i64 x.k, .int .i64 x.n, .string (strOf x.s), .slice xA x.l.length xc, .slice xB x.ms.length xd] [.int .i64 x.k, .int .i64 x.n, .string (strOf x.s), .slice yA x.l.length yc, .slice yB x.ms.length yd] wc (HX.out.below HBwc.out (Nat.le_refl _) HBwc.out.size) HYC.out)
      obtain ⟨⟨p0, p1, p2, p3, p4⟩, -⟩ := row5 HXwc.out
      obtain ⟨⟨q0, q1, q2, q3, q4⟩, -⟩ := row5 hy
      clear hR hE hcy hbel ecy hy
      go_wp2_with fail
      refine HSMC.out.mono ?_
      rintro e w2 ⟨rfl, hb2⟩
      have HBw2 := Lib.hid (HBwc.out.trans (hb2.mono HBwc.out.size))
      have HLvw2 := Lib.hid (show w.heap.size < w2.heap.size by have := HLw.out; have := hb2.size; omega)
      have HLxw2 := Lib.hid (show w.heap.size + 1 < w2.heap.size by have := HLw.out; have := hb2.size; omega)
      have HVw2 := Lib.hid ((hb2.block w.heap.size (by have := HLw.out; omega)).trans HVwc.out)
      have HXw2 := Lib.hid ((hb2.block (w.heap.size + 1) (by have := HLw.out; omega)).trans HXwc.out)
      clear p0 p1 p2 p3 p4 q0 q1 q2 q3 q4 hb2
      go_wp2_with fail
      go_loopw [9] (fun i wr => ∃ kk : Nat, i = .int .i64 kk ∧ kk ≤ x.l.length ∧ Aside (Below w2.heap.size w2 wr)) (fun i _ => x.l.length - (intOf i).toNat)
      case atStart => exact ⟨0, rfl, by omega, (show Below _ _ _ from Below.refl _ _)⟩
      case round =>
        obtain ⟨kk, rfl, hk, hbel⟩ := hrel
        have HBEL := Lib.hid hbel.out
        have HBW := Lib.hid (HBw2.out.trans (hbel.out.mono HBw2.out.size))
        have hv1 := (hbel.out.block w.heap.size HLvw2.out).trans HVw2.out
        have hx1 := (hbel.out.block (w.heap.size + 1) HLxw2.out).trans HXw2.out
        have HV1 := Lib.hid hv1
        have HX1 := Lib.hid hx1
        have HBWv := Lib.hid (show w.heap.size < wr.heap.size from Nat.lt_of_lt_of_le HLvw2.out hbel.out.size)
        have HBWx := Lib.hid (show w.heap.size + 1 < wr.heap.size from Nat.lt_of_lt_of_le HLxw2.out hbel.out.size)
        obtain ⟨⟨p0, p1, p2, p3, p4⟩, -⟩ := row5 hx1
        clear hbel hv1 hx1
        by_cases hlt : kk < x.l.length
        · have t1 : decide ((kk : Int) < ((x.l.length : Nat) : Int)) = true := decide_eq_true (by omega)
          have t2 : decide (kk < x.l.length) = true := decide_eq_true hlt
          have k0 : (0 : Int) ≤ (kk : Int) := by omega
          have k1 : (kk : Int) < ((x.l.length : Nat) : Int) := by omega
          have k2 : ((kk : Int)).toNat = kk := by omega
          have hkl : kk < x.l.length := hlt
          obtain ⟨g, o, exA, _, hg, hr⟩ := HXL.out (by omega)
          subst exA
          obtain ⟨ecs, hec, hev⟩ := RdAL.at_ _ o hr kk hkl
          have HBK := Lib.hid (fun at2 (W : World) (hW : Below w.heap.size w W) (hs : RdS W W.heap.size at2 (ats ++ [putL kk])) => HBL.out kk hkl ecs at2 W hW (hev.below hW (Nat.le_refl _) hW.size) hs)
          obtain ⟨eA, ec, eB, ed, rfl, -⟩ := hev.cells
          have HGL := Lib.hid (show g < wr.heap.size from Nat.lt_of_lt_of_le hg HBW.out.size)
          have a0 := (HBW.out.cell (p := ⟨g, o + kk * 5, none⟩) hg).trans (hec 0 _ rfl)
          have a1 := (HBW.out.cell (p := ⟨g, o + kk * 5 + 1, none⟩) hg).trans (hec 1 _ rfl)
          have a2 := (HBW.out.cell (p := ⟨g, o + kk * 5 + 2, none⟩) hg).trans (hec 2 _ rfl)
          have a3 := (HBW.out.cell (p := ⟨g, o + kk * 5 + 3, none⟩) hg).trans (hec 3 _ rfl)
          have a4 := (HBW.out.cell (p := ⟨g, o + kk * 5 + 4, none⟩) hg).trans (hec 4 _ rfl)
          clear hev hec hr
          generalize x.l[kk].k = ek at *
          generalize x.l[kk].n = en at *
          generalize strOf x.l[kk].s = eS at *
          generalize x.l[kk].l.length = el at *
          generalize x.l[kk].ms.length = em at *
          have HSO := Lib.hid (show wr.heap[w.heap.size]? = some (.cells #[.int .i64 vk, .int .i64 vn, .string vS, .slice vA vl vc, .slice vB vm vd] 36 (0, 0)) ∧ wr.heap[w.heap.size + 1]? = some (.cells #[.int .i64 x.k, .int .i64 x.n, .string (strOf x.s), .slice (some ⟨g, o, none⟩) x.l.length xc, .slice xB x.ms.length xd] 36 (0, 0)) ∧ wr.cell? ⟨g, o + kk * 5, none⟩ = some (.int .i64 ek) ∧ wr.cell? ⟨g, o + kk * 5 + 1, none⟩ = some (.int .i64 en) ∧ wr.cell? ⟨g, o + kk * 5 + 2, none⟩ = some (.string eS) ∧ wr.cell? ⟨g, o + kk * 5 + 3, none⟩ = some (.slice eA el ec) ∧ wr.cell? ⟨g, o + kk * 5 + 4, none⟩ = some (.slice eB em ed) from ⟨HV1.out, HX1.out, a0, a1, a2, a3, a4⟩)
          have HTC := Lib.hid (fun (ad : Addr) (e : tA = some ad) (j : Nat) (u : Value) (hu : (strC ats)[j]? = some u) => show wr.cell? (ad.add j) = some u from by
            have h0 : 0 < ats.length := by have := (List.getElem?_eq_some_iff.1 hu).1; rw [strC_len] at this; omega
            obtain ⟨ad', e', h1, h2⟩ := HTX0.out h0
            rw [e] at e'
            injection e' with e'
            subst e'
            exact (HBW.out.cell (by rw [blk_add]; exact h1)).trans (h2 j u hu))
          have HTN := Lib.hid (show tA = none → ats.length = 0 from fun e => by
            rcases Nat.eq_zero_or_pos ats.length with h0 | h0
            · exact h0
            · obtain ⟨ad', e', _⟩ := HTX0.out h0
              rw [e] at e'
              cases e')
          clear a0 a1 a2 a3 a4
          go_wp2_with (at_builtin; refine wpList_append_any rfl _ _ 22 rfl wr.heap.size 9 i1 _ 1 16 Try.underlying22 J0.out J1.out J2.out J3.out rfl (by decide) (.slice none 0 0) 0 [] rfl (World.ownsRow_nil _ _ _ _) tA ats.length tc (strC ats) rfl ?qc1 HTN.out HTC.out ?q1 ?qc2 ?qc3 (Nat.le_refl _) ?_)
          case qc1 => rw [strC_len]; omega
          case q1 => intro u hu; unfold strC at hu; obtain ⟨q, _, rfl⟩ := List.mem_map.1 hu; rfl
          case qc2 => have := HNA.out; unfold maxLen; omega
          case qc3 => have := HNA.out; omega
          intro s1 w3 hown1 hgrow1
          try rw [List.nil_append, Nat.zero_add] at hown1
          have HO1 := Lib.hid hown1
          have HB3 := Lib.hid (show Below wr.heap.size wr w3 from (Below.refl _ _).grown hgrow1 (Nat.le_refl _) (fun k hk => by cases hk))
          have HS3 := Lib.hid (show w3.heap[w.heap.size]? = some (.cells #[.int .i64 vk, .int .i64 vn, .string vS, .slice vA vl vc, .slice vB vm vd] 36 (0, 0)) ∧ w3.heap[w.heap.size + 1]? = some (.cells #[.int .i64 x.k, .int .i64 x.n, .string (strOf x.s), .slice (some ⟨g, o, none⟩) x.l.length xc, .slice xB x.ms.length xd] 36 (0, 0)) ∧ w3.cell? ⟨g, o + kk * 5, none⟩ = some (.int .i64 ek) ∧ w3.cell? ⟨g, o + kk * 5 + 1, none⟩ = some (.int .i64 en) ∧ w3.cell? ⟨g, o + kk * 5 + 2, none⟩ = some (.string eS) ∧ w3.cell? ⟨g, o + kk * 5 + 3, none⟩ = some (.slice eA el ec) ∧ w3.cell? ⟨g, o + kk * 5 + 4, none⟩ = some (.slice eB em ed) from ⟨(HB3.out.block w.heap.size HBWv.out).trans HSO.out.1, (HB3.out.block (w.heap.size + 1) HBWx.out).trans HSO.out.2.1, (HB3.out.cell HGL.out).trans HSO.out.2.2.1, (HB3.out.cell HGL.out).trans HSO.out.2.2.2.1, (HB3.out.cell HGL.out).trans HSO.out.2.2.2.2.1, (HB3.out.cell HGL.out).trans HSO.out.2.2.2.2.2.1, (HB3.out.cell HGL.out).trans HSO.out.2.2.2.2.2.2⟩)
          clear hown1 hgrow1 p0 p1 p2 p3 p4
          go_wp2_with fail
          refine wp_region_held_drew (S := fun W' => W'.heap[w.heap.size]? = some (.cells #[.int .i64 vk, .int .i64 vn, .string vS, .slice vA vl vc, .slice vB vm vd] 36 (0, 0)) ∧ W'.heap[w.heap.size + 1]? = some (.cells #[.int .i64 x.k, .int .i64 x.n, .string (strOf x.s), .slice (some ⟨g, o, none⟩) x.l.length xc, .slice xB x.ms.length xd] 36 (0, 0)) ∧ W'.cell? ⟨g, o + kk * 5, none⟩ = some (.int .i64 ek) ∧ W'.cell? ⟨g, o + kk * 5 + 1, none⟩ = some (.int .i64 en) ∧ W'.cell? ⟨g, o + kk * 5 + 2, none⟩ = some (.string eS) ∧ W'.cell? ⟨g, o + kk * 5 + 3, none⟩ = some (.slice eA el ec) ∧ W'.cell? ⟨g, o + kk * 5 + 4, none⟩ = some (.slice eB em ed)) (by kernel_rfl) (HS3.out) (fun hHeld => ?_)
          refine wpAnyH_take (i := 0) (oi := { dst := some 38, op := Op.load 36 (Operand.tmp 3), type := 36, pos := "law.go:61", after := #[], guard := none }) (v := ?_) rfl (by kernel_rfl) (by kernel_rfl) (by kernel_rfl) (fun _ _ _ h => h) (Or.inl ⟨by rfl, ?_⟩) hHeld ?_
          rotate_left
          · intro w hSw; (try dsimp only at hSw); obtain ⟨sv, sx, e0, e1, e2, e3, e4⟩ := hSw; obtain ⟨⟨p0, p1, p2, p3, p4⟩, -⟩ := row5 sv; clear sv sx; go_simp; with_reducible rfl
          try simp only [Act.put, List.setIfInBounds_toArray, List.set_cons_zero, List.set_cons_succ]
          refine wpAnyH_take (i := 1) (oi := { dst := some 39, op := Op.move (Operand.tmp 10), type := 22, pos := "law.go:61", after := #[], guard := none }) (v := ?_) rfl (by kernel_rfl) (by kernel_rfl) (by kernel_rfl) (fun _ _ _ h => h) (Or.inl ⟨by rfl, ?_⟩) hHeld ?_
          rotate_left
          · intro w hSw; (try dsimp only at hSw); go_simp; with_reducible rfl
          try simp only [Act.put, List.setIfInBounds_toArray, List.set_cons_zero, List.set_cons_succ]
          refine wpAnyH_take (i := 2) (oi := { dst := some 40, op := Op.move (Operand.tmp 9), type := 3, pos := "law.go:61", after := #[], guard := none }) (v := ?_) rfl (by kernel_rfl) (by kernel_rfl) (by kernel_rfl) (fun _ _ _ h => h) (Or.inl ⟨by rfl, ?_⟩) hHeld ?_
          rotate_left
          · intro w hSw; (try dsimp only at hSw); go_simp; with_reducible rfl
          try simp only [Act.put, List.setIfInBounds_toArray, List.set_cons_zero, List.set_cons_succ]
          refine wpAnyH_take (i := 6) (oi := { dst := some 44, op := Op.fieldAddr 36 (Operand.tmp 5) 3, type := 0, pos := "law.go:61", after := #[], guard := none }) (v := ?_) rfl (by kernel_rfl) (by kernel_rfl) (by kernel_rfl) (fun _ _ _ h => h) (Or.inl ⟨by rfl, ?_⟩) hHeld ?_
          rotate_left
          · intro w hSw; (try dsimp only at hSw); go_simp; with_reducible rfl
          try simp only [Act.put, List.setIfInBounds_toArray, List.set_cons_zero, List.set_cons_succ]
          refine wpAnyH_take (i := 7) (oi := { dst := some 45, op := Op.load 33 (Operand.tmp 44), type := 33, pos := "law.go:61", after := #[{ on := 6, ground := Ground.data }], guard := none }) (v := ?_) rfl (by kernel_rfl) (by kernel_rfl) (by kernel_rfl) (fun _ _ _ h => h) (Or.inl ⟨by rfl, ?_⟩) hHeld ?_
          rotate_left
          · intro w hSw; (try dsimp only at hSw); obtain ⟨sv, sx, e0, e1, e2, e3, e4⟩ := hSw; obtain ⟨⟨p0, p1, p2, p3, p4⟩, -⟩ := row5 sx; clear sv sx; go_simp; with_reducible rfl
          try simp only [Act.put, List.setIfInBounds_toArray, List.set_cons_zero, List.set_cons_succ]
          refine wpAnyH_take (i := 8) (oi := { dst := some 46, op := Op.move (Operand.tmp 9), type := 3, pos := "law.go:61", after := #[], guard := none }) (v := ?_) rfl (by kernel_rfl) (by kernel_rfl) (by kernel_rfl) (fun _ _ _ h => h) (Or.inl ⟨by rfl, ?_⟩) hHeld ?_
          rotate_left
          · intro w hSw; (try dsimp only at hSw); go_simp; with_reducible rfl
          try simp only [Act.put, List.setIfInBounds_toArray, List.set_cons_zero, List.set_cons_succ]
          refine wpAnyH_take (i := 9) (oi := { dst := some 47, op := Op.indexAddr 33 (Operand.tmp 45) (Operand.tmp 46), type := 0, pos := "law.go:61", after := #[{ on := 7, ground := Ground.data }, { on := 8, ground := Ground.data }], guard := none }) (v := ?_) rfl (by kernel_rfl) (by kernel_rfl) (by kernel_rfl) (fun _ _ _ h => h) (Or.inl ⟨by rfl, ?_⟩) hHeld ?_
          rotate_left
          · intro w hSw; (try dsimp only at hSw); go_simp; with_reducible rfl
          try simp only [Act.put, List.setIfInBounds_toArray, List.set_cons_zero, List.set_cons_succ]
          refine wpAnyH_take (i := 10) (oi := { dst := some 48, op := Op.load 36 (Operand.tmp 47), type := 36, pos := "law.go:61", after := #[{ on := 9, ground := Ground.data }], guard := none }) (v := ?_) rfl (by kernel_rfl) (by kernel_rfl) (by kernel_rfl) (fun _ _ _ h => h) (Or.inl ⟨by rfl, ?_⟩) hHeld ?_
          rotate_left
          · intro w hSw; (try dsimp only at hSw); obtain ⟨sv, sx, e0, e1, e2, e3, e4⟩ := hSw; clear sv sx; go_simp; with_reducible rfl
          try simp only [Act.put, List.setIfInBounds_toArray, List.set_cons_zero, List.set_cons_succ]
          refine wpAnyH_ready (rs := [3]) (by kernel_rfl) (by simp) ?_
          refine AllReadyH.cons (o := { dst := some 41, op := Op.call { callee := Callee.value (Operand.func 20), args := #[Operand.tmp 40], argTypes := #[2] }, type := 9, pos := "law.go:61", after := #[{ on := 2, ground := Ground.data }], guard := none }) rfl (fun K hK => ?_) AllReadyH.nil
          go_simp
          go_at_call 20
          refine (rPut_any 20 (kk : Int) _ (by have := HLI.out kk hkl; rw [Int.natAbs_natCast]; omega) (by omega) (by omega) (by omega) (by have := HLI.out kk hkl; omega)).mono ?_
          rintro e w4 ⟨rfl, hb4⟩
          have HB4 := Lib.hid (show Below wr.heap.size wr w4 from HB3.out.trans ((Below.drew (Below.refl w3.heap.size w3)).trans hb4 |>.mono HB3.out.size))
          have HOW := Lib.hid (show w4.ownsRow wr.heap.size 9 1 s1 ats.length (strC ats) from own_below (w := w3) HO1.out ((Below.drew (Below.refl w3.heap.size w3)).trans hb4))
          clear hb4
          refine hK.out _ _ (⟨(HB4.out.block w.heap.size HBWv.out).trans HSO.out.1, (HB4.out.block (w.heap.size + 1) HBWx.out).trans HSO.out.2.1, (HB4.out.cell HGL.out).trans HSO.out.2.2.1, (HB4.out.cell HGL.out).trans HSO.out.2.2.2.1, (HB4.out.cell HGL.out).trans HSO.out.2.2.2.2.1, (HB4.out.cell HGL.out).trans HSO.out.2.2.2.2.2.1, (HB4.out.cell HGL.out).trans HSO.out.2.2.2.2.2.2⟩) (fun hHeld => ?_)
          clear hK K
          try simp only [Act.put, List.setIfInBounds_toArray, List.set_cons_zero, List.set_cons_succ]
          refine wpAnyH_ready (rs := [4]) (by kernel_rfl) (by simp) ?_
          refine AllReadyH.cons (o := { dst := some 42, op := Op.buildSlice 22 1 #[(0, Operand.tmp 41)], type := 22, pos := "law.go:61", after := #[{ on := 3, ground := Ground.data }], guard := none }) rfl (fun K hK => ?_) AllReadyH.nil
          go_simp
          have hnew := cells_new w4 9 #[.string (strOf (putL kk))]
          obtain ⟨UW, hUW⟩ : ∃ UW, UW = w4.alloc (.cells #[.string (strOf (putL kk))] 9) := ⟨_, rfl⟩
          have HUBW := Lib.hid hUW
          have HO4 := Lib.hid (show UW.ownsRow wr.heap.size 9 1 s1 ats.length (strC ats) from by rw [hUW]; exact HOW.out.alloc _)
          have HNEW := Lib.hid (show ∀ j u, [Value.string (strOf (putL kk))][j]? = some u → UW.cell? ((⟨w4.heap.size, 0, none⟩ : Addr).add j) = some u from fun j u hu => by rw [hUW]; exact hnew j u hu)
          have HBU := Lib.hid (show Below wr.heap.size wr UW by rw [hUW]; exact HB4.out.alloc HB4.out.size _)
          rw [← hUW]
          clear hUW hnew
          refine hK.out _ _ (⟨(HBU.out.block w.heap.size HBWv.out).trans HSO.out.1, (HBU.out.block (w.heap.size + 1) HBWx.out).trans HSO.out.2.1, (HBU.out.cell HGL.out).trans HSO.out.2.2.1, (HBU.out.cell HGL.out).trans HSO.out.2.2.2.1, (HBU.out.cell HGL.out).trans HSO.out.2.2.2.2.1, (HBU.out.cell HGL.out).trans HSO.out.2.2.2.2.2.1, (HBU.out.cell HGL.out).trans HSO.out.2.2.2.2.2.2⟩) (fun hHeld => ?_)
          clear hK K
          try simp only [Act.put, List.setIfInBounds_toArray, List.set_cons_zero, List.set_cons_succ]
          refine wpAnyH_ready (rs := [5]) (by kernel_rfl) (by simp) ?_
          refine AllReadyH.cons (o := { dst := some 43, op := Op.call { callee := Callee.builtin Builtin.append, args := #[Operand.tmp 39, Operand.tmp 42], argTypes := #[22, 22] }, type := 22, pos := "law.go:61", after := #[{ on := 1, ground := Ground.data }, { on := 4, ground := Ground.data }, { on := 3, ground := Ground.chain }], guard := none }) rfl (fun K hK => ?_) AllReadyH.nil
          refine wp_append_lies _ _ _ _ rfl wr.heap.size 9 i1 _ 1 16 Try.underlying22 J0.out J1.out J2.out J3.out rfl (by decide) s1 ats.length (strC ats) rfl HO4.out ⟨w4.heap.size, 0, none⟩ 1 1 [.string (strOf (putL kk))] rfl rfl HNEW.out (by intro u hu; simp at hu; subst hu; rfl) (by omega) (by have := HNA.out; unfold maxLen; omega) (by have := HNA.out; omega) (by have := HB4.out.size; rw [HUBW.out, szAl]; omega) _ rfl ?_
          intro gb cap w6 hown6 hg6 hat hgl
          have HB6 := Lib.hid (show Below wr.heap.size wr w6 from ((show Below wr.heap.size wr UW by rw [HUBW.out]; exact HB4.out.alloc HB4.out.size _)).grown hg6 (by have := HB4.out.size; rw [HUBW.out, szAl]; omega) (fun k hk => ((HO1.out).lt k hk).1))
          have HR6 := Lib.hid (show RdS w6 w6.heap.size (.slice (some ⟨gb, 0, none⟩) (ats.length + 1) cap) (ats ++ [putL kk]) from by
            have h1 : w6.ownsRow wr.heap.size 9 1 (.slice (some ⟨gb, 0, none⟩) (ats.length + 1) cap) (ats ++ [putL kk]).length (strC (ats ++ [putL kk])) := by
              rw [List.length_append, strC, List.map_append]
              exact hown6
            exact RdS.of_own h1)
          clear hown6 hg6 hat hgl
          refine hK.out _ _ (⟨(HB6.out.block w.heap.size HBWv.out).trans HSO.out.1, (HB6.out.block (w.heap.size + 1) HBWx.out).trans HSO.out.2.1, (HB6.out.cell HGL.out).trans HSO.out.2.2.1, (HB6.out.cell HGL.out).trans HSO.out.2.2.2.1, (HB6.out.cell HGL.out).trans HSO.out.2.2.2.2.1, (HB6.out.cell HGL.out).trans HSO.out.2.2.2.2.2.1, (HB6.out.cell HGL.out).trans HSO.out.2.2.2.2.2.2⟩) (fun hHeld => ?_)
          clear hK K
          try simp only [Act.put, List.setIfInBounds_toArray, List.set_cons_zero, List.set_cons_succ]
          refine wpAnyH_ready (rs := [11]) (by kernel_rfl) (by simp) ?_
          refine AllReadyH.cons (o := { dst := some 49, op := Op.call { callee := Callee.value (Operand.func 16), args := #[Operand.tmp 38, Operand.tmp 43, Operand.tmp 48], argTypes := #[36, 22, 36] }, type := 4, pos := "law.go:61", after := #[{ on := 0, ground := Ground.data }, { on := 5, ground := Ground.data }, { on := 10, ground := Ground.data }, { on := 5, ground := Ground.chain }], guard := none }) rfl (fun K hK => ?_) AllReadyH.nil
          go_simp
          go_at_call 16
          refine (HBK.out _ _ (HBW.out.trans (HB6.out.mono HBW.out.size)) HR6.out).mono ?_
          rintro e w7 ⟨rfl, hb7⟩
          have HB7 := Lib.hid (show Below wr.heap.size wr w7 from HB6.out.trans (hb7.mono HB6.out.size))
          clear hb7
          refine hK.out _ _ (⟨(HB7.out.block w.heap.size HBWv.out).trans HSO.out.1, (HB7.out.block (w.heap.size + 1) HBWx.out).trans HSO.out.2.1, (HB7.out.cell HGL.out).trans HSO.out.2.2.1, (HB7.out.cell HGL.out).trans HSO.out.2.2.2.1, (HB7.out.cell HGL.out).trans HSO.out.2.2.2.2.1, (HB7.out.cell HGL.out).trans HSO.out.2.2.2.2.2.1, (HB7.out.cell HGL.out).trans HSO.out.2.2.2.2.2.2⟩) (fun hHeld => ?_)
          clear hK K
          try simp only [Act.put, List.setIfInBounds_toArray, List.set_cons_zero, List.set_cons_succ]
          refine wpAnyH_take (i := 12) (oi := { dst := some 50, op := Op.unOp UnOp.not 4 (Operand.tmp 49), type := 4, pos := "law.go:61", after := #[{ on := 11, ground := Ground.data }], guard := none }) (v := ?_) rfl (by kernel_rfl) (by kernel_rfl) (by kernel_rfl) (fun _ _ _ h => h) (Or.inl ⟨by rfl, ?_⟩) hHeld ?_
          rotate_left
          · intro w hSw; (try dsimp only at hSw); go_simp; with_reducible rfl
          try simp only [Act.put, List.setIfInBounds_toArray, List.set_cons_zero, List.set_cons_succ]
          refine wpAnyH_done (by kernel_rfl) ?_ _
          clear hHeld
          go_wp2_with fail
          go_roundw
          case rel => exact ⟨kk + 1, by go_num, by omega, (show Below _ _ _ from HBEL.out.trans (HB7.out.mono HBEL.out.size))⟩
          case measure => simp [intOf]; omega
        · have t1 : decide ((kk : Int) < ((x.l.length : Nat) : Int)) = false := decide_eq_false (by omega)
          have t2 : decide (kk < x.l.length) = false := decide_eq_false hlt
          obtain ⟨w5, hw5⟩ : ∃ w5, w5 = wr := ⟨_, rfl⟩
          have HBw5 := Lib.hid (show Below w.heap.size w w5 by rw [hw5]; exact HBW.out)
          have HVw5 := Lib.hid (show w5.heap[w.heap.size]? = some (.cells #[.int .i64 vk, .int .i64 vn, .string vS, .slice vA vl vc, .slice vB vm vd] 36 (0, 0)) by rw [hw5]; exact HV1.out)
          have HXw5 := Lib.hid (show w5.heap[w.heap.size + 1]? = some (.cells #[.int .i64 x.k, .int .i64 x.n, .string (strOf x.s), .slice xA x.l.length xc, .slice xB x.ms.length xd] 36 (0, 0)) by rw [hw5]; exact HX1.out)
          have HLvw5 := Lib.hid (show w.heap.size < w5.heap.size by rw [hw5]; exact HBWv.out)
          have HLxw5 := Lib.hid (show w.heap.size + 1 < w5.heap.size by rw [hw5]; exact HBWx.out)
          rw [← hw5] at p0 p1 p2 p3 p4 ⊢
          clear HBEL HBW HV1 HX1 HBWv HBWx hw5
          go_wp2_with fail
          go_loopw [11] (fun i wr => ∃ kk : Nat, i = .int .i64 kk ∧ kk ≤ x.ms.length ∧ Aside (Below w5.heap.size w5 wr)) (fun i _ => x.ms.length - (intOf i).toNat)
          case atStart => exact ⟨0, rfl, by omega, (show Below _ _ _ from Below.refl _ _)⟩
          case round =>
            obtain ⟨kk, rfl, hk, hbel⟩ := hrel
            have HBEL := Lib.hid hbel.out
            have HBW := Lib.hid (HBw5.out.trans (hbel.out.mono HBw5.out.size))
            have hv1 := (hbel.out.block w.heap.size HLvw5.out).trans HVw5.out
            have hx1 := (hbel.out.block (w.heap.size + 1) HLxw5.out).trans HXw5.out
            have HV1 := Lib.hid hv1
            have HX1 := Lib.hid hx1
            have HBWv := Lib.hid (show w.heap.size < wr.heap.size from Nat.lt_of_lt_of_le HLvw5.out hbel.out.size)
            have HBWx := Lib.hid (show w.heap.size + 1 < wr.heap.size from Nat.lt_of_lt_of_le HLxw5.out hbel.out.size)
            obtain ⟨⟨p0, p1, p2, p3, p4⟩, -⟩ := row5 hx1
            clear hbel hv1 hx1
            by_cases hlt : kk < x.ms.length
            · have t1 : decide ((kk : Int) < ((x.ms.length : Nat) : Int)) = true := decide_eq_true (by omega)
              have t2 : decide (kk < x.ms.length) = true := decide_eq_true hlt
              have k0 : (0 : Int) ≤ (kk : Int) := by omega
              have k1 : (kk : Int) < ((x.ms.length : Nat) : Int) := by omega
              have k2 : ((kk : Int)).toNat = kk := by omega
              have hkl : kk < x.ms.length := hlt
              obtain ⟨g, o, exB, _, hg, hr⟩ := HXM.out (by omega)
              subst exB
              have hkn : kk < x.ns.length := by rw [HXN.out]; exact hkl
              obtain ⟨hen, ecs, hec, hev⟩ := RdAM.at_ _ _ o hr kk hkl hkn
              have HBK := Lib.hid (fun at2 (W : World) (hW : Below w.heap.size w W) (hs : RdS W W.heap.size at2 (ats ++ [x.ns[kk]])) => HBM.out kk hkl hkn ecs at2 W hW (hev.below hW (Nat.le_refl _) hW.size) hs)
              obtain ⟨eA, ec, eB, ed, rfl, -⟩ := hev.cells
              have HGL := Lib.hid (show g < wr.heap.size from Nat.lt_of_lt_of_le hg HBW.out.size)
              have a0 := (HBW.out.cell (p := ⟨g, o + kk * 6 + 1, none⟩) hg).trans (hec 0 _ rfl)
              have a1 := (HBW.out.cell (p := ⟨g, o + kk * 6 + 2, none⟩) hg).trans (hec 1 _ rfl)
              have a2 := (HBW.out.cell (p := ⟨g, o + kk * 6 + 3, none⟩) hg).trans (hec 2 _ rfl)
              have a3 := (HBW.out.cell (p := ⟨g, o + kk * 6 + 4, none⟩) hg).trans (hec 3 _ rfl)
              have a4 := (HBW.out.cell (p := ⟨g, o + kk * 6 + 5, none⟩) hg).trans (hec 4 _ rfl)
              have an := (HBW.out.cell (p := ⟨g, o + kk * 6, none⟩) hg).trans hen
              obtain ⟨NM, hNM⟩ : ∃ NM, strOf x.ns[kk] = NM := ⟨_, rfl⟩
              have HNM := Lib.hid hNM
              rw [hNM] at an
              clear hNM
              clear hev hec hr hen
              generalize x.ms[kk].k = ek at *
              generalize x.ms[kk].n = en at *
              generalize strOf x.ms[kk].s = eS at *
              generalize x.ms[kk].l.length = el at *
              generalize x.ms[kk].ms.length = em at *
              have HSO := Lib.hid (show wr.heap[w.heap.size]? = some (.cells #[.int .i64 vk, .int .i64 vn, .string vS, .slice vA vl vc, .slice vB vm vd] 36 (0, 0)) ∧ wr.heap[w.heap.size + 1]? = some (.cells #[.int .i64 x.k, .int .i64 x.n, .string (strOf x.s), .slice xA x.l.length xc, .slice (some ⟨g, o, none⟩) x.ms.length xd] 36 (0, 0)) ∧ wr.cell? ⟨g, o + kk * 6, none⟩ = some (.string NM) ∧ wr.cell? ⟨g, o + kk * 6 + 1, none⟩ = some (.int .i64 ek) ∧ wr.cell? ⟨g, o + kk * 6 + 2, none⟩ = some (.int .i64 en) ∧ wr.cell? ⟨g, o + kk * 6 + 3, none⟩ = some (.string eS) ∧ wr.cell? ⟨g, o + kk * 6 + 4, none⟩ = some (.slice eA el ec) ∧ wr.cell? ⟨g, o + kk * 6 + 5, none⟩ = some (.slice eB em ed) from ⟨HV1.out, HX1.out, an, a0, a1, a2, a3, a4⟩)
              have HTC := Lib.hid (fun (ad : Addr) (e : tA = some ad) (j : Nat) (u : Value) (hu : (strC ats)[j]? = some u) => show wr.cell? (ad.add j) = some u from by
                have h0 : 0 < ats.length := by have := (List.getElem?_eq_some_iff.1 hu).1; rw [strC_len] at this; omega
                obtain ⟨ad', e', h1, h2⟩ := HTX0.out h0
                rw [e] at e'
                injection e' with e'
                subst e'
                exact (HBW.out.cell (by rw [blk_add]; exact h1)).trans (h2 j u hu))
              have HTN := Lib.hid (show tA = none → ats.length = 0 from fun e => by
                rcases Nat.eq_zero_or_pos ats.length with h0 | h0
                · exact h0
                · obtain ⟨ad', e', _⟩ := HTX0.out h0
                  rw [e] at e'
                  cases e')
              clear an a0 a1 a2 a3 a4
              go_wp2_with (at_builtin; refine wpList_append_any rfl _ _ 22 rfl wr.heap.size 9 i1 _ 1 16 Try.underlying22 J0.out J1.out J2.out J3.out rfl (by decide) (.slice none 0 0) 0 [] rfl (World.ownsRow_nil _ _ _ _) tA ats.length tc (strC ats) rfl ?qc1 HTN.out HTC.out ?q1 ?qc2 ?qc3 (Nat.le_refl _) ?_)
              case qc1 => rw [strC_len]; omega
              case q1 => intro u hu; unfold strC at hu; obtain ⟨q, _, rfl⟩ := List.mem_map.1 hu; rfl
              case qc2 => have := HNA.out; unfold maxLen; omega
              case qc3 => have := HNA.out; omega
              intro s1 w3 hown1 hgrow1
              try rw [List.nil_append, Nat.zero_add] at hown1
              have HO1 := Lib.hid hown1
              have HB3 := Lib.hid (show Below wr.heap.size wr w3 from (Below.refl _ _).grown hgrow1 (Nat.le_refl _) (fun k hk => by cases hk))
              have HS3 := Lib.hid (show w3.heap[w.heap.size]? = some (.cells #[.int .i64 vk, .int .i64 vn, .string vS, .slice vA vl vc, .slice vB vm vd] 36 (0, 0)) ∧ w3.heap[w.heap.size + 1]? = some (.cells #[.int .i64 x.k, .int .i64 x.n, .string (strOf x.s), .slice xA x.l.length xc, .slice (some ⟨g, o, none⟩) x.ms.length xd] 36 (0, 0)) ∧ w3.cell? ⟨g, o + kk * 6, none⟩ = some (.string NM) ∧ w3.cell? ⟨g, o + kk * 6 + 1, none⟩ = some (.int .i64 ek) ∧ w3.cell? ⟨g, o + kk * 6 + 2, none⟩ = some (.int .i64 en) ∧ w3.cell? ⟨g, o + kk * 6 + 3, none⟩ = some (.string eS) ∧ w3.cell? ⟨g, o + kk * 6 + 4, none⟩ = some (.slice eA el ec) ∧ w3.cell? ⟨g, o + kk * 6 + 5, none⟩ = some (.slice eB em ed) from ⟨(HB3.out.block w.heap.size HBWv.out).trans HSO.out.1, (HB3.out.block (w.heap.size + 1) HBWx.out).trans HSO.out.2.1, (HB3.out.cell HGL.out).trans HSO.out.2.2.1, (HB3.out.cell HGL.out).trans HSO.out.2.2.2.1, (HB3.out.cell HGL.out).trans HSO.out.2.2.2.2.1, (HB3.out.cell HGL.out).trans HSO.out.2.2.2.2.2.1, (HB3.out.cell HGL.out).trans HSO.out.2.2.2.2.2.2.1, (HB3.out.cell HGL.out).trans HSO.out.2.2.2.2.2.2.2⟩)
              clear hown1 hgrow1 p0 p1 p2 p3 p4
              go_wp2_with fail
              refine wp_region_held_drew (S := fun W' => W'.heap[w.heap.size]? = some (.cells #[.int .i64 vk, .int .i64 vn, .string vS, .slice vA vl vc, .slice vB vm vd] 36 (0, 0)) ∧ W'.heap[w.heap.size + 1]? = some (.cells #[.int .i64 x.k, .int .i64 x.n, .string (strOf x.s), .slice xA x.l.length xc, .slice (some ⟨g, o, none⟩) x.ms.length xd] 36 (0, 0)) ∧ W'.cell? ⟨g, o + kk * 6, none⟩ = some (.string NM) ∧ W'.cell? ⟨g, o + kk * 6 + 1, none⟩ = some (.int .i64 ek) ∧ W'.cell? ⟨g, o + kk * 6 + 2, none⟩ = some (.int .i64 en) ∧ W'.cell? ⟨g, o + kk * 6 + 3, none⟩ = some (.string eS) ∧ W'.cell? ⟨g, o + kk * 6 + 4, none⟩ = some (.slice eA el ec) ∧ W'.cell? ⟨g, o + kk * 6 + 5, none⟩ = some (.slice eB em ed)) (by kernel_rfl) (HS3.out) (fun hHeld => ?_)
              refine wpAnyH_take (i := 0) (oi := { dst := some 61, op := Op.load 36 (Operand.tmp 3), type := 36, pos := "law.go:68", after := #[], guard := none }) (v := ?_) rfl (by kernel_rfl) (by kernel_rfl) (by kernel_rfl) (fun _ _ _ h => h) (Or.inl ⟨by rfl, ?_⟩) hHeld ?_
              rotate_left
              · intro w hSw; (try dsimp only at hSw); obtain ⟨sv, sx, sn, e0, e1, e2, e3, e4⟩ := hSw; obtain ⟨⟨p0, p1, p2, p3, p4⟩, -⟩ := row5 sv; clear sv sx; go_simp; with_reducible rfl
              try simp only [Act.put, List.setIfInBounds_toArray, List.set_cons_zero, List.set_cons_succ]
              refine wpAnyH_take (i := 1) (oi := { dst := some 62, op := Op.move (Operand.tmp 12), type := 22, pos := "law.go:68", after := #[], guard := none }) (v := ?_) rfl (by kernel_rfl) (by kernel_rfl) (by kernel_rfl) (fun _ _ _ h => h) (Or.inl ⟨by rfl, ?_⟩) hHeld ?_
              rotate_left
              · intro w hSw; (try dsimp only at hSw); go_simp; with_reducible rfl
              try simp only [Act.put, List.setIfInBounds_toArray, List.set_cons_zero, List.set_cons_succ]
              refine wpAnyH_take (i := 2) (oi := { dst := some 63, op := Op.fieldAddr 36 (Operand.tmp 5) 4, type := 0, pos := "law.go:68", after := #[], guard := none }) (v := ?_) rfl (by kernel_rfl) (by kernel_rfl) (by kernel_rfl) (fun _ _ _ h => h) (Or.inl ⟨by rfl, ?_⟩) hHeld ?_
              rotate_left
              · intro w hSw; (try dsimp only at hSw); go_simp; with_reducible rfl
              try simp only [Act.put, List.setIfInBounds_toArray, List.set_cons_zero, List.set_cons_succ]
              refine wpAnyH_take (i := 3) (oi := { dst := some 64, op := Op.load 34 (Operand.tmp 63), type := 34, pos := "law.go:68", after := #[{ on := 2, ground := Ground.data }], guard := none }) (v := ?_) rfl (by kernel_rfl) (by kernel_rfl) (by kernel_rfl) (fun _ _ _ h => h) (Or.inl ⟨by rfl, ?_⟩) hHeld ?_
              rotate_left
              · intro w hSw; (try dsimp only at hSw); obtain ⟨sv, sx, sn, e0, e1, e2, e3, e4⟩ := hSw; obtain ⟨⟨p0, p1, p2, p3, p4⟩, -⟩ := row5 sx; clear sv sx; go_simp; with_reducible rfl
              try simp only [Act.put, List.setIfInBounds_toArray, List.set_cons_zero, List.set_cons_succ]
              refine wpAnyH_take (i := 4) (oi := { dst := some 65, op := Op.move (Operand.tmp 11), type := 3, pos := "law.go:68", after := #[], guard := none }) (v := ?_) rfl (by kernel_rfl) (by kernel_rfl) (by kernel_rfl) (fun _ _ _ h => h) (Or.inl ⟨by rfl, ?_⟩) hHeld ?_
              rotate_left
              · intro w hSw; (try dsimp only at hSw); go_simp; with_reducible rfl
              try simp only [Act.put, List.setIfInBounds_toArray, List.set_cons_zero, List.set_cons_succ]
              refine wpAnyH_take (i := 5) (oi := { dst := some 66, op := Op.indexAddr 34 (Operand.tmp 64) (Operand.tmp 65), type := 0, pos := "law.go:68", after := #[{ on := 3, ground := Ground.data }, { on := 4, ground := Ground.data }], guard := none }) (v := ?_) rfl (by kernel_rfl) (by kernel_rfl) (by kernel_rfl) (fun _ _ _ h => h) (Or.inl ⟨by rfl, ?_⟩) hHeld ?_
              rotate_left
              · intro w hSw; (try dsimp only at hSw); go_simp; with_reducible rfl
              try simp only [Act.put, List.setIfInBounds_toArray, List.set_cons_zero, List.set_cons_succ]
              refine wpAnyH_take (i := 6) (oi := { dst := some 67, op := Op.fieldAddr 66 (Operand.tmp 66) 0, type := 0, pos := "law.go:68", after := #[{ on := 5, ground := Ground.data }], guard := none }) (v := ?_) rfl (by kernel_rfl) (by kernel_rfl) (by kernel_rfl) (fun _ _ _ h => h) (Or.inl ⟨by rfl, ?_⟩) hHeld ?_
              rotate_left
              · intro w hSw; (try dsimp only at hSw); go_simp; with_reducible rfl
              try simp only [Act.put, List.setIfInBounds_toArray, List.set_cons_zero, List.set_cons_succ]
              refine wpAnyH_take (i := 7) (oi := { dst := some 68, op := Op.load 9 (Operand.tmp 67), type := 9, pos := "law.go:68", after := #[{ on := 6, ground := Ground.data }], guard := none }) (v := ?_) rfl (by kernel_rfl) (by kernel_rfl) (by kernel_rfl) (fun _ _ _ h => h) (Or.inl ⟨by rfl, ?_⟩) hHeld ?_
              rotate_left
              · intro w hSw; (try dsimp only at hSw); obtain ⟨sv, sx, sn, e0, e1, e2, e3, e4⟩ := hSw; clear sv sx; go_simp; with_reducible rfl
              try simp only [Act.put, List.setIfInBounds_toArray, List.set_cons_zero, List.set_cons_succ]
              refine wpAnyH_take (i := 10) (oi := { dst := some 71, op := Op.fieldAddr 36 (Operand.tmp 5) 4, type := 0, pos := "law.go:68", after := #[], guard := none }) (v := ?_) rfl (by kernel_rfl) (by kernel_rfl) (by kernel_rfl) (fun _ _ _ h => h) (Or.inl ⟨by rfl, ?_⟩) hHeld ?_
              rotate_left
              · intro w hSw; (try dsimp only at hSw); go_simp; with_reducible rfl
              try simp only [Act.put, List.setIfInBounds_toArray, List.set_cons_zero, List.set_cons_succ]
              refine wpAnyH_take (i := 11) (oi := { dst := some 72, op := Op.load 34 (Operand.tmp 71), type := 34, pos := "law.go:68", after := #[{ on := 10, ground := Ground.data }], guard := none }) (v := ?_) rfl (by kernel_rfl) (by kernel_rfl) (by kernel_rfl) (fun _ _ _ h => h) (Or.inl ⟨by rfl, ?_⟩) hHeld ?_
              rotate_left
              · intro w hSw; (try dsimp only at hSw); obtain ⟨sv, sx, sn, e0, e1, e2, e3, e4⟩ := hSw; obtain ⟨⟨p0, p1, p2, p3, p4⟩, -⟩ := row5 sx; clear sv sx; go_simp; with_reducible rfl
              try simp only [Act.put, List.setIfInBounds_toArray, List.set_cons_zero, List.set_cons_succ]
              refine wpAnyH_take (i := 12) (oi := { dst := some 73, op := Op.move (Operand.tmp 11), type := 3, pos := "law.go:68", after := #[], guard := none }) (v := ?_) rfl (by kernel_rfl) (by kernel_rfl) (by kernel_rfl) (fun _ _ _ h => h) (Or.inl ⟨by rfl, ?_⟩) hHeld ?_
              rotate_left
              · intro w hSw; (try dsimp only at hSw); go_simp; with_reducible rfl
              try simp only [Act.put, List.setIfInBounds_toArray, List.set_cons_zero, List.set_cons_succ]
              refine wpAnyH_take (i := 13) (oi := { dst := some 74, op := Op.indexAddr 34 (Operand.tmp 72) (Operand.tmp 73), type := 0, pos := "law.go:68", after := #[{ on := 11, ground := Ground.data }, { on := 12, ground := Ground.data }], guard := none }) (v := ?_) rfl (by kernel_rfl) (by kernel_rfl) (by kernel_rfl) (fun _ _ _ h => h) (Or.inl ⟨by rfl, ?_⟩) hHeld ?_
              rotate_left
              · intro w hSw; (try dsimp only at hSw); go_simp; with_reducible rfl
              try simp only [Act.put, List.setIfInBounds_toArray, List.set_cons_zero, List.set_cons_succ]
              refine wpAnyH_take (i := 14) (oi := { dst := some 75, op := Op.fieldAddr 66 (Operand.tmp 74) 1, type := 0, pos := "law.go:68", after := #[{ on := 13, ground := Ground.data }], guard := none }) (v := ?_) rfl (by kernel_rfl) (by kernel_rfl) (by kernel_rfl) (fun _ _ _ h => h) (Or.inl ⟨by rfl, ?_⟩) hHeld ?_
              rotate_left
              · intro w hSw; (try dsimp only at hSw); go_simp; with_reducible rfl
              try simp only [Act.put, List.setIfInBounds_toArray, List.set_cons_zero, List.set_cons_succ]
              refine wpAnyH_take (i := 15) (oi := { dst := some 76, op := Op.load 36 (Operand.tmp 75), type := 36, pos := "law.go:68", after := #[{ on := 14, ground := Ground.data }], guard := none }) (v := ?_) rfl (by kernel_rfl) (by kernel_rfl) (by kernel_rfl) (fun _ _ _ h => h) (Or.inl ⟨by rfl, ?_⟩) hHeld ?_
              rotate_left
              · intro w hSw; (try dsimp only at hSw); obtain ⟨sv, sx, sn, e0, e1, e2, e3, e4⟩ := hSw; clear sv sx; go_simp; with_reducible rfl
              try simp only [Act.put, List.setIfInBounds_toArray, List.set_cons_zero, List.set_cons_succ]
              refine wpAnyH_ready (rs := [8]) (by kernel_rfl) (by simp) ?_
              refine AllReadyH.cons (o := { dst := some 69, op := Op.buildSlice 22 1 #[(0, Operand.tmp 68)], type := 22, pos := "law.go:68", after := #[{ on := 7, ground := Ground.data }], guard := none }) rfl (fun K hK => ?_) AllReadyH.nil
              go_simp
              rw [← HNM.out]
              have hnew := cells_new w3 9 #[.string (strOf (x.ns[kk]))]
              obtain ⟨UW, hUW⟩ : ∃ UW, UW = (w3.alloc (.cells #[.string (strOf (x.ns[kk]))] 9)).drew := ⟨_, rfl⟩
              have HUBW := Lib.hid hUW
              have HO4 := Lib.hid (show UW.ownsRow wr.heap.size 9 1 s1 ats.length (strC ats) from by rw [hUW]; exact HO1.out.alloc _)
              have HNEW := Lib.hid (show ∀ j u, [Value.string (strOf (x.ns[kk]))][j]? = some u → UW.cell? ((⟨w3.heap.size, 0, none⟩ : Addr).add j) = some u from fun j u hu => by rw [hUW]; exact hnew j u hu)
              have HBU := Lib.hid (show Below wr.heap.size wr UW by rw [hUW]; exact (HB3.out.alloc HB3.out.size _).drew)
              rw [← hUW]
              clear hUW hnew
              refine hK.out _ _ (⟨(HBU.out.block w.heap.size HBWv.out).trans HSO.out.1, (HBU.out.block (w.heap.size + 1) HBWx.out).trans HSO.out.2.1, (HBU.out.cell HGL.out).trans HSO.out.2.2.1, (HBU.out.cell HGL.out).trans HSO.out.2.2.2.1, (HBU.out.cell HGL.out).trans HSO.out.2.2.2.2.1, (HBU.out.cell HGL.out).trans HSO.out.2.2.2.2.2.1, (HBU.out.cell HGL.out).trans HSO.out.2.2.2.2.2.2.1, (HBU.out.cell HGL.out).trans HSO.out.2.2.2.2.2.2.2⟩) (fun hHeld => ?_)
              clear hK K
              try simp only [Act.put, List.setIfInBounds_toArray, List.set_cons_zero, List.set_cons_succ]
              refine wpAnyH_ready (rs := [9]) (by kernel_rfl) (by simp) ?_
              refine AllReadyH.cons (o := { dst := some 70, op := Op.call { callee := Callee.builtin Builtin.append, args := #[Operand.tmp 62, Operand.tmp 69], argTypes := #[22, 22] }, type := 22, pos := "law.go:68", after := #[{ on := 1, ground := Ground.data }, { on := 8, ground := Ground.data }], guard := none }) rfl (fun K hK => ?_) AllReadyH.nil
              refine wp_append_lies _ _ _ _ rfl wr.heap.size 9 i1 _ 1 16 Try.underlying22 J0.out J1.out J2.out J3.out rfl (by decide) s1 ats.length (strC ats) rfl HO4.out ⟨w3.heap.size, 0, none⟩ 1 1 [.string (strOf (x.ns[kk]))] rfl rfl HNEW.out (by intro u hu; simp at hu; subst hu; rfl) (by omega) (by have := HNA.out; unfold maxLen; omega) (by have := HNA.out; omega) HBU.out.size _ rfl ?_
              intro gb cap w6 hown6 hg6 hat hgl
              have HB6 := Lib.hid (show Below wr.heap.size wr w6 from HBU.out.grown hg6 HBU.out.size (fun k hk => ((HO1.out).lt k hk).1))
              have HR6 := Lib.hid (show RdS w6 w6.heap.size (.slice (some ⟨gb, 0, none⟩) (ats.length + 1) cap) (ats ++ [x.ns[kk]]) from by
                have h1 : w6.ownsRow wr.heap.size 9 1 (.slice (some ⟨gb, 0, none⟩) (ats.length + 1) cap) (ats ++ [x.ns[kk]]).length (strC (ats ++ [x.ns[kk]])) := by
                  rw [List.length_append, strC, List.map_append]
                  exact hown6
                exact RdS.of_own h1)
              clear hown6 hg6 hat hgl
              refine hK.out _ _ (⟨(HB6.out.block w.heap.size HBWv.out).trans HSO.out.1, (HB6.out.block (w.heap.size + 1) HBWx.out).trans HSO.out.2.1, (HB6.out.cell HGL.out).trans HSO.out.2.2.1, (HB6.out.cell HGL.out).trans HSO.out.2.2.2.1, (HB6.out.cell HGL.out).trans HSO.out.2.2.2.2.1, (HB6.out.cell HGL.out).trans HSO.out.2.2.2.2.2.1, (HB6.out.cell HGL.out).trans HSO.out.2.2.2.2.2.2.1, (HB6.out.cell HGL.out).trans HSO.out.2.2.2.2.2.2.2⟩) (fun hHeld => ?_)
              clear hK K
              try simp only [Act.put, List.setIfInBounds_toArray, List.set_cons_zero, List.set_cons_succ]
              refine wpAnyH_ready (rs := [16]) (by kernel_rfl) (by simp) ?_
              refine AllReadyH.cons (o := { dst := some 77, op := Op.call { callee := Callee.value (Operand.func 16), args := #[Operand.tmp 61, Operand.tmp 70, Operand.tmp 76], argTypes := #[36, 22, 36] }, type := 4, pos := "law.go:68", after := #[{ on := 0, ground := Ground.data }, { on := 9, ground := Ground.data }, { on := 15, ground := Ground.data }, { on := 9, ground := Ground.chain }], guard := none }) rfl (fun K hK => ?_) AllReadyH.nil
              go_simp
              go_at_call 16
              refine (HBK.out _ _ (HBW.out.trans (HB6.out.mono HBW.out.size)) HR6.out).mono ?_
              rintro e w7 ⟨rfl, hb7⟩
              have HB7 := Lib.hid (show Below wr.heap.size wr w7 from HB6.out.trans (hb7.mono HB6.out.size))
              clear hb7
              refine hK.out _ _ (⟨(HB7.out.block w.heap.size HBWv.out).trans HSO.out.1, (HB7.out.block (w.heap.size + 1) HBWx.out).trans HSO.out.2.1, (HB7.out.cell HGL.out).trans HSO.out.2.2.1, (HB7.out.cell HGL.out).trans HSO.out.2.2.2.1, (HB7.out.cell HGL.out).trans HSO.out.2.2.2.2.1, (HB7.out.cell HGL.out).trans HSO.out.2.2.2.2.2.1, (HB7.out.cell HGL.out).trans HSO.out.2.2.2.2.2.2.1, (HB7.out.cell HGL.out).trans HSO.out.2.2.2.2.2.2.2⟩) (fun hHeld => ?_)
              clear hK K
              try simp only [Act.put, List.setIfInBounds_toArray, List.set_cons_zero, List.set_cons_succ]
              refine wpAnyH_take (i := 17) (oi := { dst := some 78, op := Op.unOp UnOp.not 4 (Operand.tmp 77), type := 4, pos := "law.go:68", after := #[{ on := 16, ground := Ground.data }], guard := none }) (v := ?_) rfl (by kernel_rfl) (by kernel_rfl) (by kernel_rfl) (fun _ _ _ h => h) (Or.inl ⟨by rfl, ?_⟩) hHeld ?_
              rotate_left
              · intro w hSw; (try dsimp only at hSw); go_simp; with_reducible rfl
              try simp only [Act.put, List.setIfInBounds_toArray, List.set_cons_zero, List.set_cons_succ]
              refine wpAnyH_done (by kernel_rfl) ?_ _
              clear hHeld
              go_wp2_with fail
              go_roundw
              case rel => exact ⟨kk + 1, by go_num, by omega, (show Below _ _ _ from HBEL.out.trans (HB7.out.mono HBEL.out.size))⟩
              case measure => simp [intOf]; omega
            · have t1 : decide ((kk : Int) < ((x.ms.length : Nat) : Int)) = false := decide_eq_false (by omega)
              have t2 : decide (kk < x.ms.length) = false := decide_eq_false hlt
              go_wp2_with fail
              go_ret
              exact ⟨rfl, HBW.out⟩
end Go.Proofs.Ytmfpaoincgfjmaa.Po
set_option linter.unusedSimpArgs false
namespace Go.Proofs.Ytmfpaoincgfjmaa.Po
open Go.Proofs Go.RowKit
open Go.Proofs.Ytmfpaoincgfjmaa.Utf
open Go.Proofs.Ytmfpaoincgfjmaa.Sc
open Go.Proofs.Ytmfpaoincgfjmaa.Re
open Go.Proofs.Ytmfpaoincgfjmaa.Tr
open Go.Proofs.Ytmfpaoincgfjmaa.Em

set_option maxRecDepth 100000 in
set_option maxHeartbeats 1000000 in
theorem back_walk (v : V) (cv : List Value) (w : World) (hv : RdA w 0 w.heap.size v cv) (zv : szU v ≤ 1048576) (fv : wfV v) :
    Calls Try.prog 5 #[.agg cv.toArray] w fun e w' => e = .returned (.bool true) ∧ Below w.heap.size w w' := by
  have sv : szA 140737488355328 v := szA_of _ v fv (by omega)
  have sv2 : szA 4611686018427387904 v := szA_of _ v fv (by omega)
  have hnm := nm_of v cv hv
  have HCV := Lib.hid (fun (W : World) (hW : Below w.heap.size w W) => Check_any v cv 0 W sv2 (hv.below hW (Nat.le_refl _) hW.size))
  have HFE := Lib.hid (fun (W : World) (hW : Below w.heap.size w W) => Few_is v cv 300 (by decide) W sv2 (hv.below hW (Nat.le_refl _) hW.size))
  by_cases hc : chk v = 0
  · have hok := chk_ok hc
    have hgd : Gd v := ⟨hok.2.2, hnm, hok.1, sv⟩
    have HBA := Lib.hid (fun (W : World) (hW : Below w.heap.size w W) => back_any (ht v) v v cv cv (.slice none 0 0) [] W (Nat.le_refl _) (hv.below hW (Nat.le_refl _) hW.size) (hv.below hW (Nat.le_refl _) hW.size) hgd sv rfl (RdS.nil _ _) (by rw [show plen [] = 0 from rfl]; omega))
    rw [hc] at HCV
    obtain ⟨A1, c1, A2, c2, ev, -⟩ := hv.cells
    subst ev
    clear hv zv fv sv sv2 hnm hc hok hgd
    generalize v.k = k at *
    generalize v.n = n at *
    generalize strOf v.s = S at *
    generalize v.l.length = l1 at *
    generalize v.ms.length = m1 at *
    obtain ⟨W0, hW0⟩ : ∃ W0, W0 = (w.alloc (.cells #[.int .i64 k, .int .i64 n, .string S, .slice A1 l1 c1, .slice A2 m1 c2] 36)) := ⟨_, rfl⟩
    have HBW0 := Lib.hid (show Below w.heap.size w W0 by rw [hW0]; exact (Below.refl _ _).alloc (Nat.le_refl _) _)
    have hs0 : W0.heap.size = w.heap.size + 1 := by rw [hW0, szAl]
    have RW0_0 := Lib.hid (show W0.heap[w.heap.size]? = some (.cells #[.int .i64 k, .int .i64 n, .string S, .slice A1 l1 c1, .slice A2 m1 c2] 36 (0, 0)) by rw [hW0]; exact (show (w.alloc (.cells #[.int .i64 k, .int .i64 n, .string S, .slice A1 l1 c1, .slice A2 m1 c2] 36)).heap[w.heap.size]? = some (.cells #[.int .i64 k, .int .i64 n, .string S, .slice A1 l1 c1, .slice A2 m1 c2] 36 (0, 0)) from by rw [show w.heap.size = w.heap.size by simp]; exact heapNew _ _))
    have LW0_0 := Lib.hid (show w.heap.size < W0.heap.size by omega)
    have HW0 := Lib.hid hW0
    clear hW0 hs0
    go_enter Try.func5, Try.ntmps5
    go_wp2_with fail
    rw [← HW0.out]
    refine (awake_any8 _).mono ?_
    rintro e w1 ⟨rfl, hb⟩
    have Rw1_0 := Lib.hid (show w1.heap[w.heap.size]? = some (.cells #[.int .i64 k, .int .i64 n, .string S, .slice A1 l1 c1, .slice A2 m1 c2] 36 (0, 0)) from (hb.block _ LW0_0.out).trans RW0_0.out)
    have Lw1_0 := Lib.hid (show w.heap.size < w1.heap.size from Nat.lt_of_lt_of_le LW0_0.out hb.size)
    have HBw1 := Lib.hid (HBW0.out.trans (hb.mono HBW0.out.size))
    clear hb
    obtain ⟨⟨p0_0, p0_1, p0_2, p0_3, p0_4⟩, -⟩ := row5 Rw1_0.out
    go_wp2_with fail
    clear p0_0 p0_1 p0_2 p0_3 p0_4
    refine (HCV.out _ HBw1.out).mono ?_
    rintro e w2 ⟨rfl, hb⟩
    have Rw2_0 := Lib.hid (show w2.heap[w.heap.size]? = some (.cells #[.int .i64 k, .int .i64 n, .string S, .slice A1 l1 c1, .slice A2 m1 c2] 36 (0, 0)) from (hb.block _ Lw1_0.out).trans Rw1_0.out)
    have Lw2_0 := Lib.hid (show w.heap.size < w2.heap.size from Nat.lt_of_lt_of_le Lw1_0.out hb.size)
    have HBw2 := Lib.hid (HBw1.out.trans (hb.mono HBw1.out.size))
    clear hb
    obtain ⟨⟨p0_0, p0_1, p0_2, p0_3, p0_4⟩, -⟩ := row5 Rw2_0.out
    go_wp2_with fail
    clear p0_0 p0_1 p0_2 p0_3 p0_4
    refine (HFE.out _ HBw2.out).mono ?_
    rintro e w3 ⟨⟨b, rfl, -⟩, hb⟩
    have Rw3_0 := Lib.hid (show w3.heap[w.heap.size]? = some (.cells #[.int .i64 k, .int .i64 n, .string S, .slice A1 l1 c1, .slice A2 m1 c2] 36 (0, 0)) from (hb.block _ Lw2_0.out).trans Rw2_0.out)
    have Lw3_0 := Lib.hid (show w.heap.size < w3.heap.size from Nat.lt_of_lt_of_le Lw2_0.out hb.size)
    have HBw3 := Lib.hid (HBw2.out.trans (hb.mono HBw2.out.size))
    clear hb
    cases b with
    | false =>
      obtain ⟨⟨p0_0, p0_1, p0_2, p0_3, p0_4⟩, -⟩ := row5 Rw3_0.out
      go_wp2_with fail
      clear p0_0 p0_1 p0_2 p0_3 p0_4
      refine (awake_any8 _).mono ?_
      rintro e w4 ⟨rfl, hb⟩
      have Rw4_0 := Lib.hid (show w4.heap[w.heap.size]? = some (.cells #[.int .i64 k, .int .i64 n, .string S, .slice A1 l1 c1, .slice A2 m1 c2] 36 (0, 0)) from (hb.block _ Lw3_0.out).trans Rw3_0.out)
      have Lw4_0 := Lib.hid (show w.heap.size < w4.heap.size from Nat.lt_of_lt_of_le Lw3_0.out hb.size)
      have HBw4 := Lib.hid (HBw3.out.trans (hb.mono HBw3.out.size))
      clear hb
      go_wp2
      go_ret
      exact ⟨rfl, HBw4.out⟩
    | true =>
      obtain ⟨⟨p0_0, p0_1, p0_2, p0_3, p0_4⟩, -⟩ := row5 Rw3_0.out
      go_wp2_with fail
      clear p0_0 p0_1 p0_2 p0_3 p0_4
      refine (HBA.out _ HBw3.out).mono ?_
      rintro e w4 ⟨rfl, hb⟩
      have Rw4_0 := Lib.hid (show w4.heap[w.heap.size]? = some (.cells #[.int .i64 k, .int .i64 n, .string S, .slice A1 l1 c1, .slice A2 m1 c2] 36 (0, 0)) from (hb.block _ Lw3_0.out).trans Rw3_0.out)
      have Lw4_0 := Lib.hid (show w.heap.size < w4.heap.size from Nat.lt_of_lt_of_le Lw3_0.out hb.size)
      have HBw4 := Lib.hid (HBw3.out.trans (hb.mono HBw3.out.size))
      clear hb
      go_wp2
      go_ret
      exact ⟨rfl, HBw4.out⟩
  · have hcn : (chk v != 0) = true := by rw [bne_iff_ne]; exact hc
    obtain ⟨A1, c1, A2, c2, ev, -⟩ := hv.cells
    subst ev
    clear hv zv fv sv sv2 hnm hc HFE
    generalize chk v = ck at *
    generalize v.k = k at *
    generalize v.n = n at *
    generalize strOf v.s = S at *
    generalize v.l.length = l1 at *
    generalize v.ms.length = m1 at *
    obtain ⟨W0, hW0⟩ : ∃ W0, W0 = (w.alloc (.cells #[.int .i64 k, .int .i64 n, .string S, .slice A1 l1 c1, .slice A2 m1 c2] 36)) := ⟨_, rfl⟩
    have HBW0 := Lib.hid (show Below w.heap.size w W0 by rw [hW0]; exact (Below.refl _ _).alloc (Nat.le_refl _) _)
    have hs0 : W0.heap.size = w.heap.size + 1 := by rw [hW0, szAl]
    have RW0_0 := Lib.hid (show W0.heap[w.heap.size]? = some (.cells #[.int .i64 k, .int .i64 n, .string S, .slice A1 l1 c1, .slice A2 m1 c2] 36 (0, 0)) by rw [hW0]; exact (show (w.alloc (.cells #[.int .i64 k, .int .i64 n, .string S, .slice A1 l1 c1, .slice A2 m1 c2] 36)).heap[w.heap.size]? = some (.cells #[.int .i64 k, .int .i64 n, .string S, .slice A1 l1 c1, .slice A2 m1 c2] 36 (0, 0)) from by rw [show w.heap.size = w.heap.size by simp]; exact heapNew _ _))
    have LW0_0 := Lib.hid (show w.heap.size < W0.heap.size by omega)
    have HW0 := Lib.hid hW0
    clear hW0 hs0
    go_enter Try.func5, Try.ntmps5
    go_wp2_with fail
    rw [← HW0.out]
    refine (awake_any8 _).mono ?_
    rintro e w1 ⟨rfl, hb⟩
    have Rw1_0 := Lib.hid (show w1.heap[w.heap.size]? = some (.cells #[.int .i64 k, .int .i64 n, .string S, .slice A1 l1 c1, .slice A2 m1 c2] 36 (0, 0)) from (hb.block _ LW0_0.out).trans RW0_0.out)
    have Lw1_0 := Lib.hid (show w.heap.size < w1.heap.size from Nat.lt_of_lt_of_le LW0_0.out hb.size)
    have HBw1 := Lib.hid (HBW0.out.trans (hb.mono HBW0.out.size))
    clear hb
    obtain ⟨⟨p0_0, p0_1, p0_2, p0_3, p0_4⟩, -⟩ := row5 Rw1_0.out
    go_wp2_with fail
    clear p0_0 p0_1 p0_2 p0_3 p0_4
    refine (HCV.out _ HBw1.out).mono ?_
    rintro e w2 ⟨rfl, hb⟩
    have Rw2_0 := Lib.hid (show w2.heap[w.heap.size]? = some (.cells #[.int .i64 k, .int .i64 n, .string S, .slice A1 l1 c1, .slice A2 m1 c2] 36 (0, 0)) from (hb.block _ Lw1_0.out).trans Rw1_0.out)
    have Lw2_0 := Lib.hid (show w.heap.size < w2.heap.size from Nat.lt_of_lt_of_le Lw1_0.out hb.size)
    have HBw2 := Lib.hid (HBw1.out.trans (hb.mono HBw1.out.size))
    clear hb
    obtain ⟨⟨p0_0, p0_1, p0_2, p0_3, p0_4⟩, -⟩ := row5 Rw2_0.out
    go_wp2_with fail
    clear p0_0 p0_1 p0_2 p0_3 p0_4
    refine (awake_any8 _).mono ?_
    rintro e w3 ⟨rfl, hb⟩
    have Rw3_0 := Lib.hid (show w3.heap[w.heap.size]? = some (.cells #[.int .i64 k, .int .i64 n, .string S, .slice A1 l1 c1, .slice A2 m1 c2] 36 (0, 0)) from (hb.block _ Lw2_0.out).trans Rw2_0.out)
    have Lw3_0 := Lib.hid (show w.heap.size < w3.heap.size from Nat.lt_of_lt_of_le Lw2_0.out hb.size)
    have HBw3 := Lib.hid (HBw2.out.trans (hb.mono HBw2.out.size))
    clear hb
    go_wp2
    go_ret
    exact ⟨rfl, HBw3.out⟩
end Go.Proofs.Ytmfpaoincgfjmaa.Po
